import PyProof.Rows.All
import Wide.All
import OpenK.AllK
import Wide.FinOn
import Lean
import PyProof.EqAt
import PyProof.EqKinds
import PyProof.TupleCall
import KE.KSortTup
import KE.KUnpack
import PyProof.DictRoadsH
import PyProof.EnumFor
import PyProof.EnumStmt
import PyProof.EnumMake
import PyProof.MaxThree
import KE.KDictList
import PyProof.ExcBaseAll.ValueError
import PyProof.Rows.Catch
import PyProof.NsDelKeeps
import PyProof.NeKinds
import KE.KxText
import PyProof.WalkInts
import PyProof.SeqI3
import PyProof.Calls
import PySem.Challenge.RW_dueyard_k32_faults_of_plans
set_option Elab.async false
set_option linter.all false
set_option maxRecDepth 100000
namespace L2
open PySem PySem.Spec PyProof.Rows
abbrev Key := Sum Int Str
def zgo : Key → Value → Bool
 | .inl k, v => Value.isInt k v
 | .inr x, v => Value.isStrOf x v
def keyH (w : World) : Key → Int
 | .inl k => hashInt k
 | .inr x => hashStr w x
theorem zav : ∀ {k : Key} {v : Value}, zgo k v = true → (∃ i t, k = Sum.inl i ∧ v = Value.int i t) ∨ (∃ x t, k = Sum.inr x ∧ v = Value.str x t)
 | .inl i, v, h => by
  obtain ⟨t, e⟩ := Value.isInt_shape (k := i) (v := v) h
  exact .inl ⟨i, t, rfl, e⟩
 | .inr x, v, h => by
  obtain ⟨t, e⟩ := Value.isStrOf_shape (x := x) (v := v) h
  exact .inr ⟨x, t, rfl, e⟩
theorem zl5 (i : Int) (t : Tok) : zgo (.inl i) (.int i t) = true := by simp [zgo, Value.isInt]
theorem zl4 (x : Str) (t : Tok) : zgo (.inr x) (.str x t) = true := by simp [zgo, Value.isStrOf]
theorem zt0 (a b : Int) : decide ((Sum.inl a : Key) = Sum.inl b) = (a == b) := by
 by_cases e : a = b
 ·subst e; simp
 ·have h : ¬ (Sum.inl a : Key) = Sum.inl b := fun q => e (Sum.inl.inj q)
  rw [decide_eq_false h]
  exact (beq_eq_false_iff_ne.mpr e).symm
theorem zt4 (a b : Str) : decide ((Sum.inr a : Key) = Sum.inr b) = decide (a = b) := by
 by_cases e : a = b
 ·subst e; simp
 ·have h : ¬ (Sum.inr a : Key) = Sum.inr b := fun q => e (Sum.inr.inj q)
  rw [decide_eq_false h, decide_eq_false e]
theorem zsj (a : Int) (b : Str) : decide ((Sum.inl a : Key) = Sum.inr b) = false := decide_eq_false (fun q => nomatch q)
theorem ztc (a : Str) (b : Int) : decide ((Sum.inr a : Key) = Sum.inl b) = false := decide_eq_false (fun q => nomatch q)
def zar (prog : Program) (w : World) : PySem.KeyKind prog w Key where
 is := zgo
 hash := keyH w
 inj := fun v a b ha hb => by
  rcases zav ha with ⟨i, t, rfl, rfl⟩ | ⟨x, t, rfl, rfl⟩
  ·rcases zav hb with ⟨j, u, rfl, e⟩ | ⟨y, u, rfl, e⟩
   ·injection e with e1 _; rw [e1]
   ·exact nomatch e
  ·rcases zav hb with ⟨j, u, rfl, e⟩ | ⟨y, u, rfl, e⟩
   ·exact nomatch e
   ·injection e with e1 _; rw [e1]
 byValue := fun k v h => by
  rcases zav h with ⟨i, t, rfl, rfl⟩ | ⟨x, t, rfl, rfl⟩ <;> rfl
 pyHash := fun hv h => by
  rcases zav hv with ⟨i, t, rfl, rfl⟩ | ⟨x, t, rfl, rfl⟩
  ·exact wpAny_pyHash_int h
  ·exact wpAny_pyHash_str h
 eqBool := fun hu hv h => by
  rcases zav hu with ⟨i, t, rfl, rfl⟩ | ⟨x, t, rfl, rfl⟩
  ·rcases zav hv with ⟨j, u, rfl, rfl⟩ | ⟨y, u, rfl, rfl⟩
   ·rw [zt0] at h; exact wpAny_eqBool_int h
   ·rw [zsj] at h; exact SeqAt.EqAt.int_str i t y u _ _ _ _ h
  ·rcases zav hv with ⟨j, u, rfl, rfl⟩ | ⟨y, u, rfl, rfl⟩
   ·rw [ztc] at h; exact SeqAt.EqAt.str_int x t j u _ _ _ _ h
   ·rw [zt4] at h; exact wpAny_eqBool_str h
 «strs» := fun k x t v h => by
  rcases zav h with ⟨i, u, rfl, e⟩ | ⟨y, u, rfl, e⟩
  ·exact nomatch e
  ·injection e with e1 _
   subst e1
   cases v <;> rfl
theorem zh3 (prog : Program) (w : World) (i : Int) (t : Tok) : (zar prog w).is (.inl i) (.int i t) = true := zl5 i t
theorem ziq (prog : Program) (w : World) (x : Str) (t : Tok) : (zar prog w).is (.inr x) (.str x t) = true := zl4 x t
end L2
namespace L2
open PySem PySem.Spec PyProof.Rows
inductive V where
 | non | bl (b : Bool) | int (i : Int) | str (x : Str) | byt (b : Array UInt8) | flt (b : UInt64) | ref (a : Addr) | ty (n : String)
 deriving DecidableEq
def RelV : V → Value → Prop
 | .non, u => u = Value.none
 | .bl b, u => u = Value.bool b
 | .int i, u => ∃ t, u = Value.int i t
 | .str x, u => ∃ t, u = Value.str x t
 | .byt b, u => ∃ t, u = Value.bytes b t
 | .flt b, u => ∃ t, u = Value.float b t
 | .ref a, u => u = Value.ref a
 | .ty n, u => u = Value.type n
abbrev Vals : List V → List Value → Prop := Paired RelV
theorem Vals.length {xs : List V} {us : List Value} (r : Vals xs us) : xs.length = us.length := Paired.length r
theorem Vals.get : ∀ {xs : List V} {us : List Value} {i : Nat} {x : V}, Vals xs us → xs[i]? = some x → ∃ u, us[i]? = some u ∧ RelV x u
 | _, _, _, _, .nil, e => by simp at e
 | _, _, 0, _, .cons r _, e => by simp at e; subst e; exact ⟨_, rfl, r⟩
 | _, _, i + 1, x, .cons _ t, e => by
  obtain ⟨u, h1, h2⟩ := Vals.get (i := i) (x := x) t (by simpa using e)
  exact ⟨u, by simpa using h1, h2⟩
theorem Vals.set {x : V} {u : Value} (r : RelV x u) : ∀ {xs : List V} {us : List Value} (i : Nat), Vals xs us → Vals (xs.set i x) (us.set i u)
 | _, _, _, .nil => .nil
 | _, _, 0, .cons _ t => .cons r t
 | _, _, i + 1, .cons q t => .cons q (Vals.set r i t)
theorem Vals.append : ∀ {xs ys : List V} {us ws : List Value}, Vals xs us → Vals ys ws → Vals (xs ++ ys) (us ++ ws)
 | _, _, _, _, .nil, s => s
 | _, _, _, _, .cons r t, s => .cons r (Vals.append t s)
theorem Vals.take : ∀ {xs : List V} {us : List Value} (n : Nat), Vals xs us → Vals (xs.take n) (us.take n)
 | _, _, 0, _ => .nil
 | _, _, _ + 1, .nil => .nil
 | _, _, n + 1, .cons r t => .cons r (Vals.take n t)
theorem Vals.drop : ∀ {xs : List V} {us : List Value} (n : Nat), Vals xs us → Vals (xs.drop n) (us.drop n)
 | _, _, 0, r => r
 | _, _, _ + 1, .nil => .nil
 | _, _, n + 1, .cons _ t => Vals.drop n t
def RelO : Option V → Option Value → Prop
 | some v, some u => RelV v u
 | none, none => True
 | _, _ => False
def KV {κ : Type} : List (κ × V) → List (κ × Value) → Prop := Paired fun (p : κ × V) (q : κ × Value) => p.1 = q.1 ∧ RelV p.2 q.2
def kV : Key → V
 | .inl i => .int i
 | .inr x => .str x
inductive MK where
 | one (k : Key)
 | tup (ks : List Key)
 deriving DecidableEq
def MK.hash (P : Program) (w : World) : MK → Int
 | .one k => (zar P w).hash k
 | .tup ks => tupleKeyHash (zar P w) ks
def entM (P : Program) (w : World) (x : MK × Value × Value) : DictEntry := ⟨x.1.hash P w, x.2.1, x.2.2⟩
inductive HO where
 | lst (xs : List V)
 | tup (xs : List V)
 | dK (kvs : List (Key × V)) | dT (kvs : List (MK × V))
 | set (S : Int → Bool) (n : Nat)
 | ins (C dx : Addr) (fs : List (Str × V))
 | own (x : Addr)
 | xd (fs : List (Str × V))
 | met (f x : Addr)
 | rng (lo hi : Int)
 | frz (o : Obj) (u : HO)
 | tbl (ps : Array Value)
 | ext (φ : Heap → Prop)
abbrev Hp := Addr → Option HO
def KyV (H : Hp) : MK → Value → Prop
 | .one k, u => RelV (kV k) u
 | .tup ks, u => ∃ b, u = .ref b ∧ H b = some (.tup (ks.map kV))
theorem KyV.mono {H H' : Hp} (ht : ∀ b xs, H b = some (.tup xs) → H' b = some (.tup xs)) : ∀ {k : MK} {u : Value}, KyV H k u → KyV H' k u
 | .one _, _, h => h
 | .tup _, _, ⟨b, e, q⟩ => ⟨b, e, ht _ _ q⟩
def upd (H : Hp) (a : Addr) (o : HO) : Hp := fun b => if b = a then some o else H b
theorem zaw {H : Hp} {a : Addr} {o : HO} : upd H a o a = some o := by unfold upd; rw [if_pos rfl]
theorem zaj {H : Hp} {a b : Addr} {o : HO} (h : b ≠ a) : upd H a o b = H b := by unfold upd; rw [if_neg h]
theorem zu9 {H : Hp} {a b : Addr} {o u : HO} (h : H a = some o) (h' : H b = some u) (d : o ≠ u) : a ≠ b := by
 intro e; subst e; rw [h] at h'; exact d (Option.some.inj h')
theorem zak {H : Hp} {a b : Addr} {o : HO} (h : H a = some o) (h' : H b = none) : a ≠ b := by
 intro e; subst e; rw [h] at h'; cases h'
section
variable (P : Program) (w : World)
def ObjOk (H : Hp) (h : Heap) (a : Addr) : HO → Prop
 | .lst xs => xs.length ≤ sizeLine ∧ ∃ (its : List Value) (n : Nat), Vals xs its ∧ h.get? a = some { cls := .type "list", data := .seq its.toArray n }
 | .tup xs => xs.length ≤ sizeLine ∧ ∃ its : List Value, Vals xs its ∧ IsTup h a its.toArray
 | .dK kvs => kvs.length ≤ sizeLine ∧ (a == sysModules) = false ∧ ∃ vs, KV kvs vs ∧ h.DictOf (zar P w) a vs
 | .dT kvs => kvs.length ≤ sizeLine ∧ (a == sysModules) = false ∧ ∃ xs : List (MK × Value × Value), Paired (fun (p : MK × V) (q : MK × Value × Value) => p.1 = q.1 ∧ KyV H p.1 q.2.1 ∧ RelV p.2 q.2.2) kvs xs ∧
   ∃ o es ep, h.get? a = some o ∧ o.ExactDict ∧ o.data = .dict es ep ∧ es.toList = xs.map (entM P w) ∧ (xs.map (·.1)).Nodup
 | .set S n => h.SetOf (intKind P w) a S n
 | .ins C dx fs => H dx = some (.own a) ∧ fs.length ≤ 1000 ∧ dx ≠ a ∧ h.get? a = some (PySem.W.instObj C dx) ∧
   ∃ mA, h.Ns1 dx mA ∧ (∀ f, RelO (fs.lookup f) (mA f)) ∧ PySem.Within mA (fs.map (·.1))
 | .own _ => ∃ o, h.get? a = some o
 | .xd fs => ∃ mA, h.Ns1 a mA ∧ ∀ f, RelO (fs.lookup f) (mA f)
 | .rng lo hi => ∃ t u v, h.get? a = some { cls := .type "range", data := .fields #[.int lo t, .int hi u, .int 1 v] }
 | .frz o u => h.get? a = some o ∧ ObjOk H h a u
 | .tbl ps => h.get? a = some { cls := .none, data := .fields ps }
 | .met f x => h.get? a = some (PySem.W.methodObj (.ref f) (.ref x))
 | .ext φ => φ h ∧ (∃ o, h.get? a = some o) ∧ ∀ h1 h2 : Heap, φ h1 → (∀ o, h1.get? a = some o → h2.get? a = some o) → φ h2
def HOk (H : Hp) (h : Heap) : Prop := ∀ a o, H a = some o → ObjOk P w H h a o
end
section
variable {P : Program} {w : World} {H H' : Hp} {h h' : Heap} {a : Addr} {o : HO}
theorem ObjOk.lt (x : ObjOk P w H h a o) : a < h.objs.size := by
 cases o with
 | lst xs => obtain ⟨_, _, _, _, e⟩ := x; exact Heap.lt_size e
 | tup xs => obtain ⟨_, _, _, p⟩ := x; exact p.lt
 | dK kvs => obtain ⟨_, _, _, _, o, _, _, e, _⟩ := x; exact Heap.lt_size e
 | dT kvs => obtain ⟨_, _, _, _, o, _, _, e, _⟩ := x; exact Heap.lt_size e
 | set S n => obtain ⟨o, _, _, _, e, _⟩ := x; exact Heap.lt_size e
 | ins C dx fs => obtain ⟨_, _, _, e, _⟩ := x; exact Heap.lt_size e
 | own y => obtain ⟨_, e⟩ := x; exact Heap.lt_size e
 | xd fs => obtain ⟨_, ⟨_, _, _, e, _⟩, _⟩ := x; exact Heap.lt_size e
 | rng lo hi => obtain ⟨_, _, _, e⟩ := x; exact Heap.lt_size e
 | frz ob u => obtain ⟨e, _⟩ := x; exact Heap.lt_size e
 | tbl ps => exact Heap.lt_size (show h.get? a = some _ from x)
 | met f y => exact Heap.lt_size (show h.get? a = some _ from x)
 | ext φ => obtain ⟨_, ⟨_, e⟩, _⟩ := x; exact Heap.lt_size e
theorem Paired.mapP {α β : Type} {F G : α → β → Prop} : ∀ {l₁ : List α} {l₂ : List β}, Paired F l₁ l₂ → (∀ a b, F a b → G a b) → Paired G l₁ l₂
 | _, _, .nil, _ => .nil
 | _, _, .cons r t, f => .cons (f _ _ r) (Paired.mapP t f)
theorem ObjOk.stay (x : ObjOk P w H h a o) (k : ∀ b u, (b = a ∨ H b = some (.own a)) → h.get? b = some u → h'.get? b = some u)
  (ho : ∀ b, H b = some (.own a) → H' b = some (.own a)) (ht : ∀ b xs, H b = some (.tup xs) → H' b = some (.tup xs)) : ObjOk P w H' h' a o := by
 induction o with
 | lst xs => obtain ⟨z, its, n, r, e⟩ := x; exact ⟨z, its, n, r, k _ _ (.inl rfl) e⟩
 | tup xs => obtain ⟨z, its, r, ob, e, c⟩ := x; exact ⟨z, its, r, ob, k _ _ (.inl rfl) e, c⟩
 | dK kvs => obtain ⟨z, y, vs, r, ob, es, ep, e, c⟩ := x; exact ⟨z, y, vs, r, ob, es, ep, k _ _ (.inl rfl) e, c⟩
 | dT kvs =>
  obtain ⟨z, y, xs, r, ob, es, ep, e, c⟩ := x
  exact ⟨z, y, xs, Paired.mapP r fun p q z => ⟨z.1, z.2.1.mono ht, z.2.2⟩, ob, es, ep, k _ _ (.inl rfl) e, c⟩
 | set S n => obtain ⟨ob, es, ep, t, e, c⟩ := x; exact ⟨ob, es, ep, t, k _ _ (.inl rfl) e, c⟩
 | ins C dx fs =>
  obtain ⟨d, z, ne, e, mA, ⟨od, es, ep, e2, c⟩, r⟩ := x
  exact ⟨ho _ d, z, ne, k _ _ (.inl rfl) e, mA, ⟨od, es, ep, k _ _ (.inr d) e2, c⟩, r⟩
 | own y => obtain ⟨ob, e⟩ := x; exact ⟨ob, k _ _ (.inl rfl) e⟩
 | xd fs => obtain ⟨mA, ⟨od, es, ep, e, c⟩, r⟩ := x; exact ⟨mA, ⟨od, es, ep, k _ _ (.inl rfl) e, c⟩, r⟩
 | rng lo hi => obtain ⟨t, u, v, e⟩ := x; exact ⟨t, u, v, k _ _ (.inl rfl) e⟩
 | frz ob u ih => obtain ⟨e, q⟩ := x; exact ⟨k _ _ (.inl rfl) e, ih q⟩
 | tbl ps =>
  have e : h.get? a = some { cls := .none, data := .fields ps } := x
  show h'.get? a = some { cls := .none, data := .fields ps }
  exact k a _ (.inl rfl) e
 | met f y =>
  have e : h.get? a = some (PySem.W.methodObj (.ref f) (.ref y)) := x
  show h'.get? a = some (PySem.W.methodObj (.ref f) (.ref y))
  exact k a _ (.inl rfl) e
 | ext φ => obtain ⟨p, ⟨o, e⟩, st⟩ := x; exact ⟨st _ _ p fun o q => k _ _ (.inl rfl) q, ⟨o, k _ _ (.inl rfl) e⟩, st⟩
theorem HOk.lt (x : HOk P w H h) (e : H a = some o) : a < h.objs.size := (x a o e).lt
theorem HOk.fresh (x : HOk P w H h) (e : h.objs.size ≤ a) : H a = none := by
 cases q : H a with
 | none => rfl
 | some u => exact absurd (Nat.lt_of_lt_of_le (x.lt q) e) (Nat.lt_irrefl _)
theorem HOk.kept (x : HOk P w H h) (k : ∀ b u, h.get? b = some u → h'.get? b = some u) : HOk P w H h' := fun a o e =>
 (x a o e).stay (fun b u _ q => k b u q) (fun _ q => q) fun _ _ q => q
theorem HOk.laid (x : HOk P w H h) (k : ∀ b u, h.get? b = some u → h'.get? b = some u) (hp : h.objs.size ≤ a) (new : ObjOk P w (upd H a o) h' a o) : HOk P w (upd H a o) h' := fun b u e => by
 have hn := x.fresh hp
 by_cases hb : b = a
 ·subst hb; rw [zaw] at e; cases e; exact new
 ·rw [zaj hb] at e
  exact (x b u e).stay (fun c v _ q => k c v q) (fun c q => by rw [zaj (zak q hn)]; exact q) fun c xs q => by rw [zaj (zak q hn)]; exact q
end
def Rd (H : Hp) (a : Addr) (u : HO) : Prop := H a = some u ∨ ∃ o, H a = some (.frz o u)
theorem Rd.ok {P : Program} {w : World} {H : Hp} {h : Heap} {a : Addr} {u : HO} (r : Rd H a u) (x : HOk P w H h) : ObjOk P w H h a u := by
 rcases r with r | ⟨o, r⟩
 ·exact x a u r
 ·obtain ⟨_, q⟩ := x a _ r
  exact q
def Mut : Option HO → Prop
 | some (.lst _) => True
 | some (.dK _) => True
 | some (.dT _) => True
 | some (.set _ _) => True
 | some (.ins _ _ _) => True
 | some (.ext _) => True
 | _ => False
section
variable {P : Program} {w : World} {H : Hp} {h h' : Heap} {x e : Addr} {o' : HO}
theorem HOk.write (ok : HOk P w H h) (mu : Mut (H x)) (he : e = x ∨ H e = some (.own x)) (k : ∀ b u, b ≠ e → h.get? b = some u → h'.get? b = some u) (heo : ∃ u, h'.get? e = some u)
  (new : ObjOk P w (upd H x o') h' x o') : HOk P w (upd H x o') h' := fun b u q => by
 have nown : ∀ c y, H c = some (.own y) → c ≠ x := fun c y r z => by subst z; rw [r] at mu; exact mu
 have ntup : ∀ c xs, H c = some (.tup xs) → c ≠ x := fun c xs r z => by subst z; rw [r] at mu; exact mu
 by_cases hb : b = x
 ·subst hb; rw [zaw] at q; cases q; exact new
 ·rw [zaj hb] at q
  by_cases hbe : b = e
  ·have q' : H b = some (.own x) := by
    rcases he with z | z
    ·exact absurd (hbe.trans z) hb
    ·rw [hbe]; exact z
   rw [q] at q'; cases q'
   obtain ⟨v, hv⟩ := heo
   exact ⟨v, by rw [hbe]; exact hv⟩
  ·refine (ok b u q).stay (fun c v hc r => k c v ?_ r) (fun c r => by rw [zaj (nown c b r)]; exact r) fun c xs r => by rw [zaj (ntup c xs r)]; exact r
   rcases hc with rfl | hc
   ·exact hbe
   ·rintro rfl
    rcases he with z | z
    ·exact nown c b hc z
    ·rw [hc] at z; cases z; exact hb rfl
end
structure Un (fs ex : List Addr) (H H' : Hp) (h h' : Heap) : Prop where
 keep : ∀ b o, h.get? b = some o → H b = none → b ∉ fs → b ∉ ex → h'.get? b = some o
 slot : ∀ b o, h.get? b = some o → H b = none → b ∈ fs → b ∉ ex → ∃ sl, h'.get? b = some { o with slots := sl }
 free : ∀ b o, h.get? b = some o → H b = none → b ∉ ex → H' b = none
 there : ∀ b o, h.get? b = some o → b ∉ ex → ∃ o', h'.get? b = some o'
 tups : ∀ b xs, H b = some (.tup xs) → H' b = some (.tup xs)
 frzs : ∀ b o u, H b = some (.frz o u) → H' b = some (.frz o u)
 tbls : ∀ b ps, H b = some (.tbl ps) → ∃ more, H' b = some (.tbl (ps ++ more))
section
variable {fs fs' ex ex' : List Addr} {H H1 H2 : Hp} {h h1 h2 h' : Heap} {a x e : Addr} {o : HO}
theorem Un.any (u : Un fs ex H H1 h h1) {b : Addr} {ob : Obj} (q : h.get? b = some ob) (n : H b = none) (hx : b ∉ ex) : ∃ sl, h1.get? b = some { ob with slots := sl } := by
 by_cases hb : b ∈ fs
 ·exact u.slot b ob q n hb hx
 ·exact ⟨ob.slots, u.keep b ob q n hb hx⟩
theorem Un.kept (k : ∀ b u, h.get? b = some u → h'.get? b = some u) : Un fs ex H H h h' :=
 ⟨fun b ob q _ _ _ => k b ob q, fun b ob q _ _ _ => ⟨ob.slots, k b ob q⟩, fun _ _ _ n _ => n, fun b ob q _ => ⟨ob, k b ob q⟩, fun _ _ q => q, fun _ _ _ q => q, fun _ ps q => ⟨#[], by rw [q]; simp⟩⟩
theorem Un.refl : Un fs ex H H h h := Un.kept fun _ _ q => q
theorem Un.laid (k : ∀ b u, h.get? b = some u → h'.get? b = some u) (hp : h.objs.size ≤ a) (hn : H a = none) : Un fs ex H (upd H a o) h h' where
 keep := fun b u q _ _ _ => k b u q
 slot := fun b u q _ _ _ => ⟨u.slots, k b u q⟩
 free := fun b u q n _ => by rw [zaj (Nat.ne_of_lt (Nat.lt_of_lt_of_le (Heap.lt_size q) hp))]; exact n
 there := fun b u q _ => ⟨u, k b u q⟩
 tups := fun b xs q => by rw [zaj (zak q hn)]; exact q
 frzs := fun b u xs q => by rw [zaj (zak q hn)]; exact q
 tbls := fun b ps q => ⟨#[], by rw [zaj (zak q hn), q]; simp⟩
theorem Un.write (mu : Mut (H x)) (he : e = x ∨ H e = some (.own x)) (k : ∀ b u, b ≠ e → h.get? b = some u → h'.get? b = some u) (heo : ∃ u, h'.get? e = some u) : Un fs ex H (upd H x o) h h' := by
 have hx : ∀ b, H b = none → b ≠ x := fun b n z => by subst z; rw [n] at mu; exact mu
 have hb : ∀ b, H b = none → b ≠ e := fun b n z => by
  subst z
  rcases he with r | r
  ·exact hx b n r
  ·rw [n] at r; cases r
 have hm : ∀ b u, H b = some u → ¬ Mut (some u) → b ≠ x := fun b u q nm z => by subst z; rw [q] at mu; exact nm mu
 refine ⟨fun b u q n _ _ => k b u (hb b n) q, fun b u q n _ _ => ⟨u.slots, k b u (hb b n) q⟩, fun b u q n _ => by rw [zaj (hx b n)]; exact n, fun b u q _ => ?_,
  fun b xs q => by rw [zaj (hm b _ q fun z => z)]; exact q, fun b u xs q => by rw [zaj (hm b _ q fun z => z)]; exact q, fun b ps q => ⟨#[], by rw [zaj (hm b _ q fun z => z), q]; simp⟩⟩
 by_cases hbe : b = e
 ·subst hbe; exact heo
 ·exact ⟨u, k b u hbe q⟩
end
def trk (h : Heap) (H : Hp) : List Addr := (List.range h.objs.size).filter fun a => (H a).isSome
def hidT (h : Heap) (H : Hp) : Heap := PySem.W.hideAll h (trk h H)
theorem zlu (h : Heap) (H : Hp) : (hidT h H).objs.size = h.objs.size := PySem.W.hideAll_size _ _
theorem zm7 {h : Heap} {H : Hp} {b : Addr} {o : Obj} (e : h.get? b = some o) (n : H b = none) : (hidT h H).get? b = some o :=
 PySem.W.hideAll_get _ e fun hm => by
  have q : (H b).isSome = true := (List.mem_filter.mp hm).2
  rw [n] at q; simp at q
theorem zp6 {h : Heap} {H : Hp} {b : Addr} {o : Obj} (e : (hidT h H).get? b = some o) : h.get? b = some o ∧ H b = none := by
 have e' : h.get? b = some o := PySem.W.of_hideAll (trk h H) e
 refine ⟨e', ?_⟩
 cases q : H b with
 | none => rfl
 | some x =>
  have hm : b ∈ trk h H := List.mem_filter.mpr ⟨List.mem_range.mpr (Heap.lt_size e'), by simp [q]⟩
  have z : (hidT h H).get? b = none := PySem.W.hideAll_none (trk h H) hm
  rw [z] at e; cases e
def zqh (g h : Heap) (L : Addr) : List (Addr × Obj) := (List.range h.objs.size).filterMap fun a => if a = L ∨ (g.get? a).isSome = true then none else (h.get? a).map fun o => (a, o)
def rest (g h : Heap) (L d : Addr) : List (Addr × Obj) := (zqh g h L).filter fun p => decide (p.1 ≠ d)
end L2
namespace L2
open PySem PySem.Spec PyProof.Rows
structure Mod (K : PySem.W.Frag) (mg : Str → Option Value) (base : Heap) : Prop where
 kin : K.In base
 glob : base.Ns mainGlobals mg
 blt : ∃ mb, base.Ns builtinsNs mb ∧ ∀ x : Str, x ≠ "__name__" → mb x = bootBuiltins x
 nolimit : base.NoLimit
structure Cx where
 prog : Program
 w : World
 K : PySem.W.Frag
 mg : Str → Option Value
 base : Heap
 A : Around
 N : List Str
 s₀ : Shared
 H₀ : Hp
 env : Env
 outer : List Env
 stack : List Env
 ex : List Addr
 fn : Str → Bool
 calm : Bool
 pn : List (Addr × Obj)
 xe : Value → Shared → Prop
def frs (l : List Env) : List Addr := l.filterMap (·.frame)
abbrev Cx.fs (X : Cx) : List Addr := frs X.outer
def Vis (sc : Scope) (x : Str) : Prop := sc.names.lookup x = some .local ∨ sc.names.lookup x = some .cell ∨ sc.names.lookup x = some .free
def Loc (sc : Scope) (x : Str) : Prop := sc.names.lookup x = some .local ∨ sc.names.lookup x = some .cell
def Look (env : Env) (h : Heap) (m : Str → Option Value) (x : Str) (u : Value) : Prop :=
 (env.kindOf x = some .local ∧ m x = some u) ∨ ((env.kindOf x = some .cell ∨ env.kindOf x = some .free) ∧ ∃ c, env.cells.lookup x = some c ∧ h.IsCell c (some u))
structure Cx.Ok (X : Cx) : Prop where
 mod : Mod X.K X.mg X.base
 kind : X.env.scope.kind = .function
 glob : X.env.globals = mainGlobals
 blt : X.env.builtins = builtinsNs
 above : X.s₀.heap.objs.size ≤ X.env.locals
 inj : ∀ x y c, X.env.cells.lookup x = some c → X.env.cells.lookup y = some c → x = y
 has : ∀ x, (X.env.kindOf x = some .cell ∨ X.env.kindOf x = some .free) → ∃ c, X.env.cells.lookup x = some c
 cab : ∀ x c, X.fn x = true → X.env.cells.lookup x = some c → X.s₀.heap.objs.size ≤ c
 hd : X.calm = true → X.A.handled = none
 frames : X.A.frames = some X.stack
 stk : X.stack = X.outer ∨ (X.stack = X.env :: X.outer ∧ X.env.frame = some X.env.locals)
 exf : ∀ b ∈ X.ex, b ≠ X.env.locals ∧ ∀ x c, X.env.cells.lookup x = some c → c ≠ b
 bs : ∀ b o, X.base.get? b = some o → X.s₀.heap.get? b = some o ∧ X.H₀ b = none
 bsz : X.base.objs.size ≤ X.s₀.heap.objs.size
 noex : ∀ b o, X.base.get? b = some o → b ∉ X.ex
 exfs : ∀ b ∈ X.ex, b ∉ X.fs
 funs : X.s₀.heap.FunFrames X.base X.outer
 frf : ∀ b ∈ X.fs, X.H₀ b = none
structure Inv (X : Cx) (pins : List (Addr × Obj)) (σ : List (Option V)) (H : Hp) (s : Shared) : Prop where
 ok : X.Ok
 os : s.os = X.s₀.os
 bare : AllBare s.gens
 base : Un X.fs X.ex X.H₀ H X.s₀.heap s.heap
 loc : ∃ m, s.heap.Ns X.env.locals m ∧ ∀ (i : Nat) (x : Str) (v : V), X.N[i]? = some x → σ[i]? = some (some v) → Vis X.env.scope x → ∃ u, RelV v u ∧ Look X.env s.heap m x u
 cell : ∀ x c, X.env.cells.lookup x = some c → ∃ v, s.heap.IsCell c v
 free : H X.env.locals = none
 freeC : ∀ x c, X.env.cells.lookup x = some c → H c = none
 pin : ∀ p ∈ X.pn ++ pins, s.heap.get? p.1 = some p.2 ∧ H p.1 = none ∧ p.1 ≠ X.env.locals ∧ p.1 ∉ X.fs ∧ ∀ v, p.2.data ≠ .cell v
 hok : HOk X.prog X.w H s.heap
 len : σ.length = X.N.length
section
variable {X : Cx} {pins : List (Addr × Obj)} {σ : List (Option V)} {H H' : Hp} {s : Shared} {h' : Heap}
theorem Cx.Ok.nofr (ok : X.Ok) {b : Addr} {o : Obj} (e : X.base.get? b = some o) : b ∉ X.fs := fun hb => by
 have := (ok.funs.mem hb).1
 rw [e] at this; cases this
theorem Inv.bs (I : Inv X pins σ H s) : ∀ b o, X.base.get? b = some o → s.heap.get? b = some o ∧ H b = none := fun b o e =>
 ⟨I.base.keep b o (I.ok.bs b o e).1 (I.ok.bs b o e).2 (I.ok.nofr e) (I.ok.noex b o e), I.base.free b o (I.ok.bs b o e).1 (I.ok.bs b o e).2 (I.ok.noex b o e)⟩
theorem Inv.bk (I : Inv X pins σ H s) : ∀ b o, X.base.get? b = some o → s.heap.get? b = some o := fun b o e => (I.bs b o e).1
theorem Inv.mod (I : Inv X pins σ H s) : Mod X.K X.mg X.base := I.ok.mod
theorem Inv.kIn (I : Inv X pins σ H s) : X.K.In s.heap := I.ok.mod.kin.keeps I.bk
theorem Inv.lt (I : Inv X pins σ H s) : X.env.locals < s.heap.objs.size := let ⟨_, hn, _⟩ := I.loc; hn.lt
theorem Inv.sz (I : Inv X pins σ H s) : X.s₀.heap.objs.size ≤ s.heap.objs.size := Nat.le_trans I.ok.above (Nat.le_of_lt I.lt)
theorem Inv.nofs (I : Inv X pins σ H s) {a : Addr} (h : s.heap.objs.size ≤ a) : a ∉ X.fs := fun hb => by
 obtain ⟨_, o, ho, _⟩ := I.ok.funs.mem hb
 exact absurd (Nat.lt_of_lt_of_le (Heap.lt_size ho) (Nat.le_trans I.sz h)) (Nat.lt_irrefl _)
theorem Inv.cne (I : Inv X pins σ H s) : ∀ x c, X.env.cells.lookup x = some c → c ≠ X.env.locals := fun x c e z => by
 obtain ⟨v, o, ho, hd⟩ := I.cell x c e
 obtain ⟨m, ⟨o', es, ep, ho', hd', _⟩, _⟩ := I.loc
 rw [z, ho'] at ho; cases ho; rw [hd'] at hd; cases hd
theorem Inv.funs (I : Inv X pins σ H s) : s.heap.FunFrames X.base X.outer := by
 have all : ∀ (l : List Env), (∀ b ∈ frs l, b ∈ X.fs) → X.s₀.heap.FunFrames X.base l → s.heap.FunFrames X.base l := by
  intro l
  induction l with
  | nil => intro _ _; trivial
  | cons env r ih =>
   intro hs hl
   obtain ⟨hk, ⟨L, o, hf, hn, ho, hd⟩, hr⟩ := hl
   have hL : L ∈ X.fs := hs L (by unfold frs; rw [List.filterMap_cons, hf]; exact List.mem_cons_self)
   obtain ⟨sl, e⟩ := I.base.slot L o ho (I.ok.frf L hL) hL fun z => I.ok.exfs L z hL
   exact ⟨hk, ⟨L, _, hf, hn, e, hd⟩, ih (fun b hb => hs b (by unfold frs; rw [List.filterMap_cons, hf]; exact List.mem_cons_of_mem _ hb)) hr⟩
 exact all X.outer (fun _ hb => hb) I.ok.funs
theorem Inv.stack (I : Inv X pins σ H s) : s.heap.FunFrames X.base X.stack := by
 rcases I.ok.stk with e | ⟨e, hf⟩
 ·rw [e]; exact I.funs
 ·rw [e]
  obtain ⟨m, hn, _⟩ := I.loc
  refine .cons (by rw [I.ok.kind]; decide) hf hn ?_ I.funs
  exact Heap.get?_none_of_le (Nat.le_trans I.ok.bsz I.ok.above)
theorem Inv.stkSub (I : Inv X pins σ H s) : ∀ b ∈ frs X.stack, b ∈ X.env.locals :: X.fs := fun b hb => by
 rcases I.ok.stk with e | ⟨e, hf⟩
 ·rw [e] at hb; exact List.mem_cons_of_mem _ hb
 ·rw [e] at hb
  unfold frs at hb
  rw [List.filterMap_cons, hf] at hb
  exact hb
theorem Inv.stkFree (I : Inv X pins σ H s) : ∀ b ∈ frs X.stack, H b = none := fun b hb => by
 rcases List.mem_cons.mp (I.stkSub b hb) with e | hb
 ·rw [e]; exact I.free
 ·obtain ⟨_, o, ho, _⟩ := I.ok.funs.mem hb
  exact I.base.free b o ho (I.ok.frf b hb) fun z => I.ok.exfs b z hb
theorem Inv.step {g' : Array GenState} {t' : Nat} {d' : Drawn} {ch : List Addr} (I : Inv X pins σ H s)
  (hch : ∀ b ∈ ch, (b ∈ X.ex ∨ X.s₀.heap.objs.size ≤ b) ∧ b ≠ X.env.locals ∧ (∀ x c, X.env.cells.lookup x = some c → c ≠ b) ∧ ∀ p ∈ X.pn ++ pins, p.1 ≠ b)
  (keep : ∀ b o, b ≠ X.env.locals → b ∉ X.fs → b ∉ ch → s.heap.get? b = some o → H b = none → h'.get? b = some o)
  (slot : ∀ b o, b ≠ X.env.locals → b ∈ X.fs → b ∉ ch → s.heap.get? b = some o → H b = none → ∃ sl, h'.get? b = some { o with slots := sl }) (free : ∀ b o, b ∉ ch → s.heap.get? b = some o → H b = none → H' b = none)
  (there : ∀ b o, b ∉ ch → s.heap.get? b = some o → ∃ o', h'.get? b = some o')
  (tups : ∀ b xs, H b = some (.tup xs) → H' b = some (.tup xs)) (frzs : ∀ b o u, H b = some (.frz o u) → H' b = some (.frz o u)) (tbls : ∀ b ps, H b = some (.tbl ps) → ∃ more, H' b = some (.tbl (ps ++ more)))
  (ns : ∀ m, s.heap.Ns X.env.locals m → h'.Ns X.env.locals m) (hok : HOk X.prog X.w H' h') (hg : AllBare g') :
  Inv X pins σ H' { s with heap := h', gens := g', drawn := d', toks := t' } := by
 have neL : ∀ b o, X.s₀.heap.get? b = some o → b ≠ X.env.locals := fun b o e => Nat.ne_of_lt (Nat.lt_of_lt_of_le (Heap.lt_size e) I.ok.above)
 have neC : ∀ b o, X.s₀.heap.get? b = some o → b ∉ X.ex → b ∉ ch := fun b o e hx hb => by
  rcases (hch b hb).1 with z | z
  ·exact hx z
  ·exact absurd (Nat.lt_of_lt_of_le (Heap.lt_size e) z) (Nat.lt_irrefl _)
 have cellK : ∀ x c, X.env.cells.lookup x = some c → ∀ v, s.heap.IsCell c v → h'.IsCell c v := fun x c e v ⟨o, ho, hd⟩ => by
  have nch : c ∉ ch := fun z => (hch c z).2.2.1 x c e rfl
  by_cases hc : c ∈ X.fs
  ·obtain ⟨sl, q⟩ := slot c o (I.cne x c e) hc nch ho (I.freeC x c e)
   exact ⟨_, q, hd⟩
  ·exact ⟨o, keep c o (I.cne x c e) hc nch ho (I.freeC x c e), hd⟩
 refine ⟨I.ok, I.os, hg, ⟨fun b o e n hb hx => ?_, fun b o e n hb hx => ?_, fun b o e n hx => ?_, fun b o e hx => ?_, fun b xs e => tups b xs (I.base.tups b xs e), fun b o xs e => frzs b o xs (I.base.frzs b o xs e), fun b ps e => ?_⟩, ?_, fun x c e => ?_, ?_, fun x c e => ?_, fun p hp => ?_, hok, I.len⟩
 ·exact keep b o (neL b o e) hb (neC b o e hx) (I.base.keep b o e n hb hx) (I.base.free b o e n hx)
 ·obtain ⟨sl, e1⟩ := I.base.slot b o e n hb hx
  obtain ⟨sl', e2⟩ := slot b _ (neL b o e) hb (neC b o e hx) e1 (I.base.free b o e n hx)
  exact ⟨sl', e2⟩
 ·obtain ⟨o', e1⟩ := I.base.there b o e hx
  exact free b o' (neC b o e hx) e1 (I.base.free b o e n hx)
 ·obtain ⟨o', e1⟩ := I.base.there b o e hx
  exact there b o' (neC b o e hx) e1
 ·obtain ⟨m1, e1⟩ := I.base.tbls b ps e
  obtain ⟨m2, e2⟩ := tbls b _ e1
  exact ⟨m1 ++ m2, by rw [e2, Array.append_assoc]⟩
 ·obtain ⟨m, hn, hl⟩ := I.loc
  refine ⟨m, ns m hn, fun i x v e1 e2 e3 => ?_⟩
  obtain ⟨u, r, l⟩ := hl i x v e1 e2 e3
  refine ⟨u, r, ?_⟩
  rcases l with l | ⟨k, c, e, z⟩
  ·exact .inl l
  ·exact .inr ⟨k, c, e, cellK x c e _ z⟩
 ·obtain ⟨v, z⟩ := I.cell x c e
  exact ⟨v, cellK x c e v z⟩
 ·obtain ⟨m, ⟨o, _, _, ho, _⟩, _⟩ := I.loc
  exact free _ o (fun z => (hch _ z).2.1 rfl) ho I.free
 ·obtain ⟨v, o, ho, hd⟩ := I.cell x c e
  exact free c o (fun z => (hch c z).2.2.1 x c e rfl) ho (I.freeC x c e)
 ·obtain ⟨e, n, ne, nf, d⟩ := I.pin p hp
  have nch : p.1 ∉ ch := fun z => (hch p.1 z).2.2.2 p hp rfl
  exact ⟨keep p.1 p.2 ne nf nch e n, free p.1 p.2 nch e n, ne, nf, d⟩
theorem Inv.un {t' : Nat} (I : Inv X pins σ H s) (u : Un X.fs [] H H' s.heap h') (hok : HOk X.prog X.w H' h') : Inv X pins σ H' { s with heap := h', toks := t' } := by
 obtain ⟨m, ⟨o, es, ep, ho, r⟩, _⟩ := id I.loc
 obtain ⟨sl, hL⟩ := u.any ho I.free (by simp)
 exact I.step (g' := s.gens) (d' := s.drawn) (ch := []) (fun _ z => nomatch z) (fun b o _ hb _ e n => u.keep b o e n hb (by simp)) (fun b o _ hb _ e n => u.slot b o e n hb (by simp)) (fun b o _ e n => u.free b o e n (by simp)) (fun b o _ e => u.there b o e (by simp)) u.tups u.frzs u.tbls (fun m' hm => by
  obtain ⟨o', es', ep', ho', r'⟩ := hm
  rw [ho] at ho'; cases ho'
  exact ⟨_, es', ep', hL, r'⟩) hok I.bare
theorem Inv.call {g' : Array GenState} {t' : Nat} {d' : Drawn} {ch : List Addr} (I : Inv X pins σ H s) (u : Un (frs X.stack) ch H H' s.heap h') (hok : HOk X.prog X.w H' h') (hg : AllBare g')
  (hch : ∀ b ∈ ch, (b ∈ X.ex ∨ X.s₀.heap.objs.size ≤ b) ∧ b ≠ X.env.locals ∧ (∀ x c, X.env.cells.lookup x = some c → c ≠ b) ∧ ∀ p ∈ X.pn ++ pins, p.1 ≠ b) :
  Inv X pins σ H' { s with heap := h', gens := g', drawn := d', toks := t' } := by
 obtain ⟨m, ⟨o, es, ep, ho, r⟩, _⟩ := id I.loc
 obtain ⟨sl, hL⟩ := u.any ho I.free fun z => (hch _ z).2.1 rfl
 exact I.step (ch := ch) hch (fun b o hL hb hc e n => u.keep b o e n (fun z => (List.mem_cons.mp (I.stkSub b z)).elim hL hb) hc) (fun b o _ _ hc e n => u.any e n hc) (fun b o hc e n => u.free b o e n hc) (fun b o hc e => u.there b o e hc) u.tups u.frzs u.tbls (fun m' hm => by
  obtain ⟨o', es', ep', ho', r'⟩ := hm
  rw [ho] at ho'; cases ho'
  exact ⟨_, es', ep', hL, r'⟩) hok hg
theorem Inv.turned {t' : Nat} {it : Addr} (I : Inv X pins σ H s) (k : ∀ b o, b ≠ it → s.heap.get? b = some o → h'.get? b = some o) (hn : H it = none) (hL : it ≠ X.env.locals)
  (h1 : it ∈ X.ex ∨ X.s₀.heap.objs.size ≤ it) (h2 : ∀ x c, X.env.cells.lookup x = some c → c ≠ it) (h3 : ∀ p ∈ X.pn ++ pins, p.1 ≠ it) : Inv X pins σ H { s with heap := h', toks := t' } := by
 have nit : ∀ b u, H b = some u → b ≠ it := fun b u e z => by rw [z, hn] at e; cases e
 refine I.step (g' := s.gens) (d' := s.drawn) (ch := [it]) (fun b hb => ?_) (fun b o _ _ hc e _ => k b o (fun z => hc (by simp [z])) e) (fun b o _ _ hc e _ => ⟨o.slots, k b o (fun z => hc (by simp [z])) e⟩) (fun _ _ _ _ n => n)
  (fun b o hc e => ⟨o, k b o (fun z => hc (by simp [z])) e⟩) (fun _ _ e => e) (fun _ _ _ e => e) (fun b ps e => ⟨#[], by rw [e]; simp⟩) (fun m hm => ?_) (fun b u e => ?_) I.bare
 ·have e : b = it := by simpa using hb
  subst e
  exact ⟨h1, hL, h2, h3⟩
 ·obtain ⟨o, es, ep, ho, r⟩ := hm
  exact ⟨o, es, ep, k _ o (Ne.symm hL) ho, r⟩
 ·refine (I.hok b u e).stay (fun c v hc q => k c v ?_ q) (fun _ q => q) fun _ _ q => q
  rcases hc with z | z
  ·rw [z]; exact nit b u e
  ·exact nit c _ z
theorem Inv.tok (I : Inv X pins σ H s) (t : Nat) : Inv X pins σ H { s with toks := t } := I.un (h' := s.heap) (t' := t) Un.refl I.hok
theorem Inv.kept {t' : Nat} (I : Inv X pins σ H s) (k : ∀ b u, s.heap.get? b = some u → h'.get? b = some u) : Inv X pins σ H { s with heap := h', toks := t' } := I.un (Un.kept k) (I.hok.kept k)
theorem Inv.laid {a : Addr} {o : HO} {t' : Nat} (I : Inv X pins σ H s) (k : ∀ b u, s.heap.get? b = some u → h'.get? b = some u) (hp : s.heap.objs.size ≤ a) (new : ObjOk X.prog X.w (upd H a o) h' a o) :
  Inv X pins σ (upd H a o) { s with heap := h', toks := t' } := I.un (Un.laid k hp (I.hok.fresh hp)) (I.hok.laid k hp new)
theorem Inv.write {x e : Addr} {o : HO} {t' : Nat} (I : Inv X pins σ H s) (mu : Mut (H x)) (he : e = x ∨ H e = some (.own x)) (k : ∀ b u, b ≠ e → s.heap.get? b = some u → h'.get? b = some u) (heo : ∃ u, h'.get? e = some u)
  (new : ObjOk X.prog X.w (upd H x o) h' x o) : Inv X pins σ (upd H x o) { s with heap := h', toks := t' } := I.un (Un.write mu he k heo) (I.hok.write mu he k heo new)
theorem Inv.pins_of {pins' : List (Addr × Obj)} (I : Inv X pins σ H s) (h : ∀ p ∈ pins', s.heap.get? p.1 = some p.2 ∧ H p.1 = none ∧ p.1 ≠ X.env.locals ∧ p.1 ∉ X.fs ∧ ∀ v, p.2.data ≠ .cell v) : Inv X pins' σ H s :=
 ⟨I.ok, I.os, I.bare, I.base, I.loc, I.cell, I.free, I.freeC, fun p hp => (List.mem_append.mp hp).elim (fun z => I.pin p (List.mem_append_left _ z)) (h p), I.hok, I.len⟩
theorem zjf {N : List Str} (hN : N.Nodup) {i j : Nat} {x : Str} (a : N[i]? = some x) (b : N[j]? = some x) : i = j := by
 obtain ⟨h1, e1⟩ := List.getElem?_eq_some_iff.mp a
 obtain ⟨h2, e2⟩ := List.getElem?_eq_some_iff.mp b
 exact (List.getElem_inj hN).mp (e1.trans e2.symm)
theorem zk9 {M : Model} {A : Around} {E : Value → Shared → Prop} {i : Nat} {x : Str} {v : V} {u : Value} {Q : Unit → Shared → Prop} (I : Inv X pins σ H s) (hN : X.N.Nodup) (hi : X.N[i]? = some x) (hx : Loc X.env.scope x) (r : RelV v u)
  (h : ∀ s', Inv X pins (σ.set i (some v)) H s' → (∃ a, Heap.SameBut a s.heap s'.heap ∧ (a = X.env.locals ∨ X.env.cells.lookup x = some a)) → Q () s') (hf : X.fn x = true ∨ X.env.scope.names.lookup x = some .local := by first | exact .inl rfl | exact .inr rfl | assumption) : wpAny M A (storeName X.env x u) Q E s := by
 obtain ⟨m, hn, hl⟩ := id I.loc
 have hcls : (X.env.scope.kind == .class || (X.env.scope.kind == .module && X.env.locals != X.env.globals)) = false := by rw [I.ok.kind]; rfl
 have hiσ : i < σ.length := by rw [I.len]; exact (List.getElem?_eq_some_iff.mp hi).1
 have cne := I.cne
 have tracked : ∀ {a : Addr} {h' : Heap}, (∃ o, s.heap.get? a = some o ∧ H a = none) → Heap.SameBut a s.heap h' → HOk X.prog X.w H h' := fun {a h'} ha hs b ob e => by
  obtain ⟨_, _, hfree⟩ := ha
  refine (I.hok b ob e).stay (fun c w' hc q => (hs.2 c ?_).trans q) (fun _ q => q) fun _ _ q => q
  rintro rfl
  rcases hc with rfl | hc
  ·rw [hfree] at e; cases e
  ·rw [hfree] at hc; cases hc
 rcases hx with hk | hk
 ·refine wpAny_storeName_local hk hn (fun h' hn' hs => ?_) hcls
  obtain ⟨oL, _, _, hoL, _⟩ := id hn
  refine h _ ⟨I.ok, I.os, I.bare, ⟨fun b o e n hb hx => ?_, fun b o e n hb hx => ?_, I.base.free, fun b o e hx => ?_, I.base.tups, I.base.frzs, I.base.tbls⟩, ⟨_, hn', fun j y v' e1 e2 e3 => ?_⟩, fun y c e => ?_, I.free, I.freeC, fun p hp => ?_, tracked ⟨oL, hoL, I.free⟩ hs, by simpa using I.len⟩ ⟨_, hs, .inl rfl⟩
  ·exact (hs.2 b (Nat.ne_of_lt (Nat.lt_of_lt_of_le (Heap.lt_size e) I.ok.above))).trans (I.base.keep b o e n hb hx)
  ·obtain ⟨sl, e1⟩ := I.base.slot b o e n hb hx
   exact ⟨sl, (hs.2 b (Nat.ne_of_lt (Nat.lt_of_lt_of_le (Heap.lt_size e) I.ok.above))).trans e1⟩
  ·obtain ⟨o', e1⟩ := I.base.there b o e hx
   exact ⟨o', (hs.2 b (Nat.ne_of_lt (Nat.lt_of_lt_of_le (Heap.lt_size e) I.ok.above))).trans e1⟩
  ·by_cases hj : j = i
   ·subst hj
    rw [hi] at e1; cases e1
    rw [List.getElem?_set_self hiσ] at e2
    cases e2
    exact ⟨u, r, .inl ⟨hk, by simp⟩⟩
   ·rw [List.getElem?_set_ne (Ne.symm hj)] at e2
    obtain ⟨u', r', q⟩ := hl j y v' e1 e2 e3
    refine ⟨u', r', ?_⟩
    rcases q with ⟨k, e⟩ | ⟨k, c, e, z⟩
    ·refine .inl ⟨k, ?_⟩
     have : y ≠ x := fun e => hj (zjf hN e1 (e ▸ hi))
     simp [this, e]
    ·exact .inr ⟨k, c, e, z.sameBut hs (cne y c e)⟩
  ·obtain ⟨w', z⟩ := I.cell y c e
   exact ⟨w', z.sameBut hs (cne y c e)⟩
  ·obtain ⟨e, n, ne, nf, d⟩ := I.pin p hp
   exact ⟨(hs.2 p.1 ne).trans e, n, ne, nf, d⟩
 ·have hfn : X.fn x = true := by
   rcases hf with z | z
   ·exact z
   ·rw [z] at hk; cases hk
  obtain ⟨c, hc⟩ := I.ok.has x (.inl hk)
  obtain ⟨w', z⟩ := I.cell x c hc
  refine wpAny_storeName_cell I.ok.kind hk hc z (fun h' hc' hs => ?_)
  obtain ⟨oc, hoc, hocd⟩ := id z
  refine h { s with heap := h' } ⟨I.ok, I.os, I.bare, ⟨fun b o e n hb hx => ?_, fun b o e n hb hx => ?_, I.base.free, fun b o e hx => ?_, I.base.tups, I.base.frzs, I.base.tbls⟩, ⟨m, hn.sameBut hs (Ne.symm (cne x c hc)), fun j y v' e1 e2 e3 => ?_⟩, fun y c' e => ?_, I.free, I.freeC, fun p hp => ?_, tracked ⟨oc, hoc, I.freeC x c hc⟩ hs, by simpa using I.len⟩ ⟨c, hs, .inr hc⟩
  ·exact (hs.2 b (Nat.ne_of_lt (Nat.lt_of_lt_of_le (Heap.lt_size e) (I.ok.cab x c hfn hc)))).trans (I.base.keep b o e n hb hx)
  ·obtain ⟨sl, e1⟩ := I.base.slot b o e n hb hx
   exact ⟨sl, (hs.2 b (Nat.ne_of_lt (Nat.lt_of_lt_of_le (Heap.lt_size e) (I.ok.cab x c hfn hc)))).trans e1⟩
  ·obtain ⟨o', e1⟩ := I.base.there b o e hx
   exact ⟨o', (hs.2 b (Nat.ne_of_lt (Nat.lt_of_lt_of_le (Heap.lt_size e) (I.ok.cab x c hfn hc)))).trans e1⟩
  ·by_cases hj : j = i
   ·subst hj
    rw [hi] at e1; cases e1
    rw [List.getElem?_set_self hiσ] at e2
    cases e2
    exact ⟨u, r, .inr ⟨.inl hk, c, hc, hc'⟩⟩
   ·rw [List.getElem?_set_ne (Ne.symm hj)] at e2
    obtain ⟨u', r', q⟩ := hl j y v' e1 e2 e3
    refine ⟨u', r', ?_⟩
    rcases q with q | ⟨k, c', e, z'⟩
    ·exact .inl q
    ·refine .inr ⟨k, c', e, z'.sameBut hs ?_⟩
     rintro rfl
     exact hj (zjf hN e1 (I.ok.inj _ _ _ e hc ▸ hi))
  ·by_cases hcc : c' = c
   ·subst hcc; exact ⟨_, hc'⟩
   ·obtain ⟨w2, z2⟩ := I.cell y c' e
    exact ⟨w2, z2.sameBut hs hcc⟩
  ·obtain ⟨e, n, ne, nf, d⟩ := I.pin p hp
   refine ⟨(hs.2 p.1 ?_).trans e, n, ne, nf, d⟩
   intro q
   rw [q, hoc] at e
   have q' : oc = p.2 := Option.some.inj e
   exact d w' (by rw [← q']; exact hocd)
theorem ze1 {M : Model} {A : Around} {E : Value → Shared → Prop} {i : Nat} {x : Str} {v : V} {u : Value} {Q : Unit → Shared → Prop} (I : Inv X pins σ H s) (hN : X.N.Nodup) (hi : X.N[i]? = some x) (hx : Loc X.env.scope x) (r : RelV v u)
  (h : ∀ s', Inv X pins (σ.set i (some v)) H s' → Q () s') (hf : X.fn x = true ∨ X.env.scope.names.lookup x = some .local := by first | exact .inl rfl | exact .inr rfl | assumption) : wpAny M A (storeName X.env x u) Q E s :=
 zk9 I hN hi hx r (fun s' I' _ => h s' I') hf
theorem Inv.call' {s' : Shared} {ch : List Addr} (I : Inv X pins σ H s) (ho : s'.os = s.os) (u : Un (frs X.stack) ch H H' s.heap s'.heap) (hok : HOk X.prog X.w H' s'.heap) (hg : AllBare s'.gens)
  (hch : ∀ b ∈ ch, (b ∈ X.ex ∨ X.s₀.heap.objs.size ≤ b) ∧ b ≠ X.env.locals ∧ (∀ x c, X.env.cells.lookup x = some c → c ≠ b) ∧ ∀ p ∈ X.pn ++ pins, p.1 ≠ b) : Inv X pins σ H' s' := by
 obtain ⟨h', g', d', t', o'⟩ := s'
 have e : o' = s.os := ho
 subst e
 exact I.call (g' := g') (t' := t') (d' := d') u hok hg hch
end
abbrev XK := Value → Option Addr → Hp → Prop
abbrev St := List (Option V)
abbrev VK := V → Hp → Prop
abbrev TE := St → Hp → VK → Prop
abbrev TT := St → Hp → (Bool → Hp → Prop) → Prop
abbrev TA := St → Hp → (List V → Hp → Prop) → Prop
structure Ends where
 nx : St → Hp → Prop
 rt : VK
 bk : St → Hp → Prop := fun _ _ => False
 ct : St → Hp → Prop := fun _ _ => False
abbrev TS := Ends → St → Hp → Prop
def EP (X : Cx) (pins : List (Addr × Obj)) (σ : St) (Q : VK) (u : Value) (s' : Shared) : Prop := ∃ v H', Inv X pins σ H' s' ∧ RelV v u ∧ Q v H'
def TP (X : Cx) (pins : List (Addr × Obj)) (σ : St) (Q : Bool → Hp → Prop) (b : Bool) (s' : Shared) : Prop := ∃ H', Inv X pins σ H' s' ∧ Q b H'
def AP (X : Cx) (pins : List (Addr × Obj)) (σ : St) (Q : List V → Hp → Prop) (us : List Value) (s' : Shared) : Prop := ∃ vs H', Inv X pins σ H' s' ∧ Vals vs us ∧ Q vs H'
def SP (X : Cx) (pins : List (Addr × Obj)) (D : Ends) (f : Flow) (s' : Shared) : Prop :=
 match f with
 | .next => ∃ σ' H', Inv X pins σ' H' s' ∧ D.nx σ' H'
 | .brk => ∃ σ' H', Inv X pins σ' H' s' ∧ D.bk σ' H'
 | .cont => ∃ σ' H', Inv X pins σ' H' s' ∧ D.ct σ' H'
 | .ret u => ∃ v σ' H', Inv X pins σ' H' s' ∧ RelV v u ∧ D.rt v H'
def PE (X : Cx) (e : Expr) (t : TE) : Prop :=
 ∀ (pins : List (Addr × Obj)) (s : Shared) (σ : St) (H : Hp) (Q : VK), Inv X pins σ H s → t σ H Q → wpAny (model X.prog X.w) X.A (eval e X.env) (EP X pins σ Q) X.xe s
def PT (X : Cx) (e : Expr) (t : TT) : Prop :=
 ∀ (pins : List (Addr × Obj)) (s : Shared) (σ : St) (H : Hp) (Q : Bool → Hp → Prop), Inv X pins σ H s → t σ H Q → wpAny (model X.prog X.w) X.A (isTrue e X.env (eval e X.env)) (TP X pins σ Q) X.xe s
def PW (X : Cx) (e : Expr) (t : TT) : Prop :=
 ∀ (whole : Sem Value) (pins : List (Addr × Obj)) (s : Shared) (σ : St) (H : Hp) (Q : Bool → Hp → Prop), Inv X pins σ H s → t σ H Q → wpAny (model X.prog X.w) X.A (isTrue e X.env whole) (TP X pins σ Q) X.xe s
theorem PW.pt {X : Cx} {e : Expr} {t : TT} (h : PW X e t) : PT X e t := h _
def PA (X : Cx) (es : List Expr) (t : TA) : Prop :=
 ∀ (pos : Pos) (pins : List (Addr × Obj)) (s : Shared) (σ : St) (H : Hp) (Q : List V → Hp → Prop), Inv X pins σ H s → t σ H Q → wpAny (model X.prog X.w) X.A (spliced (backTo pos (starEach es X.env))) (AP X pins σ Q) X.xe s
def PS (X : Cx) (st : Stmt) (t : TS) : Prop :=
 ∀ (pins : List (Addr × Obj)) (s : Shared) (σ : St) (H : Hp) (D : Ends), Inv X pins σ H s → t D σ H → wpAny (model X.prog X.w) X.A (exec st X.env) (SP X pins D) X.xe s
def PSs (X : Cx) (st : List Stmt) (t : TS) : Prop :=
 ∀ (pins : List (Addr × Obj)) (s : Shared) (σ : St) (H : Hp) (D : Ends), Inv X pins σ H s → t D σ H → wpAny (model X.prog X.w) X.A (execs st X.env) (SP X pins D) X.xe s
theorem thn {α : Type} {t : Sem α} {Q Q' : α → Shared → Prop} {M : Model} {A : Around} {E : Value → Shared → Prop} {s : Shared} (h : wpAny M A t Q E s) (hQ : ∀ a s, Q a s → Q' a s) : wpAny M A t Q' E s := wpAny_mono h hQ fun _ _ x => x
end L2
namespace L2
open PySem PySem.Spec PyProof.Rows
section
variable {X : Cx}
def tVar (i : Nat) : TE := fun σ H Q => ∃ v, σ[i]? = some (some v) ∧ Q v H
def tC (v : V) : TE := fun _ H Q => Q v H
theorem zr2 {i : Nat} {x : Str} {pos : Pos} (hN : X.N[i]? = some x) (hv : Vis X.env.scope x) (hd : (x == ("__debug__" : Str)) = false := by decide) (hcd : (x == ("__classdict__" : Str)) = false := by decide) : PE X (.Name x pos) (tVar i) := by
 intro pins s σ H Q I h
 obtain ⟨v, e, h⟩ := h
 obtain ⟨m, hn, hl⟩ := I.loc
 obtain ⟨u, r, l⟩ := hl i x v hN e hv
 have fin : EP X pins σ Q u s := ⟨v, H, I, r, h⟩
 rcases l with ⟨hk, hm⟩ | ⟨hk, c, hc, hcell⟩
 ·exact wpAny_Name (wpAny_loadName_local I.ok.kind hk hn hm fin) hd
 ·rcases hk with hk | hk
  ·exact wpAny_Name (wpAny_loadName_cell I.ok.kind hk hc hcell fin) hd
  ·exact wpAny_Name (wpAny_loadName_free I.ok.kind hk hc hcell fin hcd) hd
theorem zr0 {i j pos} : PE X (.Constant (.int i) j pos) (tC (.int i)) := fun _ _ _ H _ I h => wpAny_Constant_int ⟨.int i, H, I.tok _, ⟨_, rfl⟩, h⟩
theorem zvo {b j pos} : PE X (.Constant (.bool b) j pos) (tC (.bl b)) := fun _ _ _ H _ I h => Constant_bool ⟨.bl b, H, I, rfl, h⟩
theorem ztl {j pos} : PE X (.Constant .none j pos) (tC .non) := fun _ _ _ H _ I h => Constant_none ⟨.non, H, I, rfl, h⟩
theorem zta {x j pos} : PE X (.Constant (.str x) j pos) (tC (.str x)) := fun _ _ _ H _ I h => Calls.Constant_str ⟨.str x, H, I.tok _, ⟨_, rfl⟩, h⟩
def Gl (X : Cx) (x : Str) : Prop := X.env.kindOf x = some .globalImplicit
theorem zia {E : Value → Shared → Prop} {pins : List (Addr × Obj)} {s : Shared} {σ : St} {H : Hp} {x : Str} {u : Value} {pos : Pos} {Q : Value → Shared → Prop} (I : Inv X pins σ H s) (hg : Gl X x) (hm : X.mg x = some u) (h : Q u s)
  (hd : (x == ("__debug__" : Str)) = false := by decide) : wpAny (model X.prog X.w) X.A (eval (.Name x pos) X.env) Q E s :=
 Calls.Name_function_global I.ok.kind hg (Calls.loadGlobal_global (by rw [I.ok.glob]; exact I.mod.glob.keeps I.bk) hm h) hd
theorem zf8 {E : Value → Shared → Prop} {pins : List (Addr × Obj)} {s : Shared} {σ : St} {H : Hp} {x : Str} {u : Value} {pos : Pos} {Q : Value → Shared → Prop} (I : Inv X pins σ H s) (hg : Gl X x) (hm : X.mg x = none) (hv : bootBuiltins x = some u) (h : Q u s)
  (hn : x ≠ "__name__" := by decide) (hd : (x == ("__debug__" : Str)) = false := by decide) : wpAny (model X.prog X.w) X.A (eval (.Name x pos) X.env) Q E s := by
 obtain ⟨mb, h1, h2⟩ := I.mod.blt
 exact Calls.Name_function_global I.ok.kind hg (Calls.loadGlobal_builtin (by rw [I.ok.glob]; exact I.mod.glob.keeps I.bk) hm (by rw [I.ok.blt]; exact h1.keeps I.bk) ((h2 x hn).trans hv) h) hd
theorem zgw {x : Str} {v : V} {u : Value} {pos : Pos} (hg : Gl X x) (hm : X.mg x = some u) (r : RelV v u) (hd : (x == ("__debug__" : Str)) = false := by decide) : PE X (.Name x pos) (tC v) :=
 fun _ _ _ H _ I h => zia I hg hm ⟨v, H, I, r, h⟩ hd
theorem zcy {x : Str} {v : V} {u : Value} {pos : Pos} (hg : Gl X x) (hm : X.mg x = none) (hv : bootBuiltins x = some u) (r : RelV v u) (hn : x ≠ "__name__" := by decide) (hd : (x == ("__debug__" : Str)) = false := by decide) : PE X (.Name x pos) (tC v) :=
 fun _ _ _ H _ I h => zf8 I hg hm hv ⟨v, H, I, r, h⟩ hn hd
def t2I (ta tb : TE) (k : Int → Int → Hp → Prop) : St → Hp → Prop := fun σ H => ta σ H fun x H1 => tb σ H1 fun y H2 => ∃ i j, x = .int i ∧ y = .int j ∧ k i j H2
def tAdd (ta tb : TE) : TE := fun σ H Q => t2I ta tb (fun i j H2 => Q (.int (i + j)) H2) σ H
def tSub (ta tb : TE) : TE := fun σ H Q => t2I ta tb (fun i j H2 => Q (.int (i - j)) H2) σ H
def tMul (ta tb : TE) : TE := fun σ H Q => t2I ta tb (fun i j H2 => (-(2 ^ 64) < i ∧ i < 2 ^ 64) ∧ Q (.int (i * j)) H2) σ H
variable {a b : Expr} {ta tb : TE} {pos : Pos}
def PC (X : Cx) (op : CmpOp) (a b : Expr) (t : TE) : Prop :=
 ∀ (pins : List (Addr × Obj)) (s : Shared) (σ : St) (H : Hp) (Q : VK), Inv X pins σ H s → t σ H Q →
  wpAny (model X.prog X.w) X.A (eval a X.env) (fun v s₁ => wpAny (model X.prog X.w) X.A (eval b X.env) (fun u s₂ => wpAny (model X.prog X.w) X.A (compareOp op v u) (EP X pins σ Q) X.xe s₂) X.xe s₁) X.xe s
def tCmp (p : Int → Int → Bool) (ta tb : TE) : TE := fun σ H Q => t2I ta tb (fun i j H2 => Q (.bl (p i j)) H2) σ H
abbrev tLt : TE → TE → TE := tCmp fun i j => decide (i < j)
abbrev tLe : TE → TE → TE := tCmp fun i j => decide (i ≤ j)
abbrev tGt : TE → TE → TE := tCmp fun i j => decide (j < i)
abbrev tGe : TE → TE → TE := tCmp fun i j => decide (j ≤ i)
abbrev tEqI : TE → TE → TE := tCmp fun i j => decide (i = j)
abbrev tNeI : TE → TE → TE := tCmp fun i j => !decide (i = j)
def tIsN (ta : TE) : TE := fun σ H Q => ta σ H fun x H1 => Q (.bl (decide (x = .non))) H1
def tNotN (ta : TE) : TE := fun σ H Q => ta σ H fun x H1 => Q (.bl (!decide (x = .non))) H1
def tB (t : TE) : TT := fun σ H Q => t σ H fun x H1 => ∃ c, x = .bl c ∧ Q c H1
theorem ztg {e : Expr} {t : TE} (h : PE X e t) (he : ∀ whole, isTrue e X.env whole = (do let v ← whole; standAt e.pos; holding [v] (truthy v)) := by intro _; rfl) : PT X e (tB t) := by
 intro pins s σ H Q I hw
 refine isTrue_plain (thn (h pins s σ H _ I hw) fun v s1 ⟨x, H1, I1, r1, q1⟩ => ?_) (he _)
 obtain ⟨d, rfl, q⟩ := q1
 cases r1
 exact wpAny_truthy_bool ⟨H1, I1, q⟩
variable {tA tB' : TT} {rest : List Expr}
def tAnd (t u : TT) : TT := fun σ H Q => t σ H fun c H1 => if c = true then u σ H1 Q else Q false H1
def tOr (t u : TT) : TT := fun σ H Q => t σ H fun c H1 => if c = true then Q true H1 else u σ H1 Q
def tNot (t : TT) : TT := fun σ H Q => t σ H fun c H1 => Q (!c) H1
theorem zq8 (ha : PT X a tA) : PW X (.BoolOp .And [a] pos) tA := by
 intro wh pins s σ H Q I h
 refine isTrue_and (thn (ha pins s σ H Q I h) fun c s1 e => ?_)
 cases c with
 | true => exact isTrue_and_nil e
 | false => exact e
theorem zs3 (ha : PT X a tA) : PW X (.BoolOp .Or [a] pos) tA := by
 intro wh pins s σ H Q I h
 refine isTrue_or (thn (ha pins s σ H Q I h) fun c s1 e => ?_)
 cases c with
 | false => exact isTrue_or_nil e
 | true => exact e
theorem zrn (ha : PT X a tA) (hb : PW X (.BoolOp .And (b :: rest) pos) tB') : PW X (.BoolOp .And (a :: b :: rest) pos) (tAnd tA tB') := by
 intro wh pins s σ H Q I h
 refine isTrue_and (thn (ha pins s σ H _ I h) fun c s1 ⟨H1, I1, q1⟩ => ?_)
 cases c with
 | true => exact hb wh pins s1 σ H1 Q I1 q1
 | false => exact ⟨H1, I1, q1⟩
theorem zuu (ha : PT X a tA) (hb : PW X (.BoolOp .Or (b :: rest) pos) tB') : PW X (.BoolOp .Or (a :: b :: rest) pos) (tOr tA tB') := by
 intro wh pins s σ H Q I h
 refine isTrue_or (thn (ha pins s σ H _ I h) fun c s1 ⟨H1, I1, q1⟩ => ?_)
 cases c with
 | true => exact ⟨H1, I1, q1⟩
 | false => exact hb wh pins s1 σ H1 Q I1 q1
theorem zsq (ha : PT X a tA) : PT X (.UnaryOp .Not a pos) (tNot tA) := by
 intro pins s σ H Q I h
 exact isTrue_not (ha pins s σ H (fun c H1 => Q (!c) H1) I h)
def zvl (ta tb : TE) : TE := fun σ H Q => ta σ H fun x H1 => ∃ c, x = .bl c ∧ if c = true then tb σ H1 Q else Q (.bl false) H1
def tOrV (ta tb : TE) : TE := fun σ H Q => ta σ H fun x H1 => ∃ c, x = .bl c ∧ if c = true then Q (.bl true) H1 else tb σ H1 Q
def zvj (ta : TE) : TE := fun σ H Q => ta σ H fun x H1 => ∃ c, x = .bl c ∧ Q (.bl (!c)) H1
theorem zsy {op} {t : TE} (h : PE X a t) : PE X (.BoolOp op [a] pos) t := fun pins s σ H Q I hw => BoolOp_one (h pins s σ H Q I hw)
theorem zsz (ha : PE X a ta) (hb : PE X (.BoolOp .And (b :: rest) pos) tb) : PE X (.BoolOp .And (a :: b :: rest) pos) (zvl ta tb) := by
 intro pins s σ H Q I h
 refine BoolOp_and (thn (ha pins s σ H _ I h) fun v s1 ⟨x, H1, I1, r1, q1⟩ => ?_)
 obtain ⟨c, rfl, q1⟩ := q1
 cases r1
 refine wpAny_truthy_bool ?_
 cases c with
 | true => exact hb pins s1 σ H1 Q I1 q1
 | false => exact ⟨.bl false, H1, I1, rfl, q1⟩
theorem zrl (ha : PE X a ta) : PE X (.UnaryOp .Not a pos) (zvj ta) := by
 intro pins s σ H Q I h
 refine UnaryOp_ (thn (ha pins s σ H _ I h) fun v s1 ⟨x, H1, I1, r1, q1⟩ => ?_)
 obtain ⟨c, rfl, q1⟩ := q1
 cases r1
 exact not_of (wpAny_truthy_bool ⟨.bl (!c), H1, I1, rfl, q1⟩)
def tIf (t : TT) (ta tb : TE) : TE := fun σ H Q => t σ H fun c H1 => if c = true then ta σ H1 Q else tb σ H1 Q
end
end L2
namespace L2
open PySem PySem.Spec PyProof.Rows
def SqL (K : PySem.W.Frag) (H : Hp) (a : Addr) (xs : List V) : Prop :=
 Rd H a (.lst xs) ∨
  ∃ (o : Obj) (its : Array Value) (n : Nat), K.lookup a = some o ∧ o.cls = .type "list" ∧ o.dict = none ∧ o.data = .seq its n ∧ its.size ≤ sizeLine ∧ Vals xs its.toList
def SqT (K : PySem.W.Frag) (H : Hp) (a : Addr) (xs : List V) : Prop :=
 Rd H a (.tup xs) ∨
  ∃ (o : Obj) (its : Array Value) (n : Nat), K.lookup a = some o ∧ o.cls = .type "tuple" ∧ o.data = .seq its n ∧ its.size ≤ sizeLine ∧ Vals xs its.toList
def absV : Value → Option V
 | .none => some .non
 | .bool b => some (.bl b)
 | .int i _ => some (.int i)
 | .str x _ => some (.str x)
 | .bytes b _ => some (.byt b)
 | .float b _ => some (.flt b)
 | .ref a => some (.ref a)
 | .type n => some (.ty n)
 | _ => none
theorem RelV.abs {x : V} {u : Value} (r : RelV x u) : absV u = some x := by
 cases x with
 | non => cases r; rfl
 | bl _ => cases r; rfl
 | int _ => obtain ⟨t, rfl⟩ := r; rfl
 | str _ => obtain ⟨t, rfl⟩ := r; rfl
 | byt _ => obtain ⟨t, rfl⟩ := r; rfl
 | flt _ => obtain ⟨t, rfl⟩ := r; rfl
 | ref _ => cases r; rfl
 | ty _ => cases r; rfl
theorem RelV.inj {x y : V} {u : Value} (r : RelV x u) (q : RelV y u) : x = y := Option.some.inj (r.abs.symm.trans q.abs)
theorem Vals.inj : ∀ {xs ys : List V} {us : List Value}, Vals xs us → Vals ys us → xs = ys
 | _, _, _, .nil, .nil => rfl
 | _, _, _, .cons r t, .cons r' t' => by rw [r.inj r', Vals.inj t t']
section
variable {X : Cx} {pins : List (Addr × Obj)} {σ : St} {H : Hp} {s : Shared} {a : Addr} {xs ys : List V}
theorem SqL.of {K : PySem.W.Frag} (h : H a = some (.lst xs)) : SqL K H a xs := .inl (.inl h)
theorem SqT.of {K : PySem.W.Frag} (h : H a = some (.tup xs)) : SqT K H a xs := .inl (.inl h)
theorem Inv.list (I : Inv X pins σ H s) (h : SqL X.K H a xs) : ∃ its : List Value, Vals xs its ∧ PlainL s.heap a its.toArray ∧ xs.length ≤ sizeLine := by
 rcases h with h | ⟨o, its, n, hk, hc, hd, hs, hz, r⟩
 ·obtain ⟨z, its, n, r, e⟩ := h.ok I.hok
  exact ⟨its, r, ⟨_, n, e, rfl, rfl, rfl⟩, z⟩
 ·refine ⟨its.toList, r, ⟨o, n, I.kIn a o hk, hc, hd, by simpa using hs⟩, ?_⟩
  have e := r.length
  simp only [Array.length_toList] at e
  omega
theorem Inv.tuple (I : Inv X pins σ H s) (h : SqT X.K H a xs) : ∃ its : List Value, Vals xs its ∧ IsTup s.heap a its.toArray ∧ xs.length ≤ sizeLine := by
 rcases h with h | ⟨o, its, n, hk, hc, hs, hz, r⟩
 ·obtain ⟨z, its, r, p⟩ := h.ok I.hok
  exact ⟨its, r, p, z⟩
 ·refine ⟨its.toList, r, ⟨o, I.kIn a o hk, hc, n, by simpa using hs⟩, ?_⟩
  have e := r.length
  simp only [Array.length_toList] at e
  omega
theorem Inv.list_inj (I : Inv X pins σ H s) (h : SqL X.K H a xs) (h' : SqL X.K H a ys) : xs = ys := by
 obtain ⟨its, r, ⟨o, n, e, _, _, d⟩, _⟩ := I.list h
 obtain ⟨its', r', ⟨o', n', e', _, _, d'⟩, _⟩ := I.list h'
 rw [e] at e'; cases e'
 rw [d] at d'
 injection d' with d1 _
 have : its = its' := by simpa using congrArg Array.toList d1
 subst this
 exact r.inj r'
end
abbrev Cx.wish (X : Cx) (E : Value → Shared → Prop) : Cx := { X with xe := E }
abbrev Cx.nox (X : Cx) : Cx := X.wish fun _ _ => False
section
variable {X : Cx} {pins : List (Addr × Obj)} {σ : St} {H : Hp} {s : Shared} {E : Value → Shared → Prop}
end
section
variable {X : Cx} {st : Stmt} {rest : List Stmt} {t u : TS} {e : Expr} {te : TE} {pos : Pos}
def zu0 : TS := fun D σ H => D.nx σ H
def tSeq (t u : TS) : TS := fun D σ H => t { D with nx := u D } σ H
theorem zqd : PSs X [] zu0 := fun _ _ σ H _ I h => wpAny_execs_nil ⟨σ, H, I, h⟩
theorem znv (h1 : PS X st t) (h2 : PSs X rest u) : PSs X (st :: rest) (tSeq t u) := by
 intro pins s σ H D I h
 refine wpAny_execs_cons (thn (h1 pins s σ H { D with nx := u D } I h) fun f s1 q => ?_)
 cases f with
 | next =>
  obtain ⟨σ', H', I', q⟩ := q
  exact h2 pins s1 σ' H' D I' q
 | ret v => exact q
 | brk => exact q
 | cont => exact q
theorem zqj (h1 : PS X st t) : PSs X [st] t := by
 intro pins s σ H D I h
 refine wpAny_execs_cons (thn (h1 pins s σ H D I h) fun f s1 q => ?_)
 cases f with
 | next => exact wpAny_execs_nil q
 | ret v => exact q
 | brk => exact q
 | cont => exact q
def tBreak : TS := fun D σ H => D.bk σ H
def tCont : TS := fun D σ H => D.ct σ H
theorem Inv.quiet {pins : List (Addr × Obj)} {σ : St} {H : Hp} {s : Shared} (I : Inv X pins σ H s) : interactive X.env = false := by simp [interactive, I.ok.kind]
def zu6 (te : TE) : TS := fun D σ H => te σ H fun _ H1 => D.nx σ H1
theorem zim (he : PE X e te) (hs : swapsWith e none pos.line X.env = pure false := by rfl) : PS X (.Expr e pos) (zu6 te) := by
 intro pins s σ H D I h
 exact wpAny_Expr_any (thn (he pins s σ H _ I h) fun v s1 ⟨x, H1, I1, r1, q1⟩ => ⟨σ, H1, I1, q1⟩) I.quiet hs
def tRet (te : TE) : TS := fun D σ H => te σ H D.rt
theorem zpn (he : PE X e te) : PS X (.Return (some e) pos) (tRet te) := by
 intro pins s σ H D I h
 exact wpAny_Return_some (thn (he pins s σ H _ I h) fun v s1 ⟨x, H1, I1, r1, q1⟩ => ⟨x, σ, H1, I1, r1, q1⟩)
def tRetN : TS := fun D _ H => D.rt .non H
def tIfS (c : TT) (t u : TS) : TS := fun D σ H => c σ H fun b H1 => if b = true then t D σ H1 else u D σ H1
theorem zu5 {c : Expr} {a b : List Stmt} {tc : TT} (hc : PT X c tc) (ha : PSs X a t) (hb : PSs X b u) : PS X (.If c a b pos) (tIfS tc t u) := by
 intro pins s σ H D I h
 refine wpAny_If (thn (hc pins s σ H _ I h) fun d s1 ⟨H1, I1, q1⟩ => ?_)
 cases d with
 | true => exact ha pins s1 σ H1 D I1 q1
 | false => exact hb pins s1 σ H1 D I1 q1
def zt8 : TS := fun _ _ _ => False
theorem zos : PS X st zt8 := fun _ _ _ _ _ _ h => h.elim
end
abbrev TG := V → St → Hp → (St → Hp → Prop) → Prop
abbrev TGs := List V → St → Hp → (St → Hp → Prop) → Prop
def PG (X : Cx) (target : Expr) (t : TG) : Prop :=
 ∀ (pins : List (Addr × Obj)) (s : Shared) (σ : St) (H : Hp) (v : V) (u : Value) (Q : St → Hp → Prop), Inv X pins σ H s → RelV v u → t v σ H Q →
  wpAny (model X.prog X.w) X.A (assign target X.env u) (fun _ s' => ∃ σ' H', Inv X pins σ' H' s' ∧ Q σ' H') X.xe s
def PGs (X : Cx) (ts : List Expr) (t : TGs) : Prop :=
 ∀ (pins : List (Addr × Obj)) (s : Shared) (σ : St) (H : Hp) (vs : List V) (us : List Value) (Q : St → Hp → Prop), Inv X pins σ H s → Vals vs us → t vs σ H Q →
  wpAny (model X.prog X.w) X.A (assignInOrder ((assignEach ts X.env).map (·.2)) us) (fun _ s' => ∃ σ' H', Inv X pins σ' H' s' ∧ Q σ' H') X.xe s
abbrev TSet := V → V → V → Hp → (Hp → Prop) → Prop
def PSet (X : Cx) (t : TSet) : Prop :=
 ∀ (pins : List (Addr × Obj)) (s : Shared) (σ : St) (H : Hp) (o i v : V) (ov iv u : Value) (Q : Hp → Prop), Inv X pins σ H s → RelV o ov → RelV i iv → RelV v u → t o i v H Q →
  wpAny (model X.prog X.w) X.A (setItem ov iv u) (fun _ s' => ∃ H', Inv X pins σ H' s' ∧ Q H') X.xe s
abbrev TIp := V → V → Hp → VK → Prop
def PIp (X : Cx) (op : Operator) (t : TIp) : Prop :=
 ∀ (pins : List (Addr × Obj)) (s : Shared) (σ : St) (H : Hp) (x y : V) (v u : Value) (Q : VK), Inv X pins σ H s → RelV x v → RelV y u → t x y H Q →
  wpAny (model X.prog X.w) X.A (inplaceOp op v u) (EP X pins σ Q) X.xe s
section
variable {X : Cx} {pos : Pos}
def zm5 (i : Nat) : TG := fun v σ H Q => Q (σ.set i (some v)) H
theorem zai {i : Nat} {x : Str} (hN : X.N.Nodup) (hi : X.N[i]? = some x) (hx : Loc X.env.scope x) (hf : X.fn x = true ∨ X.env.scope.names.lookup x = some .local := by first | exact .inl rfl | exact .inr rfl | assumption) : PG X (.Name x pos) (zm5 i) := by
 intro pins s σ H v u Q I r h
 exact wpAny_assign_Name (ze1 I hN hi hx r (fun s' I' => ⟨_, H, I', h⟩) hf)
def gNil : TGs := fun vs σ H Q => vs = [] ∧ Q σ H
def ztz (t : TG) (u : TGs) : TGs := fun vs σ H Q => ∃ v r, vs = v :: r ∧ t v σ H fun σ' H' => u r σ' H' Q
theorem zq5 : PGs X [] gNil := by
 intro pins s σ H vs us Q I r h
 obtain ⟨e, h⟩ := h
 subst e
 cases r
 exact assignInOrder_nil ⟨σ, H, I, h⟩
theorem zan {e : Expr} {es : List Expr} {t : TG} {u : TGs} (h1 : PG X e t) (h2 : PGs X es u)
  (hs : (assignEach (e :: es) X.env).map (·.2) = assign e X.env :: (assignEach es X.env).map (·.2) := by rfl) : PGs X (e :: es) (ztz t u) := by
 intro pins s σ H vs us Q I r h
 obtain ⟨v, vr, e1, h⟩ := h
 subst e1
 cases r with
 | cons r rr =>
  rw [hs]
  refine assignInOrder_cons (thn (h1 pins s σ H _ _ _ I r h) fun _ s1 ⟨σ1, H1, I1, q1⟩ => ?_)
  exact h2 pins s1 σ1 H1 _ _ Q I1 rr q1
def gTup (K : PySem.W.Frag) (n : Nat) (t : TGs) : TG := fun v σ H Q => ∃ a xs, v = .ref a ∧ SqT K H a xs ∧ xs.length = n ∧ t xs σ H Q
theorem zdh {es : List Expr} {k : Nat} {t : TGs} {n : Nat} (hc : X.calm = true) (h : PGs X es t)
  (hn : (assignEach es X.env).length = n := by rfl) (hst : (assignEach es X.env).findIdx? (·.1) = none := by rfl) : PG X (.Tuple es k pos) (gTup X.K n t) := by
 intro pins s σ H v u Q I r hw
 obtain ⟨a, xs, e1, hq, hl, hw⟩ := hw
 subst e1
 cases r
 obtain ⟨its, rv, ht, hz⟩ := I.tuple hq
 refine assign_Tuple_tuple (I.ok.hd hc) ht (by simp [hn, ← hl, rv.length]) hst fun h' hx => ?_
 have I1 : Inv X pins σ H { s with heap := h' } := I.kept (t' := s.toks) fun b o e => hx b o (Nat.ne_of_lt (Heap.lt_size e)) e
 exact h pins _ σ H xs _ Q I1 (by simpa using rv) hw
def gSub (to ti : TE) (t : TSet) : TG := fun v σ H Q => to σ H fun o H1 => ti σ H1 fun i H2 => t o i v H2 fun H3 => Q σ H3
theorem zsl {o i : Expr} {to ti : TE} {t : TSet} (ho : PE X o to) (hi : PE X i ti) (hs : PSet X t)
  (ha : ∀ v, assign (.Subscript o i pos) X.env v = (do
   let ov ← holding [v] (eval o X.env)
   let iv ← holding [v, ov] (eval i X.env)
   standAt pos
   holding [v, ov, iv] (setItem ov iv v)
   release [v, ov, iv] []) := by intro _; rfl) : PG X (.Subscript o i pos) (gSub to ti t) := by
 intro pins s σ H v u Q I r h
 rw [ha]
 refine wpAny_bind (wpAny_holding (thn (ho pins s σ H _ I h) fun ov s1 ⟨x, H1, I1, r1, q1⟩ => ?_))
 refine wpAny_bind (wpAny_holding (thn (hi pins s1 σ H1 _ I1 q1) fun iv s2 ⟨y, H2, I2, r2, q2⟩ => ?_))
 refine wpAny_bind (wpAny_standAt (wpAny_bind (wpAny_holding (thn (hs pins s2 σ H2 x y v ov iv u _ I2 r1 r2 r q2) fun _ s3 ⟨H3, I3, q3⟩ => ?_))))
 exact wpAny_release ⟨σ, H3, I3, q3⟩
def tAsg (te : TE) (g : TG) : TS := fun D σ H => te σ H fun x H1 => g x σ H1 D.nx
theorem zg8 {tg e : Expr} {te : TE} {g : TG} (he : PE X e te) (hg : PG X tg g) (hs : swapsWithSole [tg] e pos.line X.env = pure false := by rfl) (hw : swappedStores [tg] e X.env = pure none := by rfl)
  (h1 : (assignEach [tg] X.env).map (·.2) = [assign tg X.env] := by rfl) : PS X (.Assign [tg] e pos) (tAsg te g) := by
 intro pins s σ H D I h
 refine wpAny_Assign_stores (thn (he pins s σ H _ I h) fun v s1 ⟨x, H1, I1, r1, q1⟩ => ?_) hs hw
 rw [h1]
 exact thn (hg pins s1 σ H1 x v _ I1 r1 q1) fun _ s2 q => q
theorem zrx {i : Nat} {x : Str} {e : Expr} {te : TE} {pos' : Pos} (hN : X.N.Nodup) (hi : X.N[i]? = some x) (hx : Loc X.env.scope x) (he : PE X e te) (hs : swapsWith e (some (.Name x pos')) pos.line X.env = pure false := by rfl) (hf : X.fn x = true ∨ X.env.scope.names.lookup x = some .local := by first | exact .inl rfl | exact .inr rfl | assumption) :
  PS X (.Assign [.Name x pos'] e pos) (tAsg te (zm5 i)) := by
 intro pins s σ H D I h
 refine wpAny_Assign_Name (thn (he pins s σ H _ I h) fun v s1 ⟨y, H1, I1, r1, q1⟩ => ?_) hs
 exact ze1 I1 hN hi hx r1 (fun s2 I2 => ⟨_, H1, I2, q1⟩) hf
def tPar (i j : Nat) (ta : TA) : TS := fun D σ H => ta σ H fun vs H1 => ∃ v w, vs = [v, w] ∧ D.nx ((σ.set i (some v)).set j (some w)) H1
def tAug (i : Nat) (te : TE) (ti : TIp) : TS := fun D σ H => ∃ x, σ[i]? = some (some x) ∧ te σ H fun y H1 => ti x y H1 fun z H2 => D.nx (σ.set i (some z)) H2
theorem zrt {i : Nat} {x : Str} {e : Expr} {te : TE} {op : Operator} {ti : TIp} {pos' : Pos} (hN : X.N.Nodup) (hi : X.N[i]? = some x) (hx : Loc X.env.scope x) (he : PE X e te) (ho : PIp X op ti) (hf : X.fn x = true ∨ X.env.scope.names.lookup x = some .local := by first | exact .inl rfl | exact .inr rfl | assumption) :
  PS X (.AugAssign (.Name x pos') op e pos) (tAug i te ti) := by
 intro pins s σ H D I h
 obtain ⟨v, e1, h⟩ := h
 obtain ⟨m, hn, hl⟩ := I.loc
 have vis : Vis X.env.scope x := by rcases hx with k | k; exact .inl k; exact .inr (.inl k)
 obtain ⟨u, r, l⟩ := hl i x v hi e1 vis
 refine wpAny_AugAssign_Name ?_
 have go : wpAny (model X.prog X.w) X.A (eval e X.env) (fun w s₂ => wpAny (model X.prog X.w) X.A (inplaceOp op u w) (fun r s₃ => wpAny (model X.prog X.w) X.A (storeName X.env x r) (fun _ => SP X pins D .next) X.xe s₃) X.xe s₂) X.xe s := by
  refine thn (he pins s σ H _ I h) fun w s1 ⟨y, H1, I1, r1, q1⟩ => ?_
  refine thn (ho pins s1 σ H1 v y u w _ I1 r r1 q1) fun z s2 ⟨zv, H2, I2, r2, q2⟩ => ?_
  exact ze1 I2 hN hi hx r2 (fun s3 I3 => ⟨_, H2, I3, q2⟩) hf
 rcases l with ⟨hk, hm⟩ | ⟨hk, c, hc, hcell⟩
 ·exact wpAny_loadName_local I.ok.kind hk hn hm go
 ·rcases hk with hk | hk
  ·exact wpAny_loadName_cell I.ok.kind hk hc hcell go
  ·rcases hx with k | k
   ·have : X.env.scope.names.lookup x = some .free := hk
    rw [k] at this; cases this
   ·have : X.env.scope.names.lookup x = some .free := hk
    rw [k] at this; cases this
def tAugS (to ti te : TE) (tget : V → V → Hp → VK → Prop) (tip : TIp) (tset : TSet) : TS := fun D σ H => to σ H fun o H1 => ti σ H1 fun i H2 => tget o i H2 fun x H3 => te σ H3 fun y H4 => tip x y H4 fun z H5 => tset o i z H5 fun H6 => D.nx σ H6
def PGet (X : Cx) (t : V → V → Hp → VK → Prop) : Prop :=
 ∀ (pins : List (Addr × Obj)) (s : Shared) (σ : St) (H : Hp) (o i : V) (ov iv : Value) (Q : VK), Inv X pins σ H s → RelV o ov → RelV i iv → t o i H Q →
  wpAny (model X.prog X.w) X.A (getItem ov iv) (EP X pins σ Q) X.xe s
def ipI (f : Int → Int → Int) : TIp := fun x y H Q => ∃ i j, x = .int i ∧ y = .int j ∧ Q (.int (f i j)) H
theorem zt1 : PIp X .Add (ipI fun i j => i + j) := by
 intro pins s σ H x y v u Q I r1 r2 h
 obtain ⟨i, j, e1, e2, q⟩ := h
 subst e1; subst e2
 obtain ⟨t, rfl⟩ := r1
 obtain ⟨t', rfl⟩ := r2
 exact iadd_int ⟨.int _, H, I.tok _, ⟨_, rfl⟩, q⟩
end
section
variable {X : Cx} {pos : Pos}
def tWhile (c : TT) (tb : TS) : TS := fun D σ H => ∃ W : Nat → St → Hp → Prop, (∃ m, W m σ H) ∧ ∀ m σ H, W m σ H →
 c σ H fun b H1 => if b = true then ∃ N : St → Hp → Prop, (∀ σ' H', N σ' H' → ∃ m', m' < m ∧ W m' σ' H') ∧ tb { D with nx := N, ct := N, bk := D.nx } σ H1 else D.nx σ H1
end
structure It where
 go : Nat → Hp → Prop
 yld : Nat → Hp → V → Hp → Prop
 stop : Nat → Hp → Prop
def FpOk (X : Cx) (pins : List (Addr × Obj)) (H : Hp) (b : Addr) : Prop :=
 H b = none ∧ b ≠ X.env.locals ∧ b ∉ X.fs ∧ (b ∈ X.ex ∨ X.s₀.heap.objs.size ≤ b) ∧ (∀ x c, X.env.cells.lookup x = some c → c ≠ b) ∧ ∀ p ∈ X.pn ++ pins, p.1 ≠ b
theorem Inv.fpOk {X : Cx} {pins : List (Addr × Obj)} {σ : St} {H H' : Hp} {s : Shared} {b : Addr} (I : Inv X pins σ H s) (hb : s.heap.objs.size ≤ b) (hn : H' b = none) : FpOk X pins H' b := by
 refine ⟨hn, Nat.ne_of_gt (Nat.lt_of_lt_of_le I.lt hb), I.nofs hb, .inr (Nat.le_trans I.sz hb), fun x c e z => ?_, fun p hp z => ?_⟩
 ·obtain ⟨v, q⟩ := I.cell x c e
  exact absurd (Nat.lt_of_lt_of_le q.lt (by rw [z]; exact hb)) (Nat.lt_irrefl _)
 ·exact absurd (Nat.lt_of_lt_of_le (Heap.lt_size (I.pin p hp).1) (by rw [z]; exact hb)) (Nat.lt_irrefl _)
structure Turn (P : Program) (w : World) (K : PySem.W.Frag) (tg : Expr) (J : It) (fp : List Addr) (it : Addr) (tn : Nat → Heap → Prop) : Prop where
 mem : it ∈ fp
 obj : ∀ i h, tn i h → ∀ b ∈ fp, ∃ o, h.get? b = some o ∧ ∀ v, o.data ≠ .cell v
 keep : ∀ i h h', tn i h → (∀ b ∈ fp, ∀ o, h.get? b = some o → h'.get? b = some o) → tn i h'
 item : ∀ (X : Cx), X.prog = P → X.w = w → X.K = K → X.calm = true → ∀ (i : Nat) (pins : List (Addr × Obj)) (s : Shared) (σ : St) (H : Hp) (E : Value → Shared → Prop), Inv X pins σ H s → (∀ b ∈ fp, FpOk X pins H b) → tn i s.heap → J.go i H →
  wpAny (model P w) X.A (pyNext (.ref it)) (fun r s1 => ∃ u, r = some u ∧
   wpAny (model P w) X.A (letOwnedTupleGo tg (.ref it) u) (fun _ s2 => ∃ x H', Inv X pins σ H' s2 ∧ RelV x u ∧ J.yld i H x H' ∧ tn (i + 1) s2.heap ∧ ∀ b ∈ fp, H' b = none) E s1) E s
 done : ∀ (X : Cx), X.prog = P → X.w = w → X.K = K → X.calm = true → ∀ (i : Nat) (pins : List (Addr × Obj)) (s : Shared) (σ : St) (H : Hp) (E : Value → Shared → Prop), Inv X pins σ H s → (∀ b ∈ fp, FpOk X pins H b) → tn i s.heap → J.stop i H →
  wpAny (model P w) X.A (pyNext (.ref it)) (fun r s1 => r = none ∧ Inv X pins σ H s1) E s
 self : ∀ (A : Around) (i : Nat) (s : Shared) (Q : Value → Shared → Prop) (E : Value → Shared → Prop), tn i s.heap → Q (.ref it) s → wpAny (model P w) A (pyIter (.ref it)) Q E s
abbrev TI := St → Hp → (It → Hp → Prop) → Prop
def PIE (X : Cx) (pins : List (Addr × Obj)) (σ : St) (tg : Expr) (R : It → Hp → Prop) (itv : Value) (s2 : Shared) : Prop :=
 ∃ (it : Addr) (fp : List Addr) (tn : Nat → Heap → Prop) (J : It) (H' : Hp), itv = .ref it ∧ Inv X pins σ H' s2 ∧ Turn X.prog X.w X.K tg J fp it tn ∧ tn 0 s2.heap ∧ (∀ b ∈ fp, FpOk X pins H' b) ∧ R J H'
def PI (X : Cx) (tg iter : Expr) (wi : TI) : Prop :=
 ∀ (pins : List (Addr × Obj)) (s : Shared) (σ : St) (H : Hp) (R : It → Hp → Prop), Inv X pins σ H s → wi σ H R →
  wpAny (model X.prog X.w) X.A (eval iter X.env) (fun v s1 => wpAny (model X.prog X.w) X.A (pyIter v) (PIE X pins σ tg R) X.xe s1) X.xe s
theorem zrk {M : Model} {A : Around} {E : Value → Shared → Prop} {s : Shared} {tg : Expr} {it : Addr} {u : Value} {o : Obj} {n : String} {vs : Array Value} {Q : Unit → Shared → Prop} (ho : s.heap.get? it = some o) (hc : o.cls = .type n) (hd : o.data = .fields vs)
    (hn : ["enumerate", "zip", "dict_itemiterator", "dict_reverseitemiterator", "odict_iterator", "itertools.zip_longest", "itertools.pairwise"].contains n = false) (hQ : Q () s) : wpAny M A (letOwnedTupleGo tg (.ref it) u) Q E s := by
  unfold letOwnedTupleGo
  cases tg <;> first
    | exact wpAny_pure hQ
    | (cases u <;> first
        | exact wpAny_pure hQ
        | (refine wpAny_bind (wpAny_load ho ?_)
           rw [hc, hd]
           show wpAny M A (if (["enumerate", "zip", "dict_itemiterator", "dict_reverseitemiterator", "odict_iterator", "itertools.zip_longest", "itertools.pairwise"].contains n && vs[0]? == some (rawInt _)) = true then _ else _) Q E s
           rw [if_neg (by intro h; rw [hn, Bool.false_and] at h; cases h)]
           exact wpAny_pure hQ))
def Itl (K : PySem.W.Frag) (a : Addr) : It :=
 ⟨fun i H => ∃ xs x, SqL K H a xs ∧ xs[i]? = some x, fun i H x H' => H' = H ∧ ∀ xs, SqL K H a xs → xs[i]? = some x, fun i H => ∃ xs, SqL K H a xs ∧ xs.length ≤ i⟩
def Itt (K : PySem.W.Frag) (a : Addr) : It :=
 ⟨fun i H => ∃ xs x, SqT K H a xs ∧ xs[i]? = some x, fun i H x H' => H' = H ∧ ∀ xs, SqT K H a xs → xs[i]? = some x, fun i H => ∃ xs, SqT K H a xs ∧ xs.length ≤ i⟩
def Itr (lo : Int) (n : Nat) : It := ⟨fun i _ => i < n, fun i H x H' => H' = H ∧ x = .int (lo + i), fun i _ => n ≤ i⟩
theorem zk5 {P : Program} {w : World} {K : PySem.W.Frag} {tg : Expr} (a it : Addr) : Turn P w K tg (Itl K a) [it] it (fun i h => h.IsListIter it a i) where
 mem := by simp
 obj := fun i h st b hb => by
  have e : b = it := by simpa using hb
  subst e
  obtain ⟨o, e, c, d⟩ := st
  exact ⟨o, e, fun v z => by rw [d] at z; cases z⟩
 keep := fun i h h' st k => st.at fun o e => k it (by simp) o e
 item := by
  intro X hP hw hK hc i pins s σ H E I hf st hg
  subst hP hw hK
  obtain ⟨xs, x, hq, hx⟩ := hg
  obtain ⟨its, rv, p, hz⟩ := I.list hq
  obtain ⟨u, hu, ru⟩ := rv.get hx
  obtain ⟨f0, f1, f2, f3, f4, f5⟩ := hf it (by simp)
  refine wpAny_pyNext_list_item st p.isList (x := u) (by simpa using hu) fun h' st' sb => ?_
  have I1 : Inv X pins σ H { s with heap := h' } := I.turned (t' := s.toks) (fun b o hb e => (sb.2 b hb).trans e) f0 f1 f3 f4 f5
  obtain ⟨o, e, c, d⟩ := id st'
  exact ⟨u, rfl, zrk (s := { s with heap := h' }) e c d (by decide) ⟨x, H, I1, ru, ⟨rfl, fun ys hy => by rw [I.list_inj hy hq]; exact hx⟩, st', fun b hb => (hf b hb).1⟩⟩
 done := by
  intro X hP hw hK hc i pins s σ H E I hf st hg
  subst hP hw hK
  obtain ⟨xs, hq, hx⟩ := hg
  obtain ⟨its, rv, p, hz⟩ := I.list hq
  obtain ⟨f0, f1, f2, f3, f4, f5⟩ := hf it (by simp)
  have hl := rv.length
  exact wpAny_pyNext_list_end (I.ok.hd hc) st p.isList (by simp; omega) fun h' eb => ⟨rfl, I.turned (t' := s.toks) (fun b o hb e => eb b o hb e) f0 f1 f3 f4 f5⟩
 self := fun _ _ _ _ _ st h => wpAny_pyIter_listiter st h
theorem zjz {P : Program} {w : World} {K : PySem.W.Frag} {tg : Expr} (it : Addr) (lo : Int) (n : Nat) : Turn P w K tg (Itr lo n) [it] it (fun i h => IsRangeIter h it (lo + (i : Nat) * 1) ((n : Int) - (i : Nat)) 1) where
 mem := by simp
 obj := fun i h st b hb => by
  have e : b = it := by simpa using hb
  subst e
  exact ⟨_, st, fun v z => by
   have z' : Data.fields _ = Data.cell v := z
   cases z'⟩
 keep := fun i h h' st k => k it (by simp) _ st
 item := by
  intro X hP hw hK hc i pins s σ H E I hf st hg
  subst hP hw hK
  obtain ⟨f0, f1, f2, f3, f4, f5⟩ := hf it (by simp)
  have W := Walks.range (prog := X.prog) (w := X.w) (I.ok.hd hc) it lo 1 n
  refine W.item i s _ _ hg st fun v h' tk hv st' kk => ?_
  obtain ⟨t, rfl⟩ := hv
  have I1 : Inv X pins σ H { s with heap := h', toks := tk } := I.turned (fun b o hb e => kk b o (by simpa using hb) e) f0 f1 f3 f4 f5
  refine ⟨_, rfl, zrk (s := { s with heap := h', toks := tk }) (n := "range_iterator") st' rfl rfl (by decide) ⟨.int (lo + i), H, I1, ⟨t, ?_⟩, ⟨rfl, rfl⟩, st', fun b hb => (hf b hb).1⟩⟩
  rw [Int.mul_one]
 done := by
  intro X hP hw hK hc i pins s σ H E I hf st hg
  subst hP hw hK
  obtain ⟨f0, f1, f2, f3, f4, f5⟩ := hf it (by simp)
  exact wpAny_pyNext_range_end (I.ok.hd hc) st (by have : n ≤ i := hg; omega) fun h' eb => ⟨rfl, I.turned (t' := s.toks) (fun b o hb e => eb b o hb e) f0 f1 f3 f4 f5⟩
 self := fun _ _ _ _ _ st h => wpAny_pyIter_rangeiter st h
end L2
namespace L2
open PySem PySem.Spec PyProof.Rows
section
variable {X : Cx} {tg : Expr}
def zvu (K : PySem.W.Frag) (tl : TE) : TI := fun σ H R => tl σ H fun x H1 => ∃ a, x = .ref a ∧ (∃ xs, SqL K H1 a xs) ∧ R (Itl K a) H1
def iTup (K : PySem.W.Frag) (tl : TE) : TI := fun σ H R => tl σ H fun x H1 => ∃ a, x = .ref a ∧ (∃ xs, SqT K H1 a xs) ∧ R (Itt K a) H1
theorem zqm {l : Expr} {tl : TE} (hl : PE X l tl) : PI X tg l (zvu X.K tl) := by
 intro pins s σ H R I h
 refine thn (hl pins s σ H _ I h) fun v s1 ⟨x, H1, I1, r1, q1⟩ => ?_
 obtain ⟨a, e, ⟨xs, hq⟩, q⟩ := q1
 subst e
 cases r1
 obtain ⟨its, rv, p, hz⟩ := I1.list hq
 refine wpAny_pyIter_list p.isList ?_
 refine ⟨s1.heap.objs.size, [s1.heap.objs.size], _, _, H1, rfl, I1.kept (t' := s1.toks) fun b o e => Heap.get?_push_of_some _ e, zk5 a _, ⟨_, Heap.get?_push_size _ rfl, rfl, rfl⟩, fun b hb => ?_, q⟩
 have e : b = s1.heap.objs.size := by simpa using hb
 subst e
 exact I1.fpOk (Nat.le_refl _) (I1.hok.fresh (Nat.le_refl _))
theorem zjd {pins : List (Addr × Obj)} {σ : St} {H : Hp} {s : Shared} {R : It → Hp → Prop} {E : Value → Shared → Prop} {lo hi : Int} {t u v : Tok} {tk : Nat} (I : Inv X pins σ H s) (h1 : -(2 ^ 62) ≤ lo) (h2 : lo < 2 ^ 62) (h3 : -(2 ^ 62) ≤ hi) (h4 : hi < 2 ^ 62)
  (q : R (Itr lo (hi - lo).toNat) H) : wpAny (model X.prog X.w) X.A (pyIter (.ref s.heap.objs.size)) (PIE X pins σ tg R) E { s with heap := s.heap.push { cls := .type "range", data := .fields #[.int lo t, .int hi u, .int 1 v] }, toks := tk } := by
 refine wpAny_pyIter_range (IsRange.new ..) (small_one h1 h2 h3 h4) ?_
 have I1 : Inv X pins σ H { s with heap := s.heap.push { cls := .type "range", data := .fields #[.int lo t, .int hi u, .int 1 v] }, toks := tk } := I.kept fun b o e => Heap.get?_push_of_some _ e
 refine ⟨(s.heap.push { cls := .type "range", data := .fields #[.int lo t, .int hi u, .int 1 v] }).objs.size, [(s.heap.push { cls := .type "range", data := .fields #[.int lo t, .int hi u, .int 1 v] }).objs.size], _, _, H, rfl,
  I1.kept (t' := tk) fun b o e => Heap.get?_push_of_some _ e, zjz _ lo (hi - lo).toNat, ?_, fun b hb => ?_, q⟩
 ·have e1 : lo + ((0 : Nat) : Int) * 1 = lo := by simp
  have e2 : (((hi - lo).toNat : Nat) : Int) - ((0 : Nat) : Int) = Builtin.Range.rangeSize lo hi 1 := by rw [rangeSize_one]; split <;> omega
  show IsRangeIter _ _ (lo + ((0 : Nat) : Int) * 1) ((((hi - lo).toNat : Nat) : Int) - ((0 : Nat) : Int)) 1
  rw [e1, e2]
  exact Heap.get?_push_size _ rfl
 ·have e : b = (s.heap.push { cls := .type "range", data := .fields #[.int lo t, .int hi u, .int 1 v] }).objs.size := by simpa using hb
  subst e
  exact I1.fpOk (Nat.le_refl _) (I1.hok.fresh (Nat.le_refl _))
def zuh (ta : TA) : TI := fun σ H R => ta σ H fun vs H1 => ∃ j : Int, vs = [.int j] ∧ -(2 ^ 62) ≤ j ∧ j < 2 ^ 62 ∧ R (Itr 0 j.toNat) H1
def zut (ta : TA) : TI := fun σ H R => ta σ H fun vs H1 => ∃ i j : Int, vs = [.int i, .int j] ∧ (-(2 ^ 62) ≤ i ∧ i < 2 ^ 62 ∧ -(2 ^ 62) ≤ j ∧ j < 2 ^ 62) ∧ R (Itr i (j - i).toNat) H1
theorem zlj {a : Expr} {ta : TA} {p pos : Pos} (hg : Gl X "range") (hm : X.mg "range" = none) (ha : PA X [a] ta) (hs : starEach [a] X.env = [(false, eval a X.env)] := by rfl) : PI X tg (.Call (.Name "range" p) [a] [] pos) (zuh ta) := by
 intro pins s σ H R I h
 refine Call_ (zf8 I hg hm boot_range (PyProof.Rows.callWith_type1 (thn (ha pos pins s σ H _ I h) fun us s1 ⟨vs, H1, I1, r1, q1⟩ => ?_) hs rfl))
 obtain ⟨j, e, q1, q2, q⟩ := q1
 subst e
 cases r1 with
 | cons r rr =>
  cases rr
  obtain ⟨t, rfl⟩ := r
  exact call_range_1 (zjd I1 (by omega) (by omega) q1 q2 (by simpa using q))
theorem zmv {a b : Expr} {ta : TA} {p pos : Pos} (hg : Gl X "range") (hm : X.mg "range" = none) (ha : PA X [a, b] ta) (hs : starEach [a, b] X.env = [(false, eval a X.env), (false, eval b X.env)] := by rfl) (hs2 : starEach [b] X.env = [(false, eval b X.env)] := by rfl) :
  PI X tg (.Call (.Name "range" p) [a, b] [] pos) (zut ta) := by
 intro pins s σ H R I h
 refine Call_ (zf8 I hg hm boot_range (PyProof.Rows.callWith_type1 (thn (ha pos pins s σ H _ I h) fun us s1 ⟨vs, H1, I1, r1, q1⟩ => ?_) (by rw [hs, hs2]) (by rw [hs2]; rfl)))
 obtain ⟨i, j, e, ⟨q1, q2, q3, q4⟩, q⟩ := q1
 subst e
 cases r1 with
 | cons r rr =>
  cases rr with
  | cons r' rr =>
   cases rr
   obtain ⟨t, rfl⟩ := r
   obtain ⟨t', rfl⟩ := r'
   exact call_range_2 (zjd I1 q1 q2 q3 q4 q)
def tFor (wi : TI) (g : TG) (tb : TS) : TS := fun D σ H => wi σ H fun J H1 => ∃ W : Nat → Nat → St → Hp → Prop, (∃ m, W 0 m σ H1) ∧ ∀ i m σ H, W i m σ H →
 (J.stop i H ∧ D.nx σ H) ∨ (J.go i H ∧ ∃ N : St → Hp → Prop, (∀ σ' H', N σ' H' → ∃ m', m' < m ∧ W (i + 1) m' σ' H') ∧ ∀ x H', J.yld i H x H' → g x σ H' fun σ2 H2 => tb { D with nx := N, ct := N, bk := D.nx } σ2 H2)
def zhr (fp : List Addr) (h : Heap) : List (Addr × Obj) := fp.filterMap fun b => (h.get? b).map fun o => (b, o)
theorem zdc {fp : List Addr} {h : Heap} {b : Addr} {o : Obj} (hb : b ∈ fp) (e : h.get? b = some o) : (b, o) ∈ zhr fp h := List.mem_filterMap.mpr ⟨b, hb, by rw [e]; rfl⟩
theorem zms {fp : List Addr} {h : Heap} {p : Addr × Obj} (hp : p ∈ zhr fp h) : p.1 ∈ fp ∧ h.get? p.1 = some p.2 := by
 obtain ⟨b, hb, e⟩ := List.mem_filterMap.mp hp
 cases q : h.get? b with
 | none => rw [q] at e; cases e
 | some o =>
  rw [q] at e
  have e' : (b, o) = p := Option.some.inj e
  subst e'
  exact ⟨hb, q⟩
theorem Inv.pinned {pins : List (Addr × Obj)} {σ : St} {H : Hp} {s : Shared} {fp : List Addr} (I : Inv X pins σ H s) (hf : ∀ b ∈ fp, FpOk X pins H b) (ho : ∀ b ∈ fp, ∃ o, s.heap.get? b = some o ∧ ∀ v, o.data ≠ .cell v) : Inv X (pins ++ zhr fp s.heap) σ H s :=
 I.pins_of fun p hp => (List.mem_append.mp hp).elim (fun z => I.pin p (List.mem_append_right _ z)) fun z => by
  obtain ⟨hb, e⟩ := zms z
  obtain ⟨f0, f1, f2, _⟩ := hf p.1 hb
  obtain ⟨o, e', d⟩ := ho p.1 hb
  rw [e] at e'; cases e'
  exact ⟨e, f0, f1, f2, d⟩
theorem Inv.unpinned {pins pl : List (Addr × Obj)} {σ : St} {H : Hp} {s : Shared} (I : Inv X (pins ++ pl) σ H s) : Inv X pins σ H s := I.pins_of fun p hp => I.pin p (List.mem_append_right _ (List.mem_append_left _ hp))
theorem zrm {iter : Expr} {body : List Stmt} {wi : TI} {g : TG} {tb : TS} {pos : Pos} (hp : PassesOwn (model X.prog X.w) X.A X.env X.xe) (hc : X.calm = true) (hi : PI X tg iter wi) (hg : PG X tg g) (hb : PSs X body tb)
  (hs : ∀ x, foldedSetIterable iter X.env x = pure x := by intro _; rfl) : PS X (.For tg iter body [] pos) (tFor wi g tb) := by
 intro pins s σ H D I h
 refine wpAny_For (thn (hi pins s σ H _ I h) fun v s1 h1 => thn h1 fun itv s2 h2 => ?_) hs
 obtain ⟨it, fp, tn, J, H2, e, I2, T, st2, f2, W, ⟨m0, w0⟩, turn⟩ := h2
 subst e
 have stat : ∀ {H' : Hp}, (∀ b ∈ fp, H' b = none) → ∀ b ∈ fp, FpOk X pins H' b := fun hn b hb => ⟨hn b hb, (f2 b hb).2⟩
 refine codeAny_forLoop_any (fun n s' => ∃ i σ' H', Inv X pins σ' H' s' ∧ tn i s'.heap ∧ (∀ b ∈ fp, H' b = none) ∧ W i n σ' H') ?_ m0 ⟨0, σ, H2, I2, st2, fun b hb => (f2 b hb).1, w0⟩
 rintro n s3 ⟨i, σ3, H3, I3, st3, fr3, w3⟩
 rcases turn i n σ3 H3 w3 with ⟨stop, qn⟩ | ⟨go, N, hN, step⟩
 ·refine wpAny_passesOwn hp (thn (T.done X rfl rfl rfl hc i pins s3 σ3 H3 X.xe I3 (stat fr3) st3 stop) fun r s4 ⟨hr, I4⟩ => ?_)
  subst hr
  exact wpAny_execs_nil ⟨σ3, H3, I4, qn⟩
 ·refine wpAny_passesOwn hp (thn (T.item X rfl rfl rfl hc i pins s3 σ3 H3 X.xe I3 (stat fr3) st3 go) fun r s4 ⟨u, hr, h4⟩ => ?_)
  subst hr
  refine wpAny_passesOwn hp (thn h4 fun _ s5 ⟨x, H5, I5, r5, y5, st5, fr5⟩ => ?_)
  have I5' := I5.pinned (stat fr5) (T.obj _ _ st5)
  refine wpAny_passesOwn hp (thn (hg _ s5 σ3 H5 x u _ I5' r5 (step x H5 y5)) fun _ s6 ⟨σ6, H6, I6, q6⟩ => ?_)
  refine wpAny_passesOwn hp (thn (hb _ s6 σ6 H6 _ I6 q6) fun f s7 q7 => ?_)
  have again : ∀ {σ7 : St} {H7 : Hp}, Inv X (pins ++ zhr fp s5.heap) σ7 H7 s7 → N σ7 H7 → ∃ m, m < n ∧ ∃ i σ' H', Inv X pins σ' H' s7 ∧ tn i s7.heap ∧ (∀ b ∈ fp, H' b = none) ∧ W i m σ' H' := fun {σ7 H7} I7 n7 => by
   obtain ⟨m', hm, w7⟩ := hN σ7 H7 n7
   refine ⟨m', hm, i + 1, σ7, H7, I7.unpinned, T.keep _ _ _ st5 fun b hb o e => (I7.pin (b, o) (List.mem_append_right _ (List.mem_append_right _ (zdc hb e)))).1, fun b hb => ?_, w7⟩
   obtain ⟨o, e, d⟩ := T.obj _ _ st5 b hb
   exact (I7.pin (b, o) (List.mem_append_right _ (List.mem_append_right _ (zdc hb e)))).2.1
  cases f with
  | next => obtain ⟨σ7, H7, I7, n7⟩ := q7; exact again I7 n7
  | cont => obtain ⟨σ7, H7, I7, n7⟩ := q7; exact again I7 n7
  | brk => obtain ⟨σ7, H7, I7, q7⟩ := q7; exact ⟨σ7, H7, I7.unpinned, q7⟩
  | ret v => obtain ⟨x7, σ7, H7, I7, r7, q7⟩ := q7; exact ⟨x7, σ7, H7, I7.unpinned, r7, q7⟩
end
end L2
namespace L2
open PySem PySem.Spec PyProof.Rows
abbrev R2 := V → V → Hp → VK → Prop
def OpR (X : Cx) (f : Value → Value → Sem Value) (r : R2) : Prop :=
 ∀ (pins : List (Addr × Obj)) (s : Shared) (σ : St) (H : Hp) (x y : V) (v u : Value) (Q : VK), Inv X pins σ H s → RelV x v → RelV y u → r x y H Q →
  wpAny (model X.prog X.w) X.A (f v u) (EP X pins σ Q) X.xe s
def UnR (X : Cx) (f : Value → Sem Value) (r : V → Hp → VK → Prop) : Prop :=
 ∀ (pins : List (Addr × Obj)) (s : Shared) (σ : St) (H : Hp) (x : V) (v : Value) (Q : VK), Inv X pins σ H s → RelV x v → r x H Q →
  wpAny (model X.prog X.w) X.A (f v) (EP X pins σ Q) X.xe s
def zdp (X : Cx) (f : Value) (r : List V → Hp → VK → Prop) : Prop :=
 ∀ (pins : List (Addr × Obj)) (s : Shared) (σ : St) (H : Hp) (xs : List V) (us : List Value) (Q : VK), Inv X pins σ H s → Vals xs us → r xs H Q →
  wpAny (model X.prog X.w) X.A (call f us) (EP X pins σ Q) X.xe s
def TruR (X : Cx) (r : V → Hp → (Bool → Hp → Prop) → Prop) : Prop :=
 ∀ (pins : List (Addr × Obj)) (s : Shared) (σ : St) (H : Hp) (x : V) (v : Value) (Q : Bool → Hp → Prop), Inv X pins σ H s → RelV x v → r x H Q →
  wpAny (model X.prog X.w) X.A (truthy v) (TP X pins σ Q) X.xe s
def tOp (r : R2) (ta tb : TE) : TE := fun σ H Q => ta σ H fun x H1 => tb σ H1 fun y H2 => r x y H2 Q
def tUn (r : V → Hp → VK → Prop) (ta : TE) : TE := fun σ H Q => ta σ H fun x H1 => r x H1 Q
def rI (C : Int → Int → Prop) (g : Int → Int → V) : R2 := fun x y H Q => ∃ i j, x = .int i ∧ y = .int j ∧ C i j ∧ Q (g i j) H
def rI0 (g : Int → Int → V) : R2 := fun x y H Q => ∃ i j, x = .int i ∧ y = .int j ∧ Q (g i j) H
def rU (g : Int → V) : V → Hp → VK → Prop := fun x H Q => ∃ i, x = .int i ∧ Q (g i) H
section
variable {X : Cx} {a b c : Expr} {ta tb tc : TE} {pos : Pos}
theorem binT (ha : PE X a ta) (hb : PE X b tb) {pins : List (Addr × Obj)} {s : Shared} {σ : St} {H : Hp} {R : V → V → Hp → Prop} (I : Inv X pins σ H s)
  (h : ta σ H fun x H1 => tb σ H1 fun y H2 => R x y H2) {Q : Value → Shared → Prop} {f : Value → Value → Sem Value}
  (hf : ∀ v u s2 x y H2, Inv X pins σ H2 s2 → RelV x v → RelV y u → R x y H2 → wpAny (model X.prog X.w) X.A (f v u) Q X.xe s2) :
  wpAny (model X.prog X.w) X.A (eval a X.env) (fun v s₁ => wpAny (model X.prog X.w) X.A (eval b X.env) (fun u s₂ => wpAny (model X.prog X.w) X.A (f v u) Q X.xe s₂) X.xe s₁) X.xe s := by
 refine thn (ha pins s σ H _ I h) fun v s1 ⟨x, H1, I1, r1, q1⟩ => ?_
 refine thn (hb pins s1 σ H1 _ I1 q1) fun u s2 ⟨y, H2, I2, r2, q2⟩ => ?_
 exact hf v u s2 x y H2 I2 r1 r2 q2
theorem zvk {op : Operator} {r : R2} (ho : OpR X (binaryOp op) r) (ha : PE X a ta) (hb : PE X b tb) : PE X (.BinOp a op b pos) (tOp r ta tb) := by
 intro pins s σ H Q I h
 exact wpAny_BinOp (binT ha hb I h fun v u s2 x y H2 I2 rx ry q => ho pins s2 σ H2 x y v u Q I2 rx ry q)
theorem zvt {op : UnaryOp} {r : V → Hp → VK → Prop} (ho : UnR X (unaryOp op) r) (ha : PE X a ta) : PE X (.UnaryOp op a pos) (tUn r ta) := by
 intro pins s σ H Q I h
 exact UnaryOp_ (thn (ha pins s σ H _ I h) fun v s1 ⟨x, H1, I1, r1, q1⟩ => ho pins s1 σ H1 x v Q I1 r1 q1)
theorem opI {f : Value → Value → Sem Value} {C : Int → Int → Prop} {g : Int → Int → Int}
  (rule : ∀ (i j : Int) (t u : Tok) (s : Shared) (Q : Value → Shared → Prop) (E : Value → Shared → Prop), C i j → Q (.int (g i j) s.toks) { s with toks := s.toks + 1 } → wpAny (model X.prog X.w) X.A (f (.int i t) (.int j u)) Q E s) :
  OpR X f (rI C fun i j => .int (g i j)) := by
 intro pins s σ H x y v u Q I rx ry h
 obtain ⟨i, j, rfl, rfl, hc, q⟩ := h
 obtain ⟨t, rfl⟩ := rx
 obtain ⟨t', rfl⟩ := ry
 exact rule i j t t' s _ _ hc ⟨.int (g i j), H, I.tok _, ⟨_, rfl⟩, q⟩
theorem opI0 {f : Value → Value → Sem Value} {g : Int → Int → Int}
  (rule : ∀ (i j : Int) (t u : Tok) (s : Shared) (Q : Value → Shared → Prop) (E : Value → Shared → Prop), Q (.int (g i j) s.toks) { s with toks := s.toks + 1 } → wpAny (model X.prog X.w) X.A (f (.int i t) (.int j u)) Q E s) :
  OpR X f (rI0 fun i j => .int (g i j)) := by
 intro pins s σ H x y v u Q I rx ry h
 obtain ⟨i, j, rfl, rfl, q⟩ := h
 obtain ⟨t, rfl⟩ := rx
 obtain ⟨t', rfl⟩ := ry
 exact rule i j t t' s _ _ ⟨.int (g i j), H, I.tok _, ⟨_, rfl⟩, q⟩
theorem opB0 {f : Value → Value → Sem Value} {g : Int → Int → Bool}
  (rule : ∀ (i j : Int) (t u : Tok) (s : Shared) (Q : Value → Shared → Prop) (E : Value → Shared → Prop), Q (.bool (g i j)) s → wpAny (model X.prog X.w) X.A (f (.int i t) (.int j u)) Q E s) :
  OpR X f (rI0 fun i j => .bl (g i j)) := by
 intro pins s σ H x y v u Q I rx ry h
 obtain ⟨i, j, rfl, rfl, q⟩ := h
 obtain ⟨t, rfl⟩ := rx
 obtain ⟨t', rfl⟩ := ry
 exact rule i j t t' s _ _ ⟨.bl (g i j), H, I, rfl, q⟩
def CDiv (i j : Int) : Prop := 0 < j ∧ j < 1073741824
def CDivN (i j : Int) : Prop := j ≠ 0 ∧ j.natAbs < 1073741824
def CPow (i j : Int) : Prop := 0 ≤ j ∧ j ≤ 1000000 ∧ i.natAbs < 2 ^ 64
def CMul (i j : Int) : Prop := (-(2 ^ 64) < i ∧ i < 2 ^ 64) ∨ (-(2 ^ 64) < j ∧ j < 2 ^ 64)
theorem CMul.ok {i j : Int} (h : CMul i j) : IntMulOk i j := by
 rcases h with ⟨h1, h2⟩ | ⟨h1, h2⟩
 ·exact .of_left (intBits_le_64 h1 h2)
 ·exact .of_right (intBits_le_64 h1 h2)
theorem op_add : OpR X (binaryOp .Add) (rI0 fun i j => .int (i + j)) := opI0 fun _ _ _ _ _ _ _ q => add_int q
theorem zhc : OpR X (binaryOp .Sub) (rI0 fun i j => .int (i - j)) := opI0 fun _ _ _ _ _ _ _ q => sub_int q
theorem op_mul : OpR X (binaryOp .Mult) (rI CMul fun i j => .int (i * j)) := opI fun _ _ _ _ _ _ _ hc q => mul_int q hc.ok
theorem zbd : OpR X (binaryOp .FloorDiv) (rI CDiv fun i j => .int (i / j)) := opI fun i j _ _ _ _ _ hc q => by
 have h1 : (0 : Int) < j := hc.1
 have h2 : j < 1073741824 := hc.2
 exact floordiv_int (by omega) (by rw [Int.fdiv_eq_ediv_of_nonneg i (by omega)]; exact q) (.inl (PyProof.noPylong_small (by omega)))
theorem za5 : OpR X (binaryOp .Mod) (rI (fun _ j => 0 < j) fun i j => .int (i % j)) := opI fun i j _ _ _ _ _ hc q => by
 have h1 : (0 : Int) < j := hc
 exact mod_int' (by omega) (by rw [Int.fmod_eq_emod_of_nonneg i (by omega)]; exact q)
theorem zi2 : OpR X (binaryOp .Pow) (rI CPow fun i j => .int (i ^ j.toNat)) := opI fun _ _ _ _ _ _ _ hc q => pow_int_small hc.1 hc.2.1 hc.2.2 q
theorem unI {f : Value → Sem Value} {g : Int → Int}
  (rule : ∀ (i : Int) (t : Tok) (s : Shared) (Q : Value → Shared → Prop) (E : Value → Shared → Prop), Q (.int (g i) s.toks) { s with toks := s.toks + 1 } → wpAny (model X.prog X.w) X.A (f (.int i t)) Q E s) :
  UnR X f (rU fun i => .int (g i)) := by
 intro pins s σ H x v Q I rx h
 obtain ⟨i, rfl, q⟩ := h
 obtain ⟨t, rfl⟩ := rx
 exact rule i t s _ _ ⟨.int (g i), H, I.tok _, ⟨_, rfl⟩, q⟩
theorem zs7 : UnR X (unaryOp .USub) (rU fun i => .int (-i)) := unI fun _ _ _ _ _ q => neg_int q
end
def scal : V → V → Bool
 | .non, .non => true | .non, .int _ => true | .int _, .non => true | .non, .bl _ => true | .bl _, .non => true | .non, .str _ => true | .str _, .non => true
 | .int _, .int _ => true | .bl _, .bl _ => true | .str _, .str _ => true | .byt _, .byt _ => true
 | .int _, .str _ => true | .str _, .int _ => true | .bl _, .str _ => true | .str _, .bl _ => true
 | _, _ => false
def rEq : R2 := fun x y H Q => scal x y = true ∧ Q (.bl (decide (x = y))) H
def rNe : R2 := fun x y H Q => scal x y = true ∧ Q (.bl (!decide (x = y))) H
section
variable {X : Cx} {a b c : Expr} {ta tb tc : TE} {pos : Pos}
theorem zo3 {pins : List (Addr × Obj)} {σ : St} {H : Hp} {s : Shared} {Q : VK} {k k' : Bool} (I : Inv X pins σ H s) (q : Q (.bl k) H) (e : k = k') : EP X pins σ Q (.bool k') s := by
 subst e
 exact ⟨.bl k, H, I, rfl, q⟩
theorem zkn : OpR X (compareOp .Lt) (rI0 fun i j => .bl (decide (i < j))) := opB0 fun _ _ _ _ _ _ _ q => lt_int q
theorem zkq : OpR X (compareOp .LtE) (rI0 fun i j => .bl (decide (i ≤ j))) := opB0 fun _ _ _ _ _ _ _ q => le_int q
theorem zpw : OpR X (compareOp .Gt) (rI0 fun i j => .bl (decide (j < i))) := opB0 fun _ _ _ _ _ _ _ q => gt_int q
theorem zn8 : OpR X (compareOp .GtE) (rI0 fun i j => .bl (decide (j ≤ i))) := opB0 fun _ _ _ _ _ _ _ q => ge_int q
theorem ztp : OpR X (compareOp .Is) (fun x y H Q => y = .non ∧ Q (.bl (decide (x = .non))) H) := by
 intro pins s σ H x y v u Q I rx ry h
 obtain ⟨rfl, q⟩ := h
 cases ry
 refine is_none_gen (zo3 I q ?_)
 cases x <;> first
  | (cases rx; rfl)
  | (obtain ⟨t, rfl⟩ := rx; rfl)
theorem zmu : OpR X (compareOp .IsNot) (fun x y H Q => y = .non ∧ Q (.bl (!decide (x = .non))) H) := by
 intro pins s σ H x y v u Q I rx ry h
 obtain ⟨rfl, q⟩ := h
 cases ry
 refine isnot_none_gen (zo3 I q ?_)
 cases x <;> first
  | (cases rx; rfl)
  | (obtain ⟨t, rfl⟩ := rx; rfl)
def isObj : HO → Bool
 | .lst _ => true
 | .ins _ _ _ => true
 | _ => false
theorem OpR.or {f : Value → Value → Sem Value} {r r' : R2} (h : OpR X f r) (h' : OpR X f r') : OpR X f (fun x y H Q => r x y H Q ∨ r' x y H Q) := by
 intro pins s σ H x y v u Q I rx ry q
 rcases q with q | q
 ·exact h pins s σ H x y v u Q I rx ry q
 ·exact h' pins s σ H x y v u Q I rx ry q
theorem zay (b : Expr) {op : CmpOp} (h : op ≠ .In := by decide) (h2 : op ≠ .NotIn := by decide) : behindInMarks op b = false := by
 have e1 : (op == CmpOp.In) = false := by cases op <;> first | rfl | exact absurd rfl h
 have e2 : (op == CmpOp.NotIn) = false := by cases op <;> first | rfl | exact absurd rfl h2
 cases b <;> simp [behindInMarks, e1, e2]
theorem zp4 {op : CmpOp} {r : R2} (ho : OpR X (compareOp op) r) (ha : PE X a ta) (hb : PE X b tb) (hm : behindInMarks op b = false) : PE X (.Compare a [op] [b] pos) (tOp r ta tb) := by
 intro pins s σ H Q I h
 exact wpAny_Compare1 (binT ha hb I h fun v u s2 x y H2 I2 rx ry q => ho pins s2 σ H2 x y v u Q I2 rx ry q) hm
def zsd (t : TE) : TT := fun σ H Q => t σ H fun x H' => ∃ k, x = .bl k ∧ Q k H'
theorem zqv {op : CmpOp} {r : R2} (ho : OpR X (compareOp op) r) (ha : PE X a ta) (hb : PE X b tb) (hm : behindInMarks op b = false) : PT X (.Compare a [op] [b] pos) (zsd (tOp r ta tb)) := by
 intro pins s σ H Q I h
 refine wpAny_isTrue_Compare1 (thn (ha pins s σ H _ I h) fun v s1 ⟨x, H1, I1, r1, q1⟩ => thn (hb pins s1 σ H1 _ I1 q1) fun u s2 ⟨y, H2, I2, r2, q2⟩ =>
  thn (ho pins s2 σ H2 x y v u _ I2 r1 r2 q2) fun c s3 ⟨z, H3, I3, r3, k, e, q3⟩ => ?_) hm
 subst e
 cases r3
 exact wpAny_truthy_bool ⟨H3, I3, q3⟩
def zl9 (r r' : R2) (ta tb tc : TE) : TE := fun σ H Q => ta σ H fun x H1 => tb σ H1 fun y H2 => r x y H2 fun z H3 => ∃ k, z = .bl k ∧
 (if k = true then tc σ H3 fun w' H4 => r' y w' H4 Q else Q (.bl false) H3)
theorem zog {op op' : CmpOp} {r r' : R2} (ho : OpR X (compareOp op) r) (ho' : OpR X (compareOp op') r') (ha : PE X a ta) (hb : PE X b tb) (hc : PE X c tc)
  (hm : lastMarks [op, op'] [b, c] = false := by with_unfolding_all rfl) : PE X (.Compare a [op, op'] [b, c] pos) (zl9 r r' ta tb tc) := by
 intro pins s σ H Q I h
 refine Compare_chain (thn (ha pins s σ H _ I h) fun v s1 ⟨x, H1, I1, r1, q1⟩ => chain_link (thn (hb pins s1 σ H1 _ I1 q1) fun u s2 ⟨y, H2, I2, r2, q2⟩ =>
  thn (ho pins s2 σ H2 x y v u _ I2 r1 r2 q2) fun d s3 ⟨z, H3, I3, r3, k, e, q3⟩ => ?_)) hm
 subst e
 cases r3
 refine wpAny_truthy_bool ?_
 cases k with
 | false => exact ite_ff ⟨.bl false, H3, I3, rfl, q3⟩
 | true => exact ite_tt (chain_last (thn (hc pins s3 σ H3 _ I3 q3) fun w' s4 ⟨z', H4, I4, r4, q4⟩ => ho' pins s4 σ H4 y z' u w' Q I4 r2 r4 q4))
theorem zol {op op' : CmpOp} {r r' : R2} (ho : OpR X (compareOp op) r) (ho' : OpR X (compareOp op') r') (ha : PE X a ta) (hb : PE X b tb) (hc : PE X c tc)
  (hm : lastMarks [op, op'] [b, c] = false := by with_unfolding_all rfl) : PT X (.Compare a [op, op'] [b, c] pos) (zsd (zl9 r r' ta tb tc)) := by
 intro pins s σ H Q I h
 refine isTrue_chain (thn (ha pins s σ H _ I h) fun v s1 ⟨x, H1, I1, r1, q1⟩ => test_link (thn (hb pins s1 σ H1 _ I1 q1) fun u s2 ⟨y, H2, I2, r2, q2⟩ =>
  thn (ho pins s2 σ H2 x y v u _ I2 r1 r2 q2) fun d s3 ⟨z, H3, I3, r3, k, e, q3⟩ => ?_)) hm
 subst e
 cases r3
 refine wpAny_truthy_bool ?_
 cases k with
 | false =>
  obtain ⟨k', e', q'⟩ := q3
  cases e'
  exact ite_ff ⟨H3, I3, q'⟩
 | true =>
  refine ite_tt (test_last (thn (hc pins s3 σ H3 _ I3 q3) fun w' s4 ⟨z', H4, I4, r4, q4⟩ => thn (ho' pins s4 σ H4 y z' u w' _ I4 r2 r4 q4) fun d' s5 ⟨z2, H5, I5, r5, k2, e2, q5⟩ => ?_))
  subst e2
  cases r5
  exact wpAny_truthy_bool ⟨H5, I5, q5⟩
def TruV (K : PySem.W.Frag) (x : V) (H : Hp) (k : Bool) : Prop :=
 match x with
 | .non => k = false
 | .bl b => k = b
 | .int i => k = (i != 0)
 | .str y => y.length ≤ sizeLine ∧ k = ((y.length : Int) != 0)
 | .byt y => y.size ≤ sizeLine ∧ k = ((y.size : Int) != 0)
 | .ref p => (∃ xs, SqL K H p xs ∧ k = !xs.isEmpty) ∨ (∃ xs, SqT K H p xs ∧ k = !xs.isEmpty) ∨ ∃ kvs, H p = some (.dK kvs) ∧ k = !kvs.isEmpty
 | _ => False
theorem zke {κ : Type} {kvs : List (κ × V)} {vs : List (κ × Value)} (r : KV kvs vs) : (!vs.isEmpty) = !kvs.isEmpty := by
 cases r <;> rfl
theorem zf9 {xs : List V} {its : List Value} (r : Vals xs its) : (!its.toArray.isEmpty) = !xs.isEmpty := by
 cases r <;> simp
theorem zga : (sizeLine : Nat) < 2 ^ 63 := by rw [sizeLine_eq]; decide
theorem ztr : TruR X (fun x H Q => ∃ k, TruV X.K x H k ∧ Q k H) := by
 intro pins s σ H x v Q I rx h
 obtain ⟨k, e, q⟩ := h
 have hl := zga
 have hs : sizeLine = 16777216 := sizeLine_eq
 cases x with
 | non =>
  cases rx
  have e' : k = false := e
  subst e'
  exact truthy_none ⟨H, I, q⟩
 | bl b =>
  cases rx
  have e' : k = b := e
  subst e'
  exact wpAny_truthy_bool ⟨H, I, q⟩
 | int i =>
  obtain ⟨t, rfl⟩ := rx
  have e' : k = (i != 0) := e
  subst e'
  exact PySem.P.truthy_int ⟨H, I, q⟩
 | str y =>
  obtain ⟨t, rfl⟩ := rx
  obtain ⟨hy, e'⟩ : y.length ≤ sizeLine ∧ k = ((y.length : Int) != 0) := e
  subst e'
  exact PySem.P.truthy_str (by omega) ⟨H, I.tok _, q⟩
 | byt y =>
  obtain ⟨t, rfl⟩ := rx
  obtain ⟨hy, e'⟩ : y.size ≤ sizeLine ∧ k = ((y.size : Int) != 0) := e
  subst e'
  exact PySem.W.truthy_bytes (by omega) ⟨H, I.tok _, q⟩
 | ref p =>
  cases rx
  have e' : (∃ xs, SqL X.K H p xs ∧ k = !xs.isEmpty) ∨ (∃ xs, SqT X.K H p xs ∧ k = !xs.isEmpty) ∨ ∃ kvs, H p = some (.dK kvs) ∧ k = !kvs.isEmpty := e
  rcases e' with ⟨xs, hx, e'⟩ | ⟨xs, hx, e'⟩ | ⟨kvs, hx, e'⟩
  ·subst e'
   obtain ⟨its, r, pl, hz⟩ := I.list hx
   have hlen := r.length
   exact wpAny_truthy_list pl.isList (by simp only [List.size_toArray]; omega) ⟨H, I.tok _, by rw [zf9 r]; exact q⟩
  ·subst e'
   obtain ⟨its, r, pl, hz⟩ := I.tuple hx
   have hlen := r.length
   exact truthy_tuple pl (by simp only [List.size_toArray]; omega) ⟨H, I.tok _, by rw [zf9 r]; exact q⟩
  ·subst e'
   obtain ⟨hz, hS, vs, r, m⟩ : kvs.length ≤ sizeLine ∧ (p == sysModules) = false ∧ ∃ vs, KV kvs vs ∧ s.heap.DictOf (zar X.prog X.w) p vs := I.hok p _ hx
   have hlen : kvs.length = vs.length := Paired.length r
   exact wpAny_truthy_dict hS m (by omega) ⟨H, I.tok _, by rw [zke r]; exact q⟩
 | _ => exact (show False from e).elim
theorem zny (ha : PE X a ta) (he : ∀ whole, isTrue a X.env whole = (do let v ← whole; standAt a.pos; holding [v] (truthy v))) :
  PT X a (fun σ H Q => ta σ H fun x H' => ∃ k, TruV X.K x H' k ∧ Q k H') := by
 intro pins s σ H Q I h
 exact isTrue_plain (thn (ha pins s σ H _ I h) fun v s1 ⟨x, H1, I1, r1, q1⟩ => ztr pins s1 σ H1 x v Q I1 r1 q1) (he _)
theorem op_add_str : OpR X (binaryOp .Add) (fun x y H Q => ∃ i j, x = .str i ∧ y = .str j ∧ i.length + j.length ≤ sizeLine ∧ Q (.str (i ++ j)) H) := by
 intro pins s σ H x y v u Q I rx ry h
 obtain ⟨i, j, rfl, rfl, hz, q⟩ := h
 obtain ⟨t, rfl⟩ := rx
 obtain ⟨t', rfl⟩ := ry
 exact add_str (fun t' tk => ⟨.str (i ++ j), H, I.tok _, ⟨_, rfl⟩, q⟩) hz
def PlainIxT (b : Expr) : Prop := ∀ o i, subscripted b false o i = operate [o, i] (getItem o i)
theorem zkr {x : V} {us : List Value} (r : Vals [x] us) : ∃ u, us = [u] ∧ RelV x u := by
 cases r with
 | cons r1 r2 => cases r2; exact ⟨_, rfl, r1⟩
theorem zqk {x y : V} {us : List Value} (r : Vals [x, y] us) : ∃ u w', us = [u, w'] ∧ RelV x u ∧ RelV y w' := by
 cases r with
 | cons r1 r2 =>
  cases r2 with
  | cons r3 r4 => cases r4; exact ⟨_, _, rfl, r1, r3⟩
theorem zm3 (hc : X.calm = true) : zdp X (.builtin "max") (fun xs H Q => ∃ i j, xs = [.int i, .int j] ∧ Q (.int (if j > i then j else i)) H) := by
 intro pins s σ H xs us Q I r h
 obtain ⟨i, j, rfl, q⟩ := h
 obtain ⟨u, w', rfl, ⟨t, rfl⟩, ⟨t', rfl⟩⟩ := zqk r
 refine max_two_ints (I.ok.hd hc) fun h' tk k => ⟨_, H, I.kept k, ?_, q⟩
 by_cases hj : j > i
 ·rw [if_pos hj, if_pos hj]; exact ⟨_, rfl⟩
 ·rw [if_neg hj, if_neg hj]; exact ⟨_, rfl⟩
theorem zly (hc : X.calm = true) : zdp X (.builtin "min") (fun xs H Q => ∃ i j, xs = [.int i, .int j] ∧ Q (.int (if j < i then j else i)) H) := by
 intro pins s σ H xs us Q I r h
 obtain ⟨i, j, rfl, q⟩ := h
 obtain ⟨u, w', rfl, ⟨t, rfl⟩, ⟨t', rfl⟩⟩ := zqk r
 refine min_two_ints (I.ok.hd hc) fun h' tk k => ⟨_, H, I.kept k, ?_, q⟩
 by_cases hj : j < i
 ·rw [if_pos hj, if_pos hj]; exact ⟨_, rfl⟩
 ·rw [if_neg hj, if_neg hj]; exact ⟨_, rfl⟩
theorem zky : zdp X (.type "int") (fun xs H Q => (∃ i, xs = [.int i] ∧ Q (.int i) H) ∨ ∃ k, xs = [.bl k] ∧ Q (.int (if k then 1 else 0)) H) := by
 intro pins s σ H xs us Q I r h
 rcases h with ⟨i, rfl, q⟩ | ⟨k, rfl, q⟩
 ·obtain ⟨u, rfl, t, rfl⟩ := zkr r
  exact call_int_int ⟨.int i, H, I, ⟨_, rfl⟩, q⟩
 ·obtain ⟨u, rfl, r1⟩ := zkr r
  cases r1
  exact call_int_bool ⟨.int (if k then 1 else 0), H, I.tok _, ⟨_, rfl⟩, q⟩
def LenV (K : PySem.W.Frag) (x : V) (H : Hp) (n : Nat) : Prop :=
 match x with
 | .str y => y.length ≤ sizeLine ∧ n = y.length
 | .byt y => y.size ≤ sizeLine ∧ n = y.size
 | .ref p => (∃ xs, SqL K H p xs ∧ n = xs.length) ∨ ∃ xs, SqT K H p xs ∧ n = xs.length
 | _ => False
theorem znq : zdp X (.builtin "len") (fun xs H Q => ∃ x n, xs = [x] ∧ LenV X.K x H n ∧ Q (.int n) H) := by
 intro pins s σ H xs us Q I r h
 obtain ⟨x, n, rfl, e, q⟩ := h
 obtain ⟨u, rfl, rx⟩ := zkr r
 have hl := zga
 have hs : sizeLine = 16777216 := sizeLine_eq
 cases x with
 | str y =>
  obtain ⟨t, rfl⟩ := rx
  obtain ⟨hy, e'⟩ : y.length ≤ sizeLine ∧ n = y.length := e
  subst e'
  exact len_str (by omega) ⟨.int _, H, I.tok _, ⟨_, rfl⟩, q⟩
 | byt y =>
  obtain ⟨t, rfl⟩ := rx
  obtain ⟨hy, e'⟩ : y.size ≤ sizeLine ∧ n = y.size := e
  subst e'
  exact PySem.W.len_bytes (by omega) ⟨.int _, H, I.tok _, ⟨_, rfl⟩, q⟩
 | ref p =>
  cases rx
  have e' : (∃ xs, SqL X.K H p xs ∧ n = xs.length) ∨ ∃ xs, SqT X.K H p xs ∧ n = xs.length := e
  rcases e' with ⟨xs, hx, e'⟩ | ⟨xs, hx, e'⟩
  ·subst e'
   obtain ⟨its, r', pl, hz⟩ := I.list hx
   have hlen := r'.length
   exact Calls.call_len_list pl.isList (by simp only [List.size_toArray]; omega) ⟨.int xs.length, H, I.tok _, ⟨_, by simp only [List.size_toArray]; rw [hlen]⟩, q⟩
  ·subst e'
   obtain ⟨its, r', pl, hz⟩ := I.tuple hx
   have hlen := r'.length
   exact len_tuple pl (by simp only [List.size_toArray]; omega) ⟨.int xs.length, H, I.tok _, ⟨_, by simp only [List.size_toArray]; rw [hlen]⟩, q⟩
 | _ => exact (show False from e).elim
end
end L2
namespace L2
open PySem PySem.Spec PyProof.Rows
structure ObjM (h : Heap) (x dx C : Addr) (mA : Str → Option Value) : Prop where
 obj : h.get? x = some (PySem.W.instObj C dx)
 ns : h.Ns1 dx mA
 ne : dx ≠ x
theorem zl0 {h : Heap} {dx : Addr} {mA : Str → Option Value} (n : h.Ns1 dx mA) : ∃ od, h.get? dx = some od ∧ ∀ name, PySem.W.lookIn name od = some (mA name) := by
 obtain ⟨o, es, ep, ho, hd, hk, _, hm⟩ := n
 refine ⟨o, ho, fun name => ?_⟩
 have e := hm name
 unfold nsFind findBy at e
 rw [← Array.find?_toList] at e
 unfold PySem.W.lookIn
 rw [hd]
 dsimp only
 split
 ·rename_i y q
  rw [q] at e
  exact congrArg some e
 ·rename_i q
  rw [q] at e
  have a : es.toList.any (·.refKey) = false := by
   rw [List.any_eq_false]
   intro y hy
   obtain ⟨z, t, hkey⟩ := hk y (Array.mem_toList_iff.mp hy)
   simp [DictEntry.refKey, hkey]
  have a' : ¬ es.toList.any (·.refKey) = true := by rw [a]; exact Bool.false_ne_true
  rw [if_neg a']
  exact congrArg some e
theorem ObjM.look {h : Heap} {x dx C : Addr} {mA : Str → Option Value} (I : ObjM h x dx C mA) : ∃ od, PySem.W.InstAt h x (PySem.W.instObj C dx) C (some od) ∧ ∀ name, PySem.W.lookIn name od = some (mA name) :=
 let ⟨od, ho, hl⟩ := zl0 I.ns
 ⟨od, ⟨I.obj, rfl, rfl, ho⟩, hl⟩
section
variable {prog : Program} {w : World} {A : Around} {E : Value → Shared → Prop} {s : Shared} {K : PySem.W.Frag} {x dx C f : Addr} {mA : Str → Option Value} {name : Str} {v : Value}
theorem zra {expr : Bool} {Q : Value → Shared → Prop} (X : K.In s.heap) (I : ObjM s.heap x dx C mA) (hg : PySem.W.plainGet K C name = true) (hh : PySem.W.hasDictIn K C = true)
  (ha : PySem.W.findIn K (.ref C) name = some none) (hv : mA name = some v) (hv' : PySem.W.handedIn v = true) (h : Q v { s with toks := s.toks + 1 }) :
  wpAny (model prog w) A (getAttr (.ref x) name expr) Q E s := by
 obtain ⟨od, J, hl⟩ := I.look
 exact PySem.W.get_value X J (PySem.W.plainGet_of hg).1 (PySem.W.findObj_own hh ha rfl (by rw [hl, hv])) hv' h
theorem zn4 {pl : Sem Bool} {Q : Value × List Value → Shared → Prop} (X : K.In s.heap) (I : ObjM s.heap x dx C mA) (hg : PySem.W.plainGet K C name = true)
  (hf : PySem.W.findIn K (.ref C) name = some (some (.ref f))) (ht : PySem.W.isFn K (.ref f) = true) (hv : mA name = none) (h : Q (.ref f, [.ref x]) s) :
  wpAny (model prog w) A (getMethod (.ref x) name pl) Q E s := by
 obtain ⟨od, J, hl⟩ := I.look
 exact PySem.W.method_fn X J (PySem.W.plainGet_of hg).1 (PySem.W.plainGet_of hg).2 hf (beq_iff_eq.mp ht) (by show (PySem.W.lookIn name od).map (·.isSome) = some false; rw [hl, hv]; rfl) h
theorem zqr {ns : List Str} {Q : Unit → Shared → Prop} (X : K.In s.heap) (I : ObjM s.heap x dx C mA)
  (hs : PySem.W.findIn K (.ref C) "__setattr__" = some (some (.builtin "object.__setattr__"))) (hp : PySem.W.plainOver K C = true) (ht : PySem.W.takerIn K C name = some none) (hh : PySem.W.hasDictIn K C = true)
  (hw : PySem.Within mA ns) (hsz : ns.length ≤ sizeLine)
  (h : ∀ h', ObjM h' x dx C (fun y => if y = name then some v else mA y) → Heap.SameBut dx s.heap h' → Q () { s with heap := h', toks := s.toks + 2 }) :
  wpAny (model prog w) A (setAttr (.ref x) name v) Q E s := by
 obtain ⟨od, J, hl⟩ := I.look
 refine PySem.W.set_plain X J hs (PySem.W.osa_open (s := { s with toks := s.toks + 1 }) (r := none) X J hp ht fun b => ?_)
 obtain ⟨cd, hc, hd'⟩ := PySem.W.any_some hh
 have hx : s.heap.get? x = some ⟨.ref C, some dx, .plain, #[]⟩ := I.obj
 refine wpAny_bind (wpAny_pure (wpAny_bind (wpAny_bind (wpAny_loadPart hx (wpAny_bind (PySem.W.Looks.here (s := { s with toks := s.toks + 1 }) (PySem.W.looks_clsIn X hc) ?_))))))
 rw [hd']
 refine wpAny_pure (a := some dx) (wpAny_bind (wpAny_pure (wpAny_bind ?_)))
 refine wpAny_nsSet1 (s := { s with toks := s.toks + 1 }) I.ns fun h' hn2 hs2 => ?_
 obtain ⟨oD, esD, epD, hoD, hdD, hcD⟩ := hn2.count (PySem.Within.cons name v hw)
 refine wpAny_bind (wpAny_lookBehind hoD (by rw [hdD]; exact pastItsLine_dict (Nat.le_trans hcD (by rw [List.length_cons]; omega))) ?_)
 exact wpAny_pure (h _ ⟨(hs2.2 _ (Ne.symm I.ne)).trans I.obj, hn2, I.ne⟩ hs2)
theorem zof {R : Result → Shared → Prop} {vs : List Value} {kw : List (Str × Value)} (X : K.In s.heap) (hm : PySem.W.makesIn K C = true)
  (hi : PySem.W.findIn K (.ref C) "__init__" = some (some (.ref f))) (hf : PySem.W.typeIn K (.ref f) = some (.type "function"))
  (h : codeAny (model prog w) (A.under (.builtin "type.__call__" ⟨.ref C :: vs, kw⟩)) (.call (.ref f) ⟨.ref (s.heap.objs.size + 1) :: vs, kw⟩) (PySem.W.InitBack (s.heap.objs.size + 1) R)
   { s with heap := (s.heap.push PySem.W.emptyDict).push (PySem.W.instObj C s.heap.objs.size) }) :
  codeAny (model prog w) A (.call (.ref C) ⟨vs, kw⟩) R s := by
 obtain ⟨hh, g, d, t, os⟩ := s
 exact PySem.W.make_core (PySem.W.makes_of X hm) (PySem.W.looks_findIn X hi) (fun self => PySem.W.bind_fn X self hf) (.inl rfl) h
end
def putF (f : Str) (v : V) : List (Str × V) → List (Str × V)
 | [] => [(f, v)]
 | (g, x) :: r => if g = f then (g, v) :: r else (g, x) :: putF f v r
theorem ze7 (f g : Str) (v : V) : ∀ fs : List (Str × V), (putF f v fs).lookup g = if g = f then some v else fs.lookup g
 | [] => by
  show List.lookup g [(f, v)] = _
  by_cases h : g = f
  ·have hb : (g == f) = true := beq_iff_eq.mpr h
   simp only [List.lookup, hb, if_pos h]
  ·have hb : (g == f) = false := beq_eq_false_iff_ne.mpr h
   simp only [List.lookup, hb, if_neg h]
 | (k, x) :: r => by
  have ih := ze7 f g v r
  rw [show putF f v ((k, x) :: r) = (if k = f then (k, v) :: r else (k, x) :: putF f v r) from rfl]
  by_cases hk : k = f
  ·rw [if_pos hk]
   by_cases h : g = k
   ·have hb : (g == k) = true := beq_iff_eq.mpr h
    simp only [List.lookup, hb, if_pos (h.trans hk)]
   ·have hb : (g == k) = false := beq_eq_false_iff_ne.mpr h
    simp only [List.lookup, hb, if_neg (fun e : g = f => h (e.trans hk.symm))]
  ·rw [if_neg hk]
   by_cases h : g = k
   ·have hb : (g == k) = true := beq_iff_eq.mpr h
    simp only [List.lookup, hb, if_neg (fun e : g = f => hk (h.symm.trans e))]
   ·have hb : (g == k) = false := beq_eq_false_iff_ne.mpr h
    simp only [List.lookup, hb]
    exact ih
theorem zfi (f : Str) (v : V) : ∀ fs : List (Str × V), f ∈ (putF f v fs).map (·.1) ∧ ∀ g, g ∈ fs.map (·.1) → g ∈ (putF f v fs).map (·.1)
 | [] => ⟨by simp [putF], fun g h => by simp at h⟩
 | (k, x) :: r => by
  obtain ⟨i1, i2⟩ := zfi f v r
  rw [show putF f v ((k, x) :: r) = (if k = f then (k, v) :: r else (k, x) :: putF f v r) from rfl]
  by_cases hk : k = f
  ·rw [if_pos hk]
   subst hk
   exact ⟨by simp, fun g h => by simpa using h⟩
  ·rw [if_neg hk]
   refine ⟨?_, fun g h => ?_⟩
   ·rw [List.map_cons]
    exact List.mem_cons_of_mem _ i1
   ·rw [List.map_cons] at h ⊢
    rcases List.mem_cons.mp h with e | e
    ·exact List.mem_cons.mpr (.inl e)
    ·exact List.mem_cons_of_mem _ (i2 g e)
theorem ze2 (f : Str) (v : V) : ∀ fs : List (Str × V), (putF f v fs).length ≤ fs.length + 1
 | [] => by simp [putF]
 | (k, x) :: r => by
  have ih := ze2 f v r
  rw [show putF f v ((k, x) :: r) = (if k = f then (k, v) :: r else (k, x) :: putF f v r) from rfl]
  by_cases hk : k = f
  ·rw [if_pos hk, List.length_cons, List.length_cons]; omega
  ·rw [if_neg hk, List.length_cons, List.length_cons]; omega
theorem RelO.some_of {v : V} {o : Option Value} (r : RelO (some v) o) : ∃ u, o = some u ∧ RelV v u := by
 cases o with
 | none => exact (show False from r).elim
 | some u => exact ⟨u, rfl, r⟩
theorem RelO.none_of {o : Option Value} (r : RelO none o) : o = none := by
 cases o with
 | none => rfl
 | some u => exact (show False from r).elim
theorem zk1 {v : V} {u : Value} (r : RelV v u) : PySem.W.handedIn u = true := by
 cases v with
 | non => cases (show u = Value.none from r); rfl
 | bl b => cases (show u = Value.bool b from r); rfl
 | int i => obtain ⟨t, e⟩ := (show ∃ t, u = Value.int i t from r); cases e; rfl
 | str x => obtain ⟨t, e⟩ := (show ∃ t, u = Value.str x t from r); cases e; rfl
 | byt b => obtain ⟨t, e⟩ := (show ∃ t, u = Value.bytes b t from r); cases e; rfl
 | flt b => obtain ⟨t, e⟩ := (show ∃ t, u = Value.float b t from r); cases e; rfl
 | ref a => cases (show u = Value.ref a from r); rfl
 | ty n => cases (show u = Value.type n from r); rfl
section
variable {P : Program} {w : World} {H H' : Hp} {h h' : Heap} {a C dx : Addr} {fs fs' : List (Str × V)}
theorem zgn (hok : HOk P w H h) (e : H a = some (.ins C dx fs)) : ∃ mA, ObjM h a dx C mA ∧ (∀ f, RelO (fs.lookup f) (mA f)) ∧ PySem.Within mA (fs.map (·.1)) ∧ fs.length ≤ 1000 ∧ H dx = some (.own a) := by
 obtain ⟨d, z, ne, ob, mA, n, r, q⟩ := (show ObjOk P w H h a (.ins C dx fs) from hok a _ e)
 exact ⟨mA, ⟨ob, n, ne⟩, r, q, z, d⟩
end
structure Cls (K : PySem.W.Frag) (C : Addr) : Prop where
 pg : PySem.W.plainGet K C Str.empty = true
 hd : PySem.W.hasDictIn K C = true
 po : PySem.W.plainOver K C = true
 sa : PySem.W.findIn K (.ref C) "__setattr__" = some (some (.builtin "object.__setattr__"))
theorem Cls.get {K : PySem.W.Frag} {C : Addr} (c : Cls K C) (f : Str) : PySem.W.plainGet K C f = true := c.pg
def NoAttr (K : PySem.W.Frag) (C : Addr) (f : Str) : Prop := PySem.W.findIn K (.ref C) f = some none
theorem NoAttr.taker {K : PySem.W.Frag} {C : Addr} {f : Str} (n : NoAttr K C f) : PySem.W.takerIn K C f = some none := by
 unfold PySem.W.takerIn
 rw [show PySem.W.findIn K (.ref C) f = some none from n]
 rfl
structure Con (K : PySem.W.Frag) (C : Addr) (f : Str) (v : V) (u : Value) : Prop where
 at_ : PySem.W.findIn K (.ref C) f = some (some u)
 rel : RelV v u
 get : PySem.W.specialIn K u "__get__" = some none
 cp : PySem.W.copiedNames.contains f = false
structure Meth (K : PySem.W.Frag) (C : Addr) (m : Str) (f : Addr) : Prop where
 at_ : PySem.W.findIn K (.ref C) m = some (some (.ref f))
 fn : PySem.W.isFn K (.ref f) = true
 kp : PySem.W.keepIn K (.ref f) = true
section
variable {X : Cx} {pins : List (Addr × Obj)} {σ : St} {H : Hp} {s : Shared} {a C dx : Addr} {fs : List (Str × V)} {f : Str} {v : V} {A : Around} {E : Value → Shared → Prop}
theorem zki {b : Bool} {Q : Value → Shared → Prop} (I : Inv X pins σ H s) (e : H a = some (.ins C dx fs)) (c : Cls X.K C) (n : NoAttr X.K C f) (l : fs.lookup f = some v)
  (h : ∀ u s', Inv X pins σ H s' → RelV v u → Q u s') : wpAny (model X.prog X.w) A (getAttr (.ref a) f b) Q E s := by
 obtain ⟨mA, O, r, _, _, _⟩ := zgn I.hok e
 obtain ⟨u, hu, ru⟩ := RelO.some_of (v := v) (o := mA f) (by rw [← l]; exact r f)
 exact zra I.kIn O (c.get f) c.hd n hu (zk1 ru) (h u _ (I.tok _) ru)
theorem zkg {m : Str} {g : Addr} {pl : Sem Bool} {Q : Value × List Value → Shared → Prop} (I : Inv X pins σ H s) (e : H a = some (.ins C dx fs)) (c : Cls X.K C) (k : Meth X.K C m g) (l : fs.lookup m = none)
  (h : Q (.ref g, [.ref a]) s) : wpAny (model X.prog X.w) A (getMethod (.ref a) m pl) Q E s := by
 obtain ⟨mA, O, r, _, _, _⟩ := zgn I.hok e
 have hn : mA m = none := RelO.none_of (by rw [← l]; exact r m)
 exact zn4 I.kIn O (c.get m) k.at_ k.fn hn h
theorem zkk {y : V} {u : Value} {Q : Unit → Shared → Prop} (I : Inv X pins σ H s) (e : H a = some (.ins C dx fs)) (c : Cls X.K C) (n : NoAttr X.K C f) (hl : fs.length < 1000) (ry : RelV y u)
  (h : ∀ s', Inv X pins σ (upd H a (.ins C dx (putF f y fs))) s' → Q () s') : wpAny (model X.prog X.w) A (setAttr (.ref a) f u) Q E s := by
 obtain ⟨mA, O, r, wi, _, ho⟩ := zgn I.hok e
 have hz : (fs.map (·.1)).length ≤ sizeLine := by rw [List.length_map, sizeLine_eq]; omega
 refine zqr I.kIn O c.sa c.po n.taker c.hd wi hz fun h' O' sb => h _ ?_
 have hd : ∃ o, h'.get? dx = some o := let ⟨o, _, _, e', _⟩ := O'.ns; ⟨o, e'⟩
 refine I.write (x := a) (e := dx) (by rw [e]; exact True.intro) (.inr ho) (fun b q hb z => (sb.2 b hb).trans z) hd ?_
 refine ⟨by rw [zaj O.ne]; exact ho, ?_, O.ne, O'.obj, _, O'.ns, fun g => ?_, fun g hg => ?_⟩
 ·have := ze2 f y fs; omega
 ·show RelO ((putF f y fs).lookup g) (if g = f then some u else mA g)
  rw [ze7]
  by_cases q : g = f
  ·rw [if_pos q, if_pos q]; exact ry
  ·rw [if_neg q, if_neg q]; exact r g
 ·by_cases q : g = f
  ·rw [q]; exact (zfi f y fs).1
  ·refine (zfi f y fs).2 g (wi g fun z => hg ?_)
   show (if g = f then some u else mA g) = none
   rw [if_neg q]; exact z
theorem Inv.made (I : Inv X pins σ H s) : Inv X pins σ (upd (upd H s.heap.objs.size (.own (s.heap.objs.size + 1))) (s.heap.objs.size + 1) (.ins C s.heap.objs.size []))
  { s with heap := (s.heap.push PySem.W.emptyDict).push (PySem.W.instObj C s.heap.objs.size) } := by
 have e1 : (s.heap.push PySem.W.emptyDict).get? s.heap.objs.size = some PySem.W.emptyDict := Heap.get?_push_size s.heap rfl
 have e2 : ((s.heap.push PySem.W.emptyDict).push (PySem.W.instObj C s.heap.objs.size)).get? (s.heap.objs.size + 1) = some (PySem.W.instObj C s.heap.objs.size) := by
  have := Heap.get?_push_size (s.heap.push PySem.W.emptyDict) (o := PySem.W.instObj C s.heap.objs.size) rfl
  rwa [Heap.size_push] at this
 have e3 : (s.heap.push PySem.W.emptyDict).Ns s.heap.objs.size (fun _ => none) := ⟨PySem.W.emptyDict, #[], _, e1, rfl, (fun e he => absurd he (by simp)), fun _ => rfl⟩
 have I1 := I.laid (a := s.heap.objs.size) (o := .own (s.heap.objs.size + 1)) (h' := s.heap.push PySem.W.emptyDict) (t' := s.toks) (fun b u q => Heap.get?_push_of_some _ q) (Nat.le_refl _) ⟨_, e1⟩
 refine I1.laid (a := s.heap.objs.size + 1) (o := .ins C s.heap.objs.size []) (t' := s.toks) (fun b u q => Heap.get?_push_of_some _ q) (Nat.le_of_eq (Heap.size_push _ _)) ?_
 have ne : s.heap.objs.size ≠ s.heap.objs.size + 1 := Nat.ne_of_lt (Nat.lt_succ_self _)
 refine ⟨by rw [zaj ne, zaw], Nat.zero_le _, ne, e2, fun _ => none, (Heap.Ns1.of_empty e3).at fun o q => Heap.get?_push_of_some _ q, fun _ => True.intro, fun y hy => absurd rfl hy⟩
theorem zpx {prog : Program} {w : World} {env : Env} {e : Expr} {f : Str} {pos : Pos} {s : Shared} {Q : Value → Shared → Prop} (hb : attributeBase e f env (eval e env) = eval e env)
  (h : wpAny (model prog w) A (eval e env) (fun o s₁ => wpAny (model prog w) A (getAttr o f true) Q E s₁) E s) : wpAny (model prog w) A (eval (.Attribute e f pos) env) Q E s :=
 Attribute_any_ h (by rw [arm_eval_Attribute, hb])
end
def tFld (K : PySem.W.Frag) (ta : TE) (f : Str) : TE := fun σ H Q => ta σ H fun x H1 => ∃ a C dx fs v, x = .ref a ∧ H1 a = some (.ins C dx fs) ∧ Cls K C ∧ NoAttr K C f ∧ fs.lookup f = some v ∧ Q v H1
def tCon (K : PySem.W.Frag) (ta : TE) (f : Str) : TE := fun σ H Q => ta σ H fun x H1 => ∃ a C dx fs v u, x = .ref a ∧ H1 a = some (.ins C dx fs) ∧ Cls K C ∧ Con K C f v u ∧ fs.lookup f = none ∧ Q v H1
def sFld (K : PySem.W.Frag) (ta tv : TE) (f : Str) : TS := fun D σ H => tv σ H fun y H1 => ta σ H1 fun x H2 => ∃ a C dx fs, x = .ref a ∧ H2 a = some (.ins C dx fs) ∧ Cls K C ∧ NoAttr K C f ∧ fs.length < 1000 ∧
 D.nx σ (upd H2 a (.ins C dx (putF f y fs)))
def InOp (X : Cx) (op : Operator) (rd : V → V → Hp → VK → Prop) : Prop :=
 ∀ (pins : List (Addr × Obj)) (s : Shared) (σ : St) (H : Hp) (x y : V) (u v : Value) (Q : VK), Inv X pins σ H s → RelV x u → RelV y v → rd x y H Q → wpAny (model X.prog X.w) X.A (inplaceOp op u v) (EP X pins σ Q) X.xe s
def sFldAug (K : PySem.W.Frag) (ta tv : TE) (rd : V → V → Hp → VK → Prop) (f : Str) : TS := fun D σ H => ta σ H fun x H1 => ∃ a C dx fs v, x = .ref a ∧ H1 a = some (.ins C dx fs) ∧ Cls K C ∧ NoAttr K C f ∧ fs.lookup f = some v ∧
 tv σ H1 fun y H2 => rd v y H2 fun z H3 => ∃ dx' fs', H3 a = some (.ins C dx' fs') ∧ fs'.length < 1000 ∧ D.nx σ (upd H3 a (.ins C dx' (putF f z fs')))
section
variable {X : Cx} {o e value : Expr} {f : Str} {pos pos' tpos : Pos} {ta tv : TE}
theorem zty (he : PE X e ta) (hb : attributeBase e f X.env (eval e X.env) = eval e X.env) : PE X (.Attribute e f pos) (tFld X.K ta f) := by
 intro pins s σ H Q I h
 refine zpx hb (thn (he pins s σ H _ I h) fun u s1 ⟨x, H1, I1, rx, a, C, dx, fs, v, ex, ea, c, n, l, q⟩ => ?_)
 subst ex
 obtain rfl : u = Value.ref a := rx
 exact zki I1 ea c n l fun u' s2 I2 ru => ⟨v, H1, I2, ru, q⟩
theorem zs8 (ha : PE X o ta) (hv : PE X value tv) (hs : swapsWith value (some (.Attribute o f pos')) pos.line X.env = pure false) : PS X (.Assign [.Attribute o f pos'] value pos) (sFld X.K ta tv f) := by
 intro pins s σ H D I h
 refine plainObj_wpAny_Assign_Attribute (thn (hv pins s σ H _ I h) fun u s1 ⟨y, H1, I1, ry, q⟩ => thn (ha pins s1 σ H1 _ I1 q) fun ov s2 ⟨x, H2, I2, rx, a, C, dx, fs, ex, ea, c, n, l, q2⟩ => ?_) hs
 subst ex
 obtain rfl : ov = Value.ref a := rx
 exact zkk I2 ea c n l ry fun s3 I3 => ⟨σ, _, I3, q2⟩
def rAdd : V → V → Hp → VK → Prop := fun x y H Q => ∃ i j, x = .int i ∧ y = .int j ∧ Q (.int (i + j)) H
def rSub : V → V → Hp → VK → Prop := fun x y H Q => ∃ i j, x = .int i ∧ y = .int j ∧ Q (.int (i - j)) H
end
section
variable {X : Cx} {pins : List (Addr × Obj)} {σ : St} {H : Hp} {s : Shared} {A : Around} {E : Value → Shared → Prop} {Q : Value → Shared → Prop} {c : Value} {b : Bool}
inductive TyOf (K : PySem.W.Frag) (H : Hp) : V → Value → Prop where
 | non : TyOf K H .non (.type "NoneType")
 | bl (x : Bool) : TyOf K H (.bl x) (.type "bool")
 | int (i : Int) : TyOf K H (.int i) (.type "int")
 | str (x : Str) : TyOf K H (.str x) (.type "str")
 | flt (x : UInt64) : TyOf K H (.flt x) (.type "float")
 | lst {a : Addr} {xs : List V} (e : H a = some (.lst xs)) : TyOf K H (.ref a) (.type "list")
 | frz {a : Addr} {o : Obj} {xs : List V} (e : H a = some (.frz o (.lst xs))) : TyOf K H (.ref a) (.type "list")
 | tup {a : Addr} {xs : List V} (e : H a = some (.tup xs)) : TyOf K H (.ref a) (.type "tuple")
 | dK {a : Addr} {kvs : List (Key × V)} (e : H a = some (.dK kvs)) : TyOf K H (.ref a) (.type "dict")
 | dT {a : Addr} {kvs : List (MK × V)} (e : H a = some (.dT kvs)) : TyOf K H (.ref a) (.type "dict")
 | ins {a C dx : Addr} {fs : List (Str × V)} (e : H a = some (.ins C dx fs)) (cl : Cls K C) (ha : PySem.W.findIn K (.ref C) "__class__" = some (some (.builtin "object.__class__")))
   (hn : PySem.W.specialIn K (.builtin "object.__class__") "__get__" = some (some (.builtin "getset_descriptor.__get__"))) (htk : PySem.W.takesIn K (.builtin "object.__class__") = some true)
   (hm : PySem.W.mroIn K C (.type "object") = some true) : TyOf K H (.ref a) (.ref C)
theorem zmb {x : V} {u t : Value} (I : Inv X pins σ H s) (rx : RelV x u) (ty : TyOf X.K H x t) (e : PySem.W.kitOne X.K t c = some b) (h : ∀ tk, Q (.bool b) { s with toks := tk }) :
  wpAny (model X.prog X.w) A (call (.builtin "isinstance") [u, c]) Q E s := by
 cases ty with
 | non => cases (show u = Value.none from rx); exact PySem.W.kia_one PySem.W.kitx_none I.kIn True.intro e (fun z => nomatch z) h
 | bl y => cases (show u = Value.bool y from rx); exact PySem.W.kia_one PySem.W.kitx_bool I.kIn True.intro e (fun z => nomatch z) h
 | int i => obtain ⟨t, q⟩ := (show ∃ t, u = Value.int i t from rx); cases q; exact PySem.W.kia_one PySem.W.kitx_int I.kIn True.intro e (fun z => nomatch z) h
 | str y => obtain ⟨t, q⟩ := (show ∃ t, u = Value.str y t from rx); cases q; exact PySem.W.kia_one PySem.W.kitx_str I.kIn True.intro e (fun z => nomatch z) h
 | flt y => obtain ⟨t, q⟩ := (show ∃ t, u = Value.float y t from rx); cases q; exact PySem.W.kia_one PySem.W.kitx_float I.kIn True.intro e (fun z => nomatch z) h
 | @lst a xs ea =>
  cases (show u = Value.ref a from rx)
  obtain ⟨_, _, n, _, h1⟩ := (show ObjOk X.prog X.w H s.heap a (.lst xs) from I.hok a _ ea)
  exact PySem.W.kia_one PySem.W.kitx_list I.kIn ⟨_, h1, rfl⟩ e (fun z => nomatch z) h
 | @frz a ob xs ea =>
  cases (show u = Value.ref a from rx)
  obtain ⟨_, _, _, n, _, h1⟩ := (show ObjOk X.prog X.w H s.heap a (.frz ob (.lst xs)) from I.hok a _ ea)
  exact PySem.W.kia_one PySem.W.kitx_list I.kIn ⟨_, h1, rfl⟩ e (fun z => nomatch z) h
 | @tup a xs ea =>
  cases (show u = Value.ref a from rx)
  obtain ⟨_, _, _, p⟩ := (show ObjOk X.prog X.w H s.heap a (.tup xs) from I.hok a _ ea)
  obtain ⟨o, h1, h2, _⟩ := p
  exact PySem.W.kia_one PySem.W.kitx_tuple I.kIn ⟨o, h1, h2⟩ e (fun z => nomatch z) h
 | @dK a kvs ea =>
  cases (show u = Value.ref a from rx)
  obtain ⟨_, _, vs, _, p⟩ := (show ObjOk X.prog X.w H s.heap a (.dK kvs) from I.hok a _ ea)
  obtain ⟨o, es, ep, h1, h2, _⟩ := p
  exact PySem.W.kia_one PySem.W.kitx_dict I.kIn ⟨o, h1, h2.1⟩ e (fun z => nomatch z) h
 | @dT a kvs ea =>
  cases (show u = Value.ref a from rx)
  obtain ⟨_, _, xs, _, o, es, ep, h1, h2, _⟩ := (show ObjOk X.prog X.w H s.heap a (.dT kvs) from I.hok a _ ea)
  exact PySem.W.kia_one PySem.W.kitx_dict I.kIn ⟨o, h1, h2.1⟩ e (fun z => nomatch z) h
 | @ins a C dx fs ea cl ha hn htk hm =>
  cases (show u = Value.ref a from rx)
  obtain ⟨mA, O, _⟩ := zgn I.hok ea
  obtain ⟨od, J, _⟩ := O.look
  exact PySem.W.kia_one (PySem.W.kitx_own (cl.get _) cl.hd ha hn htk hm) I.kIn J e (fun z => nomatch z) h
end
end L2
namespace L2
open PySem PySem.Spec PyProof.Rows
structure Room (k : Nat) (A : Around) : Prop where
 hd : A.handled = none
 dp : A.depth + 3 * k + 5 < recursionLimit
 un : A.units + 16 * k + 200 < cLine
theorem Room.mono {j k : Nat} {A : Around} (r : Room k A) (h : j ≤ k) : Room j A := ⟨r.hd, by have := r.dp; omega, by have := r.un; omega⟩
theorem Room.deeper {k : Nat} {A : Around} (r : Room (k + 1) A) (env : Env) : Room k (A.deeper env) :=
 ⟨r.hd, by have := r.dp; show A.depth + 1 + 3 * k + 5 < _; omega, by have := r.un; show A.units + 3 + 16 * k + 200 < _; omega⟩
theorem zkm {A : Around} {C : Addr} {us : List Value} {kw : List (Str × Value)} : (A.under (.builtin "type.__call__" ⟨.ref C :: us, kw⟩)).depth = A.depth + 1 := by
 first | rfl | simp [Around.under, Code.weight, Code.isCreation, Code.isGuard, Code.isCaller, Code.frames, Code.isFrame, guardIds]
theorem zkf {A : Around} {C : Addr} {us : List Value} {kw : List (Str × Value)} : (A.under (.builtin "type.__call__" ⟨.ref C :: us, kw⟩)).units = A.units + 1 := by
 first | rfl | simp [Around.under, Code.cUnits, Code.frames, Code.isFrame]
theorem Room.make {k : Nat} {A : Around} (r : Room (k + 1) A) (C : Addr) (us : List Value) (kw : List (Str × Value)) : Room k (A.under (.builtin "type.__call__" ⟨.ref C :: us, kw⟩)) :=
 ⟨r.hd, by have := r.dp; rw [zkm]; omega, by have := r.un; rw [zkf]; omega⟩
theorem Room.depth {k : Nat} {A : Around} (r : Room k A) : A.depth < recursionLimit := by have := r.dp; omega
theorem Room.units {k : Nat} {A : Around} (r : Room k A) : A.units + 64 < cLine := by have := r.un; omega
def tNil : TA := fun _ H Q => Q [] H
def zvz (ta : TE) (tr : TA) : TA := fun σ H Q => ta σ H fun x H1 => tr σ H1 fun xs H2 => Q (x :: xs) H2
section
variable {X : Cx} {e : Expr} {es : List Expr} {te : TE} {t : TA} {pos : Pos}
theorem zr1 : PA X [] tNil := fun _ _ _ _ H Q I h => Calls.spliced_nil ⟨[], H, I, .nil, h⟩
theorem zrb (ha : PE X e te) (hr : PA X es t) (hs : starEach (e :: es) X.env = (false, eval e X.env) :: starEach es X.env := by rfl) : PA X (e :: es) (zvz te t) := by
 intro pos pins s σ H Q I h
 rw [hs]
 show wpAny _ _ (spliced ((false, eval e X.env) :: backTo pos (starEach es X.env))) _ _ s
 refine Calls.spliced_cons (thn (ha pins s σ H _ I h) fun u s1 ⟨x, H1, I1, r1, q1⟩ => ?_)
 exact thn (hr pos pins s1 σ H1 _ I1 q1) fun us s2 ⟨xs, H2, I2, r2, q2⟩ => ⟨x :: xs, H2, I2, .cons r1 r2, q2⟩
def tTup (t : TA) : TE := fun σ H Q => t σ H fun xs H1 => xs.length ≤ sizeLine ∧ ∀ p, H1 p = none → Q (.ref p) (upd H1 p (.tup xs))
def tLst (t : TA) : TE := fun σ H Q => t σ H fun xs H1 => xs.length ≤ sizeLine ∧ ∀ p, H1 p = none → Q (.ref p) (upd H1 p (.lst xs))
theorem ztv {x1} (h : PA X es t) : PE X (.Tuple es x1 pos) (tTup t) := by
 intro pins s σ H Q I hq
 refine wpAny_Tuple_spliced (thn (h pos pins s σ H _ I hq) fun us s1 ⟨xs, H1, I1, r, z, q⟩ => ⟨by rw [← r.length]; exact z, ?_⟩)
 have hf : H1 s1.heap.objs.size = none := I1.hok.fresh (Nat.le_refl _)
 refine ⟨.ref s1.heap.objs.size, upd H1 s1.heap.objs.size (.tup xs), I1.laid (t' := s1.toks) (fun b u e => Heap.get?_push_of_some _ e) (Nat.le_refl _) ?_, rfl, q _ hf⟩
 exact ⟨z, us, r, ⟨_, Heap.get?_push_size _ rfl, rfl, _, rfl⟩⟩
theorem zr6 (h : PA X es t) : PE X (.List es pos) (tLst t) := by
 intro pins s σ H Q I hq
 refine wpAny_List_spliced (thn (h pos pins s σ H _ I hq) fun us s1 ⟨xs, H1, I1, r, z, q⟩ => ⟨by rw [← r.length]; exact z, ?_⟩)
 have hf : H1 s1.heap.objs.size = none := I1.hok.fresh (Nat.le_refl _)
 refine ⟨.ref s1.heap.objs.size, upd H1 s1.heap.objs.size (.lst xs), I1.laid (t' := s1.toks) (fun b u e => Heap.get?_push_of_some _ e) (Nat.le_refl _) ?_, rfl, q _ hf⟩
 exact ⟨z, us, 0, r, Heap.get?_push_size _ rfl⟩
end
abbrev Sp := List V → Hp → VK → XK → Prop
abbrev CXT := List Env → Hp → Shared → XK → Value → Shared → Prop
structure Env0 (P : Program) (w : World) (K : PySem.W.Frag) (mg : Str → Option Value) (base : Heap) (A : Around) (outer : List Env) (s : Shared) (H : Hp) : Prop where
 frames : A.frames = some outer
 mod : Mod K mg base
 bs : ∀ b o, base.get? b = some o → s.heap.get? b = some o ∧ H b = none
 bsz : base.objs.size ≤ s.heap.objs.size
 funs : s.heap.FunFrames base outer
 frf : ∀ b ∈ frs outer, H b = none
 hok : HOk P w H s.heap
 bare : AllBare s.gens
def CE (outer : List Env) (P : Program) (w : World) (H : Hp) (s : Shared) (Q : VK) (u : Value) (s' : Shared) : Prop :=
 ∃ v H', s'.os = s.os ∧ AllBare s'.gens ∧ Un (frs outer) [] H H' s.heap s'.heap ∧ HOk P w H' s'.heap ∧ RelV v u ∧ Q v H'
def CR (CX : CXT) (outer : List Env) (P : Program) (w : World) (H : Hp) (s : Shared) (Q : VK) (E : XK) (r : Result) (s' : Shared) : Prop :=
 match r with
 | .ok (.ret u) => CE outer P w H s Q u s'
 | .ok _ => False
 | .error e => CX outer H s E e s'
structure FnOk (P : Program) (w : World) (K : PySem.W.Frag) (mg : Str → Option Value) (base : Heap) (CX : CXT) (k : Nat) (f : Addr) (fd : FuncData) (ps : List Str) (sp : Sp) : Prop where
 len : ∀ vs H Q E, sp vs H Q E → vs.length = ps.length
 run : ∀ (A : Around) (outer : List Env) (s : Shared) (H : Hp) (args : Args) (us : List Value) (vs : List V) (Q : VK) (E : XK), Room k A → Env0 P w K mg base A outer s H → BindsTo s fd args (ps.zip us) → Vals vs us → sp vs H Q E →
  codeAny (model P w) A (.call (.ref f) args) (CR CX outer P w H s Q E) s
theorem FnOk.imp {P : Program} {w : World} {K : PySem.W.Frag} {mg : Str → Option Value} {base : Heap} {CX : CXT} {k : Nat} {f : Addr} {fd : FuncData} {ps : List Str} {sp sp' : Sp} (F : FnOk P w K mg base CX k f fd ps sp)
  (h : ∀ vs H Q E, sp' vs H Q E → sp vs H Q E) : FnOk P w K mg base CX k f fd ps sp' :=
 ⟨fun vs H Q E q => F.len vs H Q E (h _ _ _ _ q), fun A outer s H args us vs Q E hr he hb hv hs => F.run A outer s H args us vs Q E hr he hb hv (h _ _ _ _ hs)⟩
theorem Env0.make {P : Program} {w : World} {K : PySem.W.Frag} {mg : Str → Option Value} {base : Heap} {A : Around} {outer : List Env} {s : Shared} {H : Hp} (e : Env0 P w K mg base A outer s H) (C : Addr) (us : List Value) (kw : List (Str × Value)) :
  Env0 P w K mg base (A.under (.builtin "type.__call__" ⟨.ref C :: us, kw⟩)) outer s H := ⟨by first | exact e.frames | (simpa [Around.under, Code.envs, Code.isFrame, pushEnvs] using e.frames), e.mod, e.bs, e.bsz, e.funs, e.frf, e.hok, e.bare⟩
section
variable {X : Cx} {pins : List (Addr × Obj)} {σ : St} {H : Hp} {s s' : Shared}
theorem Inv.env0 (I : Inv X pins σ H s) : Env0 X.prog X.w X.K X.mg X.base X.A X.stack s H :=
 ⟨I.ok.frames, I.ok.mod, I.bs, Nat.le_trans I.ok.bsz I.sz, I.stack, I.stkFree, I.hok, I.bare⟩
theorem Inv.after {Q : VK} {u : Value} (I : Inv X pins σ H s) (h : CE X.stack X.prog X.w H s Q u s') : EP X pins σ Q u s' := by
 obtain ⟨v, H', os, bare, un, hok, r, q⟩ := h
 obtain ⟨hh, g, d, t, os'⟩ := s'
 obtain rfl : os' = s.os := os
 exact ⟨v, H', I.call (h' := hh) (g' := g) (d' := d) (t' := t) (ch := []) un hok bare (fun b z => absurd z (by simp)), r, q⟩
end
def zuc (sp : Sp) (dvs : List V) (E : XK) (t : TA) : TE := fun σ H Q => t σ H fun vs H1 => sp (vs ++ dvs) H1 Q E
def ztx (C : Addr) (m : Str) (sp : Sp) (dvs : List V) (E : XK) (ta : TE) (t : TA) : TE := fun σ H Q => ta σ H fun x H1 => ∃ a dx fs, x = .ref a ∧ H1 a = some (.ins C dx fs) ∧ fs.lookup m = none ∧
 t σ H1 fun vs H2 => sp (x :: (vs ++ dvs)) H2 Q E
def zsx (C : Addr) (sp : Sp) (dvs : List V) (E : XK) (t : TA) : TE := fun σ H Q => t σ H fun vs H1 => ∀ x dx, H1 x = none → H1 dx = none → dx ≠ x →
 sp (.ref x :: (vs ++ dvs)) (upd (upd H1 dx (.own x)) x (.ins C dx [])) (fun v H2 => v = .non ∧ Q (.ref x) H2) E
def Binds (K : PySem.W.Frag) (fd : FuncData) (ps : List Str) (ds : List Value) : Prop :=
 ∀ (s : Shared) (us : List Value), K.In s.heap → (us ++ ds).length = ps.length → BindsTo s fd ⟨us, []⟩ (ps.zip (us ++ ds))
theorem Binds.all {K : PySem.W.Frag} {fd : FuncData} {ps : List Str} (h : ∀ us : List Value, us.length = ps.length → bindArgs fd ⟨us, []⟩ = pure (ps.zip us)) : Binds K fd ps [] := fun s us _ hl => by
 rw [List.append_nil] at hl ⊢
 exact .of_eq (h us hl)
def zdk (CX : CXT) (X : Cx) (E : XK) : Prop := ∀ (pins : List (Addr × Obj)) (σ : St) (H : Hp) (s : Shared) (e : Value) (s' : Shared), Inv X pins σ H s → CX X.stack H s E e s' → X.xe e s'
section
variable {X : Cx} {CX : CXT} {k : Nat} {f C : Addr} {fd : FuncData} {ps : List Str} {sp : Sp} {dvs : List V} {ds : List Value} {E : XK} {x m : Str} {p pos apos : Pos} {e o : Expr} {es : List Expr} {ta : TE} {t : TA}
theorem zpk {pins : List (Addr × Obj)} {σ : St} {H : Hp} {s : Shared} {Q : VK} {us : List Value} {vs : List V} (F : FnOk X.prog X.w X.K X.mg X.base CX k f fd ps sp) (hr : Room k X.A) (hb : Binds X.K fd ps ds) (hd : Vals dvs ds) (hx : zdk CX X E)
  (I : Inv X pins σ H s) (r : Vals vs us) (h : sp (vs ++ dvs) H Q E) : wpAny (model X.prog X.w) X.A (call (.ref f) us) (EP X pins σ Q) X.xe s := by
 have r2 : Vals (vs ++ dvs) (us ++ ds) := r.append hd
 have hl : (us ++ ds).length = ps.length := by rw [← r2.length]; exact F.len _ _ _ _ h
 refine wpAny_call (codeAny_mono (F.run X.A X.stack s H ⟨us, []⟩ (us ++ ds) (vs ++ dvs) Q E hr I.env0 (hb s us I.kIn hl) r2 h) fun r s' hq => ?_)
 cases r with
 | error e => exact hx pins σ H s e s' I hq
 | ok fl =>
  cases fl with
  | ret u => exact I.after hq
  | next => exact False.elim hq
  | brk => exact False.elim hq
  | cont => exact False.elim hq
theorem zpu (F : FnOk X.prog X.w X.K X.mg X.base CX k f fd ps sp) (hr : Room k X.A) (hg : Gl X x) (hm : X.mg x = some (.ref f)) (hk : PySem.W.keepIn X.K (.ref f) = true) (hb : Binds X.K fd ps ds) (hd : Vals dvs ds) (hx : zdk CX X E)
  (ha : PA X (e :: es) t) (hdb : (x == ("__debug__" : Str)) = false := by decide) (he : starEach (e :: es) X.env = (false, eval e X.env) :: starEach es X.env := by rfl) (hpl : (backTo pos (starEach es X.env)).any (·.1) = false := by rfl) :
  PE X (.Call (.Name x p) (e :: es) [] pos) (zuc sp dvs E t) := by
 intro pins s σ H Q I h
 refine wpAny_Call_Name_kw (zia I hg hm ?_ hdb)
 refine PySem.W.callWith_K (h₀ := X.base) I.ok.mod.kin hk (thn (ha pos pins s σ H _ I h) fun us s1 ⟨vs, H1, I1, r, q⟩ => ⟨I1.kIn, ?_⟩) he hpl
 exact zpk F hr hb hd hx I1 r q
theorem zp0 {pl : Sem Bool} (he : PE X o ta) (c : Cls X.K C) (hm : Meth X.K C m f) (F : FnOk X.prog X.w X.K X.mg X.base CX k f fd ps sp) (hr : Room k X.A) (hb : Binds X.K fd ps ds) (hd : Vals dvs ds) (hx : zdk CX X E) (ha : PA X (e :: es) t)
  (hst : starEach (e :: es) X.env = (false, eval e X.env) :: starEach es X.env := by rfl) (hpl : (backTo pos (starEach es X.env)).any (·.1) = false := by rfl)
  (ht : eval (.Call (.Attribute o m apos) (e :: es) [] pos) X.env = (do
   let ov ← eval o X.env
   standAt apos.atName
   let (f, first) ← holding [ov] (getMethod ov m pl)
   callWith pos f first (backTo pos (starEach (e :: es) X.env)) (backToKw pos (keywordEach [] X.env))) := by rfl) :
  PE X (.Call (.Attribute o m apos) (e :: es) [] pos) (ztx C m sp dvs E ta t) := by
 intro pins s σ H Q I h
 refine PySem.W.methodCall_KW (pl := pl) (thn (he pins s σ H _ I h) fun u s1 ⟨x, H1, I1, rx, a, dx, fs, ex, ea, l, q⟩ => ?_) ht
 subst ex
 obtain rfl : u = Value.ref a := rx
 refine zkg I1 ea c hm l ?_
 refine PySem.W.callWith_K (first := [.ref a]) (h₀ := X.base) I.ok.mod.kin hm.kp (thn (ha pos pins s1 σ H1 _ I1 q) fun us s2 ⟨vs, H2, I2, r, q2⟩ => ⟨I2.kIn, ?_⟩) hst hpl
 exact zpk (us := .ref a :: us) (vs := .ref a :: vs) F hr hb hd hx I2 (.cons rfl r) q2
structure Mk (K : PySem.W.Frag) (C f : Addr) : Prop where
 makes : PySem.W.makesIn K C = true
 init : PySem.W.findIn K (.ref C) "__init__" = some (some (.ref f))
 fn : PySem.W.isFn K (.ref f) = true
 kp : PySem.W.keepIn K (.ref C) = true
theorem zoi {pins : List (Addr × Obj)} {σ : St} {H : Hp} {s : Shared} {Q : VK} {us : List Value} {vs : List V} (M : Mk X.K C f) (F : FnOk X.prog X.w X.K X.mg X.base CX k f fd ps sp) (hr : Room (k + 1) X.A) (hb : Binds X.K fd ps ds) (hd : Vals dvs ds)
  (hx : zdk CX X E) (I : Inv X pins σ H s) (r : Vals vs us)
  (h : ∀ x dx, H x = none → H dx = none → dx ≠ x → sp (.ref x :: (vs ++ dvs)) (upd (upd H dx (.own x)) x (.ins C dx [])) (fun v H2 => v = .non ∧ Q (.ref x) H2) E) :
  wpAny (model X.prog X.w) X.A (call (.ref C) us) (EP X pins σ Q) X.xe s := by
 have hq := h (s.heap.objs.size + 1) s.heap.objs.size (I.hok.fresh (Nat.le_succ _)) (I.hok.fresh (Nat.le_refl _)) (Nat.ne_of_lt (Nat.lt_succ_self _))
 have I2 := Inv.made (C := C) I
 have r2 : Vals (V.ref (s.heap.objs.size + 1) :: (vs ++ dvs)) (Value.ref (s.heap.objs.size + 1) :: (us ++ ds)) := .cons rfl (r.append hd)
 have hl : (Value.ref (s.heap.objs.size + 1) :: us ++ ds).length = ps.length := by
  have e := r2.length
  rw [F.len _ _ _ _ hq] at e
  exact e.symm
 refine wpAny_call (zof (f := f) I.kIn M.makes M.init (beq_iff_eq.mp M.fn) (codeAny_mono (F.run _ X.stack _ _ ⟨Value.ref (s.heap.objs.size + 1) :: us, []⟩ (Value.ref (s.heap.objs.size + 1) :: (us ++ ds)) _ _ E (hr.make C us [])
  (I2.env0.make C us []) (hb _ (Value.ref (s.heap.objs.size + 1) :: us) I2.kIn hl) r2 hq) fun r s' hq' => ?_))
 cases r with
 | error e => exact hx pins σ _ _ e s' I2 hq'
 | ok fl =>
  cases fl with
  | ret u =>
   obtain ⟨v, H', I3, rv, ev, q3⟩ := I2.after hq'
   subst ev
   exact ⟨rv, ⟨V.ref (s.heap.objs.size + 1), H', I3, rfl, q3⟩⟩
  | next => exact False.elim hq'
  | brk => exact False.elim hq'
  | cont => exact False.elim hq'
theorem zpt (M : Mk X.K C f) (F : FnOk X.prog X.w X.K X.mg X.base CX k f fd ps sp) (hr : Room (k + 1) X.A) (hg : Gl X x) (hm : X.mg x = some (.ref C)) (hb : Binds X.K fd ps ds) (hd : Vals dvs ds) (hx : zdk CX X E)
  (ha : PA X (e :: es) t) (hdb : (x == ("__debug__" : Str)) = false := by decide) (he : starEach (e :: es) X.env = (false, eval e X.env) :: starEach es X.env := by rfl) (hpl : (backTo pos (starEach es X.env)).any (·.1) = false := by rfl) :
  PE X (.Call (.Name x p) (e :: es) [] pos) (zsx C sp dvs E t) := by
 intro pins s σ H Q I h
 refine wpAny_Call_Name_kw (zia I hg hm ?_ hdb)
 refine PySem.W.callWith_K (h₀ := X.base) I.ok.mod.kin M.kp (thn (ha pos pins s σ H _ I h) fun us s1 ⟨vs, H1, I1, r, q⟩ => ⟨I1.kIn, ?_⟩) he hpl
 exact zoi M F hr hb hd hx I1 r q
end
def PK (X : Cx) (kws : List Keyword) (t : TA) : Prop :=
 ∀ (pos : Pos) (pins : List (Addr × Obj)) (s : Shared) (σ : St) (H : Hp) (Q : List V → Hp → Prop), Inv X pins σ H s → t σ H Q → wpAny (model X.prog X.w) X.A (evalAll ((backToKw pos (keywordEach kws X.env)).map (·.2))) (AP X pins σ Q) X.xe s
section
variable {X : Cx} {CX : CXT} {k : Nat} {f C : Addr} {fd : FuncData} {ps ks : List Str} {sp : Sp} {E : XK} {x m : Str} {p pos apos kpos : Pos} {e o : Expr} {es : List Expr} {kws : List Keyword} {te ta : TE} {t tk : TA} {nm : Option Str}
structure KBinds (K : PySem.W.Frag) (fd : FuncData) (ps ks : List Str) (g : List Value → List Value → List Value) (gV : List V → List V → List V) : Prop where
 to : ∀ (s : Shared) (us ws : List Value), K.In s.heap → (g us ws).length = ps.length → BindsTo s fd ⟨us, ks.zip ws⟩ (ps.zip (g us ws))
 rel : ∀ {vs : List V} {us : List Value} {zs : List V} {ws : List Value}, Vals vs us → Vals zs ws → Vals (gV vs zs) (g us ws)
def tCallK (sp : Sp) (gV : List V → List V → List V) (E : XK) (t tk : TA) : TE := fun σ H Q => t σ H fun vs H1 => tk σ H1 fun zs H2 => sp (gV vs zs) H2 Q E
variable {g : List Value → List Value → List Value} {gV : List V → List V → List V}
end
structure FnScope (N P : List Str) (sc : Scope) : Prop where
 kind : sc.kind = .function
 co : sc.isCoroutine = false
 gen : sc.isGenerator = false
 nd : N.Nodup
 pre : N.take P.length = P
 par : ∀ x ∈ P, sc.names.lookup x = some .local ∨ sc.names.lookup x = some .cell
 nofree : ∀ y ∈ sc.names, y.2 ≠ .free
theorem zg3 {kindOf : Str → Option NameKind} {x : Str} : ∀ {binds : List (Str × Value)} {m : Str → Option Value}, (∀ v, (x, v) ∉ binds) → bindL kindOf binds m x = m x
 | [], _, _ => rfl
 | (n, v) :: r, m, h => by
  unfold bindL
  rw [zg3 fun w hw => h w (List.mem_cons_of_mem _ hw)]
  split
  ·have : x ≠ n := by rintro rfl; exact h v List.mem_cons_self
   simp [this]
  ·rfl
theorem zha {kindOf : Str → Option NameKind} {x : Str} : ∀ {binds : List (Str × Value)} {m : Str → Option Value}, (∀ v, (x, v) ∉ binds) → bindC kindOf binds m x = m x
 | [], _, _ => rfl
 | (n, v) :: r, m, h => by
  unfold bindC
  rw [zha fun w hw => h w (List.mem_cons_of_mem _ hw)]
  split
  ·rfl
  ·have : x ≠ n := by rintro rfl; exact h v List.mem_cons_self
   simp [this]
theorem zhp {kindOf : Str → Option NameKind} {x : Str} {v : Value} : ∀ {P : List Str} {vs : List Value} {i : Nat} {m : Str → Option Value}, P.Nodup → P[i]? = some x → vs[i]? = some v → kindOf x = some .local →
  bindL kindOf (P.zip vs) m x = some v
 | [], _, _, _, _, h, _, _ => by simp at h
 | _ :: _, [], _, _, _, _, h, _ => by simp at h
 | p :: P, w :: vs, 0, m, nd, h1, h2, hk => by
  simp at h1 h2; subst h1; subst h2
  show bindL kindOf ((p, w) :: P.zip vs) m p = _
  unfold bindL
  rw [zg3 fun v hv => (List.nodup_cons.mp nd).1 (List.of_mem_zip hv).1, if_pos hk]
  simp
 | p :: P, w :: vs, i + 1, m, nd, h1, h2, hk => by
  show bindL kindOf ((p, w) :: P.zip vs) m x = _
  unfold bindL
  exact zhp (i := i) (List.nodup_cons.mp nd).2 (by simpa using h1) (by simpa using h2) hk
theorem zhe {kindOf : Str → Option NameKind} {x : Str} {v : Value} : ∀ {P : List Str} {vs : List Value} {i : Nat} {m : Str → Option Value}, P.Nodup → P[i]? = some x → vs[i]? = some v → kindOf x ≠ some .local →
  bindC kindOf (P.zip vs) m x = some v
 | [], _, _, _, _, h, _, _ => by simp at h
 | _ :: _, [], _, _, _, _, h, _ => by simp at h
 | p :: P, w :: vs, 0, m, nd, h1, h2, hk => by
  simp at h1 h2; subst h1; subst h2
  show bindC kindOf ((p, w) :: P.zip vs) m p = _
  unfold bindC
  rw [zha fun v hv => (List.nodup_cons.mp nd).1 (List.of_mem_zip hv).1, if_neg hk]
  simp
 | p :: P, w :: vs, i + 1, m, nd, h1, h2, hk => by
  show bindC kindOf ((p, w) :: P.zip vs) m x = _
  unfold bindC
  exact zhe (i := i) (List.nodup_cons.mp nd).2 (by simpa using h1) (by simpa using h2) hk
def start (N : List Str) (vs : List V) : St := vs.map some ++ List.replicate (N.length - vs.length) none
def cxOf (CX : CXT) (P : Program) (w : World) (K : PySem.W.Frag) (mg : Str → Option Value) (base : Heap) (N : List Str) (qual : Str) (scope : Scope) (f : Addr) (cd : Value) (A : Around) (outer : List Env) (s : Shared) (H : Hp) (E : XK) : Cx where
 prog := P
 w := w
 K := K
 mg := mg
 base := base
 A := A.deeper (envOfC qual scope s.heap.objs.size f cd)
 N := N
 s₀ := s
 H₀ := H
 env := envOfC qual scope s.heap.objs.size f cd
 outer := outer
 stack := envOfC qual scope s.heap.objs.size f cd :: outer
 ex := []
 calm := true
 fn := fun _ => true
 pn := []
 xe := fun e s' => wpAny (model P w) (A.deeper (envOfC qual scope s.heap.objs.size f cd)) (leaving (envOfC qual scope s.heap.objs.size f cd) e) (fun _ s'' => CX outer H s E e s'') (fun e' s'' => CX outer H s E e' s'') s'
theorem zje {sc : Scope} {n : Nat} {x : Str} (h : sc.names.lookup x = some .cell) : ∃ c, (cellsFrom n sc.names []).lookup x = some c := by
 have q := PySem.W.cellsFrom_some sc.names n [] (.inl h)
 exact Option.isSome_iff_exists.mp q
theorem zli {CX : CXT} {P : Program} {w : World} {K : PySem.W.Frag} {mg : Str → Option Value} {base : Heap} {N ps : List Str} {qual : Str} {scope : Scope} {f : Addr} {cd : Value} {A : Around} {outer : List Env} {s s1 : Shared} {H : Hp} {E : XK} {us : List Value} {vs : List V}
  (S : FnScope N ps scope) (hd : A.handled = none) (e0 : Env0 P w K mg base A outer s H) (hl : vs.length = ps.length) (r : Vals vs us)
  (x : InCallC s s.heap.objs.size (bindL (envOfC qual scope s.heap.objs.size f cd).kindOf (ps.zip us) fun _ => none) (cellsFrom (s.heap.objs.size + 1) scope.names []) (bindC (envOfC qual scope s.heap.objs.size f cd).kindOf (ps.zip us) fun _ => none) s1) :
  Inv (cxOf CX P w K mg base N qual scope f cd A outer s H E) [] (start N vs) H s1 := by
 have hpl : ps.length ≤ N.length := by have := congrArg List.length S.pre; rw [List.length_take] at this; omega
 obtain ⟨h1, tk, rfl, hk⟩ := x.done
 have noA : ∀ b : Addr, b ∉ (cxOf CX P w K mg base N qual scope f cd A outer s H E).ex := fun b z => absurd (show b ∈ ([] : List Addr) from z) (by simp)
 refine ⟨⟨e0.mod, S.kind, rfl, rfl, Nat.le_refl _, fun y z c h1 h2 => ?_, fun y hy => ?_, fun y c _ h => ?_, fun _ => hd, Around.frames_deeper e0.frames, .inr ⟨rfl, rfl⟩, fun b z => absurd z (noA b), e0.bs, e0.bsz, fun b _ _ => noA b, fun b z => absurd z (noA b), e0.funs, e0.frf⟩,
  rfl, e0.bare, Un.kept hk, ⟨_, x.toInCall.ns, fun i y v h1 h2 h3 => ?_⟩, fun y c h => ⟨_, x.cell y c h⟩, e0.hok.fresh (Nat.le_refl _), fun y c h => ?_, fun p hp => absurd (show p ∈ ([] : List (Addr × Obj)) from hp) (by simp), e0.hok.kept hk, ?_⟩
 ·exact name_of_addr x.apart (PySem.mem_of_lookup h1) (PySem.mem_of_lookup h2)
 ·have hy : scope.names.lookup y = some .cell ∨ scope.names.lookup y = some .free := hy
  rcases hy with hy | hy
  ·exact zje hy
  ·exact absurd rfl (S.nofree _ (PySem.mem_of_lookup hy))
 ·exact Nat.le_of_lt (x.above y c (PySem.mem_of_lookup h))
 ·have hi : i < vs.length := by
   unfold start at h2
   by_cases hi : i < vs.length
   ·exact hi
   ·rw [List.getElem?_append_right (by simpa using hi)] at h2
    rw [List.getElem?_replicate] at h2
    split at h2 <;> cases h2
  have ha : vs[i]? = some v := by
   unfold start at h2
   rw [List.getElem?_append_left (by simpa using hi), List.getElem?_map] at h2
   cases e : vs[i]? with
   | none => rw [e] at h2; cases h2
   | some a => rw [e] at h2; cases h2; rfl
  obtain ⟨u, hu, rv⟩ := r.get ha
  have hp : ps[i]? = some y := by
   rw [← S.pre, List.getElem?_take_of_lt (by omega)]; exact h1
  have ndP : ps.Nodup := by rw [← S.pre]; exact S.nd.sublist (List.take_sublist _ _)
  refine ⟨u, rv, ?_⟩
  rcases S.par y (List.mem_of_getElem? hp) with k | k
  ·exact .inl ⟨k, zhp ndP hp hu k⟩
  ·obtain ⟨c, e⟩ := zje (n := s.heap.objs.size + 1) k
   refine .inr ⟨.inl k, c, e, ?_⟩
   have q := x.cell y c e
   rw [zhe ndP hp hu (by show scope.names.lookup y ≠ _; rw [k]; decide)] at q
   exact q
 ·exact e0.hok.fresh (Nat.le_of_lt (x.above y c (PySem.mem_of_lookup h)))
 ·unfold start
  show _ = N.length
  rw [List.length_append, List.length_map, List.length_replicate]
  omega
theorem zvf {CX : CXT} {P : Program} {w : World} {K : PySem.W.Frag} {mg : Str → Option Value} {base : Heap} {k : Nat} {f : Addr} {name qual : Str} {params : Arguments} {body : List Stmt} {scope : Scope} {dV kV doc pm cdv ct oc : Value} {an od : Option Addr}
  {osl : Array (Option Value)} {N ps : List Str} {sp : Sp} (lk : K.lookup f = some ⟨oc, od, .func (PySem.W.fnOf name qual params body scope dV kV doc pm an cdv ct), osl⟩) (hcd : PySem.W.codeIn K cdv qual = true) (S : FnScope N ps scope)
  (len : ∀ vs H Q E, sp vs H Q E → vs.length = ps.length)
  (hbody : ∀ (A : Around) (outer : List Env) (s : Shared) (H : Hp) (vs : List V) (Q : VK) (E : XK), Room k (A.deeper (envOfC qual scope s.heap.objs.size f cdv)) → sp vs H Q E →
   ∃ t, PSs (cxOf CX P w K mg base N qual scope f cdv A outer s H E) body t ∧ t { nx := fun _ H' => Q .non H', rt := Q } (start N vs) H) :
  FnOk P w K mg base CX (k + 1) f (PySem.W.fnOf name qual params body scope dV kV doc pm an cdv ct) ps sp := by
 refine ⟨len, fun A outer s H args us vs Q E hr e0 hb r hsp => ?_⟩
 have hl := len _ _ _ _ hsp
 have KX : K.In s.heap := e0.mod.kin.keeps fun b o e => (e0.bs b o e).1
 have lim : s.heap.NoLimit := e0.mod.nolimit.keeps fun b o e => (e0.bs b o e).1
 have hkind : ∀ y ∈ ps.zip us, scope.names.lookup y.1 = some .local ∨ (scope.names.lookup y.1 = some .cell ∧ ((cellsFrom (s.heap.objs.size + 1) scope.names []).lookup y.1).isSome = true) := fun ⟨n, v⟩ hy => by
  rcases S.par n (List.of_mem_zip hy).1 with q | q
  ·exact .inl q
  ·exact .inr ⟨q, PySem.W.cellsFrom_some _ _ _ (.inl q)⟩
 refine codeAny_call_function hr.depth (KX _ _ lk) rfl S.co S.gen rfl (PySem.W.codeRec_of KX hcd) (hb _ _ _ _ ?_)
 refine wpAny_newFunctionEnv_cells S.kind hkind fun env he s1 x => ?_
 subst he
 refine ⟨lim.keeps x.toInCall.keep, codeAny_func ?_⟩
 obtain ⟨t, ht, hq⟩ := hbody A outer s H vs Q E (hr.deeper _) hsp
 have I : Inv (cxOf CX P w K mg base N qual scope f cdv A outer s H E) [] (start N vs) H s1 := zli S hr.hd e0 hl r x
 refine wpAny_mono (ht [] s1 (start N vs) H _ I hq) (fun fl s' hs => ?_) fun e s' hs => hs
 have fin : ∀ {σ' : St} {H' : Hp} {v : V} {u : Value}, Inv (cxOf CX P w K mg base N qual scope f cdv A outer s H E) [] σ' H' s' → RelV v u → Q v H' → CE outer P w H s Q u s' :=
  fun {σ' H' v u} J rv q => ⟨v, H', J.os, J.bare, J.base, J.hok, rv, q⟩
 cases fl with
 | ret u =>
  obtain ⟨v, σ', H', J, rv, q⟩ := hs
  exact fin J rv q
 | next =>
  obtain ⟨σ', H', J, q⟩ := hs
  exact fin (v := V.non) (u := Value.none) J rfl q
 | brk =>
  obtain ⟨_, _, _, q⟩ := hs
  exact False.elim q
 | cont =>
  obtain ⟨_, _, _, q⟩ := hs
  exact False.elim q
end L2
namespace L2
open PySem PySem.Spec PyProof.Rows
section
variable {X : Cx} {x : Str} {p pos : Pos} {e : Expr} {es : List Expr} {t : TA} {id T : String} {r : List V → Hp → VK → Prop}
def tCB (r : List V → Hp → VK → Prop) (t : TA) : TE := fun σ H Q => t σ H fun vs H1 => r vs H1 Q
theorem zoe (hc : zdp X (.builtin id) r) (hg : Gl X x) (hm : X.mg x = none) (hv : bootBuiltins x = some (.builtin id)) (ha : PA X (e :: es) t) (hn : x ≠ "__name__" := by decide) (hdb : (x == ("__debug__" : Str)) = false := by decide)
  (he : starEach (e :: es) X.env = (false, eval e X.env) :: starEach es X.env := by rfl) (hpl : (backTo pos (starEach es X.env)).any (·.1) = false := by rfl) : PE X (.Call (.Name x p) (e :: es) [] pos) (tCB r t) := by
 intro pins s σ H Q I h
 refine wpAny_Call_Name_kw (zf8 I hg hm hv ?_ hn hdb)
 exact PyProof.Rows.callWith_builtin1 (thn (ha pos pins s σ H _ I h) fun us s1 ⟨vs, H1, I1, r1, q1⟩ => hc pins s1 σ H1 vs us Q I1 r1 q1) he hpl
theorem zmp (hc : zdp X (.type T) r) (hg : Gl X x) (hm : X.mg x = none) (hv : bootBuiltins x = some (.type T)) (ha : PA X (e :: es) t) (hn : x ≠ "__name__" := by decide) (hdb : (x == ("__debug__" : Str)) = false := by decide)
  (he : starEach (e :: es) X.env = (false, eval e X.env) :: starEach es X.env := by rfl) (hpl : (backTo pos (starEach es X.env)).any (·.1) = false := by rfl) : PE X (.Call (.Name x p) (e :: es) [] pos) (tCB r t) := by
 intro pins s σ H Q I h
 refine wpAny_Call_Name_kw (zf8 I hg hm hv ?_ hn hdb)
 exact PyProof.Rows.callWith_type1 (thn (ha pos pins s σ H _ I h) fun us s1 ⟨vs, H1, I1, r1, q1⟩ => hc pins s1 σ H1 vs us Q I1 r1 q1) he hpl
end
end L2
namespace HT
open PySem PyProof.Rows
def lexLt : List Int → List Int → Bool
 | [], [] => false
 | [], _ :: _ => true
 | _ :: _, [] => false
 | x :: xs, y :: ys => if x = y then lexLt xs ys else decide (x < y)
section
open PySem.SeqAt
open PySem.AutoSeq1 (wpAny_loadPart')
open PySem.MeetsSeq PySem.MeetsSeq2 PySem.MeetsSeq3
end
section
variable {prog : Program} {w : World} {A : Around} {E : Value → Shared → Prop} {s : Shared}
def sIx (n d : Nat) : Option Int → Nat
 | none => d
 | some v => if v < 0 then (v + (n : Int)).toNat else min v.toNat n
theorem zsm (n d : Nat) (hd : d ≤ n) (o : Option Int) : sIx n d o ≤ n := by
 cases o with
 | none => exact hd
 | some v =>
  show (if v < 0 then (v + (n : Int)).toNat else min v.toNat n) ≤ n
  by_cases hv : v < 0
  ·rw [if_pos hv]; omega
  ·rw [if_neg hv]; exact Nat.min_le_right _ _
theorem zl6 (v : Int) (n d : Nat) : (if v < 0 then max (v + (n : Int)) 0 else min v (n : Int)) = ((sIx n d (some v) : Nat) : Int) := by
 show (if v < 0 then max (v + (n : Int)) 0 else min v (n : Int)) = (((if v < 0 then (v + (n : Int)).toNat else min v.toNat n) : Nat) : Int)
 by_cases hv : v < 0
 ·simp only [if_pos hv]; omega
 ·simp only [if_neg hv]; omega
theorem zj5 (lo hi : Option Int) (n : Nat) : Builtin.Slice.sliceAdjust lo hi 1 (n : Int) = (((sIx n 0 lo : Nat) : Int), ((sIx n n hi : Nat) : Int)) := by
 have h1 : ¬ ((1 : Int) < 0) := by omega
 unfold Builtin.Slice.sliceAdjust
 simp only [h1, if_false]
 refine Prod.ext ?_ ?_
 ·cases lo with
  | none => rfl
  | some v => exact zl6 v n 0
 ·cases hi with
  | none => rfl
  | some v => exact zl6 v n n
theorem zko (i j : Nat) : Builtin.Slice.slicePlaces (i : Int) (j : Int) 1 = j - i := by
 unfold Builtin.Slice.slicePlaces
 have h1 : (1 : Int) > 0 := by omega
 simp only [h1, if_true, Int.ediv_one]
 split <;> omega
theorem zfx {v : Value} {o : Option Int} {Q : Option Int → Shared → Prop} (p : IsPart v o) (h : Q o s) : wpAny (model prog w) A (Builtin.Slice.slicePartIndex v) Q E s := by
 cases p with
 | none => exact slicePart_none h
 | int i t => exact slicePart_int h
theorem zeu {sl : Addr} {vl vu : Value} {lo hi : Option Int} {n : Nat} {Q : Int × Int × Nat → Shared → Prop} (hs : s.heap.IsSliceOf sl vl vu .none) (pl : IsPart vl lo) (pu : IsPart vu hi)
  (h : Q (((sIx n 0 lo : Nat) : Int), 1, sIx n n hi - sIx n 0 lo) s) : wpAny (model prog w) A (Builtin.Slice.sliceApplied (.ref sl) (pure (n : Int))) Q E s := by
 obtain ⟨os, hos, hcs, hds⟩ := id hs
 unfold Builtin.Slice.sliceApplied Builtin.Slice.sliceFields
 refine wpAny_bind (wpAny_bind (wpAny_field hos hds (x := vl) rfl (wpAny_bind (wpAny_field hos hds (x := vu) rfl (wpAny_bind (wpAny_field hos hds (x := .none) rfl (wpAny_pure ?_)))))))
 refine wpAny_bind (slicePart_none ?_)
 show wpAny _ _ (if ((1 : Int) == 0) = true then _ else _) _ _ s
 rw [if_neg (by decide)]
 refine wpAny_bind (zfx pl (wpAny_bind (zfx pu (wpAny_bind (wpAny_pure ?_)))))
 show wpAny _ _ (match Builtin.Slice.sliceAdjust lo hi 1 (n : Int) with | (lo, hi) => pure (lo, (1 : Int), Builtin.Slice.slicePlaces lo hi 1)) _ _ s
 rw [zj5 lo hi n]
 show wpAny _ _ (pure (((sIx n 0 lo : Nat) : Int), (1 : Int), Builtin.Slice.slicePlaces ((sIx n 0 lo : Nat) : Int) ((sIx n n hi : Nat) : Int) 1)) _ _ s
 rw [zko]
 exact wpAny_pure h
theorem zn1 (xs : Array Value) (i k : Nat) : ((List.range k).filterMap fun (m : Nat) => xs[((i : Int) + (m : Int) * 1).toNat]?).toArray = ((xs.toList.drop i).take k).toArray := by
 have e : (fun (m : Nat) => xs[((i : Int) + (m : Int) * 1).toNat]?) = fun m => xs[i + m]? := by
  funext m
  have : ((i : Int) + (m : Int) * 1).toNat = i + m := by omega
  rw [this]
 rw [e]
 have := pick_run xs i k
 rw [List.filterMap_map] at this
 have e2 : ((fun x => xs[x]?) ∘ fun x => i + x) = fun m => xs[i + m]? := rfl
 rw [e2] at this
 rw [this]
theorem getItem_tuple_cut {t sl : Addr} {items : Array Value} {vl vu : Value} {lo hi : Option Int} {Q : Value → Shared → Prop} (ht : IsTup s.heap t items) (hs : s.heap.IsSliceOf sl vl vu .none) (pl : IsPart vl lo) (pu : IsPart vu hi)
  (hw : ¬ (sIx items.size 0 lo = 0 ∧ sIx items.size items.size hi = items.size))
  (h : Q (.ref s.heap.objs.size) { s with heap := s.heap.push { cls := .type "tuple", data := .seq ((items.toList.drop (sIx items.size 0 lo)).take (sIx items.size items.size hi - sIx items.size 0 lo)).toArray } })
  (hsz : items.size ≤ sizeLine) : wpAny (model prog w) A (getItem (.ref t) (.ref sl)) Q E s := by
 have htake : sizeOk (.seq ((items.toList.drop (sIx items.size 0 lo)).take (sIx items.size items.size hi - sIx items.size 0 lo)).toArray) := by
  show ((items.toList.drop (sIx items.size 0 lo)).take (sIx items.size items.size hi - sIx items.size 0 lo)).toArray.size ≤ sizeLine
  rw [List.size_toArray, List.length_take, List.length_drop, Array.length_toList]
  omega
 have hj : sIx items.size items.size hi ≤ items.size := zsm _ _ (Nat.le_refl _) hi
 obtain ⟨os, hos, hcs, hds⟩ := id hs
 have hTs : s.TypeIs (.ref sl) "slice" := ⟨os, hos, hcs⟩
 unfold getItem
 try with_reducible refine wpAny_holding ?_
 first | refine wpAny_bind (wpAny_pure ?_) | skip
 refine wpAny_bind (wpAny_sequenceKey ht.typeIs (by decide) ?_)
 refine wpAny_bind (wpAny_callSpecial?_slot (name := Str.ofString "__getitem__") ht.typeIs PyProof.Rows.slot_tuple_getitem
  (wpAny_call_entry PyProof.Rows.slot_tuple_getitem ht.typeIs entry_tuple_getitem ?_ (args_tuple_getitem _ _)))
 show wpAny _ _ (Builtin.Tuple.tupleItemsOf (.ref t) >>= _) _ _ s
 refine wpAny_bind (tupleItemsOf_ ht ?_)
 refine wpAny_bind (wpAny_typeOf hTs ?_)
 rw [if_pos (by decide)]
 refine wpAny_bind (zeu hs pl pu ?_)
 have hno : ¬ ((((sIx items.size 0 lo : Nat) : Int) == 0 && (1 : Int) == 1 && (sIx items.size items.size hi - sIx items.size 0 lo) == items.size) = true) := by
  intro q
  rw [Bool.and_eq_true, Bool.and_eq_true] at q
  have q1 : ((sIx items.size 0 lo : Nat) : Int) = 0 := eq_of_beq q.1.1
  have q2 : sIx items.size items.size hi - sIx items.size 0 lo = items.size := eq_of_beq q.2
  exact hw ⟨by omega, by omega⟩
 show wpAny _ _ (if (((sIx items.size 0 lo : Nat) : Int) == 0 && (1 : Int) == 1 && (sIx items.size items.size hi - sIx items.size 0 lo) == items.size) = true then _ else _) _ _ s
 rw [if_neg hno, zn1]
 first
  | exact wpAny_bind (m := Builtin.Tuple.tupleExact _) (wpAny_newObj_type (wpAny_pure ⟨_, rfl, wpAny_pure h⟩) htake)
  | exact wpAny_bind (m := Builtin.Tuple.tupleExact _) (wpAny_newObj_type (wpAny_bind (wpAny_pure (wpAny_pure ⟨_, rfl, wpAny_pure h⟩))) htake)
  | exact wpAny_bind (wpAny_bind (m := Builtin.Tuple.tupleExact _) (wpAny_newObj_type (wpAny_pure (wpAny_pure ⟨_, rfl, wpAny_pure h⟩)) htake))
  | exact wpAny_bind (wpAny_bind (m := Builtin.Tuple.tupleExact _) (wpAny_newObj_type (wpAny_pure ⟨_, rfl, wpAny_pure h⟩) htake))
end
end HT
namespace L2
open PySem PySem.Spec PyProof.Rows
abbrev TO := St → Hp → (Option Int → Hp → Prop) → Prop
def PO (X : Cx) (e : Option Expr) (t : TO) : Prop :=
 ∀ (pins : List (Addr × Obj)) (s : Shared) (σ : St) (H : Hp) (Q : Option Int → Hp → Prop), Inv X pins σ H s → t σ H Q →
  wpAny (model X.prog X.w) X.A (evalPart e X.env) (fun u s' => ∃ o H', Inv X pins σ H' s' ∧ IsPart u o ∧ Q o H') X.xe s
def zq9 : TO := fun _ H Q => Q none H
def zvx (t : TE) : TO := fun σ H Q => t σ H fun x H1 => ∃ i, x = .int i ∧ Q (some i) H1
section
variable {X : Cx} {e : Expr} {te : TE} {lo hi : Option Expr} {tl th : TO} {pos p2 : Pos}
theorem zre : PO X none zq9 := by
 intro pins s σ H Q I h
 rw [evalPart_none]
 exact wpAny_pure ⟨none, H, I, .none, h⟩
theorem zq1 (h : PE X e te) : PO X (some e) (zvx te) := by
 intro pins s σ H Q I hw
 rw [evalPart_some]
 refine thn (h pins s σ H _ I hw) fun u s1 ⟨x, H1, I1, r1, q1⟩ => ?_
 obtain ⟨i, rfl, q⟩ := q1
 obtain ⟨t, rfl⟩ := r1
 exact ⟨some i, H1, I1, .int i t, q⟩
def SlR (X : Cx) (r : V → Option Int → Option Int → Hp → VK → Prop) : Prop :=
 ∀ (pins : List (Addr × Obj)) (s : Shared) (σ : St) (H : Hp) (x : V) (v vl vu : Value) (lo hi : Option Int) (sl : Addr) (Q : VK), Inv X pins σ H s → RelV x v → s.heap.IsSliceOf sl vl vu .none → IsPart vl lo → IsPart vu hi → r x lo hi H Q →
  ∃ T id, typeLookup (.type T) "__getitem__" = pure (some (.builtin id)) ∧ s.TypeIs v T ∧ wpAny (model X.prog X.w) X.A (getItem v (.ref sl)) (EP X pins σ Q) X.xe s
theorem SlR.or {r r' : V → Option Int → Option Int → Hp → VK → Prop} (h : SlR X r) (h' : SlR X r') : SlR X (fun x lo hi H Q => r x lo hi H Q ∨ r' x lo hi H Q) := by
 intro pins s σ H x v vl vu lo hi sl Q I rx hs pl pu q
 rcases q with q | q
 ·exact h pins s σ H x v vl vu lo hi sl Q I rx hs pl pu q
 ·exact h' pins s σ H x v vl vu lo hi sl Q I rx hs pl pu q
def tSl (r : V → Option Int → Option Int → Hp → VK → Prop) (te : TE) (tl th : TO) : TE := fun σ H Q => te σ H fun x H1 => tl σ H1 fun l H2 => th σ H2 fun u H3 => r x l u H3 Q
theorem znl {r : V → Option Int → Option Int → Hp → VK → Prop} (hr : SlR X r) (he : PE X e te) (hl : PO X lo tl) (hu : PO X hi th) : PE X (.Subscript e (.Slice lo hi none p2) pos) (tSl r te tl th) := by
 intro pins s σ H Q I h
 refine Subscript_ (thn (he pins s σ H _ I h) fun v s1 ⟨x, H1, I1, r1, q1⟩ => ?_)
 refine wpAny_Slice (thn (hl pins s1 σ H1 _ I1 q1) fun vl s2 ⟨l, H2, I2, pl, q2⟩ => thn (hu pins s2 σ H2 _ I2 q2) fun vu s3 ⟨u, H3, I3, pu, q3⟩ => ?_)
 rw [evalPart_none]
 refine wpAny_pure ?_
 have I4 : Inv X pins σ H3 { s3 with heap := s3.heap.push { cls := .type "slice", data := .fields #[vl, vu, .none] } } := I3.kept (t' := s3.toks) fun b ob q => Heap.get?_push_of_some _ q
 obtain ⟨T, id, hT, ht, hg⟩ := hr pins { s3 with heap := s3.heap.push { cls := .type "slice", data := .fields #[vl, vu, .none] } } σ H3 x v vl vu l u s3.heap.objs.size Q I4 r1 (Heap.IsSliceOf.new ..) pl pu q3
 show wpAny (model X.prog X.w) X.A (subscriptTail e (.Slice lo hi none p2) v (.ref s3.heap.objs.size)) (EP X pins σ Q) X.xe { s3 with heap := s3.heap.push { cls := .type "slice", data := .fields #[vl, vu, .none] } }
 exact tail_any (ops := [.ref s3.heap.objs.size, v]) ht hT hg (by with_unfolding_all rfl)
def cutV (xs : List V) (lo hi : Option Int) : List V := (xs.drop (HT.sIx xs.length 0 lo)).take (HT.sIx xs.length xs.length hi - HT.sIx xs.length 0 lo)
theorem ze6 (xs : List V) (lo hi : Option Int) : (cutV xs lo hi).length ≤ xs.length := by
 unfold cutV
 rw [List.length_take, List.length_drop]
 omega
def rSlT (K : PySem.W.Frag) : V → Option Int → Option Int → Hp → VK → Prop := fun x lo hi H Q => ∃ a xs, x = .ref a ∧ SqT K H a xs ∧
 ¬ (HT.sIx xs.length 0 lo = 0 ∧ HT.sIx xs.length xs.length hi = xs.length) ∧ ∀ p, H p = none → Q (.ref p) (upd H p (.tup (cutV xs lo hi)))
theorem sl_tup : SlR X (rSlT X.K) := by
 intro pins s σ H x v vl vu lo hi sl Q I rx hs pl pu h
 obtain ⟨a, xs, rfl, hx, hw, q⟩ := h
 cases rx
 obtain ⟨its, r, ht, hz⟩ := I.tuple hx
 have hlen : its.toArray.size = xs.length := by rw [List.size_toArray]; exact r.length.symm
 refine ⟨"tuple", _, PyProof.Rows.slot_tuple_getitem.lookup, ht.typeIs, ?_⟩
 refine HT.getItem_tuple_cut ht hs pl pu (by rw [hlen]; exact hw) ?_ (by rw [hlen]; exact hz)
 rw [hlen]
 refine ⟨.ref s.heap.objs.size, _, I.laid (t' := s.toks) (o := .tup (cutV xs lo hi)) (fun b ob q => Heap.get?_push_of_some _ q) (Nat.le_refl _) ?_, rfl, q _ (I.hok.fresh (Nat.le_refl _))⟩
 exact ⟨Nat.le_trans (ze6 xs lo hi) hz, _, (r.drop (HT.sIx xs.length 0 lo)).take (HT.sIx xs.length xs.length hi - HT.sIx xs.length 0 lo), IsTup.new _ _⟩
def rLtT (K : PySem.W.Frag) : R2 := fun x y H Q => ∃ a b ns ms, x = .ref a ∧ y = .ref b ∧ SqT K H a (ns.map V.int) ∧ SqT K H b (ms.map V.int) ∧ Q (.bl (HT.lexLt ns ms)) H
def rCatT (K : PySem.W.Frag) : R2 := fun x y H Q => ∃ a b xs ys, x = .ref a ∧ y = .ref b ∧ SqT K H a xs ∧ SqT K H b ys ∧ xs ≠ [] ∧ xs.length + ys.length ≤ sizeLine ∧
 (ys = [] → Q (.ref a) H) ∧ (ys ≠ [] → ∀ p, H p = none → Q (.ref p) (upd H p (.tup (xs ++ ys))))
end
end L2
namespace L2
open PySem PySem.Spec PyProof.Rows
def ixN (n : Nat) (i : Int) : Option Nat := if 0 ≤ i then (if i < n then some i.toNat else none) else if -(n : Int) ≤ i then some (i + n).toNat else none
def atI {α : Type} (xs : List α) (i : Int) : Option α := (ixN xs.length i).bind fun j => xs[j]?
theorem zlo {n : Nat} {i : Int} {j : Nat} (h : ixN n i = some j) : seqIndex? i n = some j ∧ j < n ∧ -(n : Int) ≤ i ∧ i < n := by
 unfold ixN at h
 by_cases h0 : 0 ≤ i
 ·rw [if_pos h0] at h
  by_cases h1 : i < n
  ·rw [if_pos h1] at h
   have e : i.toNat = j := Option.some.inj h
   exact ⟨by rw [seqIndex_of h0 h1, e], by omega, by omega, h1⟩
  ·rw [if_neg h1] at h; cases h
 ·rw [if_neg h0] at h
  by_cases h1 : -(n : Int) ≤ i
  ·rw [if_pos h1] at h
   have e : (i + n).toNat = j := Option.some.inj h
   exact ⟨by rw [seqIndex_neg (by omega) h1, e], by omega, h1, by omega⟩
  ·rw [if_neg h1] at h; cases h
theorem zih {α : Type} {xs : List α} {i : Int} {v : α} (h : atI xs i = some v) : ∃ j, seqIndex? i xs.length = some j ∧ xs[j]? = some v ∧ j < xs.length ∧ -(xs.length : Int) ≤ i ∧ i < xs.length := by
 unfold atI at h
 cases e : ixN xs.length i with
 | none => rw [e] at h; cases h
 | some j =>
  rw [e] at h
  obtain ⟨h1, h2, h3, h4⟩ := zlo e
  exact ⟨j, h1, h, h2, h3, h4⟩
theorem zck {α : Type} {xs : List α} {j : Nat} {v : α} (h : xs[j]? = some v) : atI xs (j : Int) = some v := by
 have hj : j < xs.length := (List.getElem?_eq_some_iff.mp h).1
 have e : ixN xs.length (j : Int) = some j := by
  unfold ixN
  rw [if_pos (by omega), if_pos (by omega)]; simp
 unfold atI; rw [e]; exact h
theorem zob {α : Type} (xs : List α) (v : α) : atI (xs ++ [v]) (-1) = some v := by
 have hl : (xs ++ [v]).length = xs.length + 1 := by simp
 have e : ixN (xs ++ [v]).length (-1) = some xs.length := by
  unfold ixN
  rw [hl, if_neg (by decide), if_pos (by omega)]
  congr 1
  omega
 unfold atI
 rw [e]
 show (xs ++ [v])[xs.length]? = some v
 simp
def zlv (b : Expr) : Prop := ∀ o i, subscripted b false o i = operate [o, i] (getItem o i)
def IxR (X : Cx) (r : R2) : Prop :=
 ∀ (value slice : Expr) (pins : List (Addr × Obj)) (s : Shared) (σ : St) (H : Hp) (x y : V) (v u : Value) (Q : VK), Inv X pins σ H s → RelV x v → RelV y u → r x y H Q →
  subscripted slice false v u = operate [v, u] (getItem v u) → wpAny (model X.prog X.w) X.A (subscriptTail value slice v u) (EP X pins σ Q) X.xe s
def MtR (X : Cx) (id : String) (r : V → List V → Hp → VK → Prop) : Prop :=
 ∀ (pins : List (Addr × Obj)) (s : Shared) (σ : St) (H : Hp) (x : V) (xs : List V) (v : Value) (us : List Value) (Q : VK), Inv X pins σ H s → RelV x v → Vals xs us → r x xs H Q →
  wpAny (model X.prog X.w) X.A (call (.builtin id) (v :: us)) (EP X pins σ Q) X.xe s
section
variable {X : Cx} {a b : Expr} {ta tb : TE} {pos : Pos}
theorem IxR.or {r r' : R2} (h : IxR X r) (h' : IxR X r') : IxR X (fun x y H Q => r x y H Q ∨ r' x y H Q) := by
 intro value slice pins s σ H x y v u Q I rx ry q hs
 rcases q with q | q
 ·exact h value slice pins s σ H x y v u Q I rx ry q hs
 ·exact h' value slice pins s σ H x y v u Q I rx ry q hs
theorem zu1 {r : R2} (hr : IxR X r) (ha : PE X a ta) (hb : PE X b tb) (hs : zlv b) : PE X (.Subscript a b pos) (tOp r ta tb) := by
 intro pins s σ H Q I h
 exact Subscript_ (binT ha hb I h fun v u s2 x y H2 I2 rx ry q => hr a b pins s2 σ H2 x y v u Q I2 rx ry q (hs _ _))
def rIxL (K : PySem.W.Frag) : R2 := fun x y H Q => ∃ p xs i v, x = .ref p ∧ y = .int i ∧ SqL K H p xs ∧ atI xs i = some v ∧ Q v H
def rIxT (K : PySem.W.Frag) : R2 := fun x y H Q => ∃ p xs i v, x = .ref p ∧ y = .int i ∧ SqT K H p xs ∧ atI xs i = some v ∧ Q v H
def rIxS : R2 := fun x y H Q => ∃ z i c, x = .str z ∧ y = .int i ∧ z.length ≤ sizeLine ∧ atI z.cps.toList i = some c ∧ Q (.str ⟨#[c]⟩) H
theorem ix_list : IxR X (rIxL X.K) := by
 intro value slice pins s σ H x y v u Q I rx ry h hs
 obtain ⟨p, xs, i, z, rfl, rfl, hq, he, q⟩ := h
 cases rx
 obtain ⟨t, rfl⟩ := ry
 obtain ⟨its, r, pl, hz⟩ := I.list hq
 obtain ⟨j, h1, h2, h3, h4, h5⟩ := zih he
 obtain ⟨w, ew, rw'⟩ := r.get h2
 have hl := r.length
 have hn := zga
 have fin : EP X pins σ Q w s := ⟨z, H, I, rw', q⟩
 by_cases h0 : 0 ≤ i
 ·have hj : i.toNat = j := by
   rw [seqIndex_of h0 h5] at h1
   exact Option.some.inj h1
  exact item_listR pl.isList h0 (by omega) (by rw [hj]; simpa using ew) fin hs
 ·have hj : (i + (its.toArray.size : Int)).toNat = j := by
   rw [seqIndex_neg (by omega) h4] at h1
   rw [List.size_toArray, ← hl]
   exact Option.some.inj h1
  exact subscriptTail_builtinR (x := w) pl.isList.typeIs slot_list_getitem.lookup
   (wpAny_getItem_list_neg (Q := fun r s' => r = w ∧ EP X pins σ Q r s') pl.isList (by omega) (by rw [List.size_toArray] <;> omega) (by omega) (by rw [hj]; simpa using ew) ⟨rfl, fin⟩) hs
theorem ix_tup : IxR X (rIxT X.K) := by
 intro value slice pins s σ H x y v u Q I rx ry h hs
 obtain ⟨p, xs, i, z, rfl, rfl, hq, he, q⟩ := h
 cases rx
 obtain ⟨t, rfl⟩ := ry
 obtain ⟨its, r, pl, hz⟩ := I.tuple hq
 obtain ⟨j, h1, h2, h3, h4, h5⟩ := zih he
 obtain ⟨w, ew, rw'⟩ := r.get h2
 have hl := r.length
 have hn := zga
 have fin : EP X pins σ Q w s := ⟨z, H, I, rw', q⟩
 exact subscriptTail_builtinR (x := w) pl.typeIs slot_tuple_getitem.lookup
  (getItem_tuple (j := j) (Q := fun r s' => r = w ∧ EP X pins σ Q r s') pl (by omega) (by omega) (by rw [List.size_toArray, ← hl]; exact h1) (by simpa using ew) ⟨rfl, fin⟩) hs
theorem zrs : IxR X rIxS := by
 intro value slice pins s σ H x y v u Q I rx ry h hs
 obtain ⟨z, i, c, rfl, rfl, hz, he, q⟩ := h
 obtain ⟨t, rfl⟩ := rx
 obtain ⟨t', rfl⟩ := ry
 obtain ⟨j, h1, h2, h3, h4, h5⟩ := zih he
 have hl : z.cps.toList.length = z.length := by simp [Str.length]
 rw [hl] at h1 h4 h5
 have hn := zga
 exact tail_any (typeIs_str s z t) slot_str_getitem.lookup (getItem_str (c := c) (by
  have e1 : decide (i < -(2 ^ 63 : Int)) = false := decide_eq_false (by omega)
  have e2 : decide (i ≥ 2 ^ 63) = false := decide_eq_false (by omega)
  rw [e1, e2, Bool.or_false]) (by rw [h1]; simpa using h2) ⟨.str ⟨#[c]⟩, H, I.tok _, ⟨_, rfl⟩, q⟩) hs
def rIx (K : PySem.W.Frag) : R2 := fun x y H Q => rIxL K x y H Q ∨ rIxT K x y H Q ∨ rIxS x y H Q
theorem zkh (its : List Value) (n j : Nat) (u : Value) : Obj.mapSeq (·.setIfInBounds j u) { cls := .type "list", data := .seq its.toArray n } = { cls := .type "list", data := .seq (its.set j u).toArray n } := by
 simp [Obj.mapSeq]
theorem Inv.lst {pins : List (Addr × Obj)} {σ : St} {H : Hp} {s : Shared} {p : Addr} {xs : List V} (I : Inv X pins σ H s) (h : H p = some (.lst xs)) :
  ∃ (its : List Value) (n : Nat), Vals xs its ∧ s.heap.get? p = some { cls := .type "list", data := .seq its.toArray n } ∧ xs.length ≤ sizeLine := by
 obtain ⟨z, its, n, r, e⟩ := I.hok p _ h
 exact ⟨its, n, r, e, z⟩
theorem Inv.lstUpd {pins : List (Addr × Obj)} {σ : St} {H : Hp} {s : Shared} {p : Addr} {xs ys : List V} {its its' : List Value} {n n' : Nat} {f : Obj → Obj} (I : Inv X pins σ H s) (h : H p = some (.lst xs))
  (ho : s.heap.get? p = some { cls := .type "list", data := .seq its.toArray n }) (hf : f { cls := .type "list", data := .seq its.toArray n } = { cls := .type "list", data := .seq its'.toArray n' }) (r : Vals ys its') (hz : ys.length ≤ sizeLine) (t : Nat) :
  Inv X pins σ (upd H p (.lst ys)) { s with heap := s.heap.update p f, toks := t } := by
 have e : (s.heap.update p f).get? p = some { cls := .type "list", data := .seq its'.toArray n' } := by
  rw [Heap.get?_update_self f ho (by rw [hf] <;> rfl), hf]
 refine I.write (x := p) (e := p) (by rw [h]; trivial) (.inl rfl) (fun b u hb q => (Heap.get?_update_other _ _ (Ne.symm hb)).trans q) ⟨_, e⟩ ?_
 exact ⟨hz, its', n', r, e⟩
def zp9 : V → V → V → Hp → (Hp → Prop) → Prop := fun o i v H Q => ∃ p xs k j, o = .ref p ∧ i = .int k ∧ H p = some (.lst xs) ∧ ixN xs.length k = some j ∧ Q (upd H p (.lst (xs.set j v)))
theorem zou : PSet X zp9 := by
 intro pins s σ H o i v ov iv u Q I ro ri rv h
 obtain ⟨p, xs, k, j, rfl, rfl, hp, hj, q⟩ := h
 cases ro
 obtain ⟨t, rfl⟩ := ri
 obtain ⟨its, n, r, ho, hz⟩ := I.lst hp
 obtain ⟨h1, h2, h3, h4⟩ := zlo hj
 have hl := r.length
 have hn := zga
 have I' : Inv X pins σ (upd H p (.lst (xs.set j v))) { s with heap := s.heap.update p (Obj.mapSeq (·.setIfInBounds j u)) } :=
  I.lstUpd hp ho (zkh its n j u) (r.set rv j) (by rw [List.length_set]; exact hz) s.toks
 by_cases h0 : 0 ≤ k
 ·have hk : k.toNat = j := by
   rw [seqIndex_of h0 h4] at h1
   exact Option.some.inj h1
  exact PySem.W.ki_setAt ho h0 (by omega) (by rw [List.size_toArray, ← hl]; exact h4) (by rw [hk]; exact ⟨_, I', q⟩)
 ·have hk : (k + (its.toArray.size : Int)).toNat = j := by
   rw [seqIndex_neg (by omega) h3] at h1
   rw [List.size_toArray, ← hl]
   exact Option.some.inj h1
  exact PySem.W.ki_setBack ho (by omega) (by rw [List.size_toArray, ← hl]; exact h3) (by omega) (by rw [hk]; exact ⟨_, I', q⟩)
theorem zhl (lo hi : Option Int) (n : Nat) : (sliceBounds lo hi none n).1 = ((HT.sIx n 0 lo : Nat) : Int) ∧ (sliceBounds lo hi none n).2.1 = ((HT.sIx n n hi : Nat) : Int) ∧ (sliceBounds lo hi none n).2.2 = 1 := by
 refine ⟨?_, ?_, rfl⟩
 ·cases lo with
  | none => simp [sliceBounds, HT.sIx]
  | some i =>
   simp only [sliceBounds, HT.sIx, Option.getD_none, show (1 : Int) > 0 by decide, if_true]
   by_cases h : i < 0
   ·simp only [h, if_true] <;> omega
   ·simp only [h, if_false] <;> omega
 ·cases hi with
  | none => simp [sliceBounds, HT.sIx]
  | some i =>
   simp only [sliceBounds, HT.sIx, Option.getD_none, show (1 : Int) > 0 by decide, if_true]
   by_cases h : i < 0
   ·simp only [h, if_true] <;> omega
   ·simp only [h, if_false] <;> omega
theorem zgv (its : List Value) (lo hi : Option Int) : slicePick its.toArray lo hi none = ((its.drop (HT.sIx its.length 0 lo)).take (HT.sIx its.length its.length hi - HT.sIx its.length 0 lo)).toArray := by
 obtain ⟨h1, h2, h3⟩ := zhl lo hi its.toArray.size
 unfold slicePick
 rw [h1, h2, h3]
 simp only [sliceRange_one, pick_run, List.size_toArray] <;> rfl
def rSlL (K : PySem.W.Frag) : V → Option Int → Option Int → Hp → VK → Prop := fun x lo hi H Q => ∃ a xs, x = .ref a ∧ SqL K H a xs ∧ ∀ p, H p = none → Q (.ref p) (upd H p (.lst (cutV xs lo hi)))
theorem sl_list : SlR X (rSlL X.K) := by
 intro pins s σ H x v vl vu lo hi sl Q I rx hs pl pu h
 obtain ⟨a, xs, rfl, hx, q⟩ := h
 cases rx
 obtain ⟨its, r, ht, hz⟩ := I.list hx
 have hlen := r.length
 refine ⟨"list", _, slot_list_getitem.lookup, ht.isList.typeIs, ?_⟩
 refine wpAny_getItem_list_slice ht.isList hs pl pu .none (by simp) ?_ (by rw [List.size_toArray] <;> omega)
 rw [zgv, ← hlen]
 refine ⟨.ref s.heap.objs.size, _, I.laid (t' := s.toks) (o := .lst (cutV xs lo hi)) (fun b ob q => Heap.get?_push_of_some _ q) (Nat.le_refl _) ?_, rfl, q _ (I.hok.fresh (Nat.le_refl _))⟩
 exact ⟨Nat.le_trans (ze6 xs lo hi) hz, _, 0, (r.drop (HT.sIx xs.length 0 lo)).take (HT.sIx xs.length xs.length hi - HT.sIx xs.length 0 lo), Heap.get?_push_size _ rfl⟩
def zfj : V → Bool
 | .non => true
 | .bl _ => true
 | .int _ => true
 | .str _ => true
 | _ => false
def eqV : V → V → Bool
 | .non, .non => true
 | .bl a, .bl b => a == b
 | .bl a, .int b => (if a then 1 else 0) == b
 | .int a, .bl b => a == (if b then 1 else 0)
 | .int a, .int b => a == b
 | .str a, .str b => a == b
 | _, _ => false
theorem zpg {A : Around} {s : Shared} {y x : V} {u v : Value} (ry : RelV y u) (rx : RelV x v) (fy : zfj y = true) (fx : zfj x = true) : SeqAt.EqAt A s u v (eqV y x) := by
 cases y with
 | non =>
  cases ry
  cases x with
  | non => cases rx; exact SeqAt.EqAt.same _
  | bl b => cases rx; exact SeqAt.EqAt.none_bool b
  | int b => obtain ⟨t, rfl⟩ := rx; exact SeqAt.EqAt.none_int b t
  | str b => obtain ⟨t, rfl⟩ := rx; exact SeqAt.EqAt.none_str b t
  | _ => exact absurd (show false = true from fx) Bool.false_ne_true
 | bl a =>
  cases ry
  cases x with
  | non => cases rx; exact SeqAt.EqAt.bool_none a
  | bl b => cases rx; exact SeqAt.EqAt.bool_bool a b
  | int b => obtain ⟨t, rfl⟩ := rx; exact SeqAt.EqAt.bool_int a b t
  | str b => obtain ⟨t, rfl⟩ := rx; exact SeqAt.EqAt.bool_str a b t
  | _ => exact absurd (show false = true from fx) Bool.false_ne_true
 | int a =>
  obtain ⟨t', rfl⟩ := ry
  cases x with
  | non => cases rx; exact SeqAt.EqAt.int_none a t'
  | bl b => cases rx; exact SeqAt.EqAt.int_bool a t' b
  | int b => obtain ⟨t, rfl⟩ := rx; exact SeqAt.EqAt.int_int a t' b t
  | str b => obtain ⟨t, rfl⟩ := rx; exact SeqAt.EqAt.int_str a t' b t
  | _ => exact absurd (show false = true from fx) Bool.false_ne_true
 | str a =>
  obtain ⟨t', rfl⟩ := ry
  cases x with
  | non => cases rx; exact SeqAt.EqAt.str_none a t'
  | bl b => cases rx; exact SeqAt.EqAt.str_bool a t' b
  | int b => obtain ⟨t, rfl⟩ := rx; exact SeqAt.EqAt.str_int a t' b t
  | str b => obtain ⟨t, rfl⟩ := rx; exact SeqAt.EqAt.str_str a t' b t
  | _ => exact absurd (show false = true from fx) Bool.false_ne_true
 | _ => exact absurd (show false = true from fy) Bool.false_ne_true
def eqU (x : V) (u : Value) : Bool := match u with
 | .none => eqV .non x
 | .bool b => eqV (.bl b) x
 | .int i _ => eqV (.int i) x
 | .str z _ => eqV (.str z) x
 | _ => false
def inV (x : V) (xs : List V) : Bool := xs.any fun y => eqV y x
def rIn (K : PySem.W.Frag) (neg : Bool) : R2 := fun x y H Q => ∃ p xs, y = .ref p ∧ (SqL K H p xs ∨ SqT K H p xs) ∧ zfj x = true ∧ xs.all zfj = true ∧ Q (.bl (if neg then !inV x xs else inV x xs)) H
theorem zhf : zdp X (.type "list") (fun xs H Q => ∃ p ys, xs = [.ref p] ∧ (SqL X.K H p ys ∨ SqT X.K H p ys) ∧ ∀ l, H l = none → Q (.ref l) (upd H l (.lst ys))) := by
 intro pins s σ H xs us Q I r h
 obtain ⟨p, ys, rfl, hq, q⟩ := h
 obtain ⟨u, rfl, rx⟩ := zkr r
 cases rx
 have fin : ∀ (its : List Value), Vals ys its → ys.length ≤ sizeLine → ∀ (h' : Heap) (c' : Nat), (∀ b o', s.heap.get? b = some o' → h'.get? b = some o') →
   h'.get? s.heap.objs.size = some { cls := .type "list", dict := none, data := .seq its.toArray c', slots := #[] } → EP X pins σ Q (.ref s.heap.objs.size) { s with heap := h' } := fun its r' hz h' c' kp e =>
  ⟨.ref s.heap.objs.size, _, I.laid (t' := s.toks) kp (Nat.le_refl _) (show ObjOk X.prog X.w _ h' _ (.lst ys) from ⟨hz, its, c', r', e⟩), rfl, q _ (I.hok.fresh (Nat.le_refl _))⟩
 rcases hq with hq | hq
 ·obtain ⟨its, r', pl, hz⟩ := I.list hq
  have hlen := r'.length
  obtain ⟨o, ho, hc, n, hd⟩ := pl.isList
  exact call_list_seq p (.inl rfl) ho hc hd (fun h' c' kp e => fin its r' hz h' c' kp e) (by simp only [List.size_toArray] <;> omega)
 ·obtain ⟨its, r', pl, hz⟩ := I.tuple hq
  have hlen := r'.length
  obtain ⟨o, ho, hc, n, hd⟩ := pl
  exact call_list_seq p (.inr rfl) ho hc hd (fun h' c' kp e => fin its r' hz h' c' kp e) (by simp only [List.size_toArray] <;> omega)
def tyV (K : PySem.W.Frag) (T : String) (x : V) (H : Hp) : Prop := match x with
 | .str _ => T = "str"
 | .int _ => T = "int"
 | .ref p => (T = "list" ∧ ∃ xs, SqL K H p xs) ∨ (T = "tuple" ∧ ∃ o, K.lookup p = some o ∧ o.cls = .type "tuple" ∧ o.dict = none) ∨
   (T = "dict" ∧ ((∃ kvs, H p = some (.dK kvs)) ∨ ∃ kvs, H p = some (.dT kvs))) ∨ (T = "set" ∧ ∃ S n, H p = some (.set S n))
 | _ => False
theorem zow {pins : List (Addr × Obj)} {σ : St} {H : Hp} {s : Shared} {T : String} {x : V} {v : Value} (I : Inv X pins σ H s) (r : RelV x v) (ty : tyV X.K T x H) :
  s.TypeIs v T ∧ ∀ a, v = .ref a → ∃ ob, s.heap.get? a = some ob ∧ ob.dict = none := by
 cases x with
 | str z =>
  obtain ⟨t, rfl⟩ := r
  cases (show T = "str" from ty)
  exact ⟨typeIs_str s z t, fun _ e => nomatch e⟩
 | int i =>
  obtain ⟨t, rfl⟩ := r
  cases (show T = "int" from ty)
  exact ⟨typeIs_int s i t, fun _ e => nomatch e⟩
 | ref p =>
  cases r
  rcases ty with ⟨rfl, xs, hq⟩ | ⟨rfl, o, hk, hc, hd⟩ | ⟨rfl, hk⟩ | ⟨rfl, S, n, hk⟩
  ·obtain ⟨its, _, pl, _⟩ := I.list hq
   refine ⟨pl.isList.typeIs, fun a e => ?_⟩
   cases e
   obtain ⟨o, n, e, c, hd, _⟩ := pl
   exact ⟨o, e, hd⟩
  ·refine ⟨⟨o, I.kIn p o hk, hc⟩, fun a e => ?_⟩
   cases e
   exact ⟨o, I.kIn _ o hk, hd⟩
  ·have z : ∃ o, s.heap.get? p = some o ∧ o.ExactDict := by
    rcases hk with ⟨kvs, hk⟩ | ⟨kvs, hk⟩
    ·obtain ⟨_, _, _, _, o, _, _, e, ex, _⟩ := I.hok p _ hk
     exact ⟨o, e, ex⟩
    ·obtain ⟨_, _, _, _, o, _, _, e, ex, _⟩ := I.hok p _ hk
     exact ⟨o, e, ex⟩
   obtain ⟨o, e, ex⟩ := z
   refine ⟨⟨o, e, ex.1⟩, fun a e2 => ?_⟩
   cases e2
   exact ⟨o, e, ex.2.1⟩
  ·obtain ⟨o, _, _, _, e, ex, _⟩ := I.hok p _ hk
   refine ⟨⟨o, e, ex.1⟩, fun a e2 => ?_⟩
   cases e2
   exact ⟨o, e, ex.2.1⟩
 | _ => exact False.elim ty
def tBM0 (K : PySem.W.Frag) (T : String) (r : V → List V → Hp → VK → Prop) (to : TE) : TE := fun σ H Q => to σ H fun x H1 => tyV K T x H1 ∧ r x [] H1 Q
def tBM (K : PySem.W.Frag) (T : String) (r : V → List V → Hp → VK → Prop) (to : TE) (t : TA) : TE := fun σ H Q => to σ H fun x H1 => tyV K T x H1 ∧ t σ H1 fun xs H2 => r x xs H2 Q
variable {o e : Expr} {es : List Expr} {to : TE} {t : TA} {name : Str} {apos cpos : Pos} {T id : String} {r : V → List V → Hp → VK → Prop}
theorem zti (pa : PlainAttrs T) (slot : Slot T name id) (hty : typeOf (.builtin id) = pure (.type "method_descriptor")) (hm : MtR X id r) (ho : PE X o to)
  (hbase : attributeBase o name X.env (eval o X.env) = eval o X.env := by rfl) (hline : (apos.endLine == cpos.line) = true := by rfl) : PE X (.Call (.Attribute o name apos) [] [] cpos) (tBM0 X.K T r to) := by
 intro pins s σ H Q I h
 refine wpAny_Call_method0_late hbase hline (thn (ho pins s σ H _ I h) fun v s1 ⟨x, H1, I1, r1, ty, q1⟩ => ?_)
 obtain ⟨h1, h2⟩ := zow I1 r1 ty
 exact ⟨T, id, pa, slot, hty, h1, h2, Calls.callWith_builtin rfl (PySem.evalArgs_none (hm pins s1 σ H1 x [] v [] Q I1 r1 .nil q1))⟩
theorem zvc (pa : PlainAttrs T) (slot : Slot T name id) (hty : typeOf (.builtin id) = pure (.type "method_descriptor")) (hm : MtR X id r) (ho : PE X o to) (ha : PA X (e :: es) t)
  (hbase : attributeBase o name X.env (eval o X.env) = eval o X.env := by rfl)
  (hfew : ((backTo cpos (starEach (e :: es) X.env)).all (fun x => !x.1) && (backToKw cpos (keywordEach [] X.env)).all (fun x => x.1.isSome)
   && decide ((e :: es).length + ([] : List Keyword).length + (if ([] : List Keyword).isEmpty then 0 else 1) < 30)) = true := by rfl)
  (hline : (apos.endLine == cpos.line) = true := by rfl) (hs : starEach (e :: es) X.env = (false, eval e X.env) :: starEach es X.env := by rfl) (hplain : (backTo cpos (starEach es X.env)).any (·.1) = false := by rfl) :
  PE X (.Call (.Attribute o name apos) (e :: es) [] cpos) (tBM X.K T r to t) := by
 intro pins s σ H Q I h
 refine wpAny_Call_method_late hbase hfew hline rfl (thn (ho pins s σ H _ I h) fun v s1 ⟨x, H1, I1, r1, ty, q1⟩ => ?_)
 obtain ⟨h1, h2⟩ := zow I1 r1 ty
 refine ⟨T, id, pa, slot, hty, h1, h2, ?_⟩
 have hA := ha cpos pins s1 σ H1 _ I1 q1
 rw [hs] at hA ⊢
 refine Calls.callWith_builtin (by show (false || (backTo cpos (starEach es X.env)).any (·.1)) = false; rw [hplain] <;> rfl) (Calls.evalArgs_plain ?_)
 exact thn hA fun us s2 ⟨vs, H2, I2, r2, q2⟩ => hm pins s2 σ H2 x vs v us Q I2 r1 r2 q2
end
end L2
namespace L2
open PySem PySem.Spec PyProof.Rows
def MtM (X : Cx) (id : String) (r : V → List V → Hp → VK → Prop) : Prop :=
 ∀ (pins : List (Addr × Obj)) (s : Shared) (σ : St) (H : Hp) (x : V) (xs : List V) (v : Value) (us : List Value) (Q : VK), Inv X pins σ H s → RelV x v → Vals xs us → r x xs H Q →
  wpAny (model X.prog X.w) X.A (call (.builtin id) (v :: us)) (EP X pins σ Q) X.xe s
theorem Vals.one : ∀ {x : V} {us : List Value}, Vals [x] us → ∃ u, us = [u] ∧ RelV x u
 | _, _, .cons r .nil => ⟨_, rfl, r⟩
theorem Vals.zero : ∀ {us : List Value}, Vals [] us → us = []
 | _, .nil => rfl
theorem Vals.dropLast {xs : List V} {us : List Value} (h : Vals xs us) : Vals xs.dropLast us.dropLast := by
 induction h with
 | nil => exact .nil
 | cons r t ih =>
  cases t with
  | nil => exact .nil
  | cons q t' => exact .cons r ih
theorem Vals.rep {xs : List V} {us : List Value} (h : Vals xs us) : ∀ k : Nat, Vals (List.replicate k xs).flatten (List.replicate k us).flatten
 | 0 => .nil
 | k + 1 => by
  rw [List.replicate_succ, List.replicate_succ, List.flatten_cons, List.flatten_cons]
  exact Vals.append h (Vals.rep h k)
theorem zkc {α : Type} (l : List α) : l.eraseIdx (l.length - 1) = l.dropLast := by
 induction l with
 | nil => rfl
 | cons a r ih =>
  cases r with
  | nil => rfl
  | cons b r =>
   have e : (a :: b :: r).length - 1 = ((b :: r).length - 1) + 1 := by
    have h1 : (a :: b :: r).length = r.length + 2 := rfl
    have h2 : (b :: r).length = r.length + 1 := rfl
    omega
   rw [e, List.eraseIdx_cons_succ, ih]
   all_goals rfl
theorem zg9 (its : List Value) : ∀ (k : Nat) (acc : List Value),
  List.foldl (fun x1 x2 => x1 ++ x2) acc.toArray (List.replicate k its.toArray) = (acc ++ (List.replicate k its).flatten).toArray
 | 0, acc => by simp
 | k + 1, acc => by
  have e : acc.toArray ++ its.toArray = (acc ++ its).toArray := by simp
  have e2 : (acc ++ its) ++ (List.replicate k its).flatten = acc ++ (List.replicate (k + 1) its).flatten := by
   rw [List.replicate_succ, List.flatten_cons, List.append_assoc]
  rw [← e2, ← zg9 its k (acc ++ its), ← e, List.replicate_succ, List.foldl_cons]
section
variable {X : Cx} {pins : List (Addr × Obj)} {σ : St} {H : Hp} {s : Shared} {l b : Addr} {xs ys zs : List V}
theorem Inv.lset {its its' : List Value} {n : Nat} {f : Array Value → Array Value} {t' : Nat} (I : Inv X pins σ H s) (hH : H l = some (.lst xs))
  (e : s.heap.get? l = some { cls := .type "list", data := .seq its.toArray n }) (hf : f its.toArray = its'.toArray) (hv : Vals ys its') (hz : ys.length ≤ sizeLine) :
  Inv X pins σ (upd H l (.lst ys)) { s with heap := s.heap.update l (Obj.mapSeq f), toks := t' } := by
 have q := PySem.IsL.update e f
 rw [hf] at q
 refine I.write (x := l) (e := l) (by rw [hH]; exact trivial) (.inl rfl) (fun b' u hb hu => (Heap.get?_update_other s.heap (Obj.mapSeq f) (Ne.symm hb)).trans hu) ⟨_, q⟩ ?_
 exact ⟨hz, its', _, hv, q⟩
theorem Inv.lnew {its : List Value} {t' : Nat} (I : Inv X pins σ H s) (hv : Vals ys its) (hz : ys.length ≤ sizeLine) :
  Inv X pins σ (upd H s.heap.objs.size (.lst ys)) { s with heap := s.heap.push { cls := .type "list", data := .seq its.toArray }, toks := t' } :=
 I.laid (fun _ _ q => Heap.get?_push_of_some _ q) (Nat.le_refl _) ⟨hz, its, 0, hv, Heap.get?_push_size _ rfl⟩
theorem Inv.fresh (I : Inv X pins σ H s) : H s.heap.objs.size = none := I.hok.fresh (Nat.le_refl _)
theorem Inv.lstM (I : Inv X pins σ H s) (hH : H l = some (.lst xs)) : xs.length ≤ sizeLine ∧ ∃ (its : List Value) (n : Nat), Vals xs its ∧ xs.length = its.length ∧ s.heap.get? l = some { cls := .type "list", data := .seq its.toArray n } := by
 obtain ⟨z, its, n, r, e⟩ := I.hok l _ hH
 exact ⟨z, its, n, r, r.length, e⟩
theorem zne {n : Nat} (h : n ≤ sizeLine) : Builtin.List.listTooLong n = false := by
 unfold Builtin.List.listTooLong
 exact decide_eq_false (by omega)
end
section
variable {X : Cx}
def zlz : V → List V → Hp → VK → Prop := fun x vs H Q => ∃ l xs y, x = .ref l ∧ vs = [y] ∧ H l = some (.lst xs) ∧ xs.length < sizeLine ∧ Q .non (upd H l (.lst (xs ++ [y])))
theorem zbw : MtM X "list.append" zlz := by
 intro pins s σ H x vs v us Q I rx rv h
 obtain ⟨l, xs, y, rfl, rfl, hH, hz, q⟩ := h
 cases rx
 obtain ⟨u, rfl, ru⟩ := rv.one
 obtain ⟨z, its, n, r, hl, e⟩ := I.lstM hH
 refine call_meets F.slot_list_append ⟨_, e, rfl⟩ F.entry_list_append (F.args_list_append_2 _ _) (PySem.list_append l its.toArray n u (by rw [List.size_toArray]; omega)) ⟨e, ?_⟩
 refine ⟨.non, _, I.lset (its' := its ++ [u]) hH e (by simp) (r.append (.cons ru .nil)) ?_, rfl, q⟩
 rw [List.length_append, List.length_singleton]
 omega
def rExtend : V → List V → Hp → VK → Prop := fun x vs H Q => ∃ l b xs zs, x = .ref l ∧ vs = [.ref b] ∧ H l = some (.lst xs) ∧ H b = some (.lst zs) ∧ xs.length + zs.length ≤ sizeLine ∧ Q .non (upd H l (.lst (xs ++ zs)))
def rPop : V → List V → Hp → VK → Prop := fun x vs H Q => ∃ l xs y, x = .ref l ∧ vs = [] ∧ H l = some (.lst xs) ∧ xs[xs.length - 1]? = some y ∧ Q y (upd H l (.lst xs.dropLast))
theorem zs4 : MtM X "list.pop" rPop := by
 intro pins s σ H x vs v us Q I rx rv h
 obtain ⟨l, xs, y, rfl, rfl, hH, hy, q⟩ := h
 cases rx
 have hus := rv.zero
 subst hus
 obtain ⟨z, its, n, r, hl, e⟩ := I.lstM hH
 obtain ⟨u, hu, ru⟩ := r.get hy
 have hy' : its.toArray[its.toArray.size - 1]? = some u := by
  show its.toArray[its.length - 1]? = some u
  rw [← Array.getElem?_toList, ← hl]
  exact hu
 refine call_meets F.slot_list_pop ⟨_, e, rfl⟩ F.entry_list_pop (F.args_list_pop_1 _) (MeetsSeq.list_pop_last l its.toArray n u hy' (by rw [List.size_toArray]; omega)) ⟨e, ?_⟩
 refine ⟨y, _, I.lset (its' := its.dropLast) hH e ?_ r.dropLast ?_, ru, q⟩
 ·show its.toArray.eraseIdxIfInBounds (its.toArray.size - 1) = its.dropLast.toArray
  rw [List.size_toArray, List.eraseIdxIfInBounds_toArray, zkc]
 ·rw [List.length_dropLast]
  omega
def rPopAt : V → List V → Hp → VK → Prop := fun x vs H Q => ∃ l xs i k y, x = .ref l ∧ vs = [.int i] ∧ H l = some (.lst xs) ∧ -(2 ^ 63) ≤ i ∧ i < 2 ^ 63 ∧ seqIndex? i xs.length = some k ∧ xs[k]? = some y ∧ Q y (upd H l (.lst (xs.eraseIdx k)))
def rReverse : V → List V → Hp → VK → Prop := fun x vs H Q => ∃ l xs, x = .ref l ∧ vs = [] ∧ H l = some (.lst xs) ∧ Q .non (upd H l (.lst xs.reverse))
def zpo : V → List V → Hp → VK → Prop := fun x vs H Q => ∃ l xs, x = .ref l ∧ vs = [] ∧ H l = some (.lst xs) ∧ Q .non (upd H l (.lst []))
theorem zoa : MtM X "list.clear" zpo := by
 intro pins s σ H x vs v us Q I rx rv h
 obtain ⟨l, xs, rfl, rfl, hH, q⟩ := h
 cases rx
 have hus := rv.zero
 subst hus
 obtain ⟨z, its, n, r, hl, e⟩ := I.lstM hH
 refine call_meets F.slot_list_clear ⟨_, e, rfl⟩ F.entry_list_clear (F.args_list_clear_1 _) (AutoSeq1.list_clear_list_0 l its.toArray n (by rw [List.size_toArray]; omega)) ⟨e, ?_⟩
 exact ⟨.non, _, I.lset (its' := []) (ys := []) hH e rfl .nil (Nat.zero_le _), rfl, q⟩
def rCat : R2 := fun x y H Q => ∃ l b xs zs, x = .ref l ∧ y = .ref b ∧ H l = some (.lst xs) ∧ H b = some (.lst zs) ∧ xs.length + zs.length ≤ sizeLine ∧ ∀ p, H p = none → Q (.ref p) (upd H p (.lst (xs ++ zs)))
theorem zro : OpR X (binaryOp .Add) rCat := by
 intro pins s σ H x y v u Q I rx ry h
 obtain ⟨l, b, xs, zs, rfl, rfl, hH, hB, hz, q⟩ := h
 cases rx
 cases ry
 obtain ⟨z, its, n, r, hl, e⟩ := I.lstM hH
 obtain ⟨z2, its2, n2, r2, hl2, e2⟩ := I.lstM hB
 refine PySem.P.add_list e e2 ?_ (by rw [List.size_toArray, List.size_toArray]; omega)
 have ea : its.toArray ++ its2.toArray = (its ++ its2).toArray := by simp
 rw [ea]
 exact ⟨.ref _, _, I.lnew (t' := s.toks) (r.append r2) (by rw [List.length_append]; omega), rfl, q _ I.fresh⟩
def rRep : R2 := fun x y H Q => ∃ l k xs, x = .ref l ∧ y = .int k ∧ H l = some (.lst xs) ∧ -(2 ^ 63) ≤ k ∧ k < 2 ^ 63 ∧ xs.length * k.toNat ≤ sizeLine ∧
 ∀ p, H p = none → Q (.ref p) (upd H p (.lst (List.replicate k.toNat xs).flatten))
theorem zpv {α : Type} (xs : List α) (k : Nat) : (List.replicate k xs).flatten.length = k * xs.length := by
 induction k with
 | zero => simp
 | succ k ih => rw [List.replicate_succ, List.flatten_cons, List.length_append, ih, Nat.succ_mul, Nat.add_comm]
theorem zsu : OpR X (binaryOp .Mult) rRep := by
 intro pins s σ H x y v u Q I rx ry h
 obtain ⟨l, k, xs, rfl, rfl, hH, h1, h2, hz, q⟩ := h
 cases rx
 obtain ⟨t, rfl⟩ := ry
 obtain ⟨z, its, n, r, hl, e⟩ := I.lstM hH
 have hlen : its.toArray.size * k.toNat ≤ sizeLine := by rw [List.size_toArray, ← hl]; exact hz
 have hcap : ¬ its.toArray.size * k.toNat > (2 ^ 63 - 1) / 8 := by
  have : (sizeLine : Nat) ≤ (2 ^ 63 - 1) / 8 := by decide
  omega
 have hfit : ¬ (!Builtin.List.listFitsIndex k) = true := by
  rw [fitsIndex_both h1 h2]
  exact Bool.false_ne_true
 have hlong : ¬ Builtin.List.listTooLong (its.toArray.size * k.toNat) = true := by
  rw [zne hlen]
  exact Bool.false_ne_true
 have hnew : List.foldl (fun x1 x2 => x1 ++ x2) #[] (List.replicate (if its.toArray.isEmpty = true then 0 else k.toNat) its.toArray) = (List.replicate k.toNat its).flatten.toArray := by
  have f0 : ∀ m : Nat, List.foldl (fun x1 x2 => x1 ++ x2) #[] (List.replicate m its.toArray) = (List.replicate m its).flatten.toArray := fun m => by
   have := zg9 its m []
   rw [List.nil_append] at this
   exact this
  rw [f0]
  cases its with
  | nil => simp
  | cons a r' => rw [if_neg (by simp)]
 refine wpAny_binaryOp_repeat_ref (T := "list") (U := "int") (by decide) ⟨_, e, rfl⟩ (fun s' => typeIs_int s' k t) noFill_list_mul F.fills_int_mul F.slot_int_rmul repeat_list F.slot_int_index.lookup
  (call_meets F.slot_int_rmul (typeIs_int s k t) F.entry_int_rmul (F.args_int_rmul_2 _ _) (int___rmul___int_list k t l its.toArray n)
   ⟨e, rfl, ⟨_, e, rfl⟩, call_meets F.slot_list_mul ⟨_, e, rfl⟩ F.entry_list_mul (F.args_list_mul_2 _ _) (AutoListH.list___mul___list_int_3 l its.toArray n k t hfit hcap hlong) ⟨e, ?_⟩⟩)
 rw [hnew]
 exact ⟨.ref _, _, I.lnew (t' := s.toks) (r.rep k.toNat) (by rw [zpv, Nat.mul_comm]; exact hz), rfl, q _ I.fresh⟩
end
section
variable {prog : Program} {w : World} {A : Around} {E : Value → Shared → Prop} {s : Shared}
set_option maxRecDepth 100000 in
end
section
variable {X : Cx}
end
end L2
namespace Att
open PySem PySem.W PySem.Calls PyProof.Rows
theorem zfd {P : Params} {h : Heap} : ∀ (ns : List Int) (vs : List Value), WellAll P h vs (ns.map WData.int) → IntsAre vs ns := by
 intro ns
 induction ns with
 | nil =>
  intro vs w
  rw [List.map_nil] at w
  cases w
  exact .nil
 | cons n ns ih =>
  intro vs w
  rw [List.map_cons] at w
  cases w with
  | cons a b =>
   cases a
   exact .cons _ _ (ih _ b)
theorem zmr {l : OpenLaw} {n : Nat} (hn : l.most = some n) {P : Params} {h : Heap} {args : List WData} {vals : List Value}
  (hpre : l.row.toRowW.claim.pre args = true) (hwl : WellAll P h vals args) :
  ∃ a vs ns, vals = [Value.ref a] ∧ args = [WData.list (ns.map WData.int)] ∧ h.get? a = some { cls := .type "list", data := .seq vs.toArray } ∧ IntsAre vs ns ∧ ns.length ≤ n := by
 have hsh : WShape.hasAll [] args [.list .int] = true := (pre_splitW hpre).1
 have hc : l.pre.holds [] { args := args } = true := (pre_splitW hpre).2
 obtain ⟨d, r, rfl, h1, h2⟩ := hasAllW_cons hsh
 obtain rfl := hasAllW_nil h2
 obtain ⟨xs, rfl, h3⟩ := hasW_list h1
 obtain ⟨ns, rfl⟩ := items_int h3
 have hlen : ns.length ≤ n := by
  unfold OpenLaw.pre at hc
  have h4 : (WTm.not (.lt (.lit (.int (n : Int))) (.len (.arg 0)))).holds [] { args := [.list (ns.map .int)] } = true := by
   have h4 := (holds_andW hc).1
   rw [hn] at h4
   exact h4
  have h5 := condW_of h4 (w_not (w_lt w_lit (w_len_list (w_arg rfl))))
  rw [List.length_map] at h5
  refine Nat.le_of_not_lt fun q => ?_
  have q' : (n : Int) < ((ns.length : Nat) : Int) := by omega
  first
   | (rw [decide_eq_true q'] at h5; exact absurd h5 (by decide))
   | (simp at h5; omega)
 cases hwl with
 | cons w1 w2 =>
  cases w2
  cases w1 with
  | list ho hall => exact ⟨_, _, ns, rfl, rfl, ho, zfd ns _ hall, hlen⟩
theorem zk2 (l : OpenLaw) (args : List WData) : l.row.toRowW.claim.post args (.bool true) args = true :=
 postW_of (r := l.row.toRowW) (X := (true == true))
  (show WShape.has [] (.bool true) .bool = true by first | rfl | decide | simp [WShape.has, WShape.arms, WShape.armsAll])
  (show (WTm.eq .res (.lit (.bool true))).value [] { args := args, res := some (.bool true), after := args } = some (.bool (true == true)) from w_eq_bool (w_res rfl) w_lit) rfl
theorem attach_call {l : OpenLaw} {n : Nat} {q : Program} {loose : List Str} {XP : (Str → Option Value) → Heap → Prop} {YP : World → Heap → Prop} {d : DefRec}
  (hn : l.most = some n) (hdf : d.params.defaults = [])
  (call : ∀ (w : World) (s₀ s₁ : Shared) (mg mb : Str → Option Value) (fa : Addr) (o : Obj) (pm cd doc : Value) (a : Addr) (vs : List Value) (ns : List Int),
   Ground q loose [] XP w s₀ mg mb s₁.heap → YP w s₁.heap →
   s₁.heap.get? fa = some o → o.data = .func (docDef d.name d.params d.body d.scope pm cd doc) → s₁.heap.CodeRec cd d.name → mg d.name = some (.ref fa) →
   s₁.heap.get? a = some { cls := .type "list", data := .seq vs.toArray } → IntsAre vs ns → ns.length ≤ n → s₁.gens = #[] →
   codeAny (model l.prog w) callerA (.call (.ref fa) ⟨[.ref a], []⟩) (fun r s' => r = .ok (.ret (.bool true)) ∧ OldK s₁.heap s'.heap ∧ s'.os = s₁.os ∧ AllBare s'.gens) s₁) :
  WalkO q loose XP YP l.row.toRowW d [] (fun f vs => PySem.call f vs) := by
 intro w s₀ s₁ mg mb G Y fa o pm cd doc dV kV ho hd hcd hD hmg hg args vals as hpre hlay hrd hwl hlo
 obtain rfl : dV = .none := Dflts.none hD hdf
 obtain rfl : kV = .none := Dflts.noKw hD
 obtain ⟨a, vs, ns, rfl, rfl, hobj, hints, hlen⟩ := zmr hn hpre hwl
 refine enter_call (codeAny_mono (call w s₀ s₁ mg mb fa o pm cd doc a vs ns G Y ho (fd_plain hd) hcd hmg hobj hints hlen hg) fun r s' hq => ?_)
 obtain ⟨rfl, h2, h3, h4⟩ := hq
 exact ⟨.inl ⟨.bool true, .bool true, [], rfl, fun _ => rfl, .bool true, zk2 l _, fun _ => ⟨List.Pairwise.nil, fun _ hm => (nomatch hm)⟩⟩, h2, h3, h4⟩
section
variable {prog : Program} {w : World} {A : Around} {E : Value → Shared → Prop} {s : Shared} {K : Frag}
def noObjs (h : Heap) : Heap := { h with objs := #[] }
def ledger (h : Heap) (L d : Addr) : List (Addr × Obj) := (List.range h.objs.size).filterMap fun a => if a = L ∨ a = d then none else (h.get? a).map fun o => (a, o)
end
end Att
namespace L2
open PySem PySem.Spec PyProof.Rows
theorem zhu : ∀ {vs : List Value} {ns : List Int}, IntsAre vs ns → Vals (ns.map V.int) vs
 | _, _, .nil => .nil
 | _, _, .cons n t h => .cons ⟨t, rfl⟩ (zhu h)
def Only (H : Hp) : Prop := ∀ b, H b = none ∨ ∃ o xs, H b = some (.frz o (.lst xs))
theorem znu {P : Program} {w : World} {K : PySem.W.Frag} {mg mb : Str → Option Value} {CX : CXT} {k : Nat} {fa a : Addr} {fd : FuncData} {x : Str} {sp : Sp} {s₁ : Shared} {vs : List Value} {ns : List Int}
  (KX : K.In s₁.heap) (hns : s₁.heap.Ns mainGlobals mg) (hb : s₁.heap.Ns builtinsNs mb) (hbb : ∀ x : Str, x ≠ "__name__" → mb x = bootBuiltins x) (hlim : s₁.heap.NoLimit) (hg : s₁.gens = #[])
  (ha : s₁.heap.get? a = some { cls := .type "list", data := .seq vs.toArray }) (hi : IntsAre vs ns) (hl : ns.length ≤ sizeLine) (hr : Room k callerA)
  (F : ∀ base : Heap, K.In base → base.Ns mainGlobals mg → FnOk P w K mg base CX k fa fd [x] sp) (hbind : ∀ (s : Shared) (u : Value), BindsTo s fd ⟨[u], []⟩ [(x, u)])
  (hsp : ∀ H : Hp, Only H → SqL K H a (ns.map V.int) → sp [.ref a] H (fun v _ => v = .bl true) fun _ _ _ => False)
  (hCX : ∀ H e s', CX [] H s₁ (fun _ _ _ => False) e s' → False) :
  codeAny (model P w) callerA (.call (.ref fa) ⟨[.ref a], []⟩) (fun r s' => r = .ok (.ret (.bool true)) ∧ OldK s₁.heap s'.heap ∧ s'.os = s₁.os ∧ AllBare s'.gens) s₁ := by
 have rv := zhu hi
 have lenV := hi.length
 have core : ∀ H : Hp, Only H → SqL K H a (ns.map V.int) → HOk P w H s₁.heap → (∀ b, H b ≠ none → b = a) → (H a ≠ none → K.lookup a = none) →
   codeAny (model P w) callerA (.call (.ref fa) ⟨[.ref a], []⟩) (fun r s' => r = .ok (.ret (.bool true)) ∧ OldK s₁.heap s'.heap ∧ s'.os = s₁.os ∧ AllBare s'.gens) s₁ := by
  intro H hO hS hok hA hK
  have base_of : ∀ {b : Addr} {o : Obj}, s₁.heap.get? b = some o → H b = none → (hidT s₁.heap H).get? b = some o := fun e n => zm7 e n
  have noA : ∀ {b : Addr} {o : Obj} {es : Array DictEntry} {ep : Nat}, s₁.heap.get? b = some o → o.data = .dict es ep → H b = none := fun {b o es ep} e d => by
   cases q : H b with
   | none => rfl
   | some u =>
    have e' : b = a := hA b (by rw [q]; simp)
    subst e'
    rw [ha] at e; cases e
    have d' : Data.seq vs.toArray _ = Data.dict es ep := d
    cases d'
  have nsK : ∀ {b : Addr} {m : Str → Option Value}, s₁.heap.Ns b m → (hidT s₁.heap H).Ns b m := fun {b m} ⟨o, es, ep, e, d, r⟩ => ⟨o, es, ep, base_of e (noA e d), d, r⟩
  have hKb : K.In (hidT s₁.heap H) := fun b o e => base_of (KX b o e) (by
   cases q : H b with
   | none => rfl
   | some u =>
    have e' : b = a := hA b (by rw [q]; simp)
    subst e'
    rw [hK (by rw [q]; simp)] at e; cases e)
  have hM : Mod K mg (hidT s₁.heap H) := ⟨hKb, nsK hns, ⟨mb, nsK hb, hbb⟩, let ⟨mc, h1, h2⟩ := hlim; ⟨mc, nsK h1, h2⟩⟩
  have e0 : Env0 P w K mg (hidT s₁.heap H) callerA [] s₁ H := ⟨rfl, hM, fun b o e => zp6 e, Nat.le_of_eq (zlu _ _), trivial, fun b hb => absurd (show b ∈ ([] : List Addr) from hb) (by simp), hok, .of_eq hg⟩
  refine codeAny_mono ((F _ hKb (nsK hns)).run callerA [] s₁ H ⟨[.ref a], []⟩ [.ref a] [.ref a] _ _ hr e0 (hbind s₁ (.ref a)) (.cons rfl .nil) (hsp H hO hS)) fun r s' h => ?_
  cases r with
  | error e => exact (hCX H e s' h).elim
  | ok fl =>
   cases fl with
   | next => exact False.elim h
   | brk => exact False.elim h
   | cont => exact False.elim h
   | ret u =>
    obtain ⟨v, H', os, bare, un, hok', r', q⟩ := h
    have q' : v = .bl true := q
    subst q'
    obtain rfl : u = Value.bool true := r'
    refine ⟨rfl, OldK.of_keep fun b o e => ?_, os, bare⟩
    cases q : H b with
    | none => exact un.keep b o e q (by intro z; exact absurd (show b ∈ ([] : List Addr) from z) (by simp)) (by simp)
    | some u =>
     rcases hO b with z | ⟨ob, xs, z⟩
     ·rw [q] at z; cases z
     ·have z2 := un.frzs b ob _ z
      obtain ⟨e1, _⟩ := hok b _ z
      obtain ⟨e2, _⟩ := hok' b _ z2
      rw [e] at e1; cases e1
      exact e2
 cases hk : K.lookup a with
 | some o =>
  have e := KX a o hk
  rw [ha] at e
  cases e
  refine core (fun _ => none) (fun _ => .inl rfl) (.inr ⟨_, vs.toArray, _, hk, rfl, rfl, rfl, by rw [List.size_toArray, lenV]; exact hl, by simpa using rv⟩) (fun b u z => by have z' : (none : Option HO) = some u := z; cases z') (fun b z => absurd rfl z) fun z => absurd rfl z
 | none =>
  refine core (fun b => if b = a then some (.frz { cls := .type "list", data := .seq vs.toArray } (.lst (ns.map V.int))) else none) (fun b => ?_) (.inl (.inr ⟨{ cls := .type "list", data := .seq vs.toArray }, if_pos rfl⟩)) (fun b u z => ?_) (fun b z => ?_) fun _ => hk
  ·by_cases hb : b = a
   ·exact .inr ⟨_, _, if_pos hb⟩
   ·exact .inl (if_neg hb)
  ·by_cases hb : b = a
   ·have z' := (if_pos hb).symm.trans z
    cases z'
    subst hb
    exact ⟨ha, by rw [List.length_map]; exact hl, vs, _, rv, ha⟩
   ·have z' := (if_neg hb).symm.trans z
    cases z'
  ·by_cases hb : b = a
   ·exact hb
   ·exact absurd (if_neg hb) z
end L2
namespace L2
open PySem PySem.Spec PyProof.Rows
abbrev KOf {K : PySem.W.Frag} {h : Heap} (_ : K.In h) : PySem.W.Frag := K
end L2
namespace L2
open PySem PySem.Spec PyProof.Rows
def zgf (s : Stmt) (j : Nat) : Stmt := match s with
 | .ClassDef _ _ _ body _ _ _ _ _ _ _ => body.getD j (.Pass ⟨0, 0, 0, 0⟩)
 | _ => .Pass ⟨0, 0, 0, 0⟩
def zfr (s : Stmt) : Arguments := match s with
 | .FunctionDef _ a _ _ _ _ _ _ _ _ => a
 | _ => { posonlyargs := [], args := [], vararg := none, kwonlyargs := [], kw_defaults := [], kwarg := none, defaults := [] }
def zds (s : Stmt) : List Stmt := match s with
 | .FunctionDef _ _ b _ _ _ _ _ _ _ => b
 | _ => []
def zaf (s : Stmt) : Scope := match s with
 | .FunctionDef _ _ _ _ _ _ sc _ _ _ => sc
 | _ => { kind := .function, names := [], isGenerator := false, isCoroutine := false }
abbrev CX0 : CXT := fun _ _ _ _ _ _ => False
abbrev E0 : XK := fun _ _ _ => False
structure Fun (K : PySem.W.Frag) (x qual : Str) (st : Stmt) (f : Addr) (fd : FuncData) : Prop where
 ex : ∃ (oc : Value) (od : Option Addr) (kV doc pm : Value) (an : Option Addr) (cdv ct : Value) (osl : Array (Option Value)),
  fd = PySem.W.fnOf x qual (zfr st) (zds st) (zaf st) .none kV doc pm an cdv ct ∧ K.lookup f = some ⟨oc, od, .func fd, osl⟩ ∧ PySem.W.codeIn K cdv qual = true
 kp : PySem.W.keepIn K (.ref f) = true
section
variable {P : Program} {w : World} {K : PySem.W.Frag} {mg : Str → Option Value} {base : Heap}
theorem Fun.binds {x qual : Str} {st : Stmt} {f : Addr} {fd : FuncData} {ps : List Str} (F : Fun K x qual st f fd)
  (h : ∀ (kV doc pm : Value) (an : Option Addr) (cdv ct : Value) (us : List Value), us.length = ps.length → bindArgs (PySem.W.fnOf x qual (zfr st) (zds st) (zaf st) .none kV doc pm an cdv ct) ⟨us, []⟩ = pure (ps.zip us)) : Binds K fd ps [] := by
 obtain ⟨oc, od, kV, doc, pm, an, cdv, ct, osl, rfl, lk, hcd⟩ := F.ex
 exact .all (h kV doc pm an cdv ct)
end
section
variable {X : Cx}
theorem pv (i : Nat) {x : Str} {pos : Pos} (hN : X.N[i]? = some x := by rfl) (hv : Vis X.env.scope x := by first | exact Or.inl rfl | exact Or.inr (Or.inl rfl) | exact Or.inr (Or.inr rfl)) (hd : (x == ("__debug__" : Str)) = false := by decide)
  (hcd : (x == ("__classdict__" : Str)) = false := by decide) : PE X (.Name x pos) (tVar i) := zr2 hN hv hd hcd
end
def Same (H H' : Hp) : Prop := ∀ b o, H b = some o → H' b = some o
end L2
set_option Elab.async false
set_option linter.all false
set_option maxRecDepth 100000
set_option maxHeartbeats 4000000
namespace L4
open PySem PySem.W PyProof.Rows L2
def zgd (tb : String → Option Builtin) (p : Program) (w : World) (m : Nat) (ann : Option Value) : Nat → SharedT → Thread → Option SharedT
 | 0, _, _ => none
 | n + 1, s, t => match through t with
  | true => some s
  | false => match stepOk m ann t with
   | false => none
   | true => match stepT (denote tb) p w s t with
    | some (s', t') => zgd tb p w m ann n s' t'
    | none => none
theorem zf0 {tb : String → Option Builtin} {p : Program} {w : World} {m : Nat} {ann : Option Value} : ∀ {n : Nat} {s s' : SharedT} {t : Thread}, zgd tb p w m ann n s t = some s' → topRun tb p w m ann n s.abs t = some s'.abs
 | 0, _, _, _, h => by cases h
 | n + 1, s, s', t, h => by
  unfold zgd at h
  unfold topRun
  cases he : through t with
  | true => rw [he] at h; cases h; rfl
  | false =>
   rw [he] at h
   cases hk : stepOk m ann t with
   | false => rw [hk] at h; cases h
   | true =>
    rw [hk] at h
    cases hs : stepT (denote tb) p w s t with
    | none => rw [hs] at h; cases h
    | some r =>
     obtain ⟨s2, t2⟩ := r
     rw [hs] at h
     rw [stepT_spec hs]
     exact zf0 h
def zub : List Obj → Nat → BT → BT
 | [], _, t => t
 | o :: r, n, t => zub r (n + 1) (t.ins n o)
noncomputable def boot (P : Params) (os : OsState) : SharedT := ⟨zub (boot_heap P).objs.toList 0 .nil, 11, (boot_heap P).life, Array.mk [], boot_drawn, boot_toks, os⟩
theorem znx (P : Params) (os : OsState) : (boot P os).abs = ⟨boot_heap P, Array.mk [], boot_drawn, boot_toks, os⟩ := by kernel_rfl
theorem zlq (P : Params) : ((boot_heap P).isNs mainGlobals, (boot_heap P).objs.size, (boot_heap P).nsMap mainGlobals "__annotations__") = (true, 11, some (.ref 6)) := by kernel_rfl
section
variable (p q : Program) (loose : List Str) {β : Type} (obs : Heap → β)
noncomputable def zsg (P : Params) (s : Shared) :=
 ((staticsOk (importedModules p.main.body) (boot_heap P) s.heap && namesBound p s.heap && gensDone s && laidKept (boot_heap P) s.heap), openSeen q loose (importedModules p.main.body) (fun _ => true) true s, obs s.heap)
noncomputable def zo8 (N : Nat) (w : World) (os : OsState) := (zgd treeTable p w 11 (some (.ref 6)) N (boot w.params os) (topStub p)).map fun s => zsg p q loose obs w.params s.abs
end
theorem left_one {p q : Program} {loose : List Str} {β : Type} {obs : Heap → β} {good : β} {N : Nat} (e : opening p = plainProg p.main.scope.names) (hN : Nat.ble 600 N = true) (f : ∀ s, fenceModules? p s = some s)
  (h : ∀ w os, zo8 p q loose obs N w os = some (true, openGood q loose, good)) : LeftO p q loose (fun _ => true) (fun s => obs s.heap) (fun _ => good) N := fun w => by
 obtain ⟨⟨h0, gs, d, k, os⟩, e1, e2⟩ := Option.map_eq_some_iff.mp (boot_open e hN f w)
 obtain ⟨rfl, rfl, rfl, rfl⟩ : h0 = boot_heap w.params ∧ gs = Array.mk [] ∧ d = boot_drawn ∧ k = boot_toks := by simpa using e2
 obtain ⟨s1, r1, r2⟩ := Option.map_eq_some_iff.mp (h w os)
 have r3 := zf0 r1
 rw [znx] at r3
 obtain ⟨z1, z2, z3⟩ : _ ∧ _ ∧ _ := by simpa only [Prod.mk.injEq] using zlq w.params
 obtain ⟨l1, l2, l3⟩ : _ ∧ _ ∧ _ := by simpa only [zsg, Prod.mk.injEq] using r2
 have t : topFrom treeTable p w N ⟨boot_heap w.params, Array.mk [], boot_drawn, boot_toks, os⟩ = some s1.abs := by
  unfold topFrom
  dsimp only
  rw [z1, z2, z3, r3]
  show (match staticsOk (importedModules p.main.body) (boot_heap w.params) s1.abs.heap && namesBound p s1.abs.heap && gensDone s1.abs && laidKept (boot_heap w.params) s1.abs.heap with | true => _ | false => _) = _
  rw [l1]
 unfold openEnds
 rw [e1]
 show (topFrom treeTable p w N _).map _ = _
 rw [t]
 exact congrArg some (Prod.ext l2 l3)
def frag (as : List Addr) (h : Heap) : Frag := as.filterMap fun a => (h.get? a).map fun o => (a, o)
theorem zrh {as : List Addr} {h : Heap} : (frag as h).In h := by
 intro a o e
 induction as with
 | nil => cases e
 | cons b r ih =>
  unfold frag at e
  rw [List.filterMap_cons] at e
  cases hb : h.get? b with
  | none => rw [hb] at e; exact ih e
  | some ob =>
   rw [hb] at e
   simp only [Option.map_some, List.lookup] at e
   split at e
   ·rename_i q; cases e; rw [beq_iff_eq.mp q]; exact hb
   ·exact ih e
def zpi : Value → Bool
 | .none => true
 | _ => false
theorem zj8 {v : Value} (h : zpi v = true) : v = .none := by cases v <;> first | rfl | cases h
def zjq (K : Frag) (qual : Str) : Option (Option Value) → Option (Str × Str × Arguments × FuncBody × Scope × Bool)
 | some (some (.ref f)) => match K.lookup f with
  | some ⟨_, _, .func fd, _⟩ => some (fd.name, fd.qualname, fd.params, fd.body, fd.scope, (Nat.beq fd.globals mainGlobals && fd.closure.isEmpty && zpi fd.defaults && Nat.beq fd.builtins builtinsNs && codeIn K fd.code qual && isFn K (.ref f)))
  | _ => none
 | _ => none
def zi6 (x qual : Str) (st : Stmt) : Option (Str × Str × Arguments × FuncBody × Scope × Bool) := some (x, qual, zfr st, .stmts (zds st), zaf st, true)
theorem zo0 {K : Frag} {x qual : Str} {st : Stmt} {v : Option (Option Value)} (e : zjq K qual v = zi6 x qual st) :
  ∃ f fd, v = some (some (.ref f)) ∧ Fun K x qual st f fd ∧ isFn K (.ref f) = true := by
 unfold zjq at e
 split at e
 ·rename_i f
  split at e
  ·rename_i oc od fd sl hl
   unfold zi6 at e
   simp only [Option.some.injEq, Prod.mk.injEq, Bool.and_eq_true] at e
   obtain ⟨e1, e2, e3, e4, e5, ⟨⟨⟨⟨h1, h2⟩, h3⟩, h4⟩, h5⟩, h6⟩ := e
   refine ⟨f, fd, rfl, ⟨⟨oc, od, fd.kwdefaults, fd.doc, fd.pyModule, fd.annotations, fd.code, fd.closureTuple, sl, ?_, hl, h5⟩, ?_⟩, h6⟩
   ·obtain ⟨a1, a2, a3, a4, a5, a6, a7, a8, a9, a10, a11, a12, a13, a14, a15⟩ := fd
    simp only at e1 e2 e3 e4 e5 h1 h2 h3 h4
    have h1 := Nat.eq_of_beq_eq_true h1
    have h2 := List.isEmpty_iff.mp h2
    have h3 := zj8 h3
    have h4 := Nat.eq_of_beq_eq_true h4
    subst e1 e2 e3 e4 e5 h1 h2 h3 h4
    rfl
   ·unfold keepIn
    simp only [hl]
  ·cases e
 ·cases e
inductive KV where
 | int (i : Int)
 | str (s : Str)
def zmj : Option (Option Value) → Option KV
 | some (some (.int i _)) => some (.int i)
 | some (some (.str s _)) => some (.str s)
 | _ => none
theorem zrw {v : Option (Option Value)} {i : Int} (e : zmj v = some (.int i)) : ∃ t, v = some (some (.int i t)) := by
 unfold zmj at e
 split at e
 ·simp only [Option.some.injEq, KV.int.injEq] at e; subst e; exact ⟨_, rfl⟩
 ·simp at e
 ·cases e
def zi3 : Option (Option Value) → Bool
 | some none => true
 | _ => false
theorem zt7 {v : Option (Option Value)} (e : zi3 v = true) : v = some none := by
 unfold zi3 at e
 split at e
 ·rfl
 ·cases e
def zmn (p : Program) (i : Nat) : Stmt := p.main.body.getD i (.Pass ⟨0, 0, 0, 0⟩)
structure Ask where
 law : Nat
 at_ : List Addr
 defs : List (Str × Nat)
 cls : List (Str × Nat × List (Str × Str × Nat) × List Str)
 bare : List Str
 con : List (Str × KV)
def zi5 (K : Frag) (C : Addr) : Bool :=
 plainGet K C Str.empty && hasDictIn K C && plainOver K C && (findIn K (.ref C) "__setattr__" == some (some (.builtin "object.__setattr__"))) && makesIn K C && keepIn K (.ref C)
def zm4 (K : Frag) (c : Str × Nat × List (Str × Str × Nat) × List Str) : Option Value → Option (List (Option (Str × Str × Arguments × FuncBody × Scope × Bool)) × Bool × List Bool)
 | some (.ref C) => some (c.2.2.1.map (fun m => zjq K m.2.1 (findIn K (.ref C) m.1)), zi5 K C, c.2.2.2.map fun a => zi3 (findIn K (.ref C) a))
 | _ => none
def seenK (A : Ask) (K : Frag) :=
 (A.defs.map (fun d => zjq K d.1 (nsIn K mainGlobals d.1)), A.cls.map (fun c => zm4 K c (nsIn K mainGlobals c.1).join), A.bare.map (fun b => zi3 (nsIn K mainGlobals b)), A.con.map fun c => zmj (nsIn K mainGlobals c.1))
def seen (A : Ask) (h : Heap) := seenK A (frag A.at_ h)
def good (p : Program) (A : Ask) :=
  (A.defs.map (fun d => zi6 d.1 d.1 (zmn p d.2)),
   A.cls.map (fun c => some (c.2.2.1.map (fun m => zi6 m.1 m.2.1 (zgf (zmn p c.2.1) m.2.2)), true, c.2.2.2.map fun _ => true)),
   A.bare.map (fun _ => true), A.con.map fun c => some c.2)
def lawView (A : Ask) (p : Program) : Program := { p with main := { p.main with body := [zmn p A.law] } }
def looseOf (p : Program) : List Str := (p.main.scope.names.map (·.1)).filter fun x => !(x == "law")
noncomputable def claim (A : Ask) (N : Nat) (p : Program) (w : World) (os : OsState) := zo8 p (lawView A p) (looseOf p) (seen A) N w os
def goal (A : Ask) (p : Program) := some (true, openGood (lawView A p) (looseOf p), good p A)
section
variable {p : Program} {A : Ask} {K : Frag}
theorem zf3 {α β : Type} {f g : α → β} {l : List α} {i : Nat} {a : α} (e : l.map f = l.map g) (h : l[i]? = some a) : f a = g a := by
 have := congrArg (fun z => z[i]?) e
 simp only [List.getElem?_map, h, Option.map_some, Option.some.injEq] at this
 exact this
theorem def_at (S : seenK A K = good p A) (i : Nat) {d : Str × Nat} (h : A.defs[i]? = some d) : ∃ f fd, nsIn K mainGlobals d.1 = some (some (.ref f)) ∧ Fun K d.1 d.1 (zmn p d.2) f fd := by
 obtain ⟨f, fd, e, F, _⟩ := zo0 (zf3 (congrArg (fun z => z.1) S) h)
 exact ⟨f, fd, e, F⟩
theorem bare_at (S : seenK A K = good p A) (i : Nat) {b : Str} (h : A.bare[i]? = some b) : nsIn K mainGlobals b = some none := zt7 (zf3 (congrArg (fun z => z.2.2.1) S) h)
theorem int_at (S : seenK A K = good p A) (i : Nat) {x : Str} {n : Int} (h : A.con[i]? = some (x, .int n)) : ∃ t, nsIn K mainGlobals x = some (some (.int n t)) := zrw (zf3 (congrArg (fun z => z.2.2.2) S) h)
structure ClsAt (p : Program) (K : Frag) (c : Str × Nat × List (Str × Str × Nat) × List Str) (C : Addr) : Prop where
 g : nsIn K mainGlobals c.1 = some (some (.ref C))
 cls : Cls K C
 makes : makesIn K C = true
 kp : keepIn K (.ref C) = true
 meth : ∀ (j : Nat) (m : Str × Str × Nat), c.2.2.1[j]? = some m → ∃ f fd, findIn K (.ref C) m.1 = some (some (.ref f)) ∧ Fun K m.1 m.2.1 (zgf (zmn p c.2.1) m.2.2) f fd ∧ isFn K (.ref f) = true
 fld : ∀ (j : Nat) (a : Str), c.2.2.2[j]? = some a → NoAttr K C a
theorem zm8 {v : Option (Option Value)} {x : Value} (h : v.join = some x) : v = some (some x) := by
 cases v with
 | none => cases h
 | some v => cases h; rfl
theorem cls_at (S : seenK A K = good p A) (i : Nat) {c : Str × Nat × List (Str × Str × Nat) × List Str} (h : A.cls[i]? = some c) : ∃ C, ClsAt p K c C := by
 have e := zf3 (congrArg (fun z => z.2.1) S) h
 unfold zm4 at e
 split at e
 ·rename_i C hC
  simp only [Option.some.injEq, Prod.mk.injEq] at e
  obtain ⟨e1, e2, e3⟩ := e
  unfold zi5 at e2
  simp only [Bool.and_eq_true] at e2
  obtain ⟨⟨⟨⟨⟨h1, h2⟩, h3⟩, h4⟩, h5⟩, h6⟩ := e2
  refine ⟨C, zm8 hC, ⟨h1, h2, h3, ?_⟩, h5, h6, fun j m hm => ?_, fun j a ha => ?_⟩
  ·exact beq_iff_eq.mp h4
  ·exact zo0 (zf3 e1 hm)
  ·exact zt7 (zf3 e3 ha)
 ·cases e
end
section
variable {K : Frag} {x qual : Str} {st : Stmt} {f : Addr} {fd : FuncData} {p1 p2 p3 p4 p5 p6 p7 p8 : Str}
abbrev Bd (x qual : Str) (st : Stmt) (us : List Value) (r : List (Str × Value)) : Prop := ∀ (kV doc pm : Value) (an : Option Addr) (cdv ct : Value), bindArgs (fnOf x qual (zfr st) (zds st) (zaf st) .none kV doc pm an cdv ct) ⟨us, []⟩ = pure r
theorem zbk {us : List Value} {n : Nat} (h : us.length = n + 1) : ∃ a r, us = a :: r ∧ r.length = n := by
 cases us with
 | nil => cases h
 | cons a r => exact ⟨a, r, rfl, by simpa using h⟩
theorem b1 (F : Fun K x qual st f fd) (h : ∀ a, Bd x qual st [a] [(p1, a)]) : Binds K fd [p1] [] := F.binds fun _ _ _ _ _ _ us h0 => by
 obtain ⟨a, u1, rfl, h1⟩ := zbk h0
 obtain rfl : u1 = [] := List.eq_nil_of_length_eq_zero h1
 exact h _ _ _ _ _ _ _
theorem b2 (F : Fun K x qual st f fd) (h : ∀ a b, Bd x qual st [a, b] [(p1, a), (p2, b)]) : Binds K fd [p1, p2] [] := F.binds fun _ _ _ _ _ _ us h0 => by
 obtain ⟨a, u1, rfl, h1⟩ := zbk h0
 obtain ⟨b, u2, rfl, h2⟩ := zbk h1
 obtain rfl : u2 = [] := List.eq_nil_of_length_eq_zero h2
 exact h _ _ _ _ _ _ _ _
theorem b3 (F : Fun K x qual st f fd) (h : ∀ a b c, Bd x qual st [a, b, c] [(p1, a), (p2, b), (p3, c)]) : Binds K fd [p1, p2, p3] [] := F.binds fun _ _ _ _ _ _ us h0 => by
 obtain ⟨a, u1, rfl, h1⟩ := zbk h0
 obtain ⟨b, u2, rfl, h2⟩ := zbk h1
 obtain ⟨c, u3, rfl, h3⟩ := zbk h2
 obtain rfl : u3 = [] := List.eq_nil_of_length_eq_zero h3
 exact h _ _ _ _ _ _ _ _ _
theorem b4 (F : Fun K x qual st f fd) (h : ∀ a b c d, Bd x qual st [a, b, c, d] [(p1, a), (p2, b), (p3, c), (p4, d)]) : Binds K fd [p1, p2, p3, p4] [] := F.binds fun _ _ _ _ _ _ us h0 => by
 obtain ⟨a, u1, rfl, h1⟩ := zbk h0
 obtain ⟨b, u2, rfl, h2⟩ := zbk h1
 obtain ⟨c, u3, rfl, h3⟩ := zbk h2
 obtain ⟨d, u4, rfl, h4⟩ := zbk h3
 obtain rfl : u4 = [] := List.eq_nil_of_length_eq_zero h4
 exact h _ _ _ _ _ _ _ _ _ _
theorem b5 (F : Fun K x qual st f fd) (h : ∀ a b c d e, Bd x qual st [a, b, c, d, e] [(p1, a), (p2, b), (p3, c), (p4, d), (p5, e)]) : Binds K fd [p1, p2, p3, p4, p5] [] := F.binds fun _ _ _ _ _ _ us h0 => by
 obtain ⟨a, u1, rfl, h1⟩ := zbk h0
 obtain ⟨b, u2, rfl, h2⟩ := zbk h1
 obtain ⟨c, u3, rfl, h3⟩ := zbk h2
 obtain ⟨d, u4, rfl, h4⟩ := zbk h3
 obtain ⟨e, u5, rfl, h5⟩ := zbk h4
 obtain rfl : u5 = [] := List.eq_nil_of_length_eq_zero h5
 exact h _ _ _ _ _ _ _ _ _ _ _
theorem binds_law (F : Fun K x qual st f fd) (h : ∀ a, Bd x qual st [a] [(p1, a)]) (s : Shared) (u : Value) : BindsTo s fd ⟨[u], []⟩ [(p1, u)] := by
 obtain ⟨oc, od, kV, doc, pm, an, cdv, ct, osl, rfl, lk, hcd⟩ := F.ex
 exact .of_eq (h u _ _ _ _ _ _)
end
theorem walk_one {l : OpenLaw} {n k : Nat} {q : Program} {loose : List Str} {XP : (Str → Option Value) → Heap → Prop} {A : Ask} {d : DefRec} {CX : World → CXT} {sp : Frag → Sp} {x : Str}
  (hn : l.most = some n) (hn2 : n ≤ sizeLine) (hdf : d.params.defaults = []) (hr : Room k callerA)
  (F : ∀ (w : World) (mg : Str → Option Value) (fa : Addr) (h : Heap) (K : Frag), K.In h → h.Ns mainGlobals mg → seenK A K = good l.prog A → mg d.name = some (.ref fa) →
   ∃ fd : FuncData, (∀ (s : Shared) (u : Value), BindsTo s fd ⟨[u], []⟩ [(x, u)]) ∧ ∀ base : Heap, K.In base → base.Ns mainGlobals mg → FnOk l.prog w K mg base (CX w) k fa fd [x] (sp K))
  (hsp : ∀ (K : Frag) (H : Hp) (a : Addr) (ns : List Int), ns.length ≤ n → Only H → SqL K H a (ns.map V.int) → sp K [.ref a] H (fun v _ => v = .bl true) fun _ _ _ => False)
  (hCX : ∀ (w : World) (H : Hp) (s : Shared) (e : Value) (s' : Shared), CX w [] H s (fun _ _ _ => False) e s' → False) :
  WalkO q loose XP (fun _ h => ∃ K : Frag, K.In h ∧ seenK A K = good l.prog A) l.row.toRowW d [] (fun f vs => PySem.call f vs) := by
 refine Att.attach_call hn hdf fun w s0 s1 mg mb fa o pm cd doc a vs ns G Y ho hd hcd hmg hobj hints hlen hg => ?_
 obtain ⟨K, KX, S⟩ := Y
 obtain ⟨fd, hb, hF⟩ := F w mg fa _ K KX G.T.g S hmg
 exact znu KX G.T.g G.T.b G.T.builtins G.T.nolimit hg hobj hints (Nat.le_trans hlen hn2) hr hF hb (fun H hO hS => hsp K H a ns hlen hO hS) fun H e s' => hCX w H s1 e s'
theorem seen_ok {A : Ask} {p : Program} (w : World) (s : Shared) (e : seen A s.heap = good p A) : ∃ K : Frag, K.In s.heap ∧ seenK A K = good p A := ⟨_, zrh, e⟩
theorem seen_keeps {A : Ask} {p : Program} (w : World) (h h' : Heap) (y : ∃ K : Frag, K.In h ∧ seenK A K = good p A) (k : ∀ b o, h.get? b = some o → h'.get? b = some o) : ∃ K : Frag, K.In h' ∧ seenK A K = good p A :=
 let ⟨K, a, b⟩ := y
 ⟨K, a.keeps k, b⟩
end L4
set_option Elab.async false
set_option linter.all false
set_option maxRecDepth 100000
set_option maxHeartbeats 4000000
namespace L2
open PySem PySem.Spec PyProof.Rows
def zbx (X : Cx) (N : List Str) (scope : Scope) (cl : List (Str × Addr)) (C : Addr) (s : Shared) (H : Hp) (ex : List Addr) : Cx where
 prog := X.prog
 w := X.w
 K := X.K
 mg := X.mg
 base := X.base
 A := X.A
 N := N
 s₀ := s
 H₀ := H
 env := compEnvC scope cl C X.env
 outer := X.stack
 stack := X.stack
 ex := ex
 fn := fun _ => false
 calm := X.calm
 pn := []
 xe := fun _ _ => False
theorem zeb {env : Env} : ∀ (names : List (Str × NameKind)) (acc : List (Str × Addr)), (∀ y ∈ names, y.2 = .free → ∃ c, env.cells.lookup y.1 = some c) →
  ∃ cl, (forIn names acc (fun x cs => match x with | (name, kind) => if (kind == NameKind.free) = true then (do let a ← cellOf env name; pure (ForInStep.yield ((name, a) :: cs))) else pure (ForInStep.yield cs)) : Sem (List (Str × Addr))) = pure cl ∧
   (∀ p ∈ cl, p ∈ acc ∨ env.cells.lookup p.1 = some p.2) ∧ (∀ y ∈ names, y.2 = .free → ∃ c, (y.1, c) ∈ cl) ∧ ∀ p ∈ acc, p ∈ cl
 | [], acc, _ => ⟨acc, by rw [List.forIn_nil], fun p hp => .inl hp, fun _ h => (nomatch h), fun _ h => h⟩
 | (n, k) :: r, acc, h => by
  rw [List.forIn_cons]
  by_cases hk : k = .free
  ·subst hk
   obtain ⟨c, hc⟩ := h (n, .free) List.mem_cons_self rfl
   obtain ⟨cl, e, h1, h2, h3⟩ := zeb r ((n, c) :: acc) fun y hy => h y (List.mem_cons_of_mem _ hy)
   have ec : cellOf env n = pure c := by unfold cellOf; rw [hc]
   refine ⟨cl, ?_, fun p hp => ?_, fun y hy hf => ?_, fun p hp => h3 p (List.mem_cons_of_mem _ hp)⟩
   ·simp only [beq_self_eq_true, if_true, ec, pure_bind]
    exact e
   ·rcases h1 p hp with q | q
    ·rcases List.mem_cons.mp q with rfl | q
     ·exact .inr hc
     ·exact .inl q
    ·exact .inr q
   ·rcases List.mem_cons.mp hy with rfl | hy
    ·exact ⟨c, h3 _ List.mem_cons_self⟩
    ·exact h2 y hy hf
  ·obtain ⟨cl, e, h1, h2, h3⟩ := zeb r acc fun y hy => h y (List.mem_cons_of_mem _ hy)
   have hb : (k == NameKind.free) = false := by simpa using hk
   refine ⟨cl, ?_, h1, fun y hy hf => ?_, h3⟩
   ·simp only [hb, Bool.false_eq_true, if_false, pure_bind]
    exact e
   ·rcases List.mem_cons.mp hy with rfl | hy
    ·exact absurd hf hk
    ·exact h2 y hy hf
theorem zdb {α : Type} : ∀ {l : List (Str × α)} {x : Str} {c : α}, (x, c) ∈ l → ∃ d, l.lookup x = some d
 | (y, e) :: r, x, c, h => by
  rw [List.lookup_cons]
  cases hb : x == y with
  | true => exact ⟨e, rfl⟩
  | false =>
   rcases List.mem_cons.mp h with q | q
   ·cases q; simp at hb
   ·exact zdb q
theorem zdy {scope : Scope} {env : Env} (h : ∀ y ∈ scope.names, y.2 = .free → ∃ c, env.cells.lookup y.1 = some c) :
  ∃ cl, closureFor scope env = pure cl ∧ (∀ x c, cl.lookup x = some c → env.cells.lookup x = some c) ∧ ∀ y ∈ scope.names, y.2 = .free → ∃ c, cl.lookup y.1 = some c := by
 obtain ⟨cl, e, h1, h2, _⟩ := zeb (env := env) scope.names [] h
 refine ⟨cl, ?_, fun x c q => ?_, fun y hy hf => ?_⟩
 ·simp only [closureFor]
  rw [e]
  rfl
 ·rcases h1 _ (PySem.mem_of_lookup q) with z | z
  ·cases z
  ·exact z
 ·obtain ⟨c, hc⟩ := h2 y hy hf
  exact zdb hc
section
variable {prog : Program} {w : World} {A : Around} {R : Result → Shared → Prop} {s : Shared}
theorem zmd {elt target iter : Expr} {ifs : List Expr} {scope : Scope} {pos : Pos} {it acc : Value} {env : Env} (I : Nat → Shared → Prop)
  (turn : ∀ n s, I n s → wpAny (model prog w) A (pyNext it) (fun r s₁ => match r with
   | none => R (.ok .next) s₁
   | some v => wpAny (model prog w) A (letOwnedTupleGo target it v) (fun _ s₁' => wpAny (model prog w) A (assign target env v) (fun _ s₂ =>
     wpAny (model prog w) A (forIn ifs true fun c r => if r = true then do let ok ← isTrue c env (eval c env); pure (ForInStep.yield ok) else pure (ForInStep.yield r)) (fun ok s₃ =>
      if ok = true then wpAny (model prog w) A (eval elt env) (fun x s₄ =>
       wpAny (model prog w) A (call (.builtin "list.append") [acc, x]) (fun _ s₅ => ∃ m, m < n ∧ I m s₅) (fun _ _ => False) s₄) (fun _ _ => False) s₃
      else ∃ m, m < n ∧ I m s₃) (fun _ _ => False) s₂) (fun _ _ => False) s₁') (fun _ _ => False) s₁) (fun _ _ => False) s)
  (n : Nat) (h : I n s) : codeAny (model prog w) A (.compLoop (.ListComp elt [⟨target, iter, ifs, 0⟩] scope pos) 0 it acc env) R s := by
 refine codeAny_loop rfl I (fun n s hI => ?_) n h
 show wpAny _ A ((compTurn (.ListComp elt [⟨target, iter, ifs, 0⟩] scope pos) 0 it acc env).onRaise (fun x => do noteFrame x env; theTreesLotGoes x)) _ _ s
 refine wpAny_noted ?_
 rw [compTurn_list]
 refine wpAny_bind (wpAny_standAt (wpAny_bind (wpAny_mono (turn n s hI) (fun r s₁ h₁ => ?_) fun _ _ f => f.elim)))
 cases r with
 | none => exact wpAny_pure h₁
 | some v =>
  refine wpAny_bind (wpAny_mono h₁ (fun _ s₁' h₁' => ?_) fun _ _ f => f.elim)
  refine wpAny_bind (wpAny_mono h₁' (fun _ s₂ h₂ => wpAny_bind (wpAny_mono h₂ (fun ok s₃ h₃ => ?_) fun _ _ f => f.elim)) fun _ _ f => f.elim)
  cases ok with
  | false => exact wpAny_pure ⟨rfl, h₃⟩
  | true =>
   exact wpAny_bind (wpAny_bind (wpAny_mono h₃ (fun x s₄ h₄ => wpAny_bind (wpAny_mono h₄ (fun _ s₅ h₅ => wpAny_pure (wpAny_pure ⟨rfl, h₅⟩)) fun _ _ f => f.elim)) fun _ _ f => f.elim))
end
def cst (k : Nat) (fr : List Nat) (σ : St) : St := List.replicate k none ++ fr.map fun j => (σ[j]?).join
structure CompScope (X : Cx) (loc free : List Str) (fr : List Nat) (scope : Scope) : Prop where
 kind : scope.kind = .function
 cell : ∀ y ∈ scope.names, y.2 ≠ .cell
 names : ∀ y ∈ scope.names, y.2 = .local → scope.names.lookup y.1 = some .local
 frees : ∀ y ∈ scope.names, y.2 = .free → X.env.kindOf y.1 = some .cell ∨ X.env.kindOf y.1 = some .free
 at_ : ∀ (i j : Nat) (x : Str), fr[i]? = some j → free[i]? = some x → X.N[j]? = some x ∧ scope.names.lookup x = some .free
 len : fr.length = free.length
theorem zb7 {env : Env} : ∀ {names : List (Str × NameKind)} {x : Str}, (∀ y ∈ names, y.2 ≠ .cell) →
    ((names.map fun (n, k) => if (k == NameKind.free && env.scope.kind == .function && env.kindOf n == some .cell) then (n, NameKind.cell) else (n, k)).lookup x = some .cell ∨
     (names.map fun (n, k) => if (k == NameKind.free && env.scope.kind == .function && env.kindOf n == some .cell) then (n, NameKind.cell) else (n, k)).lookup x = some .free) → names.lookup x = some .free
  | [], _, _, h => by simp at h
  | (n, k) :: r, x, hc, h => by
    have ih := @zb7 env r x fun y hy => hc y (List.mem_cons_of_mem _ hy)
    rw [List.map_cons] at h
    rw [List.lookup_cons]
    cases hx : x == n with
    | true =>
      have hk : k ≠ .cell := hc (n, k) List.mem_cons_self
      dsimp only at h ⊢
      by_cases hb : (k == NameKind.free && env.scope.kind == .function && env.kindOf n == some .cell) = true
      · have : k = .free := by
          rw [Bool.and_eq_true, Bool.and_eq_true] at hb
          simpa using hb.1.1
        rw [this]
      · rw [if_neg hb, List.lookup_cons, hx] at h
        rcases h with h | h
        · have : k = .cell := Option.some.inj h
          exact absurd this hk
        · exact h
    | false =>
      dsimp only at h ⊢
      refine ih ?_
      by_cases hb : (k == NameKind.free && env.scope.kind == .function && env.kindOf n == some .cell) = true
      · rw [if_pos hb, List.lookup_cons, hx] at h; exact h
      · rw [if_neg hb, List.lookup_cons, hx] at h; exact h
theorem zb4 {env : Env} : ∀ {names : List (Str × NameKind)} {x : Str}, names.lookup x = some .free →
    ((names.map fun (n, k) => if (k == NameKind.free && env.scope.kind == .function && env.kindOf n == some .cell) then (n, NameKind.cell) else (n, k)).lookup x = some .cell ∨
     (names.map fun (n, k) => if (k == NameKind.free && env.scope.kind == .function && env.kindOf n == some .cell) then (n, NameKind.cell) else (n, k)).lookup x = some .free)
  | [], _, h => by simp at h
  | (n, k) :: r, x, h => by
    have ih := @zb4 env r x
    rw [List.map_cons]
    rw [List.lookup_cons] at h
    cases hx : x == n with
    | true =>
      rw [hx] at h
      have hk : k = .free := Option.some.inj h
      subst hk
      dsimp only
      by_cases hb : (NameKind.free == NameKind.free && env.scope.kind == .function && env.kindOf n == some .cell) = true
      · rw [if_pos hb, List.lookup_cons, hx]; exact .inl rfl
      · rw [if_neg hb, List.lookup_cons, hx]; exact .inr rfl
    | false =>
      rw [hx] at h
      have := ih h
      dsimp only
      by_cases hb : (k == NameKind.free && env.scope.kind == .function && env.kindOf n == some .cell) = true
      · rw [if_pos hb, List.lookup_cons, hx]; exact this
      · rw [if_neg hb, List.lookup_cons, hx]; exact this
section
variable {X : Cx} {pins : List (Addr × Obj)} {σ : St} {H : Hp} {s : Shared}
theorem zoc {loc free : List Str} {fr : List Nat} {scope : Scope} {cl : List (Str × Addr)} {h1 : Heap} {t1 : Nat} {fp : List Addr} (S : CompScope X loc free fr scope) (I : Inv X pins σ H s)
  (hc1 : ∀ x c, cl.lookup x = some c → X.env.cells.lookup x = some c) (hc2 : ∀ y ∈ scope.names, y.2 = .free → ∃ c, cl.lookup y.1 = some c)
  (hns : h1.Ns s.heap.objs.size (fun _ => none)) (hk : ∀ b o, s.heap.get? b = some o → h1.get? b = some o)
  (hfp : ∀ b ∈ fp, FpOk X pins H b) (hfo : ∀ b ∈ fp, ∃ o, s.heap.get? b = some o) :
  Inv (zbx X (loc ++ free) scope cl s.heap.objs.size s H fp) [] (cst loc.length fr σ) H { s with heap := h1, toks := t1 } := by
 have fpb : ∀ b ∈ fp, b < s.heap.objs.size := fun b hb => let ⟨o, e⟩ := hfo b hb; Heap.lt_size e
 refine ⟨⟨I.ok.mod, S.kind, I.ok.glob, I.ok.blt, Nat.le_refl _, fun x y c e1 e2 => I.ok.inj x y c (hc1 _ _ e1) (hc1 _ _ e2), fun x hx => ?_, fun x c f => (nomatch f), I.ok.hd, I.ok.frames, .inl rfl, fun b hb => ?_, I.bs, Nat.le_trans I.ok.bsz I.sz, fun b o e hb => ?_, fun b hb z => ?_, I.stack, I.stkFree⟩,
  rfl, I.bare, Un.kept hk, ⟨_, hns, fun i x v e1 e2 e3 => ?_⟩, fun x c e => ?_, I.hok.fresh (Nat.le_refl _), fun x c e => I.freeC x c (hc1 x c e), fun p hp => absurd (show p ∈ ([] : List (Addr × Obj)) from hp) (by simp), I.hok.kept hk, ?_⟩
 ·have q : scope.names.lookup x = some .free := zb7 S.cell hx
  exact hc2 (x, .free) (PySem.mem_of_lookup q) rfl
 ·exact ⟨Nat.ne_of_lt (fpb b hb), fun x c e => (hfp b hb).2.2.2.2.1 x c (hc1 x c e)⟩
 ·rcases (hfp b hb).2.2.2.1 with z | z
  ·exact I.ok.noex b o e z
  ·exact absurd (Nat.lt_of_lt_of_le (Heap.lt_size e) (Nat.le_trans I.ok.bsz z)) (Nat.lt_irrefl _)
 ·rcases List.mem_cons.mp (I.stkSub b z) with e | e
  ·exact (hfp b hb).2.1 e
  ·exact (hfp b hb).2.2.1 e
 ·have e1' : (loc ++ free)[i]? = some x := e1
  unfold cst at e2
  by_cases hi : i < loc.length
  ·rw [List.getElem?_append_left (by simpa using hi), List.getElem?_replicate] at e2
   rw [if_pos hi] at e2
   cases e2
  ·have hi' : loc.length ≤ i := Nat.le_of_not_lt hi
   rw [List.getElem?_append_right (by simpa using hi'), List.length_replicate, List.getElem?_map] at e2
   rw [List.getElem?_append_right hi'] at e1'
   cases hj : fr[i - loc.length]? with
   | none => rw [hj] at e2; cases e2
   | some j =>
    rw [hj] at e2
    have e2' : (σ[j]?).join = some v := Option.some.inj e2
    obtain ⟨n1, n2⟩ := S.at_ _ j x hj e1'
    have e4 : σ[j]? = some (some v) := by
     cases q : σ[j]? with
     | none => rw [q] at e2'; cases e2'
     | some z => rw [q] at e2'; exact congrArg some e2'
    have kf := S.frees (x, .free) (PySem.mem_of_lookup n2) rfl
    obtain ⟨m, hn, hl⟩ := I.loc
    obtain ⟨u, r, l⟩ := hl j x v n1 e4 (kf.elim (fun z => .inr (.inl z)) fun z => .inr (.inr z))
    refine ⟨u, r, .inr ⟨zb4 n2, ?_⟩⟩
    obtain ⟨c, hc⟩ := hc2 (x, .free) (PySem.mem_of_lookup n2) rfl
    have hcx := hc1 x c hc
    rcases l with ⟨hk', _⟩ | ⟨_, c', hc', hcell⟩
    ·rcases kf with z | z <;> (rw [hk'] at z; cases z)
    ·rw [hcx] at hc'
     cases hc'
     obtain ⟨o, ho, hd⟩ := hcell
     exact ⟨c, hc, o, hk _ _ ho, hd⟩
 ·obtain ⟨v, o, ho, hd⟩ := I.cell x c (hc1 x c e)
  exact ⟨v, o, hk _ _ ho, hd⟩
 ·show (cst loc.length fr σ).length = (loc ++ free).length
  unfold cst
  rw [List.length_append, List.length_replicate, List.length_map, List.length_append, S.len]
abbrev zuq (J : It) (g : TG) (tc : TT) (te : TE) (σ0 : St) (H : Hp) (Q : VK) (D : Addr) : Prop :=
 ∃ W : Nat → Nat → List V → St → Hp → Prop, (∃ m, W 0 m [] σ0 (upd H D (.lst []))) ∧ ∀ i m acc σ' H', W i m acc σ' H' → H' D = some (.lst acc) ∧
  ((J.stop i H' ∧ Q (.ref D) H') ∨ (J.go i H' ∧ ∃ N : List V → St → Hp → Prop, (∀ acc' σ3 H5, N acc' σ3 H5 → ∃ m', m' < m ∧ W (i + 1) m' acc' σ3 H5) ∧ ∀ x H2, J.yld i H' x H2 → g x σ' H2 fun σ3 H3 => tc σ3 H3 fun b H4 =>
   if b = true then te σ3 H4 fun v H5 => H5 D = some (.lst acc) ∧ acc.length < sizeLine ∧ N (acc ++ [v]) σ3 (upd H5 D (.lst (acc ++ [v])))
   else N acc σ3 H4))
def zm6 (wi : TI) (k : Nat) (fr : List Nat) (g : TG) (tc : TT) (te : TE) : TE := fun σ H Q => wi σ H fun J H1 => ∀ D, H1 D = none → zuq J g tc te (cst k fr σ) H1 Q D
def zul : TT := fun _ H Q => Q true H
def PTs (X : Cx) (ifs : List Expr) (t : TT) : Prop :=
 ∀ (pins : List (Addr × Obj)) (s : Shared) (σ : St) (H : Hp) (Q : Bool → Hp → Prop), Inv X pins σ H s → t σ H Q →
  wpAny (model X.prog X.w) X.A (forIn ifs true fun c r => if r = true then do let ok ← isTrue c X.env (eval c X.env); pure (ForInStep.yield ok) else pure (ForInStep.yield r)) (TP X pins σ Q) X.xe s
theorem zqi : PTs X [] zul := fun pins s σ H Q I h => wpAny_tests_nil ⟨H, I, h⟩
theorem zqx {c : Expr} {t : TT} (h : PT X c t) : PTs X [c] t := fun pins s σ H Q I q => wpAny_tests_one (h pins s σ H Q I q)
structure CompEnd (X : Cx) (pins : List (Addr × Obj)) (σ : St) (Q : VK) (D C : Addr) (s6 : Shared) : Prop where
 inv : ∃ H5, Inv X pins σ H5 s6 ∧ H5 C = none ∧ Q (.ref D) H5
 ns : ∃ m, s6.heap.Ns C m
 neL : C ≠ X.env.locals
 nfs : C ∉ X.fs
 new : X.s₀.heap.objs.size ≤ C
 cel : ∀ x c, X.env.cells.lookup x = some c → c ≠ C
 pin : ∀ p ∈ X.pn ++ pins, p.1 ≠ C
theorem zi4 {elt tg iter : Expr} {ifs : List Expr} {loc free : List Str} {fr : List Nat} {scope : Scope} {pos : Pos} {wi : TI} {g : TG} {tc : TT} {te : TE} (hc : X.calm = true) (S : CompScope X loc free fr scope) (hi : PI X tg iter wi)
  (hg : ∀ cl C s H ex, PG (zbx X (loc ++ free) scope cl C s H ex) tg g) (ht : ∀ cl C s H ex, PTs (zbx X (loc ++ free) scope cl C s H ex) ifs tc) (he : ∀ cl C s H ex, PE (zbx X (loc ++ free) scope cl C s H ex) elt te)
  (I : Inv X pins σ H s) {Q : VK} (h : zm6 wi loc.length fr g tc te σ H Q) {cl : List (Str × Addr)} (hc1 : ∀ x c, cl.lookup x = some c → X.env.cells.lookup x = some c) (hc2 : ∀ y ∈ scope.names, y.2 = .free → ∃ c, cl.lookup y.1 = some c)
  {RR : Value → Addr → Result → Shared → Prop} (hRR : ∀ D C s6, CompEnd X pins σ Q D C s6 → RR (.ref D) C (.ok .next) s6) :
  wpAny (model X.prog X.w) X.A (eval iter X.env) (fun x s1 => wpAny (model X.prog X.w) X.A (pyIter x) (fun it s2 => wpAny (model X.prog X.w) X.A (newList []) (fun acc s3 =>
   wpAny (model X.prog X.w) X.A (newFunctionEnv scope X.env.globals cl [] X.env.qual none .none (some X.env)) (fun cenv s4 =>
    codeAny (model X.prog X.w) X.A (.compStart (.ListComp elt [⟨tg, iter, ifs, 0⟩] scope pos) 0 it acc { cenv with scope := relabel scope X.env }) (RR acc cenv.locals) s4) X.xe s3) X.xe s2) X.xe s1) X.xe s := by
 refine thn (hi pins s σ H _ I h) fun v s1 h1 => thn h1 fun itv s2 h2 => ?_
 obtain ⟨it, fp, tn, J, H2, e, I2, T, st2, f2, q2⟩ := h2
 subst e
 have hD : H2 s2.heap.objs.size = none := I2.hok.fresh (Nat.le_refl _)
 obtain ⟨W, ⟨m0, w0⟩, turn⟩ := q2 s2.heap.objs.size hD
 refine wpAny_newObj_type ?_
 generalize hs3 : ({ s2 with heap := s2.heap.push { cls := .type "list", dict := none, data := .seq ([] : List Value).toArray } } : Shared) = s3
 have I3 : Inv X pins σ (upd H2 s2.heap.objs.size (.lst [])) s3 := by
  rw [← hs3]
  exact I2.lnew (its := []) (t' := s2.toks) .nil (Nat.zero_le _)
 have k23 : ∀ b o, s2.heap.get? b = some o → s3.heap.get? b = some o := fun b o q => by rw [← hs3]; exact Heap.get?_push_of_some _ q
 have f3 : ∀ b ∈ fp, FpOk X pins (upd H2 s2.heap.objs.size (.lst [])) b := fun b hb => by
  obtain ⟨o, e, _⟩ := T.obj _ _ st2 b hb
  exact ⟨by rw [zaj (Nat.ne_of_lt (Heap.lt_size e))]; exact (f2 b hb).1, (f2 b hb).2⟩
 have o3 : ∀ b ∈ fp, ∃ o, s3.heap.get? b = some o := fun b hb => let ⟨o, e, _⟩ := T.obj _ _ st2 b hb; ⟨o, k23 b o e⟩
 have st3 : tn 0 s3.heap := T.keep _ _ _ st2 fun b _ o e => k23 b o e
 refine wpAny_newFunctionEnv S.cell (by intro y hy; simp at hy) (fun h4 hns hsb => ?_) S.kind
 try dsimp only at hns hsb ⊢
 have k34 : ∀ b o, s3.heap.get? b = some o → h4.get? b = some o := fun b o q => hsb.extBut b o (Nat.ne_of_lt (Heap.lt_size q)) (Heap.get?_push_of_some _ q)
 have I4 := zoc (t1 := s3.toks + ([] : List (Str × Value)).length) S I3 hc1 hc2 hns k34 f3 o3
 have hgC := hg cl s3.heap.objs.size s3 (upd H2 s2.heap.objs.size (.lst [])) fp
 have htC := ht cl s3.heap.objs.size s3 (upd H2 s2.heap.objs.size (.lst [])) fp
 have heC := he cl s3.heap.objs.size s3 (upd H2 s2.heap.objs.size (.lst [])) fp
 have st4 : tn 0 h4 := T.keep _ _ _ st3 fun b _ o e => k34 b o e
 generalize hY : zbx X (loc ++ free) scope cl s3.heap.objs.size s3 (upd H2 s2.heap.objs.size (.lst [])) fp = Y at I4 hgC htC heC
 have fY : ∀ {H' : Hp}, (∀ b ∈ fp, H' b = none) → ∀ b ∈ fp, FpOk Y [] H' b := fun hn b hb => by
  subst hY
  refine ⟨hn b hb, ?_, fun z => ?_, .inl hb, fun x c e => (f3 b hb).2.2.2.2.1 x c (hc1 x c e), fun p hp => absurd (show p ∈ ([] : List (Addr × Obj)) from hp) (by simp)⟩
  ·obtain ⟨o, e⟩ := o3 b hb
   exact Nat.ne_of_lt (Heap.lt_size e)
  ·rcases List.mem_cons.mp (I3.stkSub b z) with e | e
   ·exact (f3 b hb).2.1 e
   ·exact (f3 b hb).2.2.1 e
 have hYp : Y.prog = X.prog := by rw [← hY]; rfl
 have hYw : Y.w = X.w := by rw [← hY]; rfl
 have hYK : Y.K = X.K := by rw [← hY]; rfl
 have hYA : Y.A = X.A := by rw [← hY]; rfl
 have hYe : Y.env = compEnvC scope cl s3.heap.objs.size X.env := by rw [← hY]; rfl
 have hYx : Y.xe = fun _ _ => False := by rw [← hY]; rfl
 have hYc : Y.calm = true := by rw [← hY]; exact hc
 have loop : codeAny (model X.prog X.w) X.A (.compLoop (.ListComp elt [⟨tg, iter, ifs, 0⟩] scope pos) 0 (.ref it) (.ref s2.heap.objs.size) (compEnvC scope cl s3.heap.objs.size X.env))
   (RR (.ref s2.heap.objs.size) s3.heap.objs.size) { s3 with heap := h4, toks := s3.toks + ([] : List (Str × Value)).length } := by
  refine zmd (fun n s' => ∃ i acc σ' H', Inv Y [] σ' H' s' ∧ tn i s'.heap ∧ (∀ b ∈ fp, H' b = none) ∧ W i n acc σ' H') ?_ m0 ⟨0, [], _, _, I4, st4, fun b hb => (f3 b hb).1, w0⟩
  rintro n s5 ⟨i, acc, σ5, H5, I5, st5, fr5, w5⟩
  obtain ⟨hacc, turn5⟩ := turn i n acc σ5 H5 w5
  rcases turn5 with ⟨stop, qn⟩ | ⟨go, N, hN, step⟩
  ·have d := T.done Y hYp hYw hYK hYc i [] s5 σ5 H5 (fun _ _ => False) I5 (fY fr5) st5 stop
   rw [hYA] at d
   refine thn d fun r s6 ⟨hr, I6⟩ => ?_
   subst hr
   obtain ⟨m, hn, _⟩ := id I6.loc
   rw [hYe] at hn
   have fC : H5 s3.heap.objs.size = none := by
    have := I6.free
    rw [hYe] at this
    exact this
   have hok6 : HOk X.prog X.w H5 s6.heap := by
    have := I6.hok
    rw [hYp, hYw] at this
    exact this
   have un6 : Un (frs X.stack) fp (upd H2 s2.heap.objs.size (.lst [])) H5 s3.heap s6.heap := by
    have := I6.base
    subst hY
    exact this
   have os6 : s6.os = s3.os := by
    have := I6.os
    subst hY
    exact this
   have IX : Inv X pins σ H5 s6 := I3.call' (ch := fp) os6 un6 hok6 I6.bare fun b hb => ⟨(f3 b hb).2.2.2.1, (f3 b hb).2.1, (f3 b hb).2.2.2.2.1, (f3 b hb).2.2.2.2.2⟩
   refine hRR _ _ s6 ⟨⟨H5, IX, fC, qn⟩, ⟨m, hn⟩, Nat.ne_of_gt I3.lt, I3.nofs (Nat.le_refl _), I3.sz, fun x c e z => ?_, fun p hp z => ?_⟩
   ·obtain ⟨v, q⟩ := I3.cell x c e
    exact absurd q.lt (by rw [z]; exact Nat.lt_irrefl _)
   ·exact absurd (Heap.lt_size (I3.pin p hp).1) (by rw [z]; exact Nat.lt_irrefl _)
  ·have d := T.item Y hYp hYw hYK hYc i [] s5 σ5 H5 (fun _ _ => False) I5 (fY fr5) st5 go
   rw [hYA] at d
   refine thn d fun r s6 ⟨u, hr, h6⟩ => ?_
   subst hr
   refine thn h6 fun _ s7 ⟨x, H7, I7, r7, y7, st7, fr7⟩ => ?_
   have I7' := I7.pinned (fY fr7) (T.obj _ _ st7)
   have g7 := hgC _ s7 σ5 H7 x u _ I7' r7 (step x H7 y7)
   rw [hYp, hYw, hYA, hYe, hYx] at g7
   refine thn g7 fun _ s8 ⟨σ8, H8, I8, q8⟩ => ?_
   have t8 := htC _ s8 σ8 H8 _ I8 q8
   rw [hYp, hYw, hYA, hYe, hYx] at t8
   have back : ∀ {σ9 : St} {H9 : Hp} {s9 : Shared} {acc' : List V}, Inv Y ([] ++ zhr fp s7.heap) σ9 H9 s9 → N acc' σ9 H9 → ∃ m, m < n ∧ ∃ i acc σ' H', Inv Y [] σ' H' s9 ∧ tn i s9.heap ∧ (∀ b ∈ fp, H' b = none) ∧ W i m acc σ' H' := fun {σ9 H9 s9 acc'} I9 w9 => by
    obtain ⟨m', hm, w9⟩ := hN _ _ _ w9
    refine ⟨m', hm, i + 1, acc', σ9, H9, I9.unpinned, T.keep _ _ _ st7 fun b hb o e => (I9.pin (b, o) (List.mem_append_right _ (List.mem_append_right _ (zdc hb e)))).1, fun b hb => ?_, w9⟩
    obtain ⟨o, e, d⟩ := T.obj _ _ st7 b hb
    exact (I9.pin (b, o) (List.mem_append_right _ (List.mem_append_right _ (zdc hb e)))).2.1
   refine thn t8 fun ok s9 ⟨H9, I9, q9⟩ => ?_
   cases ok with
   | false =>
    rw [if_neg (by simp)] at q9 ⊢
    exact back I9 q9
   | true =>
    rw [if_pos rfl] at q9 ⊢
    have e9 := heC _ s9 σ8 H9 _ I9 q9
    rw [hYp, hYw, hYA, hYe, hYx] at e9
    refine thn e9 fun y s10 ⟨z, H10, I10, r10, hacc10, hlen, w10⟩ => ?_
    have a10 := zbw (X := Y) _ s10 σ8 H10 (.ref s2.heap.objs.size) [z] (.ref s2.heap.objs.size) [y] (fun _ H' => N (acc ++ [z]) σ8 H') I10 rfl (.cons r10 .nil) ⟨_, _, z, rfl, rfl, hacc10, hlen, w10⟩
    rw [hYp, hYw, hYA, hYx] at a10
    exact thn a10 fun _ s11 ⟨_, H11, I11, _, w11⟩ => back I11 w11
 exact codeAny_compStart_list loop (T.self X.A 0 _ _ _ st4 loop)
theorem zqp {elt tg iter : Expr} {ifs : List Expr} {loc free : List Str} {fr : List Nat} {scope : Scope} {pos : Pos} {wi : TI} {g : TG} {tc : TT} {te : TE} (hc : X.calm = true) (S : CompScope X loc free fr scope) (hi : PI X tg iter wi)
  (hg : ∀ cl C s H ex, PG (zbx X (loc ++ free) scope cl C s H ex) tg g) (ht : ∀ cl C s H ex, PTs (zbx X (loc ++ free) scope cl C s H ex) ifs tc) (he : ∀ cl C s H ex, PE (zbx X (loc ++ free) scope cl C s H ex) elt te)
  (hs : ∀ x, foldedSetIterable iter X.env x = pure x := by intro _; rfl) : PE X (.ListComp elt [⟨tg, iter, ifs, 0⟩] scope pos) (zm6 wi loc.length fr g tc te) := by
 intro pins s σ H Q I h
 rw [eval_ListComp]
 obtain ⟨cl, hcl, hc1, hc2⟩ := zdy (scope := scope) (env := X.env) fun y hy hf => I.ok.has y.1 (S.frees y hy hf)
 refine wpAny_comprehension_free (use := none) rfl hs hcl S.kind S.names ?_
 refine zi4 (RR := fun acc C => compPost (model X.prog X.w) X.A X.xe none (EP X pins σ Q) acc C) hc S hi hg ht he I h hc1 hc2 fun D C s6 ce => ?_
 obtain ⟨H5, IX, fC, q⟩ := ce.inv
 obtain ⟨m, hn⟩ := ce.ns
 exact ⟨m, hn, fun h7 hs7 => ⟨.ref D, H5, IX.turned (t' := s6.toks) (fun b o hb e => hs7.extBut b o hb e) fC ce.neL (.inr ce.new) ce.cel ce.pin, rfl, q⟩⟩
theorem zj4 {i : Nat} {y : Str} {py : Pos} {spos : Pos} {elt tg iter : Expr} {ifs : List Expr} {loc free : List Str} {fr : List Nat} {scope : Scope} {pos : Pos} {wi : TI} {g : TG} {tc : TT} {te : TE} (hN : X.N.Nodup) (hi' : X.N[i]? = some y) (hx : X.env.scope.names.lookup y = some .local)
  (hc : X.calm = true) (S : CompScope X loc free fr scope) (hi : PI X tg iter wi)
  (hg : ∀ cl C s H ex, PG (zbx X (loc ++ free) scope cl C s H ex) tg g) (ht : ∀ cl C s H ex, PTs (zbx X (loc ++ free) scope cl C s H ex) ifs tc) (he : ∀ cl C s H ex, PE (zbx X (loc ++ free) scope cl C s H ex) elt te)
  (hs : ∀ x, foldedSetIterable iter X.env x = pure x := by intro _; rfl)
  (hsw : swapsWith (.ListComp elt [⟨tg, iter, ifs, 0⟩] scope pos) (some (.Name y py)) spos.line X.env = pure true := by rfl) :
  PS X (.Assign [.Name y py] (.ListComp elt [⟨tg, iter, ifs, 0⟩] scope pos) spos) (tAsg (zm6 wi loc.length fr g tc te) (zm5 i)) := by
 intro pins s σ H D I h
 obtain ⟨cl, hcl, hc1, hc2⟩ := zdy (scope := scope) (env := X.env) fun y hy hf => I.ok.has y.1 (S.frees y hy hf)
 rw [exec_Assign_Name_used _ _ _ _ hsw]
 refine wpAny_bind (wpAny_standAt (wpAny_bind ?_))
 show wpAny _ X.A (do let _ ← comprehension (.ListComp elt [⟨tg, iter, ifs, 0⟩] scope pos) scope X.env _ (newList []) false (eval iter X.env) (some (assign (.Name y py) X.env))) _ _ s
 refine wpAny_bind (wpAny_mono (wpAny_comprehension_free (use := some (assign (.Name y py) X.env)) (Q := fun _ s' => SP X pins D .next s') rfl hs hcl S.kind S.names ?_) (fun _ s' hq => wpAny_pure (wpAny_pure hq)) fun _ _ e => e)
 refine zi4 (RR := fun acc C => compPost (model X.prog X.w) X.A X.xe (some (assign (.Name y py) X.env)) (fun _ s' => SP X pins D .next s') acc C) hc S hi hg ht he I h hc1 hc2 fun L C s6 ce => ?_
 obtain ⟨H5, IX, fC, q⟩ := ce.inv
 obtain ⟨m, oC, es, ep, ho, hd, hk⟩ := ce.ns
 show wpAny _ X.A (assign (.Name y py) X.env (.ref L)) _ _ s6
 have IP : Inv X (pins ++ [(C, oC)]) σ H5 s6 := IX.pins_of fun p hp => (List.mem_append.mp hp).elim (fun z => IX.pin p (List.mem_append_right _ z)) fun z => by
  rw [List.mem_singleton.mp z]
  exact ⟨ho, fC, ce.neL, ce.nfs, fun v e => by rw [hd] at e; cases e⟩
 refine wpAny_assign_Name (ze1 IP hN hi' (.inl hx) (v := .ref L) rfl (fun s' I' => ?_) (.inr hx))
 have pc := I'.pin (C, oC) (List.mem_append_right _ (List.mem_append_right _ List.mem_cons_self))
 refine ⟨m, ⟨oC, es, ep, pc.1, hd, hk⟩, fun h7 hs7 => ?_⟩
 exact ⟨_, H5, I'.unpinned.turned (t' := s'.toks) (fun b o hb e => hs7.extBut b o hb e) fC ce.neL (.inr ce.new) ce.cel ce.pin, q⟩
end
section
variable {g : TG} {tc : TT} {te : TE} {k : Nat} {fr : List Nat} {σ : St} {H : Hp} {Q : VK} {D : Addr}
end
end L2
set_option Elab.async false
set_option linter.all false
set_option maxRecDepth 100000
set_option maxHeartbeats 4000000
namespace Srt
open PySem PySem.W PyProof.Rows
def Spec {α : Type} (lt : Nat → Nat → Bool) (n : Nat) : KasT α → (α → Prop) → Prop
 | .ret a, Q => Q a
 | .ask i j k, Q => i < n ∧ j < n ∧ Spec lt n (k (lt i j)) Q
structure Ord {κ : Type} (lt : κ → κ → Bool) : Prop where
 trans : ∀ a b c, lt b a = false → lt c b = false → lt c a = false
 asym : ∀ a b, lt a b = true → lt b a = false
section
variable {κ : Type} {lt : κ → κ → Bool} (O : Ord lt) (f : Nat → κ) {n : Nat}
abbrev ky (p : Array Nat) (i : Nat) : κ := f (p.getD i 0)
def Le (lt : κ → κ → Bool) (a b : κ) : Prop := lt b a = false
def Up (lt : κ → κ → Bool) (f : Nat → κ) (p : Array Nat) (m : Nat) : Prop := ∀ i j, i ≤ j → j < m → lt (ky f p j) (ky f p i) = false
def Dn (lt : κ → κ → Bool) (f : Nat → κ) (p : Array Nat) (m : Nat) : Prop := ∀ i j, i ≤ j → j < m → lt (ky f p i) (ky f p j) = false
structure Pm (n : Nat) (p : Array Nat) : Prop where
 perm : p.toList.Perm (List.range n)
include O
def zn5 (lt : κ → κ → Bool) (f : Nat → κ) (p : Array Nat) (a b : Nat) : Prop := ∀ i j, a ≤ i → i < b → a ≤ j → j < b → lt (ky f p i) (ky f p j) = false
end
end Srt
set_option Elab.async false
set_option linter.all false
set_option maxRecDepth 100000
set_option maxHeartbeats 4000000
namespace L2
open PySem PySem.Spec PyProof.Rows
section
variable {X : Cx} {pins : List (Addr × Obj)} {σ : St} {H : Hp} {s : Shared} {h' : Heap}
theorem Inv.turnLay {ch : List Addr} {a : Addr} {o : HO} {t' : Nat} (I : Inv X pins σ H s) (k : ∀ b u, b ∉ ch → s.heap.get? b = some u → h'.get? b = some u) (hch : ∀ b ∈ ch, FpOk X pins H b)
  (hp : s.heap.objs.size ≤ a) (new : ObjOk X.prog X.w (upd H a o) h' a o) : Inv X pins σ (upd H a o) { s with heap := h', toks := t' } := by
 have hn : H a = none := I.hok.fresh hp
 have ne : ∀ b u, s.heap.get? b = some u → b ≠ a := fun b u e => Nat.ne_of_lt (Nat.lt_of_lt_of_le (Heap.lt_size e) hp)
 have nc : ∀ b u, H b = some u → b ∉ ch := fun b u e hb => by have := (hch b hb).1; rw [e] at this; cases this
 refine I.step (g' := s.gens) (d' := s.drawn) (ch := ch) (fun b hb => ⟨(hch b hb).2.2.2.1, (hch b hb).2.1, (hch b hb).2.2.2.2.1, (hch b hb).2.2.2.2.2⟩) (fun b u _ _ hc e _ => k b u hc e) (fun b u _ _ hc e _ => ⟨u.slots, k b u hc e⟩)
  (fun b u _ e n => by rw [zaj (ne b u e)]; exact n) (fun b u hc e => ⟨u, k b u hc e⟩) (fun b xs e => by rw [zaj (zak e hn)]; exact e) (fun b u v e => by rw [zaj (zak e hn)]; exact e)
  (fun b ps e => ⟨#[], by rw [zaj (zak e hn)]; rw [e]; simp⟩) (fun m hm => ?_) (fun b u e => ?_) I.bare
 ·obtain ⟨ob, es, ep, ho, r⟩ := hm
  refine ⟨ob, es, ep, k _ ob (fun hb => (hch _ hb).2.1 rfl) ho, r⟩
 ·by_cases hb : b = a
  ·subst hb; rw [zaw] at e; cases e; exact new
  ·rw [zaj hb] at e
   refine (I.hok b u e).stay (fun c v hc q => k c v ?_ q) (fun c q => by rw [zaj (zak q hn)]; exact q) fun c xs q => by rw [zaj (zak q hn)]; exact q
   rcases hc with z | z
   ·rw [z]; exact nc b u e
   ·exact nc c _ z
theorem Inv.turnedL {ch : List Addr} {t' : Nat} (I : Inv X pins σ H s) (k : ∀ b u, b ∉ ch → s.heap.get? b = some u → h'.get? b = some u) (hch : ∀ b ∈ ch, FpOk X pins H b) : Inv X pins σ H { s with heap := h', toks := t' } := by
 have nc : ∀ b u, H b = some u → b ∉ ch := fun b u e hb => by have := (hch b hb).1; rw [e] at this; cases this
 refine I.step (g' := s.gens) (d' := s.drawn) (ch := ch) (fun b hb => ⟨(hch b hb).2.2.2.1, (hch b hb).2.1, (hch b hb).2.2.2.2.1, (hch b hb).2.2.2.2.2⟩) (fun b u _ _ hc e _ => k b u hc e) (fun b u _ _ hc e _ => ⟨u.slots, k b u hc e⟩)
  (fun b u _ e n => n) (fun b u hc e => ⟨u, k b u hc e⟩) (fun b xs e => e) (fun b u v e => e) (fun b ps e => ⟨#[], by rw [e]; simp⟩) (fun m hm => ?_) (fun b u e => ?_) I.bare
 ·obtain ⟨ob, es, ep, ho, r⟩ := hm
  refine ⟨ob, es, ep, k _ ob (fun hb => (hch _ hb).2.1 rfl) ho, r⟩
 ·refine (I.hok b u e).stay (fun c v hc q => k c v ?_ q) (fun c q => q) fun c xs q => q
  rcases hc with z | z
  ·rw [z]; exact nc b u e
  ·exact nc c _ z
end
section
variable {X : Cx}
theorem zil : zdp X (.builtin "isinstance") (fun xs H Q => ∃ x T t b, xs = [x, .ty T] ∧ TyOf X.K H x t ∧ PySem.W.kitOne X.K t (.type T) = some b ∧ Q (.bl b) H) := by
 intro pins s σ H xs us Q I r h
 obtain ⟨x, T, t, b, rfl, ty, e, q⟩ := h
 obtain ⟨u, v, rfl, rx, ry⟩ := zqk r
 cases ry
 exact zmb I rx ty e fun tk => ⟨.bl b, H, I.tok tk, rfl, q⟩
theorem znc {A : Around} (h : A.handled = none) : A.in1.handled = none := h
theorem znm (hc : X.calm = true) : zdp X (.builtin "all") (fun xs H Q => ∃ (p : Addr) (bs : List Bool), xs = [.ref p] ∧ SqL X.K H p (bs.map V.bl) ∧ Q (.bl (bs.all id)) H) := by
 intro pins s σ H xs us Q I r h
 obtain ⟨p, bs, rfl, hq, q⟩ := h
 obtain ⟨u, rfl, rx⟩ := zkr r
 cases rx
 obtain ⟨its, rv, pl, hz⟩ := I.list hq
 refine call_all_walk (wpAny_pyIter_list pl.isList ?_)
 have hp : p < s.heap.objs.size := by obtain ⟨o, n, e, _⟩ := pl; exact Heap.lt_size e
 have hlen : its.length = bs.length := by rw [← rv.length, List.length_map]
 refine ⟨s.heap.objs.size, _, _, _, _, _, fun i => bs.getD i true, rfl, Walks.list (znc (I.ok.hd hc)) _ p (Nat.ne_of_lt hp) its.toArray, ⟨⟨_, Heap.get?_push_size _ rfl, rfl, rfl⟩, pl.isList.push _⟩, ?_, fun h' tk k => ?_⟩
 ·intro i v s' Q' E' hv hQ
  have hv' : its[i]? = some v := by simpa using hv
  have hi : i < bs.length := by rw [← hlen]; exact (List.getElem?_eq_some_iff.mp hv').1
  obtain ⟨u, hu, ru⟩ := rv.get (i := i) (x := .bl bs[i]) (by simp [hi])
  rw [hv'] at hu; cases hu
  cases ru
  refine wpAny_truthy_bool ?_
  have e : bs.getD i true = bs[i] := by simp [hi]
  dsimp only at hQ
  rw [e] at hQ
  exact hQ
 ·refine ⟨.bl _, H, I.kept (t' := tk) (fun b o e => k b o (by simpa using Nat.ne_of_lt (Heap.lt_size e)) (Heap.get?_push_of_some _ e)), ?_, q⟩
  show Value.bool _ = Value.bool _
  congr 1
  rw [List.size_toArray, hlen]
  have : ∀ (bs : List Bool) (n : Nat), n = bs.length → (List.range n).all (fun i => bs.getD i true) = bs.all id := by
   intro bs n hn
   rw [Bool.eq_iff_iff, List.all_eq_true, List.all_eq_true]
   constructor
   ·intro h x hx
    obtain ⟨i, hi, rfl⟩ := List.mem_iff_getElem.mp hx
    have := h i (List.mem_range.mpr (by omega))
    simpa [hi] using this
   ·intro h i hi
    have hi' : i < bs.length := by have := List.mem_range.mp hi; omega
    have := h bs[i] (List.getElem_mem hi')
    simpa [hi'] using this
  exact this bs _ rfl
def SumOk (ns : List Int) : Prop := ∀ j, j < ns.length → InLong (ns.getD j 0) ∧ InLong ((ns.take (j + 1)).sum)
def EqR (X : Cx) {α : Type} [DecidableEq α] (R : Hp → V → α → Prop) : Prop :=
 ∀ (pins : List (Addr × Obj)) (s : Shared) (σ : St) (H : Hp) (x y : V) (v u : Value) (a b : α) (A : Around), Inv X pins σ H s → RelV x v → RelV y u → R H x a → R H y b → A.units < cLine → SeqAt.EqAt A s v u (decide (a = b))
def rEqL {α : Type} [DecidableEq α] (K : PySem.W.Frag) (R : Hp → V → α → Prop) (neg : Bool) : R2 := fun x y H Q => ∃ (p q : Addr) (xs ys : List V) (as bs : List α), x = .ref p ∧ y = .ref q ∧ SqL K H p xs ∧ SqL K H q ys ∧ Paired (R H) xs as ∧ Paired (R H) ys bs ∧ Q (.bl (if neg then !decide (as = bs) else decide (as = bs))) H
def IsI (H : Hp) (x : V) (i : Int) : Prop := x = .int i
def IsB (H : Hp) (x : V) (b : Bool) : Prop := x = .bl b
def IsS (H : Hp) (x : V) (z : Str) : Prop := x = .str z
def zo9 : V → Bool
 | .int _ => true
 | .str _ => true
 | _ => false
def IsTp (K : PySem.W.Frag) (H : Hp) (x : V) (r : List V) : Prop := ∃ t, x = .ref t ∧ SqT K H t r ∧ r.all zo9 = true
end
end L2
set_option Elab.async false
set_option linter.all false
set_option maxRecDepth 100000
set_option maxHeartbeats 4000000
namespace L2
open PySem PySem.W PySem.Spec PyProof.Rows
section
variable {prog : Program} {w : World} {A : Around} {E : Value → Shared → Prop} {s : Shared}
end
def IsR (K : PySem.W.Frag) (H : Hp) (x : V) (r : List Int) : Prop := ∃ t, x = .ref t ∧ SqT K H t (r.map V.int)
section
variable {X : Cx}
end
def Itz (K : PySem.W.Frag) (a b : Addr) : It :=
  ⟨fun i H => ∃ (xs ys : List V) (x y : V), SqL K H a xs ∧ SqL K H b ys ∧ xs[i]? = some x ∧ ys[i]? = some y,
   fun i H v H' => ∃ (T : Addr) (x y : V), v = .ref T ∧ H T = none ∧ H' = upd H T (.tup [x, y]) ∧ (∀ xs, SqL K H a xs → xs[i]? = some x) ∧ ∀ ys, SqL K H b ys → ys[i]? = some y,
   fun i H => ∃ xs ys, SqL K H a xs ∧ SqL K H b ys ∧ (xs.length ≤ i ∨ ys.length ≤ i)⟩
def ZipSt (z TI TO i1 i2 a b : Addr) (i : Nat) (h : Heap) : Prop :=
 IsZip h z TI TO .none ∧ IsPair h TI (.ref i1) (.ref i2) ∧ (∃ u v, IsPair h TO u v) ∧ h.IsListIter i1 a i ∧ h.IsListIter i2 b i
def iZip (K : PySem.W.Frag) (ta : TA) : TI := fun σ H R => ta σ H fun vs H1 => ∃ (a b : Addr) (xs ys : List V), vs = [.ref a, .ref b] ∧ SqL K H1 a xs ∧ SqL K H1 b ys ∧ R (Itz K a b) H1
def zo1 (sc : Scope) (N loc free : List Str) (fr : List Nat) (scope : Scope) : Bool :=
 decide (scope.kind = .function) && scope.names.all (fun y => decide (y.2 ≠ .cell)) && scope.names.all (fun y => decide (y.2 ≠ .local) || decide (scope.names.lookup y.1 = some .local)) &&
 scope.names.all (fun y => decide (y.2 ≠ .free) || (decide (sc.names.lookup y.1 = some .cell) || decide (sc.names.lookup y.1 = some .free))) && decide (fr.length = free.length) &&
 (List.range fr.length).all fun i => match fr[i]?, free[i]? with
  | some j, some x => decide (N[j]? = some x) && decide (scope.names.lookup x = some .free)
  | _, _ => true
theorem zbv {X : Cx} {sc : Scope} {N loc free : List Str} {fr : List Nat} {scope : Scope} (e1 : X.env.scope = sc) (e2 : X.N = N) (h : zo1 sc N loc free fr scope = true) : CompScope X loc free fr scope := by
 unfold zo1 at h
 simp only [Bool.and_eq_true, List.all_eq_true, Bool.or_eq_true, decide_eq_true_eq] at h
 obtain ⟨⟨⟨⟨⟨h1, h2⟩, h3⟩, h4⟩, h5⟩, h6⟩ := h
 refine ⟨h1, fun y hy => h2 y hy, fun y hy hl => (h3 y hy).elim (fun z => absurd hl z) id, fun y hy hf => ?_, fun i j x a b => ?_, h5⟩
 ·show X.env.scope.names.lookup y.1 = some .cell ∨ X.env.scope.names.lookup y.1 = some .free
  rw [e1]
  exact (h4 y hy).elim (fun z => absurd hf z) id
 ·have hi : i < fr.length := (List.getElem?_eq_some_iff.mp a).1
  have := h6 i (List.mem_range.mpr hi)
  rw [a, b] at this
  simp only [Bool.and_eq_true, decide_eq_true_eq] at this
  rw [e2]
  exact this
theorem pgc {X : Cx} {x : Str} {pos : Pos} (i : Nat) (N : List Str) (nd : N.Nodup) (eN : X.N = N) (hi : N[i]? = some x) (hx : Loc X.env.scope x) (hl : X.env.scope.names.lookup x = some .local) : PG X (.Name x pos) (zm5 i) :=
 zai (eN ▸ nd) (by rw [eN]; exact hi) hx (.inr hl)
structure Dfn (K : PySem.W.Frag) (mg : Str → Option Value) (x : Str) (st : Stmt) (ps : List Str) (f : Addr) (fd : FuncData) : Prop where
 F : Fun K x x st f fd
 b : Binds K fd ps []
 g : mg x = some (.ref f)
structure DfnM (K : PySem.W.Frag) (x qual : Str) (st : Stmt) (ps : List Str) (f : Addr) (fd : FuncData) : Prop where
 F : Fun K x qual st f fd
 b : Binds K fd ps []
def Row (H : Hp) (x : V) (r : List Int) : Prop := ∃ t, x = .ref t ∧ H t = some (.tup (r.map V.int))
abbrev pr2 (rows : List (Int × Int)) : List (List Int) := rows.map fun p => [p.1, p.2]
def Rows (H : Hp) (xs : List V) (rows : List (Int × Int)) : Prop := Paired (Row H) xs (pr2 rows)
section
variable {X : Cx} {K : PySem.W.Frag}
end
end L2
set_option Elab.async false
set_option linter.all false
namespace L2
open PySem PySem.Spec PyProof.Rows
section
variable {X : Cx} {pos : Pos}
def gLst (K : PySem.W.Frag) (n : Nat) (t : TGs) : TG := fun v σ H Q => ∃ a xs, v = .ref a ∧ SqL K H a xs ∧ xs.length = n ∧ t xs σ H Q
end
end L2
set_option Elab.async false
set_option linter.all false
set_option maxRecDepth 100000
set_option maxHeartbeats 2000000
namespace L2
open PySem PySem.Spec PyProof.Rows
section
variable {P : Program} {w : World} {h h' : Heap}
def MIs (P : Program) (w : World) (h : Heap) : MK → Value → Prop
 | .one k, u => (zar P w).is k u = true
 | .tup ks, u => ∃ b, u = .ref b ∧ IsTupleKey (zar P w) h ks b
theorem zin {k : Key} {u : Value} (q : MIs P w h (.one k) u) : carriedByValue u = true := (zar P w).byValue k u q
theorem zox : ∀ {x y : MK} {u : Value}, MIs P w h x u → MIs P w h y u → x = y
 | .one a, .one b, _, p, q => by rw [(zar P w).inj _ _ _ p q]
 | .tup a, .tup b, _, ⟨c, e, p⟩, ⟨d, e', q⟩ => by subst e; cases e'; rw [p.inj q]
 | .one a, .tup b, _, p, ⟨c, e, _⟩ => by subst e; have := zin (h := h) p; cases this
 | .tup a, .one b, _, ⟨c, e, _⟩, p => by subst e; have := zin (h := h) p; cases this
theorem zgq {d : Addr} {o : Obj} {es ep} (ho : h.get? d = some o) (hd : o.data = .dict es ep) (hs : Heap.SameBut d h h') : ∀ {k : MK} {u : Value}, MIs P w h k u → MIs P w h' k u
 | .one _, _, q => q
 | .tup _, _, ⟨b, e, q⟩ => ⟨b, e, q.keeps ho hd hs⟩
end
section
variable {P : Program} {w : World} {A : Around} {E : Value → Shared → Prop} {s : Shared}
theorem zk0 {u : Value} {Q : Int → Shared → Prop} (hu : A.units < cLine) : ∀ {k : MK}, MIs P w s.heap k u → (∀ t, Q (k.hash P w) { s with toks := t }) → wpAny (model P w) A (pyHash u) Q E s
 | .one k, q, f => (zar P w).pyHash q (f _)
 | .tup ks, ⟨b, e, q⟩, f => by subst e; exact wpAny_pyHash_tuple hu q (f _)
theorem zph {ks : List Key} {b : Addr} (q : IsTupleKey (zar P w) s.heap ks b) : ∃ its, s.heap.IsTuple b its := by
 obtain ⟨o, its, n, h1, h2, h3, _⟩ := q
 exact ⟨its, o, h1, h2, n, h3⟩
theorem zto {u v : Value} {Q : Bool → Shared → Prop} (hu : A.units < cLine) : ∀ {x y : MK}, MIs P w s.heap x u → MIs P w s.heap y v → Q (decide (x = y)) s → wpAny (model P w) A (eqBool u v) Q E s
 | .one a, .one b, p, q, f => (zar P w).eqBool p q (by rw [show decide (a = b) = decide (MK.one a = MK.one b) by simp]; exact f)
 | .tup a, .tup b, ⟨c, e, p⟩, ⟨d, e', q⟩, f => by
  subst e e'
  exact wpAny_eqBool_tuple hu p q (by rw [show decide (a = b) = decide (MK.tup a = MK.tup b) by simp]; exact f)
 | .one a, .tup b, p, ⟨c, e, q⟩, f => by
  subst e
  obtain ⟨its, q⟩ := zph q
  have f : Q false s := by simpa using f
  rcases zav (show zgo a u = true from p) with ⟨i, t, rfl, rfl⟩ | ⟨i, t, rfl, rfl⟩
  ·exact SeqAt.EqAt.int_tuple i t q hu _ _ _ _ f
  ·exact SeqAt.EqAt.str_tuple i t q hu _ _ _ _ f
 | .tup a, .one b, ⟨c, e, q⟩, p, f => by
  subst e
  obtain ⟨its, q⟩ := zph q
  have f : Q false s := by simpa using f
  rcases zav (show zgo b v = true from p) with ⟨i, t, rfl, rfl⟩ | ⟨i, t, rfl, rfl⟩
  ·exact SeqAt.EqAt.tuple_int i t q hu _ _ _ _ f
  ·exact SeqAt.EqAt.tuple_str i t q hu _ _ _ _ f
theorem zjt {u : Value} {Q : Bool → Shared → Prop} : ∀ {k : MK}, MIs P w s.heap k u → Q true s → wpAny (model P w) A (eqIsQuiet 8 u) Q E s
 | .one k, q, f => by rw [eqIsQuiet_byValue 8 (zin (h := s.heap) q)]; exact wpAny_pure f
 | .tup ks, ⟨b, e, q⟩, f => by subst e; exact wpAny_eqIsQuiet_tuple q f
theorem zon {u : Value} {k : MK} {st : List Value} {Q : Bool → Shared → Prop} (q : MIs P w s.heap k u) (hst : ∀ v ∈ st, ∃ k', MIs P w s.heap k' v) (f : Q false s) : wpAny (model P w) A (tableMayTell u st) Q E s := by
 unfold tableMayTell
 split
 ·exact wpAny_pure f
 ·refine wpAny_bind (zjt q ?_)
  simp only [Bool.not_true, Bool.false_eq_true, if_false]
  refine wpAny_bind ?_
  refine wpAny_forIn_list _ (fun rest r t => t = s ∧ r = (none, ()) ∧ ∀ v ∈ rest, ∃ k', MIs P w s.heap k' v) _ ?_ ?_ _ _ ⟨rfl, rfl, hst⟩
  ·rintro x rest r t ⟨rfl, rfl, hr⟩
   obtain ⟨k', hb⟩ := hr x List.mem_cons_self
   refine wpAny_bind (zjt hb ?_)
   simp only [Bool.not_true, Bool.false_eq_true, if_false]
   exact wpAny_pure ⟨rfl, rfl, fun v hv => hr v (List.mem_cons_of_mem _ hv)⟩
  ·rintro r t ⟨rfl, rfl, _⟩
   exact wpAny_pure f
end
abbrev Tr := List (MK × Value × Value)
def trAt (xs : Tr) (k : MK) : Option Value := (xs.find? fun x => decide (x.1 = k)).map (·.2.2)
def zhv (xs : Tr) (k : MK) (u v : Value) : Tr := if (trAt xs k).isSome then xs.map fun x => if x.1 = k then (x.1, x.2.1, v) else x else xs ++ [(k, u, v)]
def DictM (P : Program) (w : World) (h : Heap) (d : Addr) (xs : Tr) : Prop :=
 ∃ o es ep, h.get? d = some o ∧ o.ExactDict ∧ o.data = .dict es ep ∧ es.toList = xs.map (entM P w) ∧ (xs.map (·.1)).Nodup ∧ ∀ x ∈ xs, MIs P w h x.1 x.2.1
theorem zml {xs : Tr} (hn : (xs.map (·.1)).Nodup) {i j : Nat} {k : MK} {p q : Value × Value} (hi : xs[i]? = some (k, p)) (hj : xs[j]? = some (k, q)) : i = j := by
 have a : (xs.map (·.1))[i]? = some k := by rw [List.getElem?_map, hi]; rfl
 have b : (xs.map (·.1))[j]? = some k := by rw [List.getElem?_map, hj]; rfl
 exact (List.getElem?_inj (List.getElem?_eq_some_iff.mp a).1 hn).mp (a.trans b.symm)
theorem zhm {xs : Tr} (hn : (xs.map (·.1)).Nodup) {i : Nat} {k : MK} {p : Value × Value} (hi : xs[i]? = some (k, p)) : trAt xs k = some p.2 := by
 unfold trAt
 cases e : xs.find? (fun x => decide (x.1 = k)) with
 | none => have := List.find?_eq_none.mp e _ (List.mem_of_getElem? hi); simp at this
 | some y =>
  have hk := List.find?_some e
  have hk : y.1 = k := by simpa using hk
  obtain ⟨j, hj⟩ := List.mem_iff_getElem?.mp (List.mem_of_find?_eq_some e)
  obtain ⟨y1, y2⟩ := y
  have hk : y1 = k := hk
  subst hk
  have := zml hn hi hj
  subst this
  rw [hi] at hj
  cases hj
  rfl
theorem zhs {xs : Tr} {k : MK} (hi : ∀ (i : Nat) (p : Value × Value), xs[i]? ≠ some (k, p)) : trAt xs k = none := by
 unfold trAt
 cases e : xs.find? (fun x => decide (x.1 = k)) with
 | none => rfl
 | some y =>
  have hk := List.find?_some e
  have hk : y.1 = k := by simpa using hk
  obtain ⟨j, hj⟩ := List.mem_iff_getElem?.mp (List.mem_of_find?_eq_some e)
  obtain ⟨y1, y2⟩ := y
  have hk : y1 = k := hk
  subst hk
  exact absurd hj (hi j y2)
section
variable {P : Program} {w : World} {A : Around} {E : Value → Shared → Prop} {s : Shared} {d : Addr} {o : Obj} {es : Array DictEntry} {ep : Nat} {xs : Tr} {k : MK} {u : Value}
theorem zjj (he : es.toList = xs.map (entM P w)) (j : Nat) : es[j]? = (xs[j]?).map (entM P w) := by rw [← Array.getElem?_toList, he, List.getElem?_map]
theorem zd4 (he : es.toList = xs.map (entM P w)) : es.size = xs.length := by rw [← Array.length_toList, he, List.length_map]
theorem mem_places {n : Nat} {f : Nat → Option Int} {c : Int} {i : Nat} : i ∈ placesWithHash n f c ↔ i < n ∧ f i = some c := by
 unfold placesWithHash
 rw [List.mem_filter, List.mem_range]
 simp
theorem zlk {n : Nat} {f : Nat → Option Int} {c : Int} : (placesWithHash n f c).Nodup := List.Pairwise.filter _ List.nodup_range
theorem zpm {Q : Option Nat → Shared → Prop} (hu : A.units < cLine) (hk : MIs P w s.heap k u) (ho : s.heap.get? d = some o) (hd : o.data = .dict es ep) (he : es.toList = xs.map (entM P w)) (hn : (xs.map (·.1)).Nodup) (hx : ∀ x ∈ xs, MIs P w s.heap x.1 x.2.1)
  (h0 : (∀ (j : Nat) (p : Value × Value), xs[j]? ≠ some (k, p)) → Q none s) (h1 : ∀ (j : Nat) (p : Value × Value), xs[j]? = some (k, p) → Q (some j) s) :
  wpAny (model P w) A (dictFind d u (k.hash P w)) Q E s := by
 have at_ : ∀ i, i < es.size → ∃ k' u' v', xs[i]? = some (k', u', v') ∧ es[i]? = some ⟨k'.hash P w, u', v'⟩ ∧ MIs P w s.heap k' u' := fun i hi => by
  have hi' : i < xs.length := by rw [← zd4 he]; exact hi
  refine ⟨xs[i].1, xs[i].2.1, xs[i].2.2, by rw [List.getElem?_eq_getElem hi'], ?_, hx _ (List.getElem_mem hi')⟩
  rw [zjj he, List.getElem?_eq_getElem hi']
  rfl
 have pl : ∀ (j : Nat) (p : Value × Value), xs[j]? = some (k, p) → j ∈ placesWithHash es.size (fun i => es[i]?.map (·.hash)) (k.hash P w) := fun j p hj => by
  refine mem_places.mpr ⟨by rw [zd4 he]; exact (List.getElem?_eq_some_iff.mp hj).1, ?_⟩
  rw [zjj he, hj]
  rfl
 have hst : ∀ v ∈ (placesWithHash es.size (fun i => es[i]?.map (·.hash)) (k.hash P w)).filterMap (fun i => es[i]?.map (·.key)), ∃ k', MIs P w s.heap k' v := fun v hv => by
  obtain ⟨i, hi, e⟩ := List.mem_filterMap.mp hv
  obtain ⟨k', u', v', _, e2, e3⟩ := at_ i (mem_places.mp hi).1
  rw [e2] at e
  cases e
  exact ⟨k', e3⟩
 by_cases flat : (∀ x ∈ xs, ∃ k', x.1 = .one k') ∧ ∃ k', k = .one k'
 ·
  obtain ⟨fl, k', rfl⟩ := flat
  have hks : KeysOf (zar P w) es := fun e hin => by
   obtain ⟨i, hi, e1⟩ := Array.mem_iff_getElem.mp hin
   obtain ⟨k2, u2, v2, e2, e3, e4⟩ := at_ i hi
   obtain ⟨k3, e5⟩ := fl _ (List.mem_of_getElem? e2)
   have e5 : k2 = .one k3 := e5
   subst e5
   rw [Array.getElem?_eq_getElem hi, e1] at e3
   cases e3
   exact ⟨k3, e4, rfl⟩
  refine wpAny_dictFind_of (knd := zar P w) (k := k') hk ho hd hks ?_
  cases e : es.findIdx? (fun e => (zar P w).is k' e.key) with
  | none =>
   refine h0 fun j p hj => ?_
   have hj' : j < es.size := by rw [zd4 he]; exact (List.getElem?_eq_some_iff.mp hj).1
   have := Array.findIdx?_eq_none_iff.mp e (es[j]) (Array.getElem_mem hj')
   have e6 := zjj he j
   rw [hj, Array.getElem?_eq_getElem hj'] at e6
   rw [Option.some.inj e6] at this
   have q := hx _ (List.mem_of_getElem? hj)
   have q : (zar P w).is k' p.1 = true := q
   have this : (zar P w).is k' p.1 = false := by simpa [entM] using this
   rw [q] at this
   cases this
  | some j =>
   obtain ⟨hj, e7, _⟩ := Array.findIdx?_eq_some_iff_getElem.mp e
   obtain ⟨k2, u2, v2, e2, e3, e4⟩ := at_ j hj
   rw [Array.getElem?_eq_getElem hj] at e3
   rw [Option.some.inj e3] at e7
   have e8 : MIs P w s.heap (.one k') u2 := e7
   have := zox e4 e8
   subst this
   exact h1 j _ e2
 ·unfold dictFind
  refine wpAny_holding (wpAny_bind (wpAny_dictEntries ho hd ?_))
  dsimp only
  have notStrs : ∀ x t, u = .str x t → ¬ (es.all fun e => isExactStrKey e.key) = true := fun x t eu hall => by
   subst eu
   refine flat ⟨fun y hy => ?_, ?_⟩
   ·obtain ⟨i, hi⟩ := List.mem_iff_getElem?.mp hy
    have hi' : i < es.size := by rw [zd4 he]; exact (List.getElem?_eq_some_iff.mp hi).1
    obtain ⟨k2, u2, v2, e2, e3, e4⟩ := at_ i hi'
    rw [hi] at e2
    cases e2
    cases k2 with
    | one k3 => exact ⟨k3, rfl⟩
    | tup ks =>
     obtain ⟨b, rfl, _⟩ := e4
     rw [← Array.all_toList, List.all_eq_true] at hall
     have := hall _ (Array.mem_toList_iff.mpr (Array.mem_of_getElem? e3))
     cases this
   ·cases k with
    | one k3 => exact ⟨k3, rfl⟩
    | tup ks => obtain ⟨b, e, _⟩ := hk; cases e
  have plain : wpAny (model P w) A (dictWalkPlain d u (k.hash P w) es (placesWithHash es.size (fun i => es[i]?.map (·.hash)) (k.hash P w))) Q E s := by
   unfold dictWalkPlain
   refine wpAny_bind ?_
   refine wpAny_forIn_list _ (fun rest b t => t = s ∧ b = (none, ()) ∧ ∃ dn, placesWithHash es.size (fun i => es[i]?.map (·.hash)) (k.hash P w) = dn ++ rest ∧ ∀ j ∈ dn, ∀ p, xs[j]? ≠ some (k, p)) _ ?_ ?_ _ _ ⟨rfl, rfl, [], rfl, fun j hj => nomatch hj⟩
   ·rintro x rest b t ⟨rfl, rfl, dn, e, hdn⟩
    have hx' : x ∈ placesWithHash es.size (fun i => es[i]?.map (·.hash)) (k.hash P w) := by rw [e]; simp
    obtain ⟨a1, a2⟩ := mem_places.mp hx'
    obtain ⟨k2, u2, v2, e2, e3, e4⟩ := at_ x a1
    rw [e3] at a2
    have a2 : k2.hash P w = k.hash P w := Option.some.inj a2
    rw [e3]
    dsimp only
    rw [if_pos (by simpa using a2)]
    refine wpAny_bind (wpAny_dictEpoch ho hd (wpAny_bind (zto hu e4 hk (wpAny_bind (wpAny_dictEpoch ho hd ?_)))))
    rw [if_neg (by simp)]
    by_cases hkk : k2 = k
    ·rw [decide_eq_true hkk]
     subst hkk
     simp only [if_true]
     exact wpAny_bind (wpAny_rule (wpAny_pure (wpAny_pure (h1 x _ e2))))
    ·rw [decide_eq_false hkk]
     simp only [Bool.false_eq_true, if_false]
     refine wpAny_bind (wpAny_rule (wpAny_pure ⟨rfl, rfl, dn ++ [x], by rw [e]; simp, fun j hj p => ?_⟩))
     rcases List.mem_append.mp hj with hj | hj
     ·exact hdn j hj p
     ·rw [List.mem_singleton.mp hj, e2]
      intro z
      cases z
      exact hkk rfl
   ·rintro b t ⟨rfl, rfl, dn, e, hdn⟩
    rw [List.append_nil] at e
    exact wpAny_pure (h0 fun j p hj => hdn j (by rw [← e]; exact pl j p hj) p hj)
  have hany : ∀ b, u = .ref b → ¬ (es.any fun e => e.key == u && e.hash != k.hash P w) = true := fun b eb hq => by
   rw [← Array.any_toList, List.any_eq_true] at hq
   obtain ⟨e, hin, hc⟩ := hq
   obtain ⟨i, hi, e1⟩ := Array.mem_iff_getElem.mp (Array.mem_toList_iff.mp hin)
   obtain ⟨k2, u2, v2, e2, e3, e4⟩ := at_ i hi
   rw [Array.getElem?_eq_getElem hi, e1] at e3
   cases e3
   simp only [Bool.and_eq_true, beq_iff_eq, bne_iff_ne, ne_eq] at hc
   obtain ⟨c1, c2⟩ := hc
   subst c1
   exact c2 (by rw [zox e4 hk])
  have hcase : (∃ i t, u = .int i t) ∨ (∃ x t, u = .str x t) ∨ ∃ b, u = .ref b := by
   cases k with
   | one k3 =>
    rcases zav (show zgo k3 u = true from hk) with ⟨i, t, rfl, rfl⟩ | ⟨i, t, rfl, rfl⟩
    ·exact .inl ⟨_, _, rfl⟩
    ·exact .inr (.inl ⟨_, _, rfl⟩)
   | tup ks => obtain ⟨b, rfl, _⟩ := hk; exact .inr (.inr ⟨b, rfl⟩)
  rcases hcase with ⟨i, t, eu⟩ | ⟨i, t, eu⟩ | ⟨b, eu⟩ <;> subst eu <;> dsimp only
  case' inr.inl => rw [if_neg (notStrs _ _ rfl)]
  case' inr.inr => skip
  all_goals refine wpAny_ite_split (fun _ => plain) fun _ => ?_
  case' inr.inr => refine wpAny_ite_split (fun z => absurd z (hany _ rfl)) fun _ => ?_
  all_goals refine wpAny_ite_split (fun _ => ?_) fun _ => ?_
  all_goals (
    (first | refine wpAny_bind (wpAny_pure ?_) | refine wpAny_bind (zon hk hst ?_))
    rw [if_neg (by simp)]
    refine wpAny_bind ?_
    refine wpAny_forIn_list _ (fun rest b t => t = s ∧ ∃ hit, b = (none, hit) ∧ ∃ dn, placesWithHash es.size (fun i => es[i]?.map (·.hash)) (k.hash P w) = dn ++ rest ∧
     ((hit = none ∧ ∀ j ∈ dn, ∀ p, xs[j]? ≠ some (k, p)) ∨ ∃ j p, hit = some j ∧ j ∈ dn ∧ xs[j]? = some (k, p))) _ ?_ ?_ _ _ ⟨rfl, none, rfl, [], rfl, .inl ⟨rfl, fun j hj => nomatch hj⟩⟩
    ·rintro x rest b t ⟨rfl, hit, rfl, dn, e, hH⟩
     have hx' : x ∈ placesWithHash es.size (fun i => es[i]?.map (·.hash)) (k.hash P w) := by rw [e]; simp
     obtain ⟨a1, a2⟩ := mem_places.mp hx'
     obtain ⟨k2, u2, v2, e2, e3, e4⟩ := at_ x a1
     rw [e3] at a2
     have a2 : k2.hash P w = k.hash P w := Option.some.inj a2
     have hnd := @zlk es.size (fun i => es[i]?.map (·.hash)) (k.hash P w)
     rw [e] at hnd
     rw [e3]
     dsimp only
     rw [if_pos (by simpa using a2)]
     refine wpAny_bind (wpAny_dictEpoch ho hd (wpAny_bind (zto hu e4 hk (wpAny_bind (wpAny_dictEpoch ho hd ?_)))))
     rw [if_neg (by simp)]
     by_cases hkk : k2 = k
     ·rw [decide_eq_true hkk]
      subst hkk
      rcases hH with ⟨rfl, _⟩ | ⟨j, p, _, hj, hjx⟩
      ·rw [if_pos rfl]
       refine wpAny_ite_split (fun hz => absurd hz (by simp)) fun _ => ?_
       refine wpAny_bind (wpAny_rule ?_)
       split
       ·exact wpAny_pure (wpAny_pure (h1 x _ e2))
       ·exact wpAny_pure ⟨rfl, some x, rfl, dn ++ [x], by rw [e]; simp, .inr ⟨x, _, rfl, by simp, e2⟩⟩
      ·have z := zml hn hjx e2
       subst z
       exact absurd hnd (by rw [List.nodup_append]; intro z; exact z.2.2 j hj j List.mem_cons_self rfl)
     ·rw [decide_eq_false hkk]
      rw [if_neg (by simp)]
      refine wpAny_bind (wpAny_rule ?_)
      rw [if_neg (by simp)]
      refine wpAny_pure ⟨rfl, hit, rfl, dn ++ [x], by rw [e]; simp, ?_⟩
      rcases hH with ⟨hz, hno⟩ | ⟨j, p, hz, hj, hjx⟩
      ·refine .inl ⟨hz, fun j hj p => ?_⟩
       rcases List.mem_append.mp hj with hj | hj
       ·exact hno j hj p
       ·rw [List.mem_singleton.mp hj, e2]
        intro z
        cases z
        exact hkk rfl
      ·exact .inr ⟨j, p, hz, List.mem_append_left _ hj, hjx⟩
    ·rintro b t ⟨rfl, hit, rfl, dn, e, hH⟩
     rw [List.append_nil] at e
     rcases hH with ⟨rfl, hno⟩ | ⟨j, p, rfl, _, hjx⟩
     ·exact wpAny_pure (h0 fun j p hj => hno j (by rw [← e]; exact pl j p hj) p hj)
     ·exact wpAny_pure (h1 j p hjx))
theorem zq3 {Q : Option Value → Shared → Prop} (hu : A.units < cLine) (hk : MIs P w s.heap k u) (hm : DictM P w s.heap d xs) (f : ∀ t, Q (trAt xs k) { s with toks := t }) : wpAny (model P w) A (dictGet d u) Q E s := by
 obtain ⟨o, es, ep, ho, _, hd, he, hn, hx⟩ := hm
 unfold dictGet
 refine wpAny_holding (wpAny_bind (zk0 hu hk fun t => wpAny_bind (zpm (s := { s with toks := t }) hu hk ho hd he hn hx (fun hz => ?_) fun j p hj => ?_)))
 ·have f := f t
  rw [zhs hz] at f
  exact wpAny_pure f
 ·have f := f t
  rw [zhm hn hj] at f
  refine wpAny_bind (wpAny_dictEntries (s := { s with toks := t }) ho hd ?_)
  rw [zjj he j, hj]
  exact wpAny_pure f
theorem zhb {k : MK} {v : Value} : ∀ {xs : Tr} {j : Nat} {p : Value × Value}, (xs.map (·.1)).Nodup → xs[j]? = some (k, p) → (xs.map (entM P w)).modify j (fun e => { e with val := v }) = (xs.map fun x => if x.1 = k then (x.1, x.2.1, v) else x).map (entM P w)
 | [], _, _, _, hj => by simp at hj
 | x :: r, 0, p, hn, hj => by
  simp only [List.getElem?_cons_zero, Option.some.injEq] at hj
  subst hj
  have hn : (k ∉ r.map (·.1)) ∧ (r.map (·.1)).Nodup := by simpa using hn
  have e : (r.map fun x => if x.1 = k then (x.1, x.2.1, v) else x) = r := by
   conv => rhs; rw [← List.map_id r]
   refine List.map_congr_left fun y hy => ?_
   rw [if_neg (fun z => hn.1 (List.mem_map.mpr ⟨y, hy, z⟩))]
   rfl
  simp [e, entM]
 | x :: r, j + 1, p, hn, hj => by
  simp only [List.getElem?_cons_succ] at hj
  have hn : (x.1 ∉ r.map (·.1)) ∧ (r.map (·.1)).Nodup := by rw [List.map_cons, List.nodup_cons] at hn; exact hn
  have ne : ¬ x.1 = k := fun z => hn.1 (List.mem_map.mpr ⟨(k, p), List.mem_of_getElem? hj, z.symm⟩)
  simp only [List.map_cons, List.modify_succ_cons, if_neg ne, zhb hn.2 hj]
theorem zur {v : Value} {Q : Unit → Shared → Prop} (hu : A.units < cLine) (hk : MIs P w s.heap k u) (hm : DictM P w s.heap d xs) (hz : xs.length ≤ sizeLine)
  (f : ∀ h' t, DictM P w h' d (zhv xs k u v) → Heap.SameBut d s.heap h' → Q () { s with heap := h', toks := t }) : wpAny (model P w) A (dictSet d u v) Q E s := by
 obtain ⟨o, es, ep, ho, hc, hd, he, hn, hx⟩ := hm
 unfold dictSet
 refine wpAny_holding (wpAny_bind (zk0 hu hk fun t => ?_))
 unfold dictSetHashed
 refine wpAny_holding (wpAny_bind (zpm (s := { s with toks := t }) hu hk ho hd he hn hx (fun hz' => ?_) fun j p hj => ?_))
 ·have e0 : zhv xs k u v = xs ++ [(k, u, v)] := by unfold zhv; rw [zhs hz']; rfl
  have f := fun h' => f h' t
  rw [e0] at f
  refine wpAny_bind (wpAny_rule (wpAny_updateDictKeys (hz := by have := zd4 he; omega) (s := { s with toks := t }) ho hd (f _ ⟨_, _, ep + 1, Heap.get?_update_self _ ho (Obj.isFreed_of_dict (Obj.data_mapDictKeys hd _)), hc.mapDictKeys _, Obj.data_mapDictKeys hd _, ?_, ?_, ?_⟩ (Heap.SameBut.update ..))))
  ·simp [he, entM]
  ·rw [List.map_append, List.nodup_append]
   refine ⟨hn, by simp, fun x hx y hy => ?_⟩
   have hy : y = k := by simpa using hy
   subst hy
   intro z
   subst z
   obtain ⟨q, hq, e⟩ := List.mem_map.mp hx
   obtain ⟨i, hi⟩ := List.mem_iff_getElem?.mp hq
   obtain ⟨q1, q2⟩ := q
   have e : q1 = x := e
   subst e
   exact hz' i q2 hi
  ·intro x hx'
   rcases List.mem_append.mp hx' with hx' | hx'
   ·exact zgq ho hd (Heap.SameBut.update ..) (hx x hx')
   ·rw [List.mem_singleton.mp hx']
    exact zgq ho hd (Heap.SameBut.update ..) hk
 ·have e0 : zhv xs k u v = xs.map fun x => if x.1 = k then (x.1, x.2.1, v) else x := by unfold zhv; rw [zhm hn hj]; rfl
  have f := fun h' => f h' t
  rw [e0] at f
  refine wpAny_bind (wpAny_rule (wpAny_bind (wpAny_updateDict (s := { s with toks := t }) ho hd (wpAny_point (f _ ⟨_, _, ep, Heap.get?_update_self _ ho (Obj.isFreed_of_dict (Obj.data_mapDict hd _)), hc.mapDict _, Obj.data_mapDict hd _, ?_, ?_, ?_⟩ (Heap.SameBut.update ..))))))
  ·have q := zhb (P := P) (w := w) (v := v) hn hj
   rw [← he] at q
   obtain ⟨l⟩ := es
   simpa using q
  ·have e1 : (xs.map fun x => if x.1 = k then (x.1, x.2.1, v) else x).map (·.1) = xs.map (·.1) := by
    rw [List.map_map]
    refine List.map_congr_left fun y _ => ?_
    simp only [Function.comp]
    split <;> rfl
   rw [e1]
   exact hn
  ·intro x hx'
   obtain ⟨y, hy, rfl⟩ := List.mem_map.mp hx'
   split <;> exact zgq ho hd (Heap.SameBut.update ..) (hx y hy)
theorem DictM.typeIs (hm : DictM P w s.heap d xs) : s.TypeIs (.ref d) "dict" := let ⟨o, _, _, ho, hc, _⟩ := hm; ⟨o, ho, hc.1⟩
theorem zvm {Q : Bool → Shared → Prop} (hu : A.units + 1 < cLine) (hk : MIs P w s.heap k u) (lo : (d == sysModules) = false) (hm : DictM P w s.heap d xs) (f : ∀ t, Q (trAt xs k).isSome { s with toks := t }) :
  wpAny (model P w) A (contains (.ref d) u) Q E s := by
 have hT := hm.typeIs
 unfold contains
 refine wpAny_holding (wpAny_bind (wpAny_specialOf hT slot_dict_contains.lookup ?_))
 refine wpAny_ite_split (fun z => absurd z (by rw [beq_builtin_none]; exact Bool.false_ne_true)) fun _ => ?_
 refine wpAny_bind (wpAny_callSpecialUnlessNone?_slot (name := Str.ofString "__contains__") hT slot_dict_contains (wpAny_call_entry slot_dict_contains hT entry_dict_contains ?_ (args_dict_contains _ _)))
 show wpAny _ _ (dictGet d u >>= _) _ _ s
 refine wpAny_bind (zq3 (A := A.in1) hu hk hm fun t => ?_)
 have f := f t
 cases hf : trAt xs k with
 | some v =>
  rw [hf] at f
  show wpAny _ _ (ret (.bool true)) _ _ _
  exact wpAny_pure ⟨_, rfl, wpAny_truthy_bool f⟩
 | none =>
  rw [hf] at f
  show wpAny _ _ (Builtin.Dict.pendingKey? d u >>= _) _ _ _
  exact wpAny_bind (wpAny_pendingKey_other lo (wpAny_pure ⟨_, rfl, wpAny_truthy_bool f⟩))
theorem m_in {Q : Value → Shared → Prop} (hu : A.units + 1 < cLine) (hk : MIs P w s.heap k u) (lo : (d == sysModules) = false) (hm : DictM P w s.heap d xs) (f : ∀ t, Q (.bool (trAt xs k).isSome) { s with toks := t }) :
  wpAny (model P w) A (compareOp .In u (.ref d)) Q E s := by
 show wpAny _ _ (do return .bool (← contains (.ref d) u)) Q E s
 exact wpAny_bind (zvm hu hk lo hm fun t => wpAny_pure (f t))
theorem zmg {v : Value} {Q : Unit → Shared → Prop} (hu : A.units + 1 < cLine) (hk : MIs P w s.heap k u) (hm : DictM P w s.heap d xs) (hz : xs.length ≤ sizeLine)
  (f : ∀ h' t, DictM P w h' d (zhv xs k u v) → Heap.SameBut d s.heap h' → Q () { s with heap := h', toks := t }) : wpAny (model P w) A (setItem (.ref d) u v) Q E s := by
 have hT := hm.typeIs
 unfold setItem
 refine wpAny_holding (wpAny_bind (wpAny_sequenceKey hT (by decide) ?_))
 refine wpAny_bind (wpAny_callSpecial?_slot (name := Str.ofString "__setitem__") hT slot_dict_setitem (wpAny_call_entry slot_dict_setitem hT entry_dict_setitem ?_ (args_dict_setitem _ _ _)))
 show wpAny _ _ (Builtin.Dict.notOrdered "__setitem__" ⟨[.ref d, u, v], []⟩ >>= _) _ _ s
 refine wpAny_bind (wpAny_notOrdered_dict hT ?_)
 show wpAny _ _ (dictSet d u v >>= _) _ _ s
 exact wpAny_bind (zur (A := A.in1) hu hk hm hz fun h' t a b => wpAny_pure ⟨.none, rfl, wpAny_pure (f h' t a b)⟩)
theorem znj (lo : (d == sysModules) = false) : MeetsIn P w (Builtin.«dict.get» ⟨[.ref d, u], []⟩) (fun A R s => A.in1.units < cLine ∧ ∃ k xs, MIs P w s.heap k u ∧ DictM P w s.heap d xs ∧ ∀ t, R (.ok (.ret ((trAt xs k).getD .none))) { s with toks := t }) :=
 .of_wp fun A R s ⟨hu, k, xs, hk, hm, f⟩ => by
  show wpAny _ _ (dictGet d u >>= _) _ _ s; refine wpAny_bind (zq3 hu hk hm fun t => ?_)
  have f := f t
  cases hf : trAt xs k with
  | some v => rw [hf] at f; exact wpAny_pure ⟨v, rfl, f⟩
  | none => rw [hf] at f; exact wpAny_bind (wpAny_missed_other lo (wpAny_pure ⟨_, rfl, f⟩))
theorem zn0 (lo : (d == sysModules) = false) (z : Value) : MeetsIn P w (Builtin.«dict.get» ⟨[.ref d, u, z], []⟩) (fun A R s => A.in1.units < cLine ∧ ∃ k xs, MIs P w s.heap k u ∧ DictM P w s.heap d xs ∧ ∀ t, R (.ok (.ret ((trAt xs k).getD z))) { s with toks := t }) :=
 .of_wp fun A R s ⟨hu, k, xs, hk, hm, f⟩ => by
  show wpAny _ _ (dictGet d u >>= _) _ _ s; refine wpAny_bind (zq3 hu hk hm fun t => ?_)
  have f := f t
  cases hf : trAt xs k with
  | some v => rw [hf] at f; exact wpAny_pure ⟨v, rfl, f⟩
  | none => rw [hf] at f; exact wpAny_bind (wpAny_missed_other lo (wpAny_pure ⟨_, rfl, f⟩))
end
end L2
set_option Elab.async false
set_option linter.all false
set_option maxRecDepth 100000
namespace L2
open PySem PySem.Spec PyProof.Rows
section
variable {κ : Type} [DecidableEq κ]
def valV (kvs : List (κ × V)) (k : κ) : Option V := (kvs.find? fun kv => decide (kv.1 = k)).map (·.2)
def putK (kvs : List (κ × V)) (k : κ) (v : V) : List (κ × V) :=
 if (kvs.any fun kv => decide (kv.1 = k)) = true then kvs.map (fun kv => if kv.1 = k then (kv.1, v) else kv) else kvs ++ [(k, v)]
def zq6 (kvs : List (κ × V)) (k : κ) : List (κ × V) := kvs.filter fun kv => decide (kv.1 ≠ k)
theorem zgs {p : κ × V} {r : List (κ × V)} {k : κ} (e : p.1 = k) : valV (p :: r) k = some p.2 := by simp [valV, List.find?_cons, e]
theorem zgh {p : κ × V} {r : List (κ × V)} {k : κ} (e : ¬ p.1 = k) : valV (p :: r) k = valV r k := by simp [valV, List.find?_cons, e]
theorem zix (k : κ) : ∀ kvs : List (κ × V), (kvs.any fun kv => decide (kv.1 = k)) = (valV kvs k).isSome
 | [] => rfl
 | p :: r => by
  rw [List.any_cons]
  by_cases e : p.1 = k
  ·simp only [zgs e, decide_eq_true e, Bool.true_or, Option.isSome_some]
  ·rw [zgh e, decide_eq_false e, Bool.false_or]; exact zix k r
theorem zfn (kvs : List (κ × V)) (k : κ) (v : V) : (putK kvs k v).length ≤ kvs.length + 1 := by
 unfold putK
 split
 ·rw [List.length_map]; omega
 ·rw [List.length_append, List.length_cons, List.length_nil]; omega
theorem RelO.isSome_eq {o : Option V} {u : Option Value} (r : RelO o u) : o.isSome = u.isSome := by
 cases o with
 | none => cases u with
  | none => rfl
  | some _ => exact (show False from r).elim
 | some _ => cases u with
  | none => exact (show False from r).elim
  | some _ => rfl
theorem RelO.getD {o : Option V} {u : Option Value} {d : V} {d' : Value} (r : RelO o u) (rd : RelV d d') : RelV (o.getD d) (u.getD d') := by
 cases o with
 | none => cases u with
  | none => exact rd
  | some _ => exact (show False from r).elim
 | some _ => cases u with
  | none => exact (show False from r).elim
  | some _ => exact r
theorem KV.val {kvs : List (κ × V)} {vs : List (κ × Value)} (r : KV kvs vs) (k : κ) : RelO (valV kvs k) (valueAt vs k) := by
 unfold KV at r
 induction r with
 | nil => exact True.intro
 | @cons p q ps qs h t ih =>
  obtain ⟨h1, h2⟩ := h
  by_cases e : p.1 = k
  ·have e' : q.1 = k := h1.symm.trans e
   have b : valueAt (q :: qs) k = some q.2 := by simp [valueAt, List.find?_cons, e']
   rw [zgs e, b]; exact h2
  ·have e' : ¬ q.1 = k := fun z => e (h1.trans z)
   have b : valueAt (q :: qs) k = valueAt qs k := by simp [valueAt, List.find?_cons, e']
   rw [zgh e, b]; exact ih
theorem KV.any {kvs : List (κ × V)} {vs : List (κ × Value)} (r : KV kvs vs) (k : κ) : (kvs.any fun kv => decide (kv.1 = k)) = vs.any fun kv => decide (kv.1 = k) := by
 unfold KV at r
 induction r with
 | nil => rfl
 | cons h t ih => rw [List.any_cons, List.any_cons, ih, h.1]
theorem KV.repl {kvs : List (κ × V)} {vs : List (κ × Value)} (r : KV kvs vs) (k : κ) {y : V} {u : Value} (ry : RelV y u) :
  KV (kvs.map fun kv => if kv.1 = k then (kv.1, y) else kv) (vs.map fun kv => if kv.1 = k then (kv.1, u) else kv) := by
 unfold KV at r ⊢
 induction r with
 | nil => exact .nil
 | @cons p q ps qs h t ih =>
  rw [List.map_cons, List.map_cons]
  refine .cons ?_ ih
  obtain ⟨h1, h2⟩ := h
  by_cases e : p.1 = k
  ·rw [if_pos e, if_pos (h1.symm.trans e)]; exact ⟨h1, ry⟩
  ·rw [if_neg e, if_neg (fun z => e (h1.trans z))]; exact ⟨h1, h2⟩
theorem KV.put {kvs : List (κ × V)} {vs : List (κ × Value)} (r : KV kvs vs) (k : κ) {y : V} {u : Value} (ry : RelV y u) : KV (putK kvs k y) (stored vs k u) := by
 unfold putK stored
 rw [r.any k]
 by_cases e : (vs.any fun kv => decide (kv.1 = k)) = true
 ·rw [if_pos e, if_pos e]; exact r.repl k ry
 ·rw [if_neg e, if_neg e]; exact Paired.snoc r ⟨rfl, ry⟩
theorem KV.length {kvs : List (κ × V)} {vs : List (κ × Value)} (r : KV kvs vs) : kvs.length = vs.length := Paired.length r
end
theorem zj7 {P : Program} {w : World} {k : Key} {u : Value} (r : RelV (kV k) u) : (zar P w).is k u = true := by
 cases k with
 | inl i => obtain ⟨t, e⟩ := (show ∃ t, u = Value.int i t from r); subst e; exact zh3 P w i t
 | inr x => obtain ⟨t, e⟩ := (show ∃ t, u = Value.str x t from r); subst e; exact ziq P w x t
theorem zhi {P : Program} {w : World} : ∀ {ks : List Key} {us : List Value}, Vals (ks.map kV) us → ItemsAre (zar P w) ks us
 | [], _, r => by rw [List.map_nil] at r; cases r; exact .nil
 | k :: ks, _, r => by
  rw [List.map_cons] at r
  cases r with
  | cons h t => exact .cons (zj7 h) (zhi t)
abbrev KT (H : Hp) : List (MK × V) → Tr → Prop := Paired fun p q => p.1 = q.1 ∧ KyV H p.1 q.2.1 ∧ RelV p.2 q.2.2
theorem KT.val {H : Hp} {l : List (MK × V)} {m : Tr} (r : KT H l m) (k : MK) : RelO (valV l k) (trAt m k) := by
 induction r with
 | nil => exact True.intro
 | @cons p q ps qs z _ ih =>
  obtain ⟨z1, _, z2⟩ := z
  by_cases e : p.1 = k
  ·rw [zgs e, show trAt (q :: qs) k = some q.2.2 by simp [trAt, List.find?_cons, ← z1, e]]; exact z2
  ·rw [zgh e, show trAt (q :: qs) k = trAt qs k by simp [trAt, List.find?_cons, ← z1, e]]; exact ih
theorem KT.put {H : Hp} {l : List (MK × V)} {m : Tr} (r : KT H l m) {k : MK} {u v : Value} {y : V} (hk : KyV H k u) (ry : RelV y v) : KT H (putK l k y) (zhv m k u v) := by
 have e : (l.any fun kv => decide (kv.1 = k)) = (trAt m k).isSome := by rw [zix, (r.val k).isSome_eq]
 unfold putK zhv
 rw [e]
 by_cases c : (trAt m k).isSome = true
 ·rw [if_pos c, if_pos c]
  clear e c
  induction r with
  | nil => exact .nil
  | @cons p q ps qs z _ ih =>
   refine .cons ?_ ih
   obtain ⟨z1, z2, z3⟩ := z
   dsimp only
   by_cases g : p.1 = k
   ·rw [if_pos g, if_pos (z1.symm.trans g)]; exact ⟨z1, z2, ry⟩
   ·rw [if_neg g, if_neg fun x => g (z1.trans x)]; exact ⟨z1, z2, z3⟩
 ·rw [if_neg c, if_neg c]; exact Paired.snoc r ⟨rfl, hk, ry⟩
theorem KT.keeps {H H' : Hp} {l : List (MK × V)} {m : Tr} (r : KT H l m) (ht : ∀ b ys, H b = some (.tup ys) → H' b = some (.tup ys)) : KT H' l m := Paired.mapP r fun _ _ z => ⟨z.1, z.2.1.mono ht, z.2.2⟩
section
variable {P : Program} {w : World} {H : Hp} {h : Heap} {a : Addr}
theorem zsa {u : HO} (ok : HOk P w H h) (e : Rd H a u) : ObjOk P w H h a u := e.ok ok
theorem zme {kvs : List (Key × V)} (ok : HOk P w H h) (e : Rd H a (.dK kvs)) : kvs.length ≤ sizeLine ∧ (a == sysModules) = false ∧ ∃ vs, KV kvs vs ∧ h.DictOf (zar P w) a vs :=
 show ObjOk P w H h a (.dK kvs) from zsa ok e
theorem zvn {kvs : List (Key × V)} (ok : HOk P w H h) (e : H a = some (.dK kvs)) : kvs.length ≤ sizeLine ∧ (a == sysModules) = false ∧ ∃ vs, KV kvs vs ∧ h.DictOf (zar P w) a vs := zme ok (.inl e)
theorem zsw {ks : List Key} (ok : HOk P w H h) (e : H a = some (.tup (ks.map kV))) : (tupleKind (zar P w)).is h ks a := by
 obtain ⟨_, its, r, o, h1, h2, n, h3⟩ := (show ObjOk P w H h a (.tup (ks.map kV)) from ok a _ e)
 exact ⟨o, its.toArray, n, h1, h2, h3, by simpa using zhi r⟩
theorem zkx (ok : HOk P w H h) : ∀ {k : MK} {u : Value}, KyV H k u → MIs P w h k u
 | .one _, _, r => zj7 r
 | .tup _, _, ⟨b, e, q⟩ => ⟨b, e, zsw ok q⟩
theorem zlc {kvs : List (MK × V)} (ok : HOk P w H h) (e : Rd H a (.dT kvs)) : kvs.length ≤ sizeLine ∧ (a == sysModules) = false ∧ ∃ xs, KT H kvs xs ∧ DictM P w h a xs := by
 obtain ⟨z, y, xs, r, o, es, ep, g1, g2, g3, g4, g5⟩ := (show ObjOk P w H h a (.dT kvs) from zsa ok e)
 refine ⟨z, y, xs, r, o, es, ep, g1, g2, g3, g4, g5, ?_⟩
 have all : ∀ {l : List (MK × V)} {m : Tr}, KT H l m → ∀ x ∈ m, MIs P w h x.1 x.2.1 := fun {l m} q => by
  induction q with
  | nil => intro x hx; exact nomatch hx
  | cons hq _ ih =>
   intro x hx
   rcases List.mem_cons.mp hx with e | hx
   ·rw [e, ← hq.1]; exact zkx ok hq.2.1
   ·exact ih x hx
 exact all r
theorem zvy {kvs : List (MK × V)} (ok : HOk P w H h) (e : H a = some (.dT kvs)) : kvs.length ≤ sizeLine ∧ (a == sysModules) = false ∧ ∃ xs, KT H kvs xs ∧ DictM P w h a xs := zlc ok (.inl e)
end
def KyT (H : Hp) : MK → V → Prop
 | .one k, y => y = kV k
 | .tup ks, y => ∃ b, y = .ref b ∧ H b = some (.tup (ks.map kV))
theorem KyT.val {H : Hp} : ∀ {k : MK} {y : V} {u : Value}, KyT H k y → RelV y u → KyV H k u
 | .one k, y, u, e, r => by have e : y = kV k := e; subst e; exact r
 | .tup _, _, _, ⟨b, e, q⟩, r => by subst e; exact ⟨b, r, q⟩
def DGet (H : Hp) (a : Addr) (y : V) (r : Option V) : Prop := (∃ kvs k, Rd H a (.dK kvs) ∧ y = kV k ∧ r = valV kvs k) ∨ ∃ kvs k, Rd H a (.dT kvs) ∧ KyT H k y ∧ r = valV kvs k
def DPut (H : Hp) (a : Addr) (y v : V) (H' : Hp) : Prop := (∃ kvs k, H a = some (.dK kvs) ∧ y = kV k ∧ kvs.length < sizeLine ∧ H' = upd H a (.dK (putK kvs k v))) ∨
 ∃ kvs k, H a = some (.dT kvs) ∧ KyT H k y ∧ kvs.length < sizeLine ∧ H' = upd H a (.dT (putK kvs k v))
theorem DGet.k {H : Hp} {a : Addr} {kvs : List (Key × V)} {k : Key} (e : H a = some (.dK kvs)) : DGet H a (kV k) (valV kvs k) := .inl ⟨kvs, k, .inl e, rfl, rfl⟩
theorem DGet.t {H : Hp} {a : Addr} {y : V} {l : List (MK × V)} {k : MK} (e : H a = some (.dT l)) (hk : KyT H k y) : DGet H a y (valV l k) := .inr ⟨l, k, .inl e, hk, rfl⟩
theorem DPut.k {H : Hp} {a : Addr} {kvs : List (Key × V)} {k : Key} {v : V} (e : H a = some (.dK kvs)) (hl : kvs.length < sizeLine) : DPut H a (kV k) v (upd H a (.dK (putK kvs k v))) := .inl ⟨kvs, k, e, rfl, hl, rfl⟩
theorem DPut.t {H : Hp} {a : Addr} {y v : V} {l : List (MK × V)} {k : MK} (e : H a = some (.dT l)) (hk : KyT H k y) (hl : l.length < sizeLine) : DPut H a y v (upd H a (.dT (putK l k v))) := .inr ⟨l, k, e, hk, hl, rfl⟩
section
variable {X : Cx} {pins : List (Addr × Obj)} {σ : St} {H : Hp} {s : Shared} {a : Addr} {y v : V} {u r : Value} {o : Option V} {A : Around} {E : Value → Shared → Prop}
theorem Inv.big (I : Inv X pins σ H s) : sysModules < s.heap.objs.size := by
 have h : mainGlobals < s.heap.objs.size := (I.mod.glob.keeps I.bk).lt
 exact Nat.lt_trans (by decide) h
theorem d_in {Q : Value → Shared → Prop} (hu : A.units + 1 < cLine) (I : Inv X pins σ H s) (g : DGet H a y o) (ry : RelV y u) (h : ∀ s', Inv X pins σ H s' → Q (.bool o.isSome) s') :
  wpAny (model X.prog X.w) A (compareOp .In u (.ref a)) Q E s := by
 rcases g with ⟨kvs, k, e, ey, l⟩ | ⟨kvs, k, e, ek, l⟩
 ·subst ey
  obtain ⟨z, hd, vs, rel, dd⟩ := zme I.hok e
  refine wpAny_in_of (zj7 ry) hd dd.mapOf ?_
  rw [← (rel.val k).isSome_eq, ← l]
  exact h _ (I.tok _)
 ·obtain ⟨z, hd, xs, rel, dd⟩ := zlc I.hok e
  refine m_in hu (zkx I.hok (ek.val ry)) hd dd fun t => ?_
  rw [← (rel.val k).isSome_eq, ← l]; exact h _ (I.tok _)
theorem zmi {h' : Heap} {t' : Nat} {ob : HO} (I : Inv X pins σ H s) (mu : Mut (H a)) (hs : Heap.SameBut a s.heap h') (he : ∃ q, h'.get? a = some q) (new : ObjOk X.prog X.w (upd H a ob) h' a ob) :
  Inv X pins σ (upd H a ob) { s with heap := h', toks := t' } :=
 I.write (x := a) (e := a) mu (.inl rfl) (fun b q hb z => (hs.2 b hb).trans z) he new
theorem zs1 {P : Program} {w : World} {H' : Hp} {h' : Heap} {kvs : List (Key × V)} {vs : List (Key × Value)} (z : kvs.length ≤ sizeLine) (hd : (a == sysModules) = false) (rel : KV kvs vs) (dd : h'.DictOf (zar P w) a vs) :
  ObjOk P w H' h' a (.dK kvs) := ⟨z, hd, vs, rel, dd⟩
theorem zmf {H' : Hp} {Q : Unit → Shared → Prop} (hu : A.units + 1 < cLine) (I : Inv X pins σ H s) (g : DPut H a y v H') (ry : RelV y u) (rv : RelV v r) (h : ∀ s', Inv X pins σ H' s' → Q () s') :
  wpAny (model X.prog X.w) A (setItem (.ref a) u r) Q E s := by
 rcases g with ⟨kvs, k, e, ey, l, eH⟩ | ⟨kvs, k, e, ek, l, eH⟩
 ·subst ey eH
  obtain ⟨z, hd, vs, rel, dd⟩ := zvn I.hok e
  have hz : vs.length ≤ sizeLine := by rw [← rel.length]; exact z
  have hl : (putK kvs k v).length ≤ sizeLine := by have := zfn kvs k v; omega
  refine wpAny_setItem_pairs (hsz := hz) (zj7 ry) dd fun h' dd' hs => h _ ?_
  have he : ∃ q, h'.get? a = some q := let ⟨q, _, _, hq, _⟩ := dd'; ⟨q, hq⟩
  exact zmi I (by rw [e]; exact True.intro) hs he (zs1 hl hd (rel.put k rv) dd')
 ·subst eH
  obtain ⟨z, hd, xs, rel, dd⟩ := zvy I.hok e
  have hl : (putK kvs k v).length ≤ sizeLine := by have := zfn kvs k v; omega
  refine zmg hu (zkx I.hok (ek.val ry)) dd (by rw [← Paired.length rel]; exact z) fun h' t dd' hs => h _ ?_
  obtain ⟨q, es, ep, q1, q2, q3, q4, q5, _⟩ := dd'
  refine zmi I (by rw [e]; exact True.intro) hs ⟨q, q1⟩ ⟨hl, hd, _, (rel.put (ek.val ry) rv).keeps fun c ys ec => ?_, q, es, ep, q1, q2, q3, q4, q5⟩
  rw [zaj (zu9 ec e (fun z => nomatch z))]; exact ec
end
section
variable {X : Cx} {pins : List (Addr × Obj)} {σ : St} {H : Hp} {s : Shared} {a : Addr} {kvs : List (Key × V)} {k : Key} {u : Value} {A : Around} {E : Value → Shared → Prop}
end
def NoSl (i : Expr) : Prop := ∀ ov iv, subscripted i false ov iv = operate [ov, iv] (getItem ov iv)
def tDGet (td ty : TE) : TE := fun σ H Q => td σ H fun x H1 => ty σ H1 fun y H2 => ∃ a v, x = .ref a ∧ DGet H2 a y (some v) ∧ Q v H2
def tDIn (ty td : TE) : TE := fun σ H Q => ty σ H fun y H1 => td σ H1 fun x H2 => ∃ a o, x = .ref a ∧ DGet H2 a y o ∧ Q (.bl o.isSome) H2
def tDNotIn (ty td : TE) : TE := fun σ H Q => ty σ H fun y H1 => td σ H1 fun x H2 => ∃ a o, x = .ref a ∧ DGet H2 a y o ∧ Q (.bl (!o.isSome)) H2
def zs6 (td ty tv : TE) : TS := fun D σ H => tv σ H fun v H1 => td σ H1 fun x H2 => ty σ H2 fun y H3 => ∃ a H4, x = .ref a ∧ DPut H3 a y v H4 ∧ D.nx σ H4
def sDAug (td ty tv : TE) (rd : V → V → Hp → VK → Prop) : TS := fun D σ H => td σ H fun x H1 => ty σ H1 fun y H2 => ∃ a v, x = .ref a ∧ DGet H2 a y (some v) ∧
 tv σ H2 fun y2 H3 => rd v y2 H3 fun z H4 => ∃ H5, DPut H4 a y z H5 ∧ D.nx σ H5
def sDDel (td ty : TE) : TS := fun D σ H => td σ H fun x H1 => ty σ H1 fun y H2 => ∃ a kvs k, x = .ref a ∧ H2 a = some (.dK kvs) ∧ y = kV k ∧ (valV kvs k).isSome = true ∧ D.nx σ (upd H2 a (.dK (zq6 kvs k)))
section
variable {X : Cx} {o i e value : Expr} {pos pos' tpos : Pos} {td ty tv : TE}
theorem zqt (hu : X.A.units + 1 < cLine) (ho : PE X o td) (hi : PE X i ty) (hv : PE X value tv) (hs : swapsWith value (some (.Subscript o i pos')) pos.line X.env = pure false) :
  PS X (.Assign [.Subscript o i pos'] value pos) (zs6 td ty tv) := by
 intro pins s σ H D I h
 refine wpAny_Assign_Subscript (thn (hv pins s σ H _ I h) fun r s1 ⟨v, H1, I1, rv, q1⟩ => thn (ho pins s1 σ H1 _ I1 q1) fun u s2 ⟨x, H2, I2, rx, q2⟩ => thn (hi pins s2 σ H2 _ I2 q2) fun iv s3 ⟨y, H3, I3, ry, a, H4, ex, g, q3⟩ => ?_) hs
 subst ex
 obtain rfl : u = Value.ref a := rx
 exact zmf hu I3 g ry rv fun s4 I4 => ⟨σ, H4, I4, q3⟩
end
theorem zn6 {P : Program} {w : World} {H : Hp} (h : Heap) (hb : sysModules < h.objs.size) : ObjOk P w H (h.push { cls := .type "dict", data := .dict #[] }) h.objs.size (.dT []) :=
 ⟨Nat.zero_le _, beq_eq_false_iff_ne.mpr (Ne.symm (Nat.ne_of_lt hb)), [], .nil, _, #[], 0, Heap.get?_push_size _ rfl, ⟨rfl, rfl, rfl⟩, rfl, rfl, List.nodup_nil⟩
def tDNewK : TE := fun _ H Q => ∀ p, H p = none → Q (.ref p) (upd H p (.dK []))
def zrr : TE := fun _ H Q => ∀ p, H p = none → Q (.ref p) (upd H p (.dT []))
section
variable {X : Cx} {pos : Pos}
theorem zni : PE X (.Dict [] [] pos) zrr := fun pins s σ H Q I h =>
 wpAny_Dict_empty ⟨.ref s.heap.objs.size, _, I.laid (a := s.heap.objs.size) (o := .dT []) (t' := s.toks) (fun _ _ q => Heap.get?_push_of_some _ q) (Nat.le_refl _) (zn6 s.heap I.big), rfl, h _ (I.hok.fresh (Nat.le_refl _))⟩
end
def zmy : List (TE × TE) → St → Hp → (List (V × V) → Hp → Prop) → Prop
 | [], _, H, Q => Q [] H
 | (tk, tv) :: r, σ, H, Q => tk σ H fun x H1 => tv σ H1 fun y H2 => zmy r σ H2 fun ps H3 => Q ((x, y) :: ps) H3
abbrev VV : List (V × V) → List (Value × Value) → Prop := Paired fun p q => RelV p.1 q.1 ∧ RelV p.2 q.2
def PPs (X : Cx) (pos : Pos) (keys : List (Option Expr)) (values : List Expr) (trs : List (TE × TE)) : Prop :=
 ∀ (pins : List (Addr × Obj)) (s : Shared) (σ : St) (H : Hp) (Q : List (V × V) → Hp → Prop), Inv X pins σ H s → zmy trs σ H Q →
  wpAny (model X.prog X.w) X.A (evalPairs (pairTrees keys values X.env pos)) (fun vs s' => ∃ ps H', Inv X pins σ H' s' ∧ VV ps vs ∧ Q ps H') X.xe s
def zr5 (kvs more : List (Key × V)) : List (Key × V) := more.foldl (fun acc kv => putK acc kv.1 kv.2) kvs
def tDisp (trs : List (TE × TE)) : TE := fun σ H Q => ∀ p, H p = none → zmy trs σ (upd H p (.dK [])) fun ps H2 => H2 p = some (.dK []) ∧ ∃ kvs : List (Key × V), ps = kvs.map (fun kv => (kV kv.1, kv.2)) ∧ kvs.length ≤ 15 ∧ Q (.ref p) (upd H2 p (.dK (zr5 [] kvs)))
structure M1 (X : Cx) (o : Expr) (m : Str) (apos : Pos) (e : Expr) (cpos : Pos) : Prop where
 base : attributeBase o m X.env (eval o X.env) = eval o X.env
 few : ((backTo cpos (starEach [e] X.env)).all (fun x => !x.1) && (backToKw cpos (keywordEach [] X.env)).all (fun x => x.1.isSome)
  && decide (([e] : List Expr).length + ([] : List Keyword).length + (if ([] : List Keyword).isEmpty then 0 else 1) < 30)) = true
 line : (apos.endLine == cpos.line) = true
 trees : backTo cpos (starEach [e] X.env) = [(false, eval e X.env)]
structure M2 (X : Cx) (o : Expr) (m : Str) (apos : Pos) (e f : Expr) (cpos : Pos) : Prop where
 base : attributeBase o m X.env (eval o X.env) = eval o X.env
 few : ((backTo cpos (starEach [e, f] X.env)).all (fun x => !x.1) && (backToKw cpos (keywordEach [] X.env)).all (fun x => x.1.isSome)
  && decide (([e, f] : List Expr).length + ([] : List Keyword).length + (if ([] : List Keyword).isEmpty then 0 else 1) < 30)) = true
 line : (apos.endLine == cpos.line) = true
 trees : backTo cpos (starEach [e, f] X.env) = [(false, eval e X.env), (false, eval f X.env)]
def IsD (H : Hp) (a : Addr) : Prop := (∃ kvs, Rd H a (.dK kvs)) ∨ ∃ kvs, Rd H a (.dT kvs)
theorem zpf {X : Cx} {pins : List (Addr × Obj)} {σ : St} {H : Hp} {s : Shared} {a : Addr} (I : Inv X pins σ H s) (d : IsD H a) :
  s.TypeIs (.ref a) "dict" ∧ (∀ b, Value.ref a = .ref b → ∃ ob, s.heap.get? b = some ob ∧ ob.dict = none) ∧ (a == sysModules) = false := by
 rcases d with ⟨kvs, e⟩ | ⟨kvs, e⟩
 ·obtain ⟨_, hd, vs, _, dd⟩ := zme I.hok e
  refine ⟨dd.typeIs, fun b q => ?_, hd⟩
  cases q
  obtain ⟨ob, _, _, h1, h2, _⟩ := dd
  exact ⟨ob, h1, h2.2.1⟩
 ·obtain ⟨_, hd, xs, _, dd⟩ := zlc I.hok e
  refine ⟨dd.typeIs, fun b q => ?_, hd⟩
  cases q
  obtain ⟨ob, _, _, h1, h2, _⟩ := dd
  exact ⟨ob, h1, h2.2.1⟩
section
variable {X : Cx} {pins : List (Addr × Obj)} {σ : St} {H : Hp} {s : Shared} {a : Addr} {y d : V} {u r : Value} {o : Option V} {A : Around} {E : Value → Shared → Prop}
theorem zru {Q : Value → Shared → Prop} (hu : A.units + 1 < cLine) (I : Inv X pins σ H s) (g : DGet H a y o) (ry : RelV y u) (h : ∀ w' s', Inv X pins σ H s' → RelV (o.getD .non) w' → Q w' s') :
  wpAny (model X.prog X.w) A (call (.builtin "dict.get") [.ref a, u]) Q E s := by
 rcases g with ⟨kvs, k, e, ey, l⟩ | ⟨kvs, k, e, ek, l⟩
 ·subst ey
  obtain ⟨z, hd, vs, rel, dd⟩ := zme I.hok e
  refine call_meetsIn PySem.F.slot_dict_get dd.typeIs PySem.F.entry_dict_get (PySem.F.args_dict_get_2 _ _) (meets_dict_get (zar X.prog X.w) a (zj7 ry) hd) ⟨_, dd.mapOf, h _ _ (I.tok _) ?_⟩
  rw [l]
  exact (rel.val k).getD rfl
 ·obtain ⟨z, hd, xs, rel, dd⟩ := zlc I.hok e
  refine call_meetsIn PySem.F.slot_dict_get dd.typeIs PySem.F.entry_dict_get (PySem.F.args_dict_get_2 _ _) (znj hd) ⟨hu, k, xs, zkx I.hok (ek.val ry), dd, fun t => h _ _ (I.tok _) ?_⟩
  rw [l]; exact (rel.val k).getD rfl
theorem zsf {Q : Value → Shared → Prop} (hu : A.units + 1 < cLine) (I : Inv X pins σ H s) (g : DGet H a y o) (ry : RelV y u) (rd : RelV d r) (h : ∀ w' s', Inv X pins σ H s' → RelV (o.getD d) w' → Q w' s') :
  wpAny (model X.prog X.w) A (call (.builtin "dict.get") [.ref a, u, r]) Q E s := by
 rcases g with ⟨kvs, k, e, ey, l⟩ | ⟨kvs, k, e, ek, l⟩
 ·subst ey
  obtain ⟨z, hd, vs, rel, dd⟩ := zme I.hok e
  refine call_meetsIn PySem.F.slot_dict_get dd.typeIs PySem.F.entry_dict_get (PySem.F.args_dict_get_3 _ _ _) (meets_dict_get_default (zar X.prog X.w) a (zj7 ry) hd r) ⟨_, dd.mapOf, h _ _ (I.tok _) ?_⟩
  rw [l]
  exact (rel.val k).getD rd
 ·obtain ⟨z, hd, xs, rel, dd⟩ := zlc I.hok e
  refine call_meetsIn PySem.F.slot_dict_get dd.typeIs PySem.F.entry_dict_get (PySem.F.args_dict_get_3 _ _ _) (zn0 hd r) ⟨hu, k, xs, zkx I.hok (ek.val ry), dd, fun t => h _ _ (I.tok _) ?_⟩
  rw [l]; exact (rel.val k).getD rd
end
def zsh (td ty : TE) : TE := fun σ H Q => td σ H fun x H1 => ∃ a, x = .ref a ∧ IsD H1 a ∧ ty σ H1 fun y H2 => ∃ o, DGet H2 a y o ∧ Q (o.getD .non) H2
def zua (td ty tx : TE) : TE := fun σ H Q => td σ H fun x H1 => ∃ a, x = .ref a ∧ IsD H1 a ∧ ty σ H1 fun y H2 => tx σ H2 fun z H3 => ∃ o, DGet H3 a y o ∧ Q (o.getD z) H3
def tDPop1 (td ty : TE) : TE := fun σ H Q => td σ H fun x H1 => ∃ a, x = .ref a ∧ IsD H1 a ∧ ty σ H1 fun y H2 => ∃ kvs k v, H2 a = some (.dK kvs) ∧ y = kV k ∧ valV kvs k = some v ∧ Q v (upd H2 a (.dK (zq6 kvs k)))
def tDPop2 (td ty tx : TE) : TE := fun σ H Q => td σ H fun x H1 => ∃ a, x = .ref a ∧ IsD H1 a ∧ ty σ H1 fun y H2 => tx σ H2 fun z H3 => ∃ kvs k, H3 a = some (.dK kvs) ∧ y = kV k ∧
 (∀ v, valV kvs k = some v → Q v (upd H3 a (.dK (zq6 kvs k)))) ∧ (valV kvs k = none → Q z H3)
section
variable {X : Cx} {o e f : Expr} {apos cpos : Pos} {td ty tx : TE}
theorem zoo (hu : X.A.units + 1 < cLine) (ho : PE X o td) (he : PE X e ty) (m : M1 X o "get" apos e cpos) : PE X (.Call (.Attribute o "get" apos) [e] [] cpos) (zsh td ty) := by
 intro pins s σ H Q I h
 refine wpAny_Call_method m.base m.few m.line PySem.F.plainAttrs_dict PySem.F.slot_dict_get PySem.F.type_dict_get (thn (ho pins s σ H _ I h) fun u s1 ⟨x, H1, I1, rx, a, ex, d, q1⟩ => ?_)
 subst ex
 obtain rfl : u = Value.ref a := rx
 obtain ⟨t1, t2, _⟩ := zpf I1 d
 refine ⟨t1, t2, ?_⟩
 rw [m.trees]
 refine Calls.callWith_builtin rfl (Calls.evalArgs_plain (Calls.spliced_cons (thn (he pins s1 σ H1 _ I1 q1) fun iv s2 ⟨y, H2, I2, ry, ov, g, q2⟩ => Calls.spliced_nil ?_)))
 exact zru hu I2 g ry fun w' s3 I3 rw' => ⟨_, H2, I3, rw', q2⟩
theorem zns (hu : X.A.units + 1 < cLine) (ho : PE X o td) (he : PE X e ty) (hf : PE X f tx) (m : M2 X o "get" apos e f cpos) : PE X (.Call (.Attribute o "get" apos) [e, f] [] cpos) (zua td ty tx) := by
 intro pins s σ H Q I h
 refine wpAny_Call_method m.base m.few m.line PySem.F.plainAttrs_dict PySem.F.slot_dict_get PySem.F.type_dict_get (thn (ho pins s σ H _ I h) fun u s1 ⟨x, H1, I1, rx, a, ex, d, q1⟩ => ?_)
 subst ex
 obtain rfl : u = Value.ref a := rx
 obtain ⟨t1, t2, _⟩ := zpf I1 d
 refine ⟨t1, t2, ?_⟩
 rw [m.trees]
 refine Calls.callWith_builtin rfl (Calls.evalArgs_plain (Calls.spliced_cons (thn (he pins s1 σ H1 _ I1 q1) fun iv s2 ⟨y, H2, I2, ry, q2⟩ =>
  Calls.spliced_cons (thn (hf pins s2 σ H2 _ I2 q2) fun fv s3 ⟨z, H3, I3, rz, ov, g, q3⟩ => Calls.spliced_nil ?_))))
 exact zsf hu I3 g ry rz fun w' s4 I4 rw' => ⟨_, H3, I4, rw', q3⟩
end
section
variable {X : Cx} {pins : List (Addr × Obj)} {σ : St} {H : Hp} {s : Shared} {a : Addr} {kvs : List (Key × V)} {A : Around} {E : Value → Shared → Prop}
end
section
variable {X : Cx} {pins : List (Addr × Obj)} {σ : St} {H : Hp} {s : Shared} {a : Addr} {y : V} {u : Value} {A : Around} {E : Value → Shared → Prop}
end
end L2
namespace L2
open PySem PySem.Spec PyProof.Rows
section
variable {X : Cx}
end
section
variable {κ : Type} [DecidableEq κ]
end
end L2
set_option Elab.async false
set_option linter.all false
set_option maxRecDepth 100000
namespace L2
open PySem PySem.Spec PyProof.Rows
def Its (z : Str) : It := ⟨fun i _ => i < z.length, fun i H x H' => H' = H ∧ ∃ c, z.cps[i]? = some c ∧ x = .str ⟨#[c]⟩, fun i _ => z.length ≤ i⟩
section
variable {X : Cx} {tg : Expr}
def iStr (tl : TE) : TI := fun σ H R => tl σ H fun x H1 => ∃ z, x = .str z ∧ R (Its z) H1
def rSlS : V → Option Int → Option Int → Hp → VK → Prop := fun x lo hi H Q => ∃ z, x = .str z ∧ z.length ≤ sizeLine ∧ Q (.str (Txt.slice z lo hi)) H
theorem zm0 {v : Value} {o : Option Int} (h : IsPart v o) : ∃ p : Option (Int × Tok), v = partValue p ∧ p.map (·.1) = o := by
 cases h with
 | none => exact ⟨none, rfl, rfl⟩
 | int i t => exact ⟨some (i, t), rfl, rfl⟩
theorem zr9 : SlR X rSlS := by
 intro pins s σ H x v vl vu lo hi sl Q I rx hs pl pu h
 obtain ⟨z, rfl, hz, q⟩ := h
 obtain ⟨t, rfl⟩ := rx
 obtain ⟨p, rfl, rfl⟩ := zm0 pl
 obtain ⟨p', rfl, rfl⟩ := zm0 pu
 refine ⟨"str", _, slot_str_getitem.lookup, typeIs_str _ _ _, ?_⟩
 refine wpAny_getItem_str_slice (l := p) (u := p') (st := none) hs rfl ?_
 exact post_val_or_str ⟨Nat.le_trans (Txt.slice_le z _ _) hz, fun t' k => ⟨.str (Txt.slice z (p.map (·.1)) (p'.map (·.1))), H, I.tok k, ⟨t', rfl⟩, q⟩⟩
end
section
variable {g : TG} {tc : TT} {te : TE} {k : Nat} {fr : List Nat} {σ : St} {H : Hp} {Q : VK} {D : Addr}
end
end L2
set_option Elab.async false
set_option linter.all false
set_option maxRecDepth 100000
set_option maxHeartbeats 4000000
namespace Ts
open PySem PySem.W PyProof.Rows
def gallopP : Bool → Keyed → Array Keyed → Nat → Nat → Nat → StateT SortSt Sem (Option Nat) := sortPriv% PySem.Builtin.gallop
def bey (lf : Bool) (ke : Keyed) (xs : Array Keyed) (st0 i : Nat) : StateT SortSt Sem (Option Bool) := do
 let x ← elem' xs (st0 + i)
 if lf then lt' x ke
 else
  let r ← lt' ke x
  return r.map (!·)
section
variable {prog : Program} {w : World} {A : Around} {E : Value → Shared → Prop} {s : Shared} {κt : Type} {lt : κt → κt → Bool} {kf : Keyed → κt} {κ0 : SortKind} {it : Array Keyed}
def Cmp (prog : Program) (w : World) (A : Around) (E : Value → Shared → Prop) (s : Shared) (lt : κt → κt → Bool) (kf : Keyed → κt) (κ0 : SortKind) (it : Array Keyed) : Prop :=
 ∀ (x y : Keyed) (st : SortSt) (Q : Option Bool → SortSt → Prop), x ∈ it.toList → y ∈ it.toList → kindOf st = κ0 → Q (some (lt (kf x) (kf y))) st → wpS (model prog w) A E s (lt' x y) Q st
def beh (lt : κt → κt → Bool) (lf : Bool) (k : κt) (x : κt) : Bool := if lf then lt x k else !lt k x
end
end Ts
set_option Elab.async false
set_option linter.all false
set_option maxRecDepth 100000
set_option maxHeartbeats 4000000
namespace Ts
open PySem PySem.W PyProof.Rows
def mloP : Array Keyed → Array Keyed → StateT SortSt Sem (Array Keyed) := sortPriv% PySem.Builtin.mergeLo
abbrev setG (st : SortSt) (g : Nat) : SortSt := SortSt.mk' (kindOf st) (arrOf st) (pendingOf st) g (failedOf st)
def sgP : Nat → StateT SortSt Sem Unit := sortPriv% PySem.Builtin.setMinGallop
section
variable {κt : Type} {lt : κt → κt → Bool} {kf : Keyed → κt}
def le (lt : κt → κt → Bool) (kf : Keyed → κt) (u v : Keyed) : Prop := lt (kf v) (kf u) = false
abbrev Sd (lt : κt → κt → Bool) (kf : Keyed → κt) (l : List Keyed) : Prop := l.Pairwise (le lt kf)
structure Mi (lt : κt → κt → Bool) (kf : Keyed → κt) (a b o : Array Keyed) (x y : Nat) : Prop where
 perm : o.toList.Perm (a.toList.take x ++ b.toList.take y)
 sort : Sd lt kf o.toList
 ua : ∀ u ∈ o.toList, ∀ v ∈ a.toList.drop x, le lt kf u v
 ub : ∀ u ∈ o.toList, ∀ v ∈ b.toList.drop y, le lt kf u v
def Rs (lt : κt → κt → Bool) (kf : Keyed → κt) (a b r : Array Keyed) : Prop := r.toList.Perm (a.toList ++ b.toList) ∧ Sd lt kf r.toList
end
end Ts
set_option Elab.async false
set_option linter.all false
set_option maxRecDepth 100000
set_option maxHeartbeats 4000000
namespace Ts
open PySem PySem.W PyProof.Rows
section
variable {prog : Program} {w : World} {A : Around} {E : Value → Shared → Prop} {s : Shared} {κt : Type} {lt : κt → κt → Bool} {kf : Keyed → κt} {κ0 : SortKind} {it : Array Keyed}
end
end Ts
set_option Elab.async false
set_option linter.all false
set_option maxRecDepth 100000
set_option maxHeartbeats 4000000
namespace Ts
open PySem PySem.W PyProof.Rows
def mhiP : Array Keyed → Array Keyed → StateT SortSt Sem (Array Keyed) := sortPriv% PySem.Builtin.mergeHi
section
variable {κt : Type} {lt : κt → κt → Bool} {kf : Keyed → κt}
structure Mh (lt : κt → κt → Bool) (kf : Keyed → κt) (a b o : Array Keyed) (x y : Nat) : Prop where
 perm : o.toList.reverse.Perm (a.toList.drop x ++ b.toList.drop y)
 sort : Sd lt kf o.toList.reverse
 ua : ∀ u ∈ o.toList, ∀ v ∈ a.toList.take x, le lt kf v u
 ub : ∀ u ∈ o.toList, ∀ v ∈ b.toList.take y, le lt kf v u
end
section
variable {prog : Program} {w : World} {A : Around} {E : Value → Shared → Prop} {s : Shared} {κt : Type} {lt : κt → κt → Bool} {kf : Keyed → κt} {κ0 : SortKind} {it : Array Keyed}
end
end Ts
set_option Elab.async false
set_option linter.all false
set_option maxRecDepth 100000
set_option maxHeartbeats 4000000
namespace Ts
open PySem PySem.W PyProof.Rows
def wr (xs : Array Keyed) (off : Nat) (r : Array Keyed) : Array Keyed := r.toList.zipIdx.foldl (fun a p => a.setIfInBounds (off + p.2) p.1) xs
section
variable {prog : Program} {w : World} {A : Around} {E : Value → Shared → Prop} {s : Shared} {κt : Type} {lt : κt → κt → Bool} {kf : Keyed → κt} {κ0 : SortKind} {it : Array Keyed}
def Pend (lt : κt → κt → Bool) (kf : Keyed → κt) : Nat → List (List Keyed) → List (Nat × Nat × Nat) → Prop
 | _, [], [] => True
 | off, L :: Ls, p :: ps => p.1 = off ∧ p.2.1 = L.length ∧ 1 ≤ L.length ∧ Sd lt kf L ∧ Pend lt kf (off + L.length) Ls ps
 | _, _, _ => False
structure Ok (lt : κt → κt → Bool) (kf : Keyed → κt) (κ0 : SortKind) (st : SortSt) (Ls : List (List Keyed)) (rest : List Keyed) : Prop where
 kind : kindOf st = κ0
 fail : failedOf st = none
 arr : (arrOf st).toList = Ls.flatten ++ rest
 pend : Pend lt kf 0 Ls (pendingOf st).toList
end
end Ts
set_option Elab.async false
set_option linter.all false
set_option maxRecDepth 100000
set_option maxHeartbeats 4000000
namespace Ts
open PySem PySem.W PyProof.Rows
section
variable {κt : Type} {lt : κt → κt → Bool} {kf : Keyed → κt}
abbrev nil2 : Keyed := (Value.none, Value.none)
abbrev ky (kf : Keyed → κt) (xs : Array Keyed) (i : Nat) : κt := kf (xs.getD i nil2)
def Asc (lt : κt → κt → Bool) (kf : Keyed → κt) (xs : Array Keyed) (lo n : Nat) : Prop := ∀ i j, i ≤ j → j < n → lt (ky kf xs (lo + j)) (ky kf xs (lo + i)) = false
def Dsc (lt : κt → κt → Bool) (kf : Keyed → κt) (xs : Array Keyed) (lo n : Nat) : Prop := ∀ i j, i ≤ j → j < n → lt (ky kf xs (lo + i)) (ky kf xs (lo + j)) = false
def Alk (lt : κt → κt → Bool) (kf : Keyed → κt) (xs : Array Keyed) (lo a b : Nat) : Prop := ∀ i j, a ≤ i → i < b → a ≤ j → j < b → lt (ky kf xs (lo + i)) (ky kf xs (lo + j)) = false
structure Pr (ys : Array Keyed) (lo : Nat) (xs : Array Keyed) : Prop where
 perm : xs.Perm ys
 pre : ∀ i, i < lo → xs[i]? = ys[i]?
abbrev rv (xs : Array Keyed) (i j : Nat) : Array Keyed := mirror xs i j ((j - i) / 2)
end
section
variable {prog : Program} {w : World} {A : Around} {E : Value → Shared → Prop} {s : Shared} {κt : Type} {lt : κt → κt → Bool} {kf : Keyed → κt} {κ0 : SortKind} {it : Array Keyed}
end
end Ts
set_option Elab.async false
set_option linter.all false
set_option maxRecDepth 100000
set_option maxHeartbeats 4000000
namespace Ts
open PySem PySem.W PyProof.Rows
section
variable {prog : Program} {w : World} {A : Around} {E : Value → Shared → Prop} {s : Shared} {κt : Type} {lt : κt → κt → Bool} {kf : Keyed → κt} {κ0 : SortKind} {it : Array Keyed}
end
end Ts
set_option Elab.async false
set_option linter.all false
set_option maxRecDepth 100000
set_option maxHeartbeats 4000000
namespace L2
open PySem PySem.Spec PySem.W PyProof.Rows
section
variable {prog : Program} {w : World} {A : Around} {E : Value → Shared → Prop} {s : Shared}
open Classical in
noncomputable def keyBy {κt : Type} (vs : List Value) (f : Nat → κt) (p : Keyed) : κt := if h : ∃ i, i < vs.length ∧ vs.getD i Value.none = p.1 then f h.choose else f 0
end
end L2
set_option Elab.async false
set_option linter.all false
set_option maxRecDepth 100000
set_option maxHeartbeats 4000000
namespace L2
open PySem PySem.Spec PySem.W PyProof.Rows
def ltK : Key → Key → Bool
 | .inl a, .inl b => decide (a < b)
 | .inr x, .inr y => decide (x.cps.toList < y.cps.toList)
 | .inl _, .inr _ => true
 | .inr _, .inl _ => false
def lexK : List Key → List Key → Bool
 | [], [] => false
 | [], _ :: _ => true
 | _ :: _, [] => false
 | x :: xs, y :: ys => if x = y then lexK xs ys else ltK x y
end L2
set_option Elab.async false
set_option linter.all false
set_option maxRecDepth 100000
set_option maxHeartbeats 4000000
namespace L2
open PySem PySem.Spec PySem.W PyProof.Rows
section
variable {prog : Program} {w : World} {A : Around} {E : Value → Shared → Prop} {s : Shared}
abbrev zor (r : List Key) : List Bool := r.map Sum.isLeft
end
def IsK (K : PySem.W.Frag) (H : Hp) (x : V) (r : List Key) : Prop := ∃ t, x = .ref t ∧ SqT K H t (r.map kV)
section
variable {X : Cx}
end
end L2
set_option Elab.async false
set_option linter.all false
set_option maxRecDepth 100000
set_option maxHeartbeats 4000000
namespace L2
open PySem PySem.Spec PySem.W PyProof.Rows
def Ite (K : PySem.W.Frag) (a : Addr) : It :=
  ⟨fun i H => ∃ (xs : List V) (x : V), SqL K H a xs ∧ xs[i]? = some x,
   fun i H v H' => ∃ (T : Addr) (x : V), v = .ref T ∧ H T = none ∧ H' = upd H T (.tup [.int i, x]) ∧ ∀ xs, SqL K H a xs → xs[i]? = some x,
   fun i H => ∃ xs, SqL K H a xs ∧ xs.length ≤ i⟩
def EnSt (z i1 a : Addr) (i : Nat) (h : Heap) : Prop := (∃ old, IsEnum h z i1 (i : Int) old) ∧ h.IsListIter i1 a i
theorem zk3 {P : Program} {w : World} {K : PySem.W.Frag} {elts : List Expr} {x1} {tp : Pos} {z i1 a : Addr} (hne : z ≠ i1) : Turn P w K (.Tuple elts x1 tp) (Ite K a) [z, i1] z (EnSt z i1 a) where
 mem := by simp
 obj := fun i h st c hc => by
  obtain ⟨⟨old, hz⟩, ⟨o1, e1, _, d1⟩⟩ := st
  simp only [List.mem_cons, List.not_mem_nil, or_false] at hc
  rcases hc with rfl | rfl
  ·exact ⟨_, hz, fun v e => by cases e⟩
  ·exact ⟨_, e1, fun v e => by rw [d1] at e; cases e⟩
 keep := fun i h h' st k => by
  obtain ⟨⟨old, hz⟩, h1⟩ := st
  exact ⟨⟨old, k z (by simp) _ hz⟩, h1.at fun o e => k i1 (by simp) o e⟩
 item := fun X hp hw hK hc i pins s σ H E I fp st go => by
  subst hp hw hK
  obtain ⟨⟨old, hz⟩, h1⟩ := st
  obtain ⟨xs, x, qa, ex⟩ := go
  obtain ⟨vs, rv, pv, _⟩ := I.list qa
  obtain ⟨vx, evx, rvx⟩ := rv.get ex
  refine wpAny_pyNext_enum_item hz h1 pv.isList (x := vx) (by simpa using evx) hne fun h' a1 a2 a3 a4 hk => ?_
  refine ⟨_, rfl, wpAny_letOwnedTupleGo_enum a1 fun h'' b1 b2 => ?_⟩
  have nz : s.heap.objs.size ≠ z := Nat.ne_of_gt (Heap.lt_size hz)
  have k2 : ∀ c o, c ∉ [z, i1] → s.heap.get? c = some o → h''.get? c = some o := fun c o hcn e => by
   simp only [List.mem_cons, List.not_mem_nil, or_false, not_or] at hcn
   exact b2.extBut _ _ hcn.1 (hk c o hcn.1 hcn.2 e)
  have I' : Inv X pins σ (upd H s.heap.objs.size (.tup [.int i, x])) { s with heap := h'', toks := s.toks + 1 } :=
   I.turnLay (ch := [z, i1]) k2 (fun c hcn => fp c hcn) (Nat.le_refl _)
    ⟨by show 2 ≤ sizeLine; decide, [.int i s.toks, vx], .cons ⟨_, rfl⟩ (.cons rvx .nil), ⟨_, b2.extBut _ _ nz a3, rfl, _, rfl⟩⟩
  have nf : H s.heap.objs.size = none := I.hok.fresh (Nat.le_refl _)
  refine ⟨.ref s.heap.objs.size, _, I', rfl, ⟨_, x, rfl, nf, rfl, fun xs' q => ?_⟩, ⟨⟨_, b1⟩, a2.extBut b2.extBut hne.symm⟩, fun c hcn => ?_⟩
  ·rw [I.list_inj q qa]; exact ex
  ·have hc1 := fp c hcn
   have : c ≠ s.heap.objs.size := by
    have hlt : c < s.heap.objs.size := by
     simp only [List.mem_cons, List.not_mem_nil, or_false] at hcn
     rcases hcn with rfl | rfl
     ·exact Heap.lt_size hz
     ·obtain ⟨_, e, _⟩ := h1; exact Heap.lt_size e
    exact Nat.ne_of_lt hlt
   rw [zaj this]
   exact hc1.1
 done := fun X hp hw hK hc i pins s σ H E I fp st stop => by
  subst hp hw hK
  obtain ⟨⟨old, hz⟩, h1⟩ := st
  obtain ⟨xs, qa, hend⟩ := stop
  obtain ⟨vs, rv, pv, _⟩ := I.list qa
  have l1 := rv.length
  refine wpAny_pyNext_enum_end (I.ok.hd hc) hz h1 pv.isList (by rw [Array.getElem?_eq_none_iff, List.size_toArray]; omega) fun h' hk => ⟨rfl, ?_⟩
  refine I.turnedL (ch := [z, i1]) (t' := s.toks) (fun c o hcn e => ?_) (fun c hcn => fp c hcn)
  simp only [List.mem_cons, List.not_mem_nil, or_false, not_or] at hcn
  exact hk c o hcn.2 e
 self := fun A i s Q E st h => by
  obtain ⟨⟨old, hz⟩, _⟩ := st
  exact wpAny_pyIter_enum hz h
def zuy (K : PySem.W.Frag) (ta : TA) : TI := fun σ H R => ta σ H fun vs H1 => ∃ (a : Addr) (xs : List V), vs = [.ref a] ∧ SqL K H1 a xs ∧ R (Ite K a) H1
theorem zqq {X : Cx} {elts : List Expr} {x1} {tp : Pos} {e1 : Expr} {ta : TA} {p pos : Pos} (hg : Gl X "enumerate") (hm : X.mg "enumerate" = none) (ha : PA X [e1] ta) (hs : starEach [e1] X.env = [(false, eval e1 X.env)] := by rfl) :
  PI X (.Tuple elts x1 tp) (.Call (.Name "enumerate" p) [e1] [] pos) (zuy X.K ta) := by
 intro pins s σ H R I h
 refine Call_ (zf8 I hg hm (by rfl) (PyProof.Rows.callWith_type1 (thn (ha pos pins s σ H _ I h) fun us s1 ⟨vs, H1, I1, r1, q1⟩ => ?_) hs rfl))
 obtain ⟨a, xs, rfl, qa, q⟩ := q1
 obtain ⟨u, rfl, ru⟩ := zkr r1
 cases ru
 obtain ⟨vs, rva, pa, _⟩ := I1.list qa
 refine call_enumerate_list pa.isList fun h' hz hi1 hsz hk => ?_
 refine wpAny_pyIter_enum hz ?_
 have I2 : Inv X pins σ H1 { s1 with heap := h' } := I1.kept (t' := s1.toks) hk
 refine ⟨_, [s1.heap.objs.size + 1, s1.heap.objs.size], _, _, H1, rfl, I2, zk3 (a := a) (Nat.ne_of_gt (Nat.lt_succ_self _)), ⟨⟨_, hz⟩, hi1⟩, fun c hc => ?_, q⟩
 have hge : s1.heap.objs.size ≤ c := by
  simp only [List.mem_cons, List.not_mem_nil, or_false] at hc
  rcases hc with rfl | rfl
  all_goals first | exact Nat.le_refl _ | exact Nat.le_add_right _ _
 exact I1.fpOk hge (I1.hok.fresh hge)
section
variable {X : Cx}
def zn5 (K : PySem.W.Frag) : Nat → Hp → V → V → Prop
 | 0, H, x, y => (zo9 x = true ∧ x = y) ∨ ∃ r, IsTp K H x r ∧ IsTp K H y r
 | n + 1, H, x, y => zn5 K n H x y ∨ ∃ p q xs ys, x = .ref p ∧ y = .ref q ∧ SqL K H p xs ∧ SqL K H q ys ∧ Paired (zn5 K n H) xs ys
def rAlk (K : PySem.W.Frag) (n : Nat) (b : Bool) : R2 := fun x y H Q => ∃ p q xs ys, x = .ref p ∧ y = .ref q ∧ SqL K H p xs ∧ SqL K H q ys ∧ Paired (zn5 K n H) xs ys ∧ Q (.bl b) H
end
end L2
set_option Elab.async false
set_option linter.all false
set_option maxRecDepth 100000
set_option maxHeartbeats 4000000
namespace L2
open PySem PySem.Spec PySem.W PyProof.Rows
def ltI (a b : Int) : Bool := decide (a < b)
section
variable {X : Cx}
end
end L2
set_option Elab.async false
set_option linter.all false
set_option maxRecDepth 100000
set_option maxHeartbeats 4000000
namespace L2
open PySem PySem.Spec PySem.W PyProof.Rows
section
variable {X : Cx}
end
end L2
set_option Elab.async false
set_option linter.all false
set_option maxRecDepth 100000
namespace L3
open PySem L2
inductive V3 where
 | non | bl (b : Bool) | int (i : Int) | str (x : Str) | ty (n : String)
 | tup (xs : List V3) | lst (xs : List V3) | scr (ns : List Int)
 | dK (kvs : List (Key × V3)) | dT (kvs : List (MK × V3))
 | obj (c : Str) (fs : List (Str × V3)) | cls (c : Str) | fn (n : Str) (env : List V3)
 | loc (n : Nat)
inductive C3 where
 | lst (xs : List V3) | dK (kvs : List (Key × V3)) | dT (kvs : List (MK × V3)) | ins (c : Str) (fs : List (Str × V3)) | dead
inductive Vl where
 | v (x : V3) | m (c : C3)
structure X3 where
 c : Str
 nm : Option V3
abbrev S3 := List (Option Vl)
abbrev H3 := List C3
inductive Res (α : Type) where
 | ok (r : α) (h : H3) | ex (x : X3) (h : H3) | no
abbrev R := Res Vl
abbrev E3 := S3 → H3 → Res Vl
def C3.fz : C3 → Option V3
 | .lst xs => some (.lst xs)
 | .dK kvs => some (.dK kvs)
 | .dT kvs => some (.dT kvs)
 | .ins c fs => some (.obj c fs)
 | .dead => none
def Vl.fz : Vl → Option V3
 | .v x => some x
 | .m c => c.fz
def Res.bind {α β : Type} (r : Res α) (k : α → H3 → Res β) : Res β := match r with
 | .ok r h => k r h
 | .ex x h => .ex x h
 | .no => .no
structure Kx where
 K : PySem.W.Frag
 cl : Str → Option Addr
def KnL (K : PySem.W.Frag) (a : Addr) (ns : List Int) : Prop :=
 ∃ (o : Obj) (its : Array Value) (n : Nat), K.lookup a = some o ∧ o.cls = .type "list" ∧ o.dict = none ∧ o.data = .seq its n ∧ its.size ≤ sizeLine ∧ Vals (ns.map V.int) its.toList
mutual
inductive Rep (κ : Kx) (β : List (Option Addr)) (O : Addr → Prop) (H : Hp) : V3 → V → Prop
 | non : Rep κ β O H .non .non
 | bl (b : Bool) : Rep κ β O H (.bl b) (.bl b)
 | int (i : Int) : Rep κ β O H (.int i) (.int i)
 | str (x : Str) : Rep κ β O H (.str x) (.str x)
 | ty (n : String) : Rep κ β O H (.ty n) (.ty n)
 | tup {xs : List V3} {ys : List V} {a : Addr} : H a = some (.tup ys) → some a ∉ β → ¬ O a → Reps κ β O H xs ys → Rep κ β O H (.tup xs) (.ref a)
 | lst {xs : List V3} {ys : List V} {a : Addr} : H a = some (.lst ys) → some a ∉ β → ¬ O a → Reps κ β O H xs ys → Rep κ β O H (.lst xs) (.ref a)
 | scr {ns : List Int} {a : Addr} {o : Obj} : H a = some (.frz o (.lst (ns.map V.int))) → some a ∉ β → ¬ O a → Rep κ β O H (.scr ns) (.ref a)
 | scrK {ns : List Int} {a : Addr} : KnL κ.K a ns → Rep κ β O H (.scr ns) (.ref a)
 | dK {kvs : List (Key × V3)} {ws : List (Key × V)} {a : Addr} : H a = some (.dK ws) → some a ∉ β → ¬ O a → RepP κ β O H kvs ws → Rep κ β O H (.dK kvs) (.ref a)
 | dT {kvs : List (MK × V3)} {ws : List (MK × V)} {a : Addr} : H a = some (.dT ws) → some a ∉ β → ¬ O a → RepP κ β O H kvs ws → Rep κ β O H (.dT kvs) (.ref a)
 | obj {c : Str} {C : Addr} {fs : List (Str × V3)} {gs : List (Str × V)} {a dx : Addr} : κ.cl c = some C → H a = some (.ins C dx gs) → some a ∉ β → ¬ O a → RepP κ β O H fs gs → Rep κ β O H (.obj c fs) (.ref a)
 | cls {c : Str} {C : Addr} : κ.cl c = some C → Rep κ β O H (.cls c) (.ref C)
 | loc {n : Nat} {v : V} : n < β.length → (∀ a, β[n]? = some (some a) → v = .ref a) → Rep κ β O H (.loc n) v
inductive Reps (κ : Kx) (β : List (Option Addr)) (O : Addr → Prop) (H : Hp) : List V3 → List V → Prop
 | nil : Reps κ β O H [] []
 | cons {x : V3} {y : V} {xs : List V3} {ys : List V} : Rep κ β O H x y → Reps κ β O H xs ys → Reps κ β O H (x :: xs) (y :: ys)
inductive RepP (κ : Kx) (β : List (Option Addr)) (O : Addr → Prop) (H : Hp) : {α : Type} → List (α × V3) → List (α × V) → Prop
 | nil {α : Type} : RepP κ β O H (α := α) [] []
 | cons {α : Type} {k : α} {x : V3} {y : V} {xs : List (α × V3)} {ys : List (α × V)} : Rep κ β O H x y → RepP κ β O H xs ys → RepP κ β O H ((k, x) :: xs) ((k, y) :: ys)
end
structure Ext (M : Addr → Prop) (β : List (Option Addr)) (H : Hp) (β' : List (Option Addr)) (H' : Hp) : Prop where
 keep : ∀ a o, H a = some o → some a ∉ β → ¬ M a → H' a = some o ∧ some a ∉ β'
 len : β.length ≤ β'.length
 bet : ∀ i a, i < β.length → β'[i]? = some (some a) → β[i]? = some (some a)
 there : ∀ a o, H a = some o → ∃ o', H' a = some o'
 nwb : ∀ (i : Nat) a, β.length ≤ i → β'[i]? = some (some a) → H a = none
theorem nwb0 {β : List (Option Addr)} {H : Hp} : ∀ (i : Nat) a, β.length ≤ i → β[i]? = some (some a) → H a = none := fun i a h e => by
 have := (List.getElem?_eq_some_iff.mp e).1; omega
abbrev No : Addr → Prop := fun _ => False
theorem Ext.refl {M : Addr → Prop} {β : List (Option Addr)} {H : Hp} : Ext M β H β H := ⟨fun _ _ h n _ => ⟨h, n⟩, Nat.le_refl _, fun _ _ _ h => h, fun _ o h => ⟨o, h⟩, nwb0⟩
theorem zhx {β β1 β2 : List (Option Addr)} {H H1 : Hp} (t : ∀ a o, H a = some o → ∃ o', H1 a = some o') (bet : ∀ i a, i < β1.length → β2[i]? = some (some a) → β1[i]? = some (some a)) (n1 : ∀ (i : Nat) a, β.length ≤ i → β1[i]? = some (some a) → H a = none)
  (n2 : ∀ (i : Nat) a, β1.length ≤ i → β2[i]? = some (some a) → H1 a = none) : ∀ (i : Nat) a, β.length ≤ i → β2[i]? = some (some a) → H a = none := fun i a hi h => by
 by_cases h1 : i < β1.length
 ·exact n1 i a hi (bet i a h1 h)
 ·cases w : H a with
  | none => rfl
  | some o =>
   obtain ⟨o', z⟩ := t a o w
   rw [n2 i a (by omega) h] at z; cases z
theorem Ext.trans0 {β β1 β2 : List (Option Addr)} {H H1 H2 : Hp} (a : Ext No β H β1 H1) (b : Ext No β1 H1 β2 H2) : Ext No β H β2 H2 :=
 ⟨fun x o h n m => let ⟨h1, n1⟩ := a.keep x o h n m; b.keep x o h1 n1 m, Nat.le_trans a.len b.len, fun i x hi h => a.bet i x hi (b.bet i x (Nat.lt_of_lt_of_le hi a.len) h), fun x o h => let ⟨o1, h1⟩ := a.there x o h; b.there x o1 h1, zhx a.there (fun i x hi h => b.bet i x hi h) a.nwb b.nwb⟩
section
variable {κ : Kx} {β β' : List (Option Addr)} {O O' : Addr → Prop} {H H' : Hp} {M : Addr → Prop}
mutual
theorem Rep.ext (e : Ext M β H β' H') (hM : ∀ a, M a → O a) (hO : ∀ a o, H a = some o → ¬ O a → ¬ O' a) : ∀ {x : V3} {y : V}, Rep κ β O H x y → Rep κ β' O' H' x y
 | _, _, .non => .non
 | _, _, .bl b => .bl b
 | _, _, .int i => .int i
 | _, _, .str x => .str x
 | _, _, .ty n => .ty n
 | _, _, .tup h n o r => let ⟨h1, n1⟩ := e.keep _ _ h n fun m => o (hM _ m); .tup h1 n1 (hO _ _ h o) (Reps.ext e hM hO r)
 | _, _, .lst h n o r => let ⟨h1, n1⟩ := e.keep _ _ h n fun m => o (hM _ m); .lst h1 n1 (hO _ _ h o) (Reps.ext e hM hO r)
 | _, _, .scr h n o => let ⟨h1, n1⟩ := e.keep _ _ h n fun m => o (hM _ m); .scr h1 n1 (hO _ _ h o)
 | _, _, .scrK h => .scrK h
 | _, _, .dK h n o r => let ⟨h1, n1⟩ := e.keep _ _ h n fun m => o (hM _ m); .dK h1 n1 (hO _ _ h o) (RepP.ext e hM hO r)
 | _, _, .dT h n o r => let ⟨h1, n1⟩ := e.keep _ _ h n fun m => o (hM _ m); .dT h1 n1 (hO _ _ h o) (RepP.ext e hM hO r)
 | _, _, .obj k h n o r => let ⟨h1, n1⟩ := e.keep _ _ h n fun m => o (hM _ m); .obj k h1 n1 (hO _ _ h o) (RepP.ext e hM hO r)
 | _, _, .cls k => .cls k
 | _, _, .loc l h => .loc (Nat.lt_of_lt_of_le l e.len) fun a q => h a (e.bet _ _ l q)
theorem Reps.ext (e : Ext M β H β' H') (hM : ∀ a, M a → O a) (hO : ∀ a o, H a = some o → ¬ O a → ¬ O' a) : ∀ {x : List V3} {y : List V}, Reps κ β O H x y → Reps κ β' O' H' x y
 | _, _, .nil => .nil
 | _, _, .cons a r => .cons (Rep.ext e hM hO a) (Reps.ext e hM hO r)
theorem RepP.ext (e : Ext M β H β' H') (hM : ∀ a, M a → O a) (hO : ∀ a o, H a = some o → ¬ O a → ¬ O' a) : ∀ {α : Type} {x : List (α × V3)} {y : List (α × V)}, RepP κ β O H x y → RepP κ β' O' H' x y
 | _, _, _, .nil => .nil
 | _, _, _, .cons a r => .cons (Rep.ext e hM hO a) (RepP.ext e hM hO r)
end
end
section
variable {κ : Kx} {β β' : List (Option Addr)} {O O' : Addr → Prop} {H H' : Hp} {M : Addr → Prop}
theorem Rep.sub (h : ∀ a, O' a → O a) {x : V3} {y : V} (r : Rep κ β O H x y) : Rep κ β O' H x y := r.ext (M := No) Ext.refl (fun _ z => z.elim) fun a _ _ n m => n (h a m)
theorem Reps.sub (h : ∀ a, O' a → O a) {x : List V3} {y : List V} (r : Reps κ β O H x y) : Reps κ β O' H x y := r.ext (M := No) Ext.refl (fun _ z => z.elim) fun a _ _ n m => n (h a m)
theorem RepP.sub (h : ∀ a, O' a → O a) {α : Type} {x : List (α × V3)} {y : List (α × V)} (r : RepP κ β O H x y) : RepP κ β O' H x y := r.ext (M := No) Ext.refl (fun _ z => z.elim) fun a _ _ n m => n (h a m)
theorem Rep.ext0 (e : Ext No β H β' H') {x : V3} {y : V} (r : Rep κ β O H x y) : Rep κ β' O H' x y := r.ext e (fun _ z => z.elim) fun _ _ _ n => n
theorem Reps.ext0 (e : Ext No β H β' H') {x : List V3} {y : List V} (r : Reps κ β O H x y) : Reps κ β' O H' x y := r.ext e (fun _ z => z.elim) fun _ _ _ n => n
theorem RepP.ext0 (e : Ext No β H β' H') {α : Type} {x : List (α × V3)} {y : List (α × V)} (r : RepP κ β O H x y) : RepP κ β' O H' x y := r.ext e (fun _ z => z.elim) fun _ _ _ n => n
theorem Reps.length : ∀ {x : List V3} {y : List V}, Reps κ β O H x y → x.length = y.length
 | _, _, .nil => rfl
 | _, _, .cons _ r => congrArg (· + 1) r.length
theorem RepP.length {α : Type} : ∀ {x : List (α × V3)} {y : List (α × V)}, RepP κ β O H x y → x.length = y.length
 | _, _, .nil => rfl
 | _, _, .cons _ r => congrArg (· + 1) r.length
theorem Reps.get : ∀ {xs : List V3} {ys : List V} {i : Nat} {x : V3}, Reps κ β O H xs ys → xs[i]? = some x → ∃ y, ys[i]? = some y ∧ Rep κ β O H x y
 | _, _, _, _, .nil, e => by simp at e
 | _, _, 0, _, .cons r _, e => by simp at e; subst e; exact ⟨_, rfl, r⟩
 | _, _, i + 1, x, .cons _ t, e => by
  obtain ⟨u, h1, h2⟩ := Reps.get (i := i) (x := x) t (by simpa using e)
  exact ⟨u, by simpa using h1, h2⟩
theorem Reps.get' : ∀ {xs : List V3} {ys : List V} {i : Nat} {y : V}, Reps κ β O H xs ys → ys[i]? = some y → ∃ x, xs[i]? = some x ∧ Rep κ β O H x y
 | _, _, _, _, .nil, e => by simp at e
 | _, _, 0, _, .cons r _, e => by simp at e; subst e; exact ⟨_, rfl, r⟩
 | _, _, i + 1, x, .cons _ t, e => by
  obtain ⟨u, h1, h2⟩ := Reps.get' (i := i) (y := x) t (by simpa using e)
  exact ⟨u, by simpa using h1, h2⟩
theorem Reps.append : ∀ {xs : List V3} {ys : List V} {xs' : List V3} {ys' : List V}, Reps κ β O H xs ys → Reps κ β O H xs' ys' → Reps κ β O H (xs ++ xs') (ys ++ ys')
 | _, _, _, _, .nil, s => s
 | _, _, _, _, .cons r t, s => .cons r (Reps.append t s)
theorem Reps.set {x : V3} {u : V} (r : Rep κ β O H x u) : ∀ {xs : List V3} {us : List V} (i : Nat), Reps κ β O H xs us → Reps κ β O H (xs.set i x) (us.set i u)
 | _, _, _, .nil => .nil
 | _, _, 0, .cons _ t => .cons r t
 | _, _, i + 1, .cons q t => .cons q (Reps.set r i t)
theorem Reps.take : ∀ {xs : List V3} {us : List V} (n : Nat), Reps κ β O H xs us → Reps κ β O H (xs.take n) (us.take n)
 | _, _, 0, _ => .nil
 | _, _, _ + 1, .nil => .nil
 | _, _, n + 1, .cons r t => .cons r (Reps.take n t)
theorem Reps.drop : ∀ {xs : List V3} {us : List V} (n : Nat), Reps κ β O H xs us → Reps κ β O H (xs.drop n) (us.drop n)
 | _, _, 0, r => r
 | _, _, _ + 1, .nil => .nil
 | _, _, n + 1, .cons _ t => Reps.drop n t
theorem Reps.dropLast {xs : List V3} {us : List V} (h : Reps κ β O H xs us) : Reps κ β O H xs.dropLast us.dropLast := by
 rw [List.dropLast_eq_take, List.dropLast_eq_take, h.length]; exact h.take _
theorem Reps.rep {xs : List V3} {us : List V} (h : Reps κ β O H xs us) : ∀ k : Nat, Reps κ β O H (List.replicate k xs).flatten (List.replicate k us).flatten
 | 0 => .nil
 | k + 1 => by
  rw [List.replicate_succ, List.replicate_succ, List.flatten_cons, List.flatten_cons]
  exact h.append (Reps.rep h k)
theorem RepP.lookup {α : Type} [BEq α] {f : α} {x : V3} : ∀ {xs : List (α × V3)} {ys : List (α × V)}, RepP κ β O H xs ys → xs.lookup f = some x → ∃ y, ys.lookup f = some y ∧ Rep κ β O H x y
 | _, _, .nil, e => by cases e
 | _, _, .cons (k := k) r t, e => by
  rw [List.lookup_cons] at e ⊢
  cases q : f == k with
  | true => rw [q] at e; cases e; exact ⟨_, rfl, r⟩
  | false => rw [q] at e; exact RepP.lookup t e
theorem RepP.lookup_none {α : Type} [BEq α] {f : α} : ∀ {xs : List (α × V3)} {ys : List (α × V)}, RepP κ β O H xs ys → xs.lookup f = none → ys.lookup f = none
 | _, _, .nil, _ => rfl
 | _, _, .cons (k := k) r t, e => by
  rw [List.lookup_cons] at e ⊢
  cases q : f == k with
  | true => rw [q] at e; cases e
  | false => rw [q] at e; exact RepP.lookup_none t e
end
def CellR (κ : Kx) (β : List (Option Addr)) (O : Addr → Prop) (H : Hp) : C3 → Addr → Prop
 | .lst xs, a => ∃ ys, H a = some (.lst ys) ∧ Reps κ β O H xs ys
 | .dK kvs, a => ∃ ws, H a = some (.dK ws) ∧ RepP κ β O H kvs ws
 | .dT kvs, a => ∃ ws, H a = some (.dT ws) ∧ RepP κ β O H kvs ws
 | .ins c fs, a => ∃ C dx gs, κ.cl c = some C ∧ H a = some (.ins C dx gs) ∧ RepP κ β O H fs gs
 | .dead, _ => False
structure RelH (κ : Kx) (O : Addr → Prop) (β : List (Option Addr)) (h : H3) (H : Hp) : Prop where
 len : β.length = h.length
 inj : ∀ (i j : Nat) a, β[i]? = some (some a) → β[j]? = some (some a) → i = j
 off : ∀ a, O a → some a ∉ β
 trk : ∀ a, O a → ∃ o, H a = some o
 btr : ∀ (i : Nat) a, β[i]? = some (some a) → ∃ o, H a = some o
 cell : ∀ (i : Nat) c, h[i]? = some c → c = .dead ∨ ∃ a, β[i]? = some (some a) ∧ CellR κ β O H c a
structure Fr where
 Oi : Addr → Prop
 T : List Addr
 β : List (Option Addr)
 l : List (Option Addr)
 s : S3
 h : H3
def Fr.O (F : Fr) : Addr → Prop := fun a => a ∈ F.T ∨ some a ∈ F.l ∨ F.Oi a
def SlotR (κ : Kx) (F : Fr) (H : Hp) (i : Nat) : Vl → V → Prop
 | .v x, v => Rep κ F.β F.O H x v
 | .m c, v => ∃ a, F.l[i]? = some (some a) ∧ v = .ref a ∧ CellR κ F.β F.O H c a
structure Rel (κ : Kx) (F : Fr) (σ : St) (H : Hp) : Prop where
 heap : RelH κ F.O F.β F.h H
 slen : F.s.length = σ.length
 llen : F.l.length = F.s.length
 linj : ∀ (i j : Nat) a, F.l[i]? = some (some a) → F.l[j]? = some (some a) → i = j
 lt : ∀ a, some a ∈ F.l → a ∉ F.T
 lo : ∀ a, some a ∈ F.l → ¬ F.Oi a
 to : ∀ a ∈ F.T, ¬ F.Oi a
 tn : F.T.Nodup
 slot : ∀ (i : Nat) x, F.s[i]? = some (some x) → ∃ v, σ[i]? = some (some v) ∧ SlotR κ F H i x v
section
variable {κ : Kx} {β β' : List (Option Addr)} {O O' : Addr → Prop} {H H' : Hp} {M : Addr → Prop} {c : C3} {a : Addr} {h : H3}
theorem CellR.sub (hs : ∀ a, O' a → O a) (r : CellR κ β O H c a) : CellR κ β O' H c a := by
 cases c with
 | lst xs => obtain ⟨_, q, r⟩ := r; exact ⟨_, q, r.sub hs⟩
 | dK xs => obtain ⟨_, q, r⟩ := r; exact ⟨_, q, r.sub hs⟩
 | dT xs => obtain ⟨_, q, r⟩ := r; exact ⟨_, q, r.sub hs⟩
 | ins c fs => obtain ⟨_, _, _, k, q, r⟩ := r; exact ⟨_, _, _, k, q, r.sub hs⟩
 | dead => exact r
theorem CellR.ext (e : Ext M β H β' H') (hM : ∀ a, M a → O a) (hO : ∀ a o, H a = some o → ¬ O a → ¬ O' a) (hb : ∀ o, H a = some o → H' a = some o) (r : CellR κ β O H c a) : CellR κ β' O' H' c a := by
 cases c with
 | lst xs => obtain ⟨_, q, r⟩ := r; exact ⟨_, hb _ q, r.ext e hM hO⟩
 | dK xs => obtain ⟨_, q, r⟩ := r; exact ⟨_, hb _ q, r.ext e hM hO⟩
 | dT xs => obtain ⟨_, q, r⟩ := r; exact ⟨_, hb _ q, r.ext e hM hO⟩
 | ins c fs => obtain ⟨_, _, _, k, q, r⟩ := r; exact ⟨_, _, _, k, hb _ q, r.ext e hM hO⟩
 | dead => exact r
theorem CellR.fz {x : V3} (hc : c.fz = some x) (hn : some a ∉ β) (ho : ¬ O a) (r : CellR κ β O H c a) : Rep κ β O H x (.ref a) := by
 cases c with
 | lst xs => cases hc; obtain ⟨_, q, r⟩ := r; exact .lst q hn ho r
 | dK xs => cases hc; obtain ⟨_, q, r⟩ := r; exact .dK q hn ho r
 | dT xs => cases hc; obtain ⟨_, q, r⟩ := r; exact .dT q hn ho r
 | ins c fs => cases hc; obtain ⟨_, _, _, k, q, r⟩ := r; exact .obj k q hn ho r
 | dead => exact r.elim
theorem RelH.sub (hs : ∀ a, O' a → O a) (r : RelH κ O β h H) : RelH κ O' β h H :=
 ⟨r.len, r.inj, fun a ha => r.off a (hs a ha), fun a ha => r.trk a (hs a ha), r.btr, fun i c hc => (r.cell i c hc).imp id fun ⟨a, ha, q⟩ => ⟨a, ha, q.sub hs⟩⟩
end
abbrev Fr.with (F : Fr) (p : Addr) : Fr := { F with T := p :: F.T }
abbrev Fr.to (F : Fr) (β : List (Option Addr)) (h : H3) : Fr := { F with β := β, h := h }
abbrev Nw (H : Hp) : Addr → Prop := fun p => H p = none
def Post (κ : Kx) (N : Addr → Prop) (F : Fr) (σ : St) (H : Hp) : Vl → V → Prop
 | .v x, v => Rel κ F σ H ∧ Rep κ F.β F.O H x v
 | .m c, v => ∃ p, v = .ref p ∧ Rel κ (F.with p) σ H ∧ CellR κ F.β (F.with p).O H c p ∧ N p
def XOk (κ : Kx) (E : XK) (x : X3) (H : Hp) : Prop := ∀ C, κ.cl x.c = some C → E (.ref C) none H
abbrev Kd (α ω : Type) := Hp → Fr → St → Hp → α → ω → Prop
def zhn {α ω : Type} (K : Kd α ω) : Prop := ∀ (M : Addr → Prop) β H β1 H1 F σ H' a w, Ext M β H β1 H1 → K H1 F σ H' a w → K H F σ H' a w
def Out {α ω : Type} (κ : Kx) (E : XK) (K : Kd α ω) (F : Fr) (σ : St) (H : Hp) (Q : ω → Hp → Prop) : Res α → Prop
 | .ok a h' => ∀ β' w H', Ext No F.β H β' H' → K H (F.to β' h') σ H' a w → Q w H'
 | .ex x h' => ∀ β' H', Ext No F.β H β' H' → RelH κ F.Oi β' h' H' → XOk κ E x H'
 | .no => False
def tOf {α ω : Type} (κ : Kx) (E : XK) (K : Kd α ω) (d : S3 → H3 → Res α) (σ : St) (H : Hp) (Q : ω → Hp → Prop) : Prop := ∃ F, Rel κ F σ H ∧ Out κ E K F σ H Q (d F.s F.h)
def kE (κ : Kx) : Kd Vl V := fun H F σ H' r v => Post κ (Nw H) F σ H' r v
abbrev teOf (κ : Kx) (E : XK) (d : E3) : TE := tOf κ E (kE κ) d
section
variable {κ : Kx} {E : XK} {F : Fr} {σ : St} {H H' : Hp} {Q : VK} {p : Addr}
theorem Fr.O_with {a : Addr} (h : F.O a) : (F.with p).O a := h.imp (fun z => List.mem_cons_of_mem _ z) id
theorem SlotR.sub {F F' : Fr} {i : Nat} {x : Vl} {v : V} (hb : F'.β = F.β) (hl : F'.l = F.l) (hs : ∀ a, F'.O a → F.O a) (h : SlotR κ F H i x v) : SlotR κ F' H i x v := by
 cases x with
 | v x => show Rep κ F'.β F'.O H x v; rw [hb]; exact Rep.sub hs h
 | m c => obtain ⟨a, h1, h2, h3⟩ := h; refine ⟨a, by rw [hl]; exact h1, h2, ?_⟩; rw [hb]; exact h3.sub hs
theorem Rel.drop (h : Rel κ (F.with p) σ H) : Rel κ F σ H where
 heap := h.heap.sub fun a ha => Fr.O_with ha
 slen := h.slen
 llen := h.llen
 linj := h.linj
 lt := fun a ha z => h.lt a ha (List.mem_cons_of_mem _ z)
 lo := h.lo
 to := fun a ha => h.to a (List.mem_cons_of_mem _ ha)
 tn := (List.nodup_cons.mp h.tn).2
 slot := fun i x e => let ⟨v, a, b⟩ := h.slot i x e; ⟨v, a, SlotR.sub (F := F.with p) (F' := F) rfl rfl (fun a ha => Fr.O_with ha) b⟩
theorem Rel.apart (h : Rel κ (F.with p) σ H) : ¬ F.O p := fun z => by
 rcases z with z | z | z
 ·exact (List.nodup_cons.mp h.tn).1 z
 ·exact h.lt p z List.mem_cons_self
 ·exact h.to p List.mem_cons_self z
theorem Rel.offp (h : Rel κ (F.with p) σ H) : some p ∉ F.β := h.heap.off p (.inl List.mem_cons_self)
theorem Post.fz {N : Addr → Prop} {x : Vl} {y : V3} {v : V} (h : Post κ N F σ H x v) (e : x.fz = some y) : Rel κ F σ H ∧ Rep κ F.β F.O H y v := by
 cases x with
 | v x => cases e; exact h
 | m c =>
  obtain ⟨p, rfl, r, q, _⟩ := h
  exact ⟨r.drop, (q.sub (O' := F.O) fun a ha => Fr.O_with ha).fz e r.offp r.apart⟩
theorem Post.imp {N N' : Addr → Prop} {x : Vl} {v : V} (h : Post κ N F σ H x v) (k : ∀ p, N p → N' p) : Post κ N' F σ H x v := by
 cases x with
 | v x => exact h
 | m c => obtain ⟨p, h1, h2, h3, h4⟩ := h; exact ⟨p, h1, h2, h3, k p h4⟩
theorem Ext.nw {M : Addr → Prop} {β β' : List (Option Addr)} {H0 H1 : Hp} (e : Ext M β H0 β' H1) : ∀ p, Nw H1 p → Nw H0 p := fun p h => by
 cases w : H0 p with
 | none => exact w
 | some o => obtain ⟨o', z⟩ := e.there p o w; rw [h] at z; cases z
theorem Rel.slotExt {β' : List (Option Addr)} {h' : H3} (r : Rel κ F σ H) (e : Ext No F.β H β' H') {i : Nat} {x : Vl} {v : V} (q : SlotR κ F H i x v) : SlotR κ (F.to β' h') H' i x v := by
 cases x with
 | v x => exact Rep.ext0 e q
 | m c =>
  obtain ⟨a, h1, h2, h3⟩ := q
  have ha : F.O a := .inr (.inl (List.mem_of_getElem? h1))
  exact ⟨a, h1, h2, h3.ext e (fun _ z => z.elim) (fun _ _ _ n => n) fun o ho => (e.keep a o ho (r.heap.off a ha) fun z => z).1⟩
theorem Rel.next {β' : List (Option Addr)} {h' : H3} (r : Rel κ F σ H) (e : Ext No F.β H β' H') (rh : RelH κ F.O β' h' H') : Rel κ (F.to β' h') σ H' where
 heap := rh
 slen := r.slen
 llen := r.llen
 linj := r.linj
 lt := r.lt
 lo := r.lo
 to := r.to
 tn := r.tn
 slot := fun i x hx => let ⟨v, a, b⟩ := r.slot i x hx; ⟨v, a, r.slotExt e b⟩
theorem Out.move {α ω : Type} {K : Kd α ω} {Q : ω → Hp → Prop} {r : Res α} {β' : List (Option Addr)} {h' : H3} (hK : zhn K) (e : Ext No F.β H β' H') (o : Out κ E K F σ H Q r) : Out κ E K (F.to β' h') σ H' Q r := by
 cases r with
 | ok x h2 => exact fun β2 v H2 e2 p => o β2 v H2 (e.trans0 e2) (hK _ _ _ _ _ _ _ _ _ _ e p)
 | ex x h2 => exact fun β2 H2 e2 p => o β2 H2 (e.trans0 e2) p
 | no => exact o
theorem km_E : zhn (kE κ) := fun M β H β1 H1 F σ H' a w e h => Post.imp h e.nw
theorem tOf.mono {α ω : Type} {K : Kd α ω} {Q Q' : ω → Hp → Prop} {d : S3 → H3 → Res α} (h : tOf κ E K d σ H Q) (k : ∀ v H, Q v H → Q' v H) : tOf κ E K d σ H Q' := by
 obtain ⟨F, rel, o⟩ := h
 refine ⟨F, rel, ?_⟩
 cases q : d F.s F.h with
 | ok r h1 => rw [q] at o; exact fun β v H' e p => k _ _ (o β v H' e p)
 | ex x h1 => rw [q] at o; exact o
 | no => rw [q] at o; exact o
theorem za9 {α ω α' ω' : Type} {K : Kd α ω} {K' : Kd α' ω'} {Q : ω' → Hp → Prop} {a : S3 → H3 → Res α} {k : α → H3 → Res α'} (hK : zhn K') (rel : Rel κ F σ H) (h : Out κ E K' F σ H Q ((a F.s F.h).bind k)) :
  tOf κ E K a σ H (fun w H1 => ∃ β1 h1 x, Ext No F.β H β1 H1 ∧ K H (F.to β1 h1) σ H1 x w ∧ Out κ E K' (F.to β1 h1) σ H1 Q (k x h1)) := by
 refine ⟨F, rel, ?_⟩
 cases q : a F.s F.h with
 | no => rw [q] at h; exact h
 | ex x h1 => rw [q] at h; exact h
 | ok r h1 => rw [q] at h; exact fun β1 v H1 e p => ⟨β1, h1, r, e, p, Out.move hK e h⟩
theorem za6 {β : List (Option Addr)} {o : HO} (hp : H p = none) : Ext No β H β (upd H p o) :=
 ⟨fun a u ha hn _ => ⟨by rw [zaj (zak ha hp)]; exact ha, hn⟩, Nat.le_refl _, fun _ _ _ h => h, fun a u ha => ⟨u, by rw [zaj (zak ha hp)]; exact ha⟩, nwb0⟩
theorem RelH.off_new {O : Addr → Prop} {β : List (Option Addr)} {h : H3} (r : RelH κ O β h H) (hp : H p = none) : some p ∉ β ∧ ¬ O p := by
 refine ⟨fun z => ?_, fun z => ?_⟩
 ·obtain ⟨i, hi⟩ := List.getElem?_of_mem z
  obtain ⟨o, ho⟩ := r.btr i p hi
  rw [hp] at ho; cases ho
 ·obtain ⟨o, ho⟩ := r.trk p z
  rw [hp] at ho; cases ho
theorem RelH.laid {O : Addr → Prop} {β : List (Option Addr)} {h : H3} {o : HO} (r : RelH κ O β h H) (hp : H p = none) : RelH κ O β h (upd H p o) := by
 have k : ∀ a u, H a = some u → upd H p o a = some u := fun a u ha => by rw [zaj (zak ha hp)]; exact ha
 exact ⟨r.len, r.inj, r.off, fun a ha => let ⟨u, q⟩ := r.trk a ha; ⟨u, k a u q⟩, fun i a e => let ⟨u, q⟩ := r.btr i a e; ⟨u, k a u q⟩,
  fun i c hc => (r.cell i c hc).imp id fun ⟨a, ha, q⟩ => ⟨a, ha, q.ext (za6 hp) (fun _ z => z.elim) (fun _ _ _ n => n) fun u hu => k a u hu⟩⟩
theorem Rel.laid {o : HO} (r : Rel κ F σ H) (hp : H p = none) : Rel κ F σ (upd H p o) := r.next (za6 hp) (r.heap.laid hp)
theorem O_ne {a : Addr} (h : (F.with p).O a) (hne : a ≠ p) : F.O a := by
 rcases h with h | h
 ·rcases List.mem_cons.mp h with h | h
  ·exact absurd h hne
  ·exact .inl h
 ·exact .inr h
theorem Rel.new {o : HO} (r : Rel κ F σ H) (hp : H p = none) : Rel κ (F.with p) σ (upd H p o) ∧ ∀ {x : V3} {y : V}, Rep κ F.β F.O H x y → Rep κ F.β (F.with p).O (upd H p o) x y := by
 obtain ⟨n1, n2⟩ := r.heap.off_new hp
 have e : Ext No F.β H F.β (upd H p o) := za6 hp
 have hM : ∀ a, No a → F.O a := fun _ z => z.elim
 have hO : ∀ a u, H a = some u → ¬ F.O a → ¬ (F.with p).O a := fun a u ha n z => n (O_ne z (zak ha hp))
 have k : ∀ a u, H a = some u → upd H p o a = some u := fun a u ha => by rw [zaj (zak ha hp)]; exact ha
 refine ⟨⟨⟨r.heap.len, r.heap.inj, fun a ha => ?_, fun a ha => ?_, fun i a q => let ⟨u, z⟩ := r.heap.btr i a q; ⟨u, k a u z⟩, fun i c hc => (r.heap.cell i c hc).imp id fun ⟨a, ha, q⟩ => ⟨a, ha, q.ext e hM hO fun u hu => k a u hu⟩⟩,
  r.slen, r.llen, r.linj, ?_, r.lo, ?_, List.nodup_cons.mpr ⟨fun z => n2 (.inl z), r.tn⟩, fun i x q => ?_⟩, fun h => h.ext e hM hO⟩
 ·by_cases z : a = p
  ·subst z; exact n1
  ·exact r.heap.off a (O_ne ha z)
 ·by_cases z : a = p
  ·subst z; exact ⟨o, zaw⟩
  ·obtain ⟨u, q⟩ := r.heap.trk a (O_ne ha z); exact ⟨u, k a u q⟩
 ·intro a ha z
  rcases List.mem_cons.mp z with z | z
  ·subst z; exact n2 (.inr (.inl ha))
  ·exact r.lt a ha z
 ·intro a ha z
  rcases List.mem_cons.mp ha with h | h
  ·subst h; exact n2 (.inr (.inr z))
  ·exact r.to a h z
 ·obtain ⟨v, h1, h2⟩ := r.slot i x q
  refine ⟨v, h1, ?_⟩
  cases x with
  | v x => exact Rep.ext e hM hO h2
  | m c =>
   obtain ⟨a, a1, a2, a3⟩ := h2
   exact ⟨a, a1, a2, a3.ext e hM hO fun u hu => k a u hu⟩
theorem Out.val {x : V3} {v : V} (o : Out κ E (kE κ) F σ H Q (.ok (.v x) F.h)) (rel : Rel κ F σ H) (r : Rep κ F.β F.O H x v) : Q v H := o F.β v H Ext.refl ⟨rel, r⟩
inductive Rf where
 | x (v : V3) | s (i : Nat)
abbrev P3 := S3 → H3 → Res Rf
def pV (i : Nat) : P3 := fun s h => match s[i]? with
 | some (some (.v x)) => .ok (.x x) h
 | some (some (.m _)) => .ok (.s i) h
 | _ => .no
def pE (e : E3) : P3 := fun s h => (e s h).bind fun r h1 => match r.fz with
 | some x => .ok (.x x) h1
 | none => .no
def RfR (κ : Kx) (F : Fr) (H : Hp) : Rf → V → Prop
 | .x y, v => Rep κ F.β F.O H y v
 | .s i, v => ∃ a c, F.l[i]? = some (some a) ∧ v = .ref a ∧ F.s[i]? = some (some (.m c)) ∧ CellR κ F.β F.O H c a
def kP (κ : Kx) : Kd Rf V := fun _ F σ H' f v => Rel κ F σ H' ∧ RfR κ F H' f v
abbrev tpOf (κ : Kx) (E : XK) (d : P3) : TE := tOf κ E (kP κ) d
theorem km_P : zhn (kP κ) := fun _ _ _ _ _ _ _ _ _ _ _ h => h
theorem RfR.ext {β' : List (Option Addr)} {h' : H3} {f : Rf} {v : V} (rel : Rel κ F σ H) (e : Ext No F.β H β' H') (r : RfR κ F H f v) : RfR κ (F.to β' h') H' f v := by
 cases f with
 | x y => exact Rep.ext0 e r
 | s i =>
  obtain ⟨a, c, h1, h2, h3, h4⟩ := r
  have ha : F.O a := .inr (.inl (List.mem_of_getElem? h1))
  exact ⟨a, c, h1, h2, h3, h4.ext e (fun _ z => z.elim) (fun _ _ _ n => n) fun o ho => (e.keep a o ho (rel.heap.off a ha) fun z => z).1⟩
def rdl (s : S3) (h : H3) : Rf → Option (List V3)
 | .x (.lst xs) => some xs
 | .x (.scr ns) => some (ns.map .int)
 | .x (.loc n) => match h[n]? with
  | some (.lst xs) => some xs
  | _ => none
 | .s i => match s[i]? with
  | some (some (.m (.lst xs))) => some xs
  | _ => none
 | _ => none
theorem zel {f : Rf} {v : V} {xs : List V3} (rel : Rel κ F σ H) (r : RfR κ F H f v) (e : rdl F.s F.h f = some xs) : ∃ a ys, v = .ref a ∧ SqL κ.K H a ys ∧ Reps κ F.β F.O H xs ys := by
 cases f with
 | s i =>
  obtain ⟨a, c, h1, h2, h3, h4⟩ := r
  simp only [rdl, h3] at e
  cases c <;> simp at e
  subst e
  obtain ⟨ys, h5, h6⟩ := h4
  exact ⟨a, ys, h2, .of h5, h6⟩
 | x y =>
  cases y <;> simp [rdl] at e
  case lst zs =>
   subst e
   cases r with
   | lst h1 h2 h3 h4 => exact ⟨_, _, rfl, .of h1, h4⟩
  case scr ns =>
   subst e
   have g : ∀ l : List Int, Reps κ F.β F.O H (l.map V3.int) (l.map V.int) := fun l => by
    induction l with
    | nil => exact .nil
    | cons x r ih => exact .cons (.int x) ih
   cases r with
   | scr h1 h2 h3 => exact ⟨_, _, rfl, .inl (.inr ⟨_, h1⟩), g ns⟩
   | scrK h => exact ⟨_, _, rfl, .inr h, g ns⟩
  case loc n =>
   cases r with
   | loc h1 h2 =>
    cases q : F.h[n]? with
    | none => rw [q] at e; cases e
    | some c =>
     rw [q] at e
     cases c <;> simp at e
     subst e
     rcases rel.heap.cell n _ q with z | ⟨a, ha, ys, h5, h6⟩
     ·cases z
     ·exact ⟨a, ys, h2 a ha, .of h5, h6⟩
end
end L3
set_option Elab.async false
set_option linter.all false
set_option maxRecDepth 100000
namespace L3
open PySem L2
abbrev A3 := S3 → H3 → Res (List Rf)
def aNil : A3 := fun _ h => .ok [] h
def aCons (p : P3) (a : A3) : A3 := fun s h => (p s h).bind fun f h1 => (a s h1).bind fun fs h2 => .ok (f :: fs) h2
def kA (κ : Kx) : Kd (List Rf) (List V) := fun _ F σ H' fs vs => Rel κ F σ H' ∧ Paired (RfR κ F H') fs vs
abbrev taOf (κ : Kx) (E : XK) (d : A3) : TA := tOf κ E (kA κ) d
def vals3 : List Rf → Option (List V3)
 | [] => some []
 | .x v :: r => (vals3 r).map (v :: ·)
 | .s _ :: _ => none
abbrev T3 := S3 → H3 → Res Bool
def kT (κ : Kx) : Kd Bool Bool := fun _ F σ H' b b' => b' = b ∧ Rel κ F σ H'
abbrev ttOf (κ : Kx) (E : XK) (d : T3) : TT := tOf κ E (kT κ) d
section
variable {X : Cx} {κ : Kx} {E : XK} {F : Fr} {σ : St} {H H' : Hp} {Q : VK} {p : Addr} {e a b : Expr} {pos : Pos} {i : Nat}
theorem km_A : zhn (kA κ) := fun _ _ _ _ _ _ _ _ _ _ _ h => h
theorem km_T : zhn (kT κ) := fun _ _ _ _ _ _ _ _ _ _ _ h => h
theorem PEw {t t' : TE} (h : PE X e t) (w : ∀ σ H Q, t' σ H Q → t σ H Q) : PE X e t' := fun pins s σ H Q I q => h pins s σ H Q I (w σ H Q q)
theorem PTw {t t' : TT} (h : PT X e t) (w : ∀ σ H Q, t' σ H Q → t σ H Q) : PT X e t' := fun pins s σ H Q I q => h pins s σ H Q I (w σ H Q q)
theorem PWw {t t' : TT} (h : PW X e t) (w : ∀ σ H Q, t' σ H Q → t σ H Q) : PW X e t' := fun wh pins s σ H Q I q => h wh pins s σ H Q I (w σ H Q q)
theorem PAw {es : List Expr} {t t' : TA} (h : PA X es t) (w : ∀ σ H Q, t' σ H Q → t σ H Q) : PA X es t' := fun pos pins s σ H Q I q => h pos pins s σ H Q I (w σ H Q q)
def eV (i : Nat) : E3 := fun s h => match s[i]? with
 | some (some (.v x)) => .ok (.v x) h
 | _ => .no
def eC (x : V3) : E3 := fun _ h => .ok (.v x) h
theorem r_v (hv : PE X e (tVar i)) : PE X e (teOf κ E (eV i)) := PEw hv fun σ H Q ⟨F, rel, o⟩ => by
 unfold eV at o
 cases q : F.s[i]? with
 | none => rw [q] at o; exact o.elim
 | some z =>
  rw [q] at o
  match z, q, o with
  | none, q, o => exact o.elim
  | some (.m c), q, o => exact o.elim
  | some (.v x), q, o =>
   obtain ⟨v, h1, h2⟩ := rel.slot i _ q
   exact ⟨v, h1, o.val rel h2⟩
theorem rp_v (hv : PE X e (tVar i)) : PE X e (tpOf κ E (pV i)) := PEw hv fun σ H Q ⟨F, rel, o⟩ => by
 unfold pV at o
 cases q : F.s[i]? with
 | none => rw [q] at o; exact o.elim
 | some z =>
  rw [q] at o
  match z, q, o with
  | none, q, o => exact o.elim
  | some (.m c), q, o =>
   obtain ⟨v, h1, a, h2, h3, h4⟩ := rel.slot i _ q
   exact ⟨v, h1, o F.β v H Ext.refl ⟨rel, a, c, h2, h3, q, h4⟩⟩
  | some (.v x), q, o =>
   obtain ⟨v, h1, h2⟩ := rel.slot i _ q
   exact ⟨v, h1, o F.β v H Ext.refl ⟨rel, h2⟩⟩
theorem rp_e {d : E3} (h : PE X e (teOf κ E d)) : PE X e (tpOf κ E (pE d)) := PEw h fun σ H Q ⟨F, rel, o⟩ =>
 (za9 (K := kE κ) km_P rel o).mono fun v H1 ⟨β1, h1, x, e1, p1, o1⟩ => by
  cases z : x.fz with
  | none => simp only [z] at o1; exact o1.elim
  | some y =>
   simp only [z] at o1
   obtain ⟨r1, r2⟩ := Post.fz p1 z
   exact o1 β1 v H1 Ext.refl ⟨r1, r2⟩
theorem r_c {x : V3} {v : V} (hc : PE X e (tC v)) (r : ∀ β O H, Rep κ β O H x v) : PE X e (teOf κ E (eC x)) := PEw hc fun σ H Q ⟨F, rel, o⟩ => o.val rel (r _ _ _)
theorem zad {i j pos} : PE X (.Constant (.int i) j pos) (teOf κ E (eC (.int i))) := r_c zr0 fun _ _ _ => .int i
theorem r_bl {b j pos} : PE X (.Constant (.bool b) j pos) (teOf κ E (eC (.bl b))) := r_c zvo fun _ _ _ => .bl b
theorem zls {j pos} : PE X (.Constant .none j pos) (teOf κ E (eC .non)) := r_c ztl fun _ _ _ => .non
theorem zcn {x j pos} : PE X (.Constant (.str x) j pos) (teOf κ E (eC (.str x))) := r_c zta fun _ _ _ => .str x
theorem zac : PA X [] (taOf κ E aNil) := PAw zr1 fun σ H Q ⟨F, rel, o⟩ => o F.β [] H Ext.refl ⟨rel, .nil⟩
theorem zaa {es : List Expr} {d : P3} {t : A3} (ha : PE X e (tpOf κ E d)) (hr : PA X es (taOf κ E t)) (hs : starEach (e :: es) X.env = (false, eval e X.env) :: starEach es X.env := by rfl) : PA X (e :: es) (taOf κ E (aCons d t)) :=
 PAw (zrb ha hr hs) fun σ H Q ⟨F, rel, o⟩ =>
  (za9 (K := kP κ) km_A rel o).mono fun v H1 ⟨β1, h1, x, e1, ⟨r1, rf1⟩, o1⟩ =>
   (za9 (F := F.to β1 h1) (K := kA κ) km_A r1 o1).mono fun vs H2 ⟨β2, h2, fs, e2, ⟨r2, rf2⟩, o2⟩ => o2 β2 (v :: vs) H2 Ext.refl ⟨r2, .cons (RfR.ext (F := F.to β1 h1) (β' := β2) (h' := h2) r1 e2 rf1) rf2⟩
theorem zct : ∀ {fs : List Rf} {vs : List V} {xs : List V3}, Paired (RfR κ F H) fs vs → vals3 fs = some xs → Reps κ F.β F.O H xs vs
 | _, _, _, .nil, e => by cases e; exact .nil
 | f :: fs, v :: vs, xs, .cons q t, e => by
  cases f with
  | s i => cases e
  | x y =>
   unfold vals3 at e
   cases z : vals3 fs with
   | none => rw [z] at e; cases e
   | some l => rw [z] at e; cases e; exact .cons q (zct t z)
abbrev F2 := S3 → H3 → Rf → Rf → Option Vl
def opt (h : H3) : Option Vl → Res Vl
 | some z => .ok z h
 | none => .no
def eOp (f : F2) (a b : P3) : E3 := fun s h => (a s h).bind fun x h1 => (b s h1).bind fun y h2 => opt h2 (f s h2 x y)
def OpSim (κ : Kx) (r : R2) (f : F2) : Prop := ∀ (F : Fr) (σ : St) (H : Hp) (x y : Rf) (z : Vl) (v w : V) (Q : VK), Rel κ F σ H → RfR κ F H x v → RfR κ F H y w → f F.s F.h x y = some z →
 (∀ u H', Ext No F.β H F.β H' → Post κ (Nw H) F σ H' z u → Q u H') → r v w H Q
theorem Out.opt {o : Option Vl} {h : H3} (h0 : F.h = h) (q : Out κ E (kE κ) F σ H Q (opt h o)) : ∃ z, o = some z ∧ ∀ u H', Ext No F.β H F.β H' → Post κ (Nw H) F σ H' z u → Q u H' := by
 cases o with
 | none => exact q.elim
 | some z => subst h0; exact ⟨z, rfl, fun u H' e p => q F.β u H' e p⟩
theorem zn9 {r : R2} {f : F2} {a b : P3} (hs : OpSim κ r f) (h : teOf κ E (eOp f a b) σ H Q) : tOp r (tpOf κ E a) (tpOf κ E b) σ H Q := by
 obtain ⟨F, rel, o⟩ := h
 refine (za9 (K := kP κ) km_E rel o).mono fun v H1 ⟨β1, h1, f1, e1, ⟨r1, rf1⟩, o1⟩ => ?_
 refine (za9 (F := F.to β1 h1) (K := kP κ) km_E r1 o1).mono fun w H2 ⟨β2, h2, f2, e2, ⟨r2, rf2⟩, o2⟩ => ?_
 obtain ⟨z, q, k⟩ := Out.opt (F := F.to β2 h2) rfl o2
 exact hs (F.to β2 h2) σ H2 f1 f2 z v w Q r2 (RfR.ext (F := F.to β1 h1) (β' := β2) (h' := h2) r1 e2 rf1) rf2 q k
theorem zag {op : Operator} {r : R2} {f : F2} {da db : P3} (hs : OpSim κ r f) (ho : OpR X (binaryOp op) r) (ha : PE X a (tpOf κ E da)) (hb : PE X b (tpOf κ E db)) : PE X (.BinOp a op b pos) (teOf κ E (eOp f da db)) := PEw (zvk ho ha hb) fun _ _ _ h => zn9 hs h
theorem zuk {op : CmpOp} {r : R2} {f : F2} {da db : P3} (hs : OpSim κ r f) (ho : OpR X (compareOp op) r) (hm : behindInMarks op b = false) (ha : PE X a (tpOf κ E da)) (hb : PE X b (tpOf κ E db)) : PE X (.Compare a [op] [b] pos) (teOf κ E (eOp f da db)) := PEw (zp4 ho ha hb hm) fun _ _ _ h => zn9 hs h
theorem r_ix {r : R2} {f : F2} {da db : P3} (hs : OpSim κ r f) (ho : IxR X r) (hm : zlv b) (ha : PE X a (tpOf κ E da)) (hb : PE X b (tpOf κ E db)) : PE X (.Subscript a b pos) (teOf κ E (eOp f da db)) := PEw (zu1 ho ha hb hm) fun _ _ _ h => zn9 hs h
abbrev FB := S3 → H3 → List Rf → Option Vl
def eB (f : FB) (a : A3) : E3 := fun s h => (a s h).bind fun fs h1 => opt h1 (f s h1 fs)
def zch (κ : Kx) (r : List V → Hp → VK → Prop) (f : FB) : Prop := ∀ (F : Fr) (σ : St) (H : Hp) (fs : List Rf) (z : Vl) (vs : List V) (Q : VK), Rel κ F σ H → Paired (RfR κ F H) fs vs → f F.s F.h fs = some z →
 (∀ u H', Ext No F.β H F.β H' → Post κ (Nw H) F σ H' z u → Q u H') → r vs H Q
theorem te_b {r : List V → Hp → VK → Prop} {f : FB} {a : A3} (hs : zch κ r f) (h : teOf κ E (eB f a) σ H Q) : tCB r (taOf κ E a) σ H Q := by
 obtain ⟨F, rel, o⟩ := h
 refine (za9 (K := kA κ) km_E rel o).mono fun vs H1 ⟨β1, h1, fs, e1, ⟨r1, rf1⟩, o1⟩ => ?_
 obtain ⟨z, q, k⟩ := Out.opt (F := F.to β1 h1) rfl o1
 exact hs (F.to β1 h1) σ H1 fs z vs Q r1 rf1 q k
theorem zsp {a : Addr} {u : HO} (hp : H p = none) (ha : H a = some u) (n : ¬ F.O a) : ¬ (F.with p).O a := fun z => n (O_ne z (zak ha hp))
theorem Post.lst {xs : List V3} {ys : List V} (rel : Rel κ F σ H) (hp : H p = none) (r : Reps κ F.β F.O H xs ys) : Post κ (Nw H) F σ (upd H p (.lst ys)) (.m (.lst xs)) (.ref p) := by
 obtain ⟨r1, r2⟩ := rel.new (o := .lst ys) hp
 exact ⟨p, rfl, r1, ⟨ys, zaw, r.ext (za6 hp) (fun _ z => z.elim) fun a u ha n => zsp hp ha n⟩, hp⟩
theorem Post.dT {xs : List (MK × V3)} {ys : List (MK × V)} (rel : Rel κ F σ H) (hp : H p = none) (r : RepP κ F.β F.O H xs ys) : Post κ (Nw H) F σ (upd H p (.dT ys)) (.m (.dT xs)) (.ref p) := by
 obtain ⟨r1, r2⟩ := rel.new (o := .dT ys) hp
 exact ⟨p, rfl, r1, ⟨ys, zaw, r.ext (za6 hp) (fun _ z => z.elim) fun a u ha n => zsp hp ha n⟩, hp⟩
theorem Post.tup {xs : List V3} {ys : List V} {N : Addr → Prop} (rel : Rel κ F σ H) (hp : H p = none) (r : Reps κ F.β F.O H xs ys) : Post κ N F σ (upd H p (.tup ys)) (.v (.tup xs)) (.ref p) := by
 obtain ⟨n1, n2⟩ := rel.heap.off_new hp
 exact ⟨rel.laid hp, .tup zaw n1 n2 (r.ext0 (za6 hp))⟩
def eTup (a : A3) : E3 := fun s h => (a s h).bind fun fs h1 => match vals3 fs with
 | some xs => if xs.length ≤ sizeLine then .ok (.v (.tup xs)) h1 else .no
 | none => .no
def eLst (a : A3) : E3 := fun s h => (a s h).bind fun fs h1 => match vals3 fs with
 | some xs => if xs.length ≤ sizeLine then .ok (.m (.lst xs)) h1 else .no
 | none => .no
theorem zdv {es : List Expr} {x1} {t : A3} (h : PA X es (taOf κ E t)) : PE X (.Tuple es x1 pos) (teOf κ E (eTup t)) := PEw (ztv h) fun σ H Q ⟨F, rel, o⟩ =>
 (za9 (K := kA κ) km_E rel o).mono fun vs H1 ⟨β1, h1, fs, e1, ⟨r1, rf1⟩, o1⟩ => by
  cases q : vals3 fs with
  | none => simp only [q] at o1; exact o1.elim
  | some xs =>
   simp only [q] at o1
   have hr := zct rf1 q
   by_cases hz : xs.length ≤ sizeLine
   ·rw [if_pos hz] at o1
    exact ⟨by rw [← hr.length]; exact hz, fun p hp => o1 β1 (.ref p) _ (za6 hp) (Post.tup r1 hp hr)⟩
   ·rw [if_neg hz] at o1; exact o1.elim
theorem zd1 {es : List Expr} {t : A3} (h : PA X es (taOf κ E t)) : PE X (.List es pos) (teOf κ E (eLst t)) := PEw (zr6 h) fun σ H Q ⟨F, rel, o⟩ =>
 (za9 (K := kA κ) km_E rel o).mono fun vs H1 ⟨β1, h1, fs, e1, ⟨r1, rf1⟩, o1⟩ => by
  cases q : vals3 fs with
  | none => simp only [q] at o1; exact o1.elim
  | some xs =>
   simp only [q] at o1
   have hr := zct rf1 q
   by_cases hz : xs.length ≤ sizeLine
   ·rw [if_pos hz] at o1
    exact ⟨by rw [← hr.length]; exact hz, fun p hp => o1 β1 (.ref p) _ (za6 hp) (Post.lst r1 hp hr)⟩
   ·rw [if_neg hz] at o1; exact o1.elim
def tE (e : E3) : T3 := fun s h => (e s h).bind fun r h1 => match r with
 | .v (.bl b) => .ok b h1
 | _ => .no
theorem zk7 {d : E3} {Q : Bool → Hp → Prop} (h : ttOf κ E (tE d) σ H Q) : teOf κ E d σ H (fun x H' => ∃ k, x = .bl k ∧ Q k H') := by
 obtain ⟨F, rel, o⟩ := h
 refine (za9 (K := kE κ) km_T rel o).mono fun v H1 ⟨β1, h1, x, e1, p1, o1⟩ => ?_
 match x, p1, o1 with
 | .v (.bl b), p1, o1 =>
  obtain ⟨r1, r2⟩ := p1
  cases r2
  exact ⟨b, rfl, o1 β1 b H1 Ext.refl ⟨rfl, r1⟩⟩
theorem zax {op : CmpOp} {r : R2} {f : F2} {da db : P3} (hs : OpSim κ r f) (ho : OpR X (compareOp op) r) (hm : behindInMarks op b = false) (ha : PE X a (tpOf κ E da)) (hb : PE X b (tpOf κ E db)) : PT X (.Compare a [op] [b] pos) (ttOf κ E (tE (eOp f da db))) := PTw (zqv ho ha hb hm) fun _ _ _ h => zn9 hs (zk7 h)
theorem zdi {d : E3} (h : PE X e (teOf κ E d)) (he : ∀ whole, isTrue e X.env whole = (do let v ← whole; standAt e.pos; holding [v] (truthy v)) := by intro _; rfl) : PT X e (ttOf κ E (tE d)) := PTw (ztg h he) fun _ _ _ q => zk7 q
def tAnd3 (a b : T3) : T3 := fun s h => (a s h).bind fun c h1 => if c = true then b s h1 else .ok false h1
def tOr3 (a b : T3) : T3 := fun s h => (a s h).bind fun c h1 => if c = true then .ok true h1 else b s h1
def tNot3 (a : T3) : T3 := fun s h => (a s h).bind fun c h1 => .ok (!c) h1
theorem zl3 {t : T3} (ha : PT X a (ttOf κ E t)) : PW X (.BoolOp .And [a] pos) (ttOf κ E t) := zq8 ha
theorem zen {t : T3} (ha : PT X a (ttOf κ E t)) : PW X (.BoolOp .Or [a] pos) (ttOf κ E t) := zs3 ha
theorem zpd {t u : T3} {rest : List Expr} (ha : PT X a (ttOf κ E t)) (hb : PW X (.BoolOp .And (b :: rest) pos) (ttOf κ E u)) : PW X (.BoolOp .And (a :: b :: rest) pos) (ttOf κ E (tAnd3 t u)) := PWw (zrn ha hb) fun σ H Q ⟨F, rel, o⟩ =>
 (za9 (K := kT κ) km_T rel o).mono fun c H1 ⟨β1, h1, x, e1, ⟨ec, r1⟩, o1⟩ => by
  subst ec
  cases c with
  | true => rw [if_pos rfl] at o1 ⊢; exact ⟨F.to β1 h1, r1, o1⟩
  | false => rw [if_neg Bool.false_ne_true] at o1 ⊢; exact o1 β1 false H1 Ext.refl ⟨rfl, r1⟩
theorem zgy {t u : T3} {rest : List Expr} (ha : PT X a (ttOf κ E t)) (hb : PW X (.BoolOp .Or (b :: rest) pos) (ttOf κ E u)) : PW X (.BoolOp .Or (a :: b :: rest) pos) (ttOf κ E (tOr3 t u)) := PWw (zuu ha hb) fun σ H Q ⟨F, rel, o⟩ =>
 (za9 (K := kT κ) km_T rel o).mono fun c H1 ⟨β1, h1, x, e1, ⟨ec, r1⟩, o1⟩ => by
  subst ec
  cases c with
  | true => rw [if_pos rfl] at o1 ⊢; exact o1 β1 true H1 Ext.refl ⟨rfl, r1⟩
  | false => rw [if_neg Bool.false_ne_true] at o1 ⊢; exact ⟨F.to β1 h1, r1, o1⟩
theorem zcp {t : T3} (ha : PT X a (ttOf κ E t)) : PT X (.UnaryOp .Not a pos) (ttOf κ E (tNot3 t)) := PTw (zsq ha) fun σ H Q ⟨F, rel, o⟩ =>
 (za9 (K := kT κ) km_T rel o).mono fun c H1 ⟨β1, h1, x, e1, ⟨ec, r1⟩, o1⟩ => by
  subst ec
  exact o1 β1 _ H1 Ext.refl ⟨rfl, r1⟩
def eAnd (a b : E3) : E3 := fun s h => (tE a s h).bind fun c h1 => if c = true then b s h1 else .ok (.v (.bl false)) h1
def eOr (a b : E3) : E3 := fun s h => (tE a s h).bind fun c h1 => if c = true then .ok (.v (.bl true)) h1 else b s h1
def eNot (a : E3) : E3 := fun s h => (tE a s h).bind fun c h1 => .ok (.v (.bl !c)) h1
theorem znd {d u : E3} {rest : List Expr} (ha : PE X a (teOf κ E d)) (hb : PE X (.BoolOp .And (b :: rest) pos) (teOf κ E u)) : PE X (.BoolOp .And (a :: b :: rest) pos) (teOf κ E (eAnd d u)) := PEw (zsz ha hb) fun σ H Q ⟨F, rel, o⟩ => by
 refine tOf.mono (zk7 (za9 (a := tE d) (K := kT κ) km_E rel o)) fun x H1 ⟨k, ex, β1, h1, c, e1, ⟨ec, r1⟩, o1⟩ => ⟨k, ex, ?_⟩
 subst ec
 cases k with
 | true => rw [if_pos rfl] at o1 ⊢; exact ⟨F.to β1 h1, r1, o1⟩
 | false => rw [if_neg Bool.false_ne_true] at o1 ⊢; exact o1 β1 _ H1 Ext.refl ⟨r1, .bl false⟩
theorem zst {d : E3} (ha : PE X a (teOf κ E d)) : PE X (.UnaryOp .Not a pos) (teOf κ E (eNot d)) := PEw (zrl ha) fun σ H Q ⟨F, rel, o⟩ => by
 refine tOf.mono (zk7 (za9 (a := tE d) (K := kT κ) km_E rel o)) fun x H1 ⟨k, ex, β1, h1, c, e1, ⟨ec, r1⟩, o1⟩ => ⟨k, ex, ?_⟩
 subst ec
 exact o1 β1 _ H1 Ext.refl ⟨r1, .bl _⟩
theorem zot {op} {d : E3} (h : PE X a (teOf κ E d)) : PE X (.BoolOp op [a] pos) (teOf κ E d) := zsy h
def eIf (t : T3) (a b : E3) : E3 := fun s h => (t s h).bind fun c h1 => if c = true then a s h1 else b s h1
end
end L3
set_option Elab.async false
set_option linter.all false
set_option maxRecDepth 100000
namespace L3
open PySem L2
inductive O3 where
 | nx (s : S3) (h : H3) | rt (r : Vl) (h : H3) | bk (s : S3) (h : H3) | ct (s : S3) (h : H3) | ex (x : X3) (h : H3) | no
abbrev D3 := S3 → H3 → O3
structure SExt (F : Fr) (H : Hp) (F' : Fr) (H' : Hp) : Prop where
 ext : Ext (fun a => some a ∈ F.l) F.β H F'.β H'
 lam : ∀ a, some a ∈ F'.l → some a ∈ F.l ∨ H a = none
 oi : F'.Oi = F.Oi
 tt : F'.T = []
abbrev NwS (F : Fr) (H : Hp) : Addr → Prop := fun p => some p ∈ F.l ∨ H p = none
def SOut (κ : Kx) (E : XK) (F : Fr) (H : Hp) (D : Ends) : O3 → Prop
 | .nx s' h' => ∀ F' σ' H', SExt F H F' H' → F'.s = s' → F'.h = h' → Rel κ F' σ' H' → D.nx σ' H'
 | .bk s' h' => ∀ F' σ' H', SExt F H F' H' → F'.s = s' → F'.h = h' → Rel κ F' σ' H' → D.bk σ' H'
 | .ct s' h' => ∀ F' σ' H', SExt F H F' H' → F'.s = s' → F'.h = h' → Rel κ F' σ' H' → D.ct σ' H'
 | .rt r h' => ∀ F' σ' v H', SExt F H F' H' → F'.h = h' → Post κ (NwS F H) F' σ' H' r v → D.rt v H'
 | .ex x h' => ∀ F' H', SExt F H F' H' → RelH κ F'.Oi F'.β h' H' → XOk κ E x H'
 | .no => False
def tsOf (κ : Kx) (E : XK) (d : D3) : TS := fun D σ H => ∃ F, Rel κ F σ H ∧ F.T = [] ∧ SOut κ E F H D (d F.s F.h)
section
variable {X : Cx} {κ : Kx} {E : XK} {F F1 F2 : Fr} {σ σ' : St} {H H1 H2 H' : Hp} {Q : VK} {r : R} {p : Addr} {e a b : Expr} {pos : Pos} {i : Nat} {D : Ends}
theorem SExt.refl (ht : F.T = []) : SExt F H F H := ⟨Ext.refl, fun _ h => .inl h, rfl, ht⟩
theorem SExt.trans (a : SExt F H F1 H1) (b : SExt F1 H1 F2 H2) : SExt F H F2 H2 where
 ext := ⟨fun x o h n m => (by
   obtain ⟨h1, n1⟩ := a.ext.keep x o h n m
   refine b.ext.keep x o h1 n1 fun z => ?_
   rcases a.lam x z with q | q
   ·exact m q
   ·rw [h] at q; cases q), Nat.le_trans a.ext.len b.ext.len, fun i x hi h => a.ext.bet i x hi (b.ext.bet i x (Nat.lt_of_lt_of_le hi a.ext.len) h), fun x o h => let ⟨o1, h1⟩ := a.ext.there x o h; b.ext.there x o1 h1, zhx a.ext.there (fun i x hi h => b.ext.bet i x hi h) a.ext.nwb b.ext.nwb⟩
 lam := fun x h => by
  rcases b.lam x h with q | q
  ·exact a.lam x q
  ·cases w : H x with
   | none => exact .inr rfl
   | some o =>
    obtain ⟨o', z⟩ := a.ext.there x o w
    rw [q] at z; cases z
 oi := b.oi.trans a.oi
 tt := b.tt
theorem SExt.of0 {β' : List (Option Addr)} {h' : H3} (ht : F.T = []) (e : Ext No F.β H β' H') : SExt F H (F.to β' h') H' :=
 ⟨⟨fun x o h n _ => e.keep x o h n fun z => z, e.len, e.bet, e.there, e.nwb⟩, fun _ h => .inl h, rfl, ht⟩
theorem SOut.move {o : O3} (e : SExt F H F1 H1) (h : SOut κ E F H D o) : SOut κ E F1 H1 D o := by
 cases o with
 | nx s h' => exact fun F2 σ2 H2 e2 => h F2 σ2 H2 (e.trans e2)
 | bk s h' => exact fun F2 σ2 H2 e2 => h F2 σ2 H2 (e.trans e2)
 | ct s h' => exact fun F2 σ2 H2 e2 => h F2 σ2 H2 (e.trans e2)
 | rt r h' => exact fun F2 σ2 v H2 e2 eh q => h F2 σ2 v H2 (e.trans e2) eh (q.imp fun p hp => hp.elim (e.lam p) fun z => .inr (e.ext.nw p z))
 | ex x h' => exact fun F2 H2 e2 => h F2 H2 (e.trans e2)
 | no => exact h
theorem PSw {st : Stmt} {t t' : TS} (h : PS X st t) (w : ∀ D σ H, t' D σ H → t D σ H) : PS X st t' := fun pins s σ H D I q => h pins s σ H D I (w D σ H q)
theorem PSsw {st : List Stmt} {t t' : TS} (h : PSs X st t) (w : ∀ D σ H, t' D σ H → t D σ H) : PSs X st t' := fun pins s σ H D I q => h pins s σ H D I (w D σ H q)
def sSkip : D3 := fun s h => .nx s h
def sSeq (a b : D3) : D3 := fun s h => match a s h with
 | .nx s1 h1 => b s1 h1
 | o => o
theorem zaz : PSs X [] (tsOf κ E sSkip) := PSsw zqd fun D σ H ⟨F, rel, ht, o⟩ => o F σ H (.refl ht) rfl rfl rel
theorem zab {st : Stmt} {rest : List Stmt} {da db : D3} (h1 : PS X st (tsOf κ E da)) (h2 : PSs X rest (tsOf κ E db)) : PSs X (st :: rest) (tsOf κ E (sSeq da db)) := PSsw (znv h1 h2) fun D σ H ⟨F, rel, ht, o⟩ => by
 refine ⟨F, rel, ht, ?_⟩
 unfold sSeq at o
 cases q : da F.s F.h with
 | nx s1 h1 =>
  rw [q] at o
  intro F' σ' H' e es eh r'
  refine ⟨F', r', e.tt, ?_⟩
  rw [es, eh]
  exact SOut.move e o
 | rt r h => rw [q] at o; exact o
 | bk s h => rw [q] at o; exact o
 | ct s h => rw [q] at o; exact o
 | ex x h => rw [q] at o; exact o
 | no => rw [q] at o; exact o
theorem zae {st : Stmt} {da : D3} (h1 : PS X st (tsOf κ E da)) : PSs X [st] (tsOf κ E da) := zqj h1
def sBreak : D3 := fun s h => .bk s h
def sCont : D3 := fun s h => .ct s h
theorem zb8 {α : Type} {l : List α} {i j : Nat} {x y : α} (h : (l.set i x)[j]? = some y) : (i = j ∧ y = x) ∨ (i ≠ j ∧ l[j]? = some y) := by
 rw [List.getElem?_set] at h
 by_cases e : i = j
 ·rw [if_pos e] at h
  by_cases e2 : i < l.length
  ·rw [if_pos e2] at h; exact .inl ⟨e, (Option.some.inj h).symm⟩
  ·rw [if_neg e2] at h; cases h
 ·rw [if_neg e] at h; exact .inr ⟨e, h⟩
theorem zb5 {l : List (Option Addr)} {i : Nat} {x : Option Addr} {a : Addr} (h : some a ∈ l.set i x) : (x = some a) ∨ (some a ∈ l ∧ ∃ j, j ≠ i ∧ l[j]? = some (some a)) := by
 obtain ⟨j, hj⟩ := List.getElem?_of_mem h
 rcases zb8 hj with ⟨_, e⟩ | ⟨n, e⟩
 ·exact .inl e.symm
 ·exact .inr ⟨List.mem_of_getElem? e, j, fun z => n z.symm, e⟩
abbrev Fr.setV (F : Fr) (i : Nat) (x : V3) : Fr := { F with s := F.s.set i (some (.v x)), l := F.l.set i none }
abbrev Fr.setM (F : Fr) (i : Nat) (c : C3) (p : Addr) : Fr := { F with s := F.s.set i (some (.m c)), l := F.l.set i (some p) }
abbrev Fr.setN (F : Fr) (i : Nat) : Fr := { F with s := F.s.set i none, l := F.l.set i none }
theorem zhw {F : Fr} {i : Nat} {s : S3} {a : Addr} (h : ({ F with s := s, l := F.l.set i none } : Fr).O a) : F.O a := by
 rcases h with h | h | h
 ·exact .inl h
 ·rcases zb5 h with z | z
  ·cases z
  ·exact .inr (.inl z.1)
 ·exact .inr (.inr h)
theorem Rel.setGen {F : Fr} {i : Nat} {s : S3} {σ' : St} (rel : Rel κ F σ H) (hsl : s.length = F.s.length) (hσ : σ'.length = σ.length)
  (hslot : ∀ (j : Nat) x, s[j]? = some (some x) → (∃ v, σ'[j]? = some (some v) ∧ SlotR κ ({ F with s := s, l := F.l.set i none } : Fr) H j x v)) : Rel κ { F with s := s, l := F.l.set i none } σ' H where
 heap := rel.heap.sub fun a ha => zhw ha
 slen := by show s.length = _; rw [hsl, hσ]; exact rel.slen
 llen := by show (F.l.set i none).length = s.length; rw [List.length_set, hsl]; exact rel.llen
 linj := fun j k a h1 h2 => by
  rcases zb8 h1 with ⟨_, z⟩ | ⟨_, z1⟩
  ·cases z
  ·rcases zb8 h2 with ⟨_, z⟩ | ⟨_, z2⟩
   ·cases z
   ·exact rel.linj j k a z1 z2
 lt := fun a ha => by
  rcases zb5 ha with z | z
  ·cases z
  ·exact rel.lt a z.1
 lo := fun a ha => by
  rcases zb5 ha with z | z
  ·cases z
  ·exact rel.lo a z.1
 to := rel.to
 tn := rel.tn
 slot := hslot
theorem Rel.slotNe {F : Fr} {i j : Nat} {s : S3} {x : Vl} {v : V} (hn : i ≠ j) (q : SlotR κ F H j x v) : SlotR κ ({ F with s := s, l := F.l.set i none } : Fr) H j x v := by
 cases x with
 | v x => exact Rep.sub (fun a ha => zhw ha) q
 | m c =>
  obtain ⟨a, h1, h2, h3⟩ := q
  refine ⟨a, ?_, h2, h3.sub fun a ha => zhw ha⟩
  show (F.l.set i none)[j]? = _
  rw [List.getElem?_set, if_neg hn]; exact h1
theorem Rel.setV {x : V3} {v : V} (rel : Rel κ F σ H) (hr : Rep κ F.β F.O H x v) (hi : i < F.s.length) : Rel κ (F.setV i x) (σ.set i (some v)) H := by
 refine rel.setGen (by rw [List.length_set]) (by rw [List.length_set]) fun j y hj => ?_
 rcases zb8 hj with ⟨e, z⟩ | ⟨n, z⟩
 ·subst e; cases z
  refine ⟨v, ?_, Rep.sub (fun a ha => zhw ha) hr⟩
  rw [List.getElem?_set, if_pos rfl, if_pos (by rw [← rel.slen]; exact hi)]
 ·obtain ⟨w, h1, h2⟩ := rel.slot j y z
  exact ⟨w, by rw [List.getElem?_set, if_neg n]; exact h1, Rel.slotNe n h2⟩
theorem Rel.setN {i : Nat} (rel : Rel κ F σ H) : Rel κ (F.setN i) σ H := by
 refine rel.setGen (by rw [List.length_set]) rfl fun j y hj => ?_
 rcases zb8 hj with ⟨e, z⟩ | ⟨n, z⟩
 ·cases z
 ·obtain ⟨w, h1, h2⟩ := rel.slot j y z
  exact ⟨w, h1, Rel.slotNe n h2⟩
theorem zjn {F : Fr} {i : Nat} {s : S3} {a p : Addr} (h : ({ F with s := s, l := F.l.set i (some p) } : Fr).O a) : (F.with p).O a := by
 rcases h with h | h | h
 ·exact .inl (List.mem_cons_of_mem _ h)
 ·rcases zb5 h with z | z
  ·cases z; exact .inl List.mem_cons_self
  ·exact .inr (.inl z.1)
 ·exact .inr (.inr h)
theorem Rel.setM {c : C3} (rel : Rel κ (F.with p) σ H) (hr : CellR κ F.β (F.with p).O H c p) (hi : i < F.s.length) : Rel κ (F.setM i c p) (σ.set i (some (.ref p))) H where
 heap := rel.heap.sub fun a ha => zjn ha
 slen := by show (F.s.set i _).length = _; rw [List.length_set, List.length_set]; exact rel.slen
 llen := by show (F.l.set i _).length = (F.s.set i _).length; rw [List.length_set, List.length_set]; exact rel.llen
 linj := fun j k a h1 h2 => by
  rcases zb8 h1 with ⟨e1, z1⟩ | ⟨n1, z1⟩ <;> rcases zb8 h2 with ⟨e2, z2⟩ | ⟨n2, z2⟩
  ·omega
  ·cases z1; exact absurd List.mem_cons_self (rel.lt p (List.mem_of_getElem? z2))
  ·cases z2; exact absurd List.mem_cons_self (rel.lt p (List.mem_of_getElem? z1))
  ·exact rel.linj j k a z1 z2
 lt := fun a ha z => by
  rcases zb5 ha with q | q
  ·cases q; exact (List.nodup_cons.mp rel.tn).1 z
  ·exact rel.lt a q.1 (List.mem_cons_of_mem _ z)
 lo := fun a ha => by
  rcases zb5 ha with q | q
  ·cases q; exact rel.to p List.mem_cons_self
  ·exact rel.lo a q.1
 to := fun a ha => rel.to a (List.mem_cons_of_mem _ ha)
 tn := (List.nodup_cons.mp rel.tn).2
 slot := fun j y hj => by
  rcases zb8 hj with ⟨e, z⟩ | ⟨n, z⟩
  ·subst e; cases z
   refine ⟨.ref p, ?_, p, ?_, rfl, hr.sub fun a ha => zjn ha⟩
   ·rw [List.getElem?_set, if_pos rfl, if_pos (by rw [← rel.slen]; exact hi)]
   ·show (F.l.set i _)[i]? = _
    rw [List.getElem?_set, if_pos rfl, if_pos (by have h := rel.llen; show i < F.l.length; rw [show F.l.length = F.s.length from h]; exact hi)]
  ·obtain ⟨w, h1, h2⟩ := rel.slot j y z
   refine ⟨w, by rw [List.getElem?_set, if_neg n]; exact h1, ?_⟩
   cases y with
   | v x => exact Rep.sub (fun a ha => zjn ha) h2
   | m c =>
    obtain ⟨a, q1, q2, q3⟩ := h2
    refine ⟨a, ?_, q2, q3.sub fun a ha => zjn ha⟩
    show (F.l.set i _)[j]? = _
    rw [List.getElem?_set, if_neg n]; exact q1
theorem SExt.setN {s : S3} (ht : F.T = []) : SExt F H ({ F with s := s, l := F.l.set i none } : Fr) H :=
 ⟨Ext.refl, fun a h => by
  rcases zb5 h with z | z
  ·cases z
  ·exact .inl z.1, rfl, ht⟩
def Res.bindS {α : Type} (r : Res α) (k : α → H3 → O3) : O3 := match r with
 | .ok r h => k r h
 | .ex x h => .ex x h
 | .no => .no
theorem bindS {α ω : Type} {K : Kd α ω} {a : S3 → H3 → Res α} {k : α → H3 → O3} (rel : Rel κ F σ H) (ht : F.T = []) (o : SOut κ E F H D ((a F.s F.h).bindS k)) :
  tOf κ E K a σ H (fun w H1 => ∃ β1 h1 x, Ext No F.β H β1 H1 ∧ K H (F.to β1 h1) σ H1 x w ∧ SOut κ E F H D (k x h1)) := by
 refine ⟨F, rel, ?_⟩
 cases q : a F.s F.h with
 | no => rw [q] at o; exact o
 | ex x h1 => rw [q] at o; exact fun β' H' e r => o (F.to β' h1) H' (SExt.of0 ht e) r
 | ok r h1 => rw [q] at o; exact fun β1 v H1 e p => ⟨β1, h1, r, e, p, o⟩
def sSet (i : Nat) (e : E3) : D3 := fun s h => (e s h).bindS fun r h1 => if i < s.length then .nx (s.set i (some r)) h1 else .no
theorem zpj {d : E3} (h : tsOf κ E (sSet i d) D σ H) : teOf κ E d σ H (fun v H1 => D.nx (σ.set i (some v)) H1) := by
 obtain ⟨F, rel, ht, o⟩ := h
 refine (bindS (K := kE κ) rel ht o).mono fun v H1 ⟨β1, h1, r, e1, p1, o⟩ => ?_
 by_cases hi : i < F.s.length
 ·rw [if_pos hi] at o
  cases r with
  | v x =>
   obtain ⟨r1, r2⟩ := p1
   exact o ((F.to β1 h1).setV i x) _ H1 ((SExt.of0 (h' := h1) ht e1).trans (SExt.setN ht)) rfl rfl (r1.setV r2 hi)
  | m c =>
   obtain ⟨p, rfl, r1, r2, hp⟩ := p1
   refine o ((F.to β1 h1).setM i c p) _ H1 ?_ rfl rfl (r1.setM r2 hi)
   exact ⟨(SExt.of0 (h' := h1) ht e1).ext, fun a ha => by
    rcases zb5 ha with z | z
    ·cases z; exact .inr hp
    ·exact .inl z.1, rfl, ht⟩
 ·rw [if_neg hi] at o; exact o.elim
theorem zap {x : Str} {pos' : Pos} {d : E3} (hN : X.N.Nodup) (hi : X.N[i]? = some x) (hx : Loc X.env.scope x) (he : PE X e (teOf κ E d)) (hs : swapsWith e (some (.Name x pos')) pos.line X.env = pure false := by rfl)
  (hf : X.fn x = true ∨ X.env.scope.names.lookup x = some .local := by first | exact .inl rfl | exact .inr rfl | assumption) : PS X (.Assign [.Name x pos'] e pos) (tsOf κ E (sSet i d)) := PSw (zrx hN hi hx he hs hf) fun D σ H h => zpj h
def sExp (e : E3) : D3 := fun s h => (e s h).bindS fun _ h1 => .nx s h1
theorem zso {d : E3} (he : PE X e (teOf κ E d)) (hs : swapsWith e none pos.line X.env = pure false := by rfl) : PS X (.Expr e pos) (tsOf κ E (sExp d)) := PSw (zim he hs) fun D σ H ⟨F, rel, ht, o⟩ =>
 (bindS (K := kE κ) rel ht o).mono fun v H1 ⟨β1, h1, r, e1, p1, o⟩ => by
  have r1 : Rel κ (F.to β1 h1) σ H1 := by
   cases r with
   | v x => exact p1.1
   | m c => obtain ⟨p, _, r1, _⟩ := p1; exact Rel.drop r1
  exact o (F.to β1 h1) σ H1 (SExt.of0 ht e1) rfl rfl r1
def sRet (e : E3) : D3 := fun s h => (e s h).bindS fun r h1 => .rt r h1
theorem zau {d : E3} (he : PE X e (teOf κ E d)) : PS X (.Return (some e) pos) (tsOf κ E (sRet d)) := PSw (zpn he) fun D σ H ⟨F, rel, ht, o⟩ =>
 (bindS (K := kE κ) rel ht o).mono fun v H1 ⟨β1, h1, r, e1, p1, o⟩ => o (F.to β1 h1) σ v H1 (SExt.of0 ht e1) rfl (p1.imp fun p hp => .inr hp)
def sRetN : D3 := fun _ h => .rt (.v .non) h
theorem Rel.take {c : C3} (rel : Rel κ F σ H) (hl : F.l[i]? = some (some p)) : Rel κ ((F.setN i).with p) σ H := by
 have r1 := rel.setN (i := i)
 have ho : ∀ a, ((F.setN i).with p).O a → F.O a := fun a ha => by
  rcases ha with z | z
  ·rcases List.mem_cons.mp z with z | z
   ·subst z; exact .inr (.inl (List.mem_of_getElem? hl))
   ·exact .inl z
  ·rcases z with z | z
   ·rcases zb5 z with w | w
    ·cases w
    ·exact .inr (.inl w.1)
   ·exact .inr (.inr z)
 have hb : ∀ a, some a ∈ F.l.set i none → a ≠ p := fun a ha z => by
  subst z
  rcases zb5 ha with w | ⟨_, j, hj, w⟩
  ·cases w
  ·exact hj (rel.linj j i a w hl)
 refine ⟨rel.heap.sub ho, r1.slen, r1.llen, r1.linj, fun a ha z => ?_, r1.lo, fun a ha z => ?_, List.nodup_cons.mpr ⟨fun z => rel.lt p (List.mem_of_getElem? hl) z, rel.tn⟩, fun j y hj => ?_⟩
 ·rcases List.mem_cons.mp z with z | z
  ·exact hb a ha z
  ·exact r1.lt a ha z
 ·rcases List.mem_cons.mp ha with h | h
  ·subst h; exact rel.lo a (List.mem_of_getElem? hl) z
  ·exact rel.to a h z
 ·rcases zb8 hj with ⟨_, z⟩ | ⟨n, z⟩
  ·cases z
  ·obtain ⟨w, h1, h2⟩ := rel.slot j y z
   refine ⟨w, h1, ?_⟩
   cases y with
   | v x => exact Rep.sub ho h2
   | m c =>
    obtain ⟨a, q1, q2, q3⟩ := h2
    refine ⟨a, ?_, q2, q3.sub ho⟩
    show (F.l.set i none)[j]? = _
    rw [List.getElem?_set, if_neg n]; exact q1
theorem ztu {a : Addr} (hl : F.l[i]? = some (some p)) (ha : ((F.setN i).with p).O a) : F.O a := by
 rcases ha with z | z
 ·rcases List.mem_cons.mp z with z | z
  ·subst z; exact .inr (.inl (List.mem_of_getElem? hl))
  ·exact .inl z
 ·rcases z with z | z
  ·rcases zb5 z with w | w
   ·cases w
   ·exact .inr (.inl w.1)
  ·exact .inr (.inr z)
def sRetS (i : Nat) : D3 := fun s h => match s[i]? with
 | some (some r) => .rt r h
 | _ => .no
theorem zcw (hv : PE X e (tVar i)) : PS X (.Return (some e) pos) (tsOf κ E (sRetS i)) := PSw (zpn hv) fun D σ H ⟨F, rel, ht, o⟩ => by
 unfold sRetS at o
 cases q : F.s[i]? with
 | none => rw [q] at o; exact o.elim
 | some z =>
  rw [q] at o
  match z, q, o with
  | none, q, o => exact o.elim
  | some (.v x), q, o =>
   obtain ⟨v, h1, h2⟩ := rel.slot i _ q
   exact ⟨v, h1, o F σ v H (.refl ht) rfl ⟨rel, h2⟩⟩
  | some (.m c), q, o =>
   obtain ⟨v, h1, a, h2, h3, h4⟩ := rel.slot i _ q
   subst h3
   exact ⟨_, h1, o (F.setN i) σ (.ref a) H (SExt.setN ht) rfl ⟨a, rfl, Rel.take (c := c) rel h2, h4.sub fun b hb => ztu h2 hb, .inl (List.mem_of_getElem? h2)⟩⟩
def sFz (i : Nat) : D3 := fun s h => match s[i]? with
 | some (some (.m c)) => match c.fz with
  | some x => .nx (s.set i (some (.v x))) h
  | none => .no
 | _ => .nx s h
theorem zvg {d : D3} (h : tsOf κ E (sSeq (sFz i) d) D σ H) : tsOf κ E d D σ H := by
 obtain ⟨F, rel, ht, o⟩ := h
 unfold sSeq sFz at o
 have same : (match (F.s[i]? : Option (Option Vl)) with | some (some (.m c)) => False | _ => True) → SOut κ E F H D (d F.s F.h) → tsOf κ E d D σ H := fun _ o => ⟨F, rel, ht, o⟩
 cases q : F.s[i]? with
 | none => rw [q] at o same; exact same trivial o
 | some z =>
  rw [q] at o same
  match z, q, o, same with
  | none, q, o, same => exact same trivial o
  | some (.v x), q, o, same => exact same trivial o
  | some (.m c), q, o, same =>
   cases z : c.fz with
   | none => simp only [z] at o; exact o.elim
   | some x =>
    simp only [z] at o
    obtain ⟨v, h1, a, h2, h3, h4⟩ := rel.slot i _ q
    subst h3
    have hi : i < F.s.length := (List.getElem?_eq_some_iff.mp q).1
    have rt := Rel.take (c := c) rel h2
    have rep : Rep κ F.β (F.setN i).O H x (.ref a) := (h4.sub (O' := (F.setN i).O) fun b hb => zhw hb).fz z rt.offp rt.apart
    have r2 := (rel.setN (i := i)).setV (i := i) (x := x) (v := .ref a) rep (by show i < (F.s.set i none).length; rw [List.length_set]; exact hi)
    have e1 : (F.setN i).setV i x = F.setV i x := by
     show ({ F with s := (F.s.set i none).set i _, l := (F.l.set i none).set i none } : Fr) = { F with s := F.s.set i _, l := F.l.set i none }
     rw [List.set_set, List.set_set]
    have e2 : σ.set i (some (.ref a)) = σ := by
     apply List.ext_getElem? ; intro j
     rw [List.getElem?_set]
     by_cases hj : i = j
     ·subst hj; rw [if_pos rfl, if_pos (by rw [← rel.slen]; exact hi), h1]
     ·rw [if_neg hj]
    rw [e1, e2] at r2
    exact ⟨F.setV i x, r2, ht, SOut.move (SExt.setN ht) o⟩
theorem zbn {sts : List Stmt} {d : D3} (i : Nat) (h : PSs X sts (tsOf κ E d)) : PSs X sts (tsOf κ E (sSeq (sFz i) d)) := PSsw h fun D σ H q => zvg q
def sIf (t : T3) (a b : D3) : D3 := fun s h => (t s h).bindS fun c h1 => if c = true then a s h1 else b s h1
theorem zbf {c : Expr} {sa sb : List Stmt} {t : T3} {da db : D3} (hc : PT X c (ttOf κ E t)) (ha : PSs X sa (tsOf κ E da)) (hb : PSs X sb (tsOf κ E db)) : PS X (.If c sa sb pos) (tsOf κ E (sIf t da db)) := PSw (zu5 hc ha hb) fun D σ H ⟨F, rel, ht, o⟩ =>
 (bindS (K := kT κ) rel ht o).mono fun c H1 ⟨β1, h1, x, e1, ⟨ec, r1⟩, o1⟩ => by
  subst ec
  have mv := SExt.of0 (h' := h1) ht e1
  cases c with
  | true => rw [if_pos rfl] at o1 ⊢; exact ⟨F.to β1 h1, r1, ht, SOut.move mv o1⟩
  | false => rw [if_neg Bool.false_ne_true] at o1 ⊢; exact ⟨F.to β1 h1, r1, ht, SOut.move mv o1⟩
def sNever : D3 := fun _ _ => .no
theorem zna {st : Stmt} : PS X st (tsOf κ E sNever) := PSw zos fun D σ H ⟨F, rel, ht, o⟩ => o
abbrev G3 := V3 → S3 → Option S3
abbrev Gs3 := List V3 → S3 → Option S3
def gN (i : Nat) : G3 := fun x s => if i < s.length then some (s.set i (some (.v x))) else none
def gsNil : Gs3 := fun xs s => match xs with
 | [] => some s
 | _ => none
def gsCons (g : G3) (gs : Gs3) : Gs3 := fun xs s => match xs with
 | x :: r => (g x s).bind fun s1 => gs r s1
 | [] => none
def gT (gs : Gs3) : G3 := fun x s => match x with
 | .tup xs => gs xs s
 | _ => none
def gL (gs : Gs3) : G3 := fun x s => match x with
 | .lst xs => gs xs s
 | _ => none
def tgOf (κ : Kx) (g : G3) : TG := fun v σ H Q => ∃ F x s', Rel κ F σ H ∧ F.T = [] ∧ Rep κ F.β F.O H x v ∧ g x F.s = some s' ∧ ∀ F' σ', SExt F H F' H → F'.β = F.β → F'.s = s' → F'.h = F.h → Rel κ F' σ' H → Q σ' H
def zm9 (κ : Kx) (g : Gs3) : TGs := fun vs σ H Q => ∃ F xs s', Rel κ F σ H ∧ F.T = [] ∧ Reps κ F.β F.O H xs vs ∧ g xs F.s = some s' ∧ ∀ F' σ', SExt F H F' H → F'.β = F.β → F'.s = s' → F'.h = F.h → Rel κ F' σ' H → Q σ' H
theorem PGw {tg : Expr} {t t' : TG} (h : PG X tg t) (w : ∀ v σ H Q, t' v σ H Q → t v σ H Q) : PG X tg t' := fun pins s σ H v u Q I r q => h pins s σ H v u Q I r (w v σ H Q q)
theorem PGsw {tg : List Expr} {t t' : TGs} (h : PGs X tg t) (w : ∀ v σ H Q, t' v σ H Q → t v σ H Q) : PGs X tg t' := fun pins s σ H v u Q I r q => h pins s σ H v u Q I r (w v σ H Q q)
theorem zpa {a : Addr} {o : HO} (e : SExt F H F' H') (ha : H a = some o) (n : ¬ F.O a) : ¬ F'.O a := fun z => by
 rcases z with z | z | z
 ·rw [e.tt] at z; cases z
 ·rcases e.lam a z with w | w
  ·exact n (.inr (.inl w))
  ·rw [ha] at w; cases w
 ·rw [e.oi] at z; exact n (.inr (.inr z))
theorem Rep.sext {x : V3} {v : V} (e : SExt F H F' H') (r : Rep κ F.β F.O H x v) : Rep κ F'.β F'.O H' x v := r.ext e.ext (fun a h => .inr (.inl h)) fun a o ha n => zpa e ha n
theorem Reps.sext {x : List V3} {v : List V} (e : SExt F H F' H') (r : Reps κ F.β F.O H x v) : Reps κ F'.β F'.O H' x v := r.ext e.ext (fun a h => .inr (.inl h)) fun a o ha n => zpa e ha n
theorem zah {tg : Expr} (h : PG X tg (zm5 i)) : PG X tg (tgOf κ (gN i)) := PGw h fun v σ H Q ⟨F, x, s', rel, ht, r, e, k⟩ => by
 unfold gN at e
 by_cases hi : i < F.s.length
 ·rw [if_pos hi] at e; cases e
  exact k (F.setV i x) _ (SExt.setN ht) rfl rfl rfl (rel.setV r hi)
 ·rw [if_neg hi] at e; cases e
theorem zcj : PGs X [] (zm9 κ gsNil) := PGsw zq5 fun v σ H Q ⟨F, xs, s', rel, ht, r, e, k⟩ => by
 cases r with
 | nil => cases e; exact ⟨rfl, k F σ (.refl ht) rfl rfl rfl rel⟩
 | cons _ _ => cases e
theorem zal {es : List Expr} {g : G3} {gs : Gs3} (h1 : PG X e (tgOf κ g)) (h2 : PGs X es (zm9 κ gs)) (hh : ∀ {t : TG} {u : TGs}, PG X e t → PGs X es u → PGs X (e :: es) (ztz t u)) : PGs X (e :: es) (zm9 κ (gsCons g gs)) := PGsw (hh h1 h2) fun v σ H Q ⟨F, xs, s', rel, ht, r, e, k⟩ => by
 cases r with
 | nil => cases e
 | @cons x y xs ys a b =>
  cases q : g x F.s with
  | none => simp only [gsCons, q] at e; cases e
  | some s1 =>
   simp only [gsCons, q] at e
   refine ⟨y, ys, rfl, F, x, s1, rel, ht, a, q, fun F1 σ1 e1 b1 s1' h1 r1 => ?_⟩
   have e : gs xs s1 = some s' := e
   refine ⟨F1, xs, s', r1, e1.tt, b.sext e1, by rw [s1']; exact e, fun F2 σ2 e2 b2 s2' h2 r2 => ?_⟩
   exact k F2 σ2 (e1.trans e2) (b2.trans b1) s2' (h2.trans h1) r2
theorem zdj {tg : Expr} {gs : Gs3} {n : Nat} (h : PG X tg (gTup X.K n (zm9 κ gs))) (hn : ∀ xs s s', gs xs s = some s' → xs.length = n) : PG X tg (tgOf κ (gT gs)) := PGw h fun v σ H Q ⟨F, x, s', rel, ht, r, e, k⟩ => by
 unfold gT at e
 cases x <;> first | cases e | skip
 cases r with
 | tup h1 h2 h3 h4 => exact ⟨_, _, rfl, .of h1, by rw [← h4.length]; exact hn _ _ _ e, F, _, s', rel, ht, h4, e, k⟩
def sAsg (g : G3) (e : E3) : D3 := fun s h => (e s h).bindS fun r h1 => match r.fz with
 | some x => match g x s with
  | some s1 => .nx s1 h1
  | none => .no
 | none => .no
theorem zs9 {d : E3} {g : G3} (h : tsOf κ E (sAsg g d) D σ H) : tAsg (teOf κ E d) (tgOf κ g) D σ H := by
 obtain ⟨F, rel, ht, o⟩ := h
 refine (bindS (K := kE κ) rel ht o).mono fun v H1 ⟨β1, h1, r, e1, p1, o⟩ => ?_
 cases z : r.fz with
 | none => simp only [z] at o; exact o.elim
 | some x =>
  simp only [z] at o
  cases w : g x F.s with
  | none => rw [w] at o; exact o.elim
  | some s1 =>
   rw [w] at o
   obtain ⟨r1, r2⟩ := Post.fz p1 z
   exact ⟨F.to β1 h1, x, s1, r1, ht, r2, w, fun F' σ' e' b' s' h' r' => o F' σ' H1 ((SExt.of0 (h' := h1) ht e1).trans e') s' h' r'⟩
theorem zjs {tg : Expr} {d : E3} {g : G3} (he : PE X e (teOf κ E d)) (hg : PG X tg (tgOf κ g)) (hh : ∀ {te : TE} {g : TG}, PE X e te → PG X tg g → PS X (.Assign [tg] e pos) (tAsg te g)) : PS X (.Assign [tg] e pos) (tsOf κ E (sAsg g d)) := PSw (hh he hg) fun D σ H h => zs9 h
end
end L3
set_option Elab.async false
set_option linter.all false
set_option maxRecDepth 100000
namespace L3
open PySem L2
structure It3 where
 its : List V3
 xs : List V3
 ok : H3 → Prop
def IR (κ : Kx) (it : It3) (vs : List V) (J : It) : Prop := ∀ (F : Fr) (σ : St) (H : Hp), Rel κ F σ H → Reps κ F.β F.O H it.its vs → it.ok F.h → ∀ i : Nat,
 (i < it.xs.length → J.go i H ∧ ∀ x H', J.yld i H x H' → ∃ x3, it.xs[i]? = some x3 ∧ Ext No F.β H F.β H' ∧ Rel κ F σ H' ∧ Rep κ F.β F.O H' x3 x) ∧ (it.xs.length ≤ i → J.stop i H)
abbrev I3 := S3 → H3 → Res It3
def kI (κ : Kx) : Kd It3 It := fun _ F σ H' it J => Rel κ F σ H' ∧ ∃ vs, Reps κ F.β F.O H' it.its vs ∧ IR κ it vs J
abbrev tiOf (κ : Kx) (E : XK) (d : I3) : TI := tOf κ E (kI κ) d
open Classical in
noncomputable def forC (ok : H3 → Prop) (g : G3) (b : D3) : List V3 → S3 → H3 → O3
 | [], s, h => if ok h then .nx s h else .no
 | x :: r, s, h => if ok h then match g x s with
  | none => .no
  | some s1 => match b s1 h with
   | .nx s2 h2 => forC ok g b r s2 h2
   | .ct s2 h2 => forC ok g b r s2 h2
   | .bk s2 h2 => .nx s2 h2
   | o => o
  else .no
noncomputable def sFor (it : I3) (g : G3) (b : D3) : D3 := fun s h => (it s h).bindS fun I h1 => forC I.ok g b I.xs s h1
def whl (t : T3) (b : D3) : Nat → S3 → H3 → Option O3
 | 0, _, _ => none
 | n + 1, s, h => match t s h with
  | .no => some .no
  | .ex x h1 => some (.ex x h1)
  | .ok false h1 => some (.nx s h1)
  | .ok true h1 => match b s h1 with
   | .nx s2 h2 => whl t b n s2 h2
   | .ct s2 h2 => whl t b n s2 h2
   | .bk s2 h2 => some (.nx s2 h2)
   | o => some o
open Classical in
noncomputable def sWhile (t : T3) (b : D3) : D3 := fun s h => if hh : ∃ o n, whl t b n s h = some o then Classical.choose hh else .no
section
variable {X : Cx} {κ : Kx} {E : XK} {F F1 F2 F' : Fr} {σ σ' : St} {H H1 H2 H' : Hp} {Q : VK} {p : Addr} {e a b : Expr} {pos : Pos} {i : Nat} {D : Ends}
theorem km_I : zhn (kI κ) := fun _ _ _ _ _ _ _ _ _ _ _ h => h
theorem ztq {it : I3} {g : G3} {b : D3} (h : tsOf κ E (sFor it g b) D σ H) : tFor (tiOf κ E it) (tgOf κ g) (tsOf κ E b) D σ H := by
 obtain ⟨F, rel, ht, o⟩ := h
 refine (bindS (K := kI κ) rel ht o).mono fun J H1 ⟨β1, h1, I, e1, ⟨r1, vs, rv, ir⟩, o1⟩ => ?_
 refine ⟨fun i m σ H => m = I.xs.length - i ∧ i ≤ I.xs.length ∧ ∃ Fk, Rel κ Fk σ H ∧ Fk.T = [] ∧ Reps κ Fk.β Fk.O H I.its vs ∧ SOut κ E Fk H D (forC I.ok g b (I.xs.drop i) Fk.s Fk.h), ⟨_, rfl, Nat.zero_le _, F.to β1 h1, r1, ht, rv, SOut.move (SExt.of0 (h' := h1) ht e1) o1⟩, ?_⟩
 rintro i m σ' H' ⟨rfl, hi, Fk, rk, tk, vk, ok⟩
 by_cases hok : I.ok Fk.h
 case neg =>
  exfalso
  cases q : I.xs.drop i with
  | nil => rw [q] at ok; unfold forC at ok; rw [if_neg hok] at ok; exact ok
  | cons x r => rw [q] at ok; unfold forC at ok; rw [if_neg hok] at ok; exact ok
 obtain ⟨i1, i2⟩ := ir Fk σ' H' rk vk hok i
 by_cases hlt : i < I.xs.length
 ·obtain ⟨go, yl⟩ := i1 hlt
  refine .inr ⟨go, fun σ2 H2 => ∃ F2, Rel κ F2 σ2 H2 ∧ F2.T = [] ∧ Reps κ F2.β F2.O H2 I.its vs ∧ SOut κ E F2 H2 D (forC I.ok g b (I.xs.drop (i + 1)) F2.s F2.h), fun σ2 H2 n2 => ⟨_, by omega, rfl, hlt, n2⟩, fun x H'' y => ?_⟩
  obtain ⟨x3, ex, ey, ry, rp⟩ := yl x H'' y
  have hd : I.xs.drop i = x3 :: I.xs.drop (i + 1) := by
   rw [List.drop_eq_getElem_cons hlt]
   congr 1
   rw [List.getElem?_eq_getElem hlt] at ex
   exact Option.some.inj ex
  rw [hd] at ok
  have ok := SOut.move (SExt.of0 (h' := Fk.h) tk ey) ok
  unfold forC at ok
  rw [if_pos hok] at ok
  cases w : g x3 Fk.s with
  | none => simp only [w] at ok; exact ok.elim
  | some s1 =>
   simp only [w] at ok
   refine ⟨Fk, x3, s1, ry, tk, rp, w, fun F3 σ3 e3 b3 s3 h3 r3 => ?_⟩
   refine ⟨F3, r3, e3.tt, ?_⟩
   rw [s3, h3]
   have ok := SOut.move e3 ok
   have ev : Reps κ F3.β F3.O H'' I.its vs := (vk.ext0 ey).sext e3
   cases q : b s1 Fk.h with
   | nx s2 h2 => simp only [q] at ok; exact fun F4 σ4 H4 e4 s4 h4 r4 => ⟨F4, r4, e4.tt, ev.sext e4, by rw [s4, h4]; exact SOut.move e4 ok⟩
   | ct s2 h2 => simp only [q] at ok; exact fun F4 σ4 H4 e4 s4 h4 r4 => ⟨F4, r4, e4.tt, ev.sext e4, by rw [s4, h4]; exact SOut.move e4 ok⟩
   | bk s2 h2 => simp only [q] at ok; exact ok
   | rt r h2 => simp only [q] at ok; exact ok
   | ex x h2 => simp only [q] at ok; exact ok
   | no => simp only [q] at ok; exact ok
 ·have hi : i = I.xs.length := by omega
  subst hi
  rw [List.drop_length] at ok
  unfold forC at ok
  rw [if_pos hok] at ok
  exact .inl ⟨i2 (Nat.le_refl _), ok Fk σ' H' (.refl tk) rfl rfl rk⟩
theorem zcl {tg iter : Expr} {body : List Stmt} {it : I3} {g : G3} {b : D3} (hp : PassesOwn (model X.prog X.w) X.A X.env X.xe) (hc : X.calm = true) (hi : PI X tg iter (tiOf κ E it)) (hg : PG X tg (tgOf κ g)) (hb : PSs X body (tsOf κ E b))
  (hs : ∀ x, foldedSetIterable iter X.env x = pure x := by intro _; rfl) : PS X (.For tg iter body [] pos) (tsOf κ E (sFor it g b)) := PSw (zrm hp hc hi hg hb hs) fun D σ H h => ztq h
def zb3 (h : H3) : V3 → Option (List V3 × (H3 → Prop))
 | .lst xs => some (xs, fun _ => True)
 | .scr ns => some (ns.map .int, fun _ => True)
 | .loc n => match h[n]? with
  | some (.lst xs) => some (xs, fun h => h[n]? = some (.lst xs))
  | _ => none
 | _ => none
theorem zsb {F : Fr} {σ : St} {H : Hp} {x : V3} {xs : List V3} {v : V} (rel : Rel κ F σ H) (r : Rep κ F.β F.O H x v) (e : rdl F.s F.h (.x x) = some xs) : ∃ a ys, v = .ref a ∧ SqL κ.K H a ys ∧ Reps κ F.β F.O H xs ys := zel (f := .x x) rel r e
theorem zeg {h : H3} {x : V3} {xs : List V3} {ok : H3 → Prop} (e : zb3 h x = some (xs, ok)) : ok h ∧ ∀ s h', ok h' → rdl s h' (.x x) = some xs := by
 cases x <;> simp [zb3] at e
 case lst zs => obtain ⟨rfl, rfl⟩ := e; exact ⟨trivial, fun _ _ _ => rfl⟩
 case scr ns => obtain ⟨rfl, rfl⟩ := e; exact ⟨trivial, fun _ _ _ => rfl⟩
 case loc n =>
  cases q : h[n]? with
  | none => rw [q] at e; cases e
  | some c =>
   rw [q] at e
   cases c <;> simp at e
   obtain ⟨rfl, rfl⟩ := e
   exact ⟨q, fun s h' hh => by simp only [rdl, hh]⟩
theorem zgg {F : Fr} {σ : St} {H : Hp} {h : H3} {x : V3} {xs : List V3} {ok : H3 → Prop} {v : V} (e : zb3 h x = some (xs, ok)) (rel : Rel κ F σ H) (r : Rep κ F.β F.O H x v) (hk : ok F.h) : ∃ a ys, v = .ref a ∧ SqL κ.K H a ys ∧ Reps κ F.β F.O H xs ys := zsb rel r ((zeg e).2 _ _ hk)
theorem PIw {tg iter : Expr} {t t' : TI} (h : PI X tg iter t) (w : ∀ σ H R, t' σ H R → t σ H R) : PI X tg iter t' := fun pins s σ H R I q => h pins s σ H R I (w σ H R q)
def iL (p : P3) : I3 := fun s h => (p s h).bind fun f h1 => match f with
 | .x x => match zb3 h1 x with
  | some (xs, ok) => .ok ⟨[x], xs, ok⟩ h1
  | none => .no
 | _ => .no
theorem zb1 {tg l : Expr} {d : P3} (hK : X.K = κ.K) (hl : PE X l (tpOf κ E d)) : PI X tg l (tiOf κ E (iL d)) := PIw (zqm hl) fun σ H R ⟨F, rel, o⟩ =>
 (za9 (K := kP κ) km_I rel o).mono fun v H1 ⟨β1, h1, f, e1, ⟨r1, rf⟩, o1⟩ => by
  rw [hK]
  match f, rf, o1 with
  | .s _, rf, o1 => exact o1.elim
  | .x x, rf, o1 =>
   cases q : zb3 h1 x with
   | none => simp only [q] at o1; exact o1.elim
   | some w =>
    obtain ⟨xs, ok⟩ := w
    simp only [q] at o1
    have rf : Rep κ β1 F.O H1 x v := rf
    obtain ⟨a, ys, ev, sq, rs⟩ := zgg (F := F.to β1 h1) q r1 rf (zeg q).1
    subst ev
    refine ⟨a, rfl, ⟨ys, sq⟩, o1 β1 _ H1 Ext.refl ⟨r1, [.ref a], .cons rf .nil, fun F' σ' H' rel' r' hk i => ?_⟩⟩
    cases r' with
    | cons r'' _ =>
     obtain ⟨a', ys', ev', sq', rs'⟩ := zgg q rel' r'' hk
     cases ev'
     refine ⟨fun hi => ⟨?_, fun y H' ⟨e, yl⟩ => ?_⟩, fun hi => ⟨ys', sq', by rw [← rs'.length]; exact hi⟩⟩
     ·obtain ⟨y, hy, _⟩ := rs'.get (i := i) (List.getElem?_eq_getElem hi)
      exact ⟨ys', y, sq', hy⟩
     ·subst e
      obtain ⟨x3, h1, h2⟩ := rs'.get' (yl ys' sq')
      exact ⟨x3, h1, Ext.refl, rel', h2⟩
end
end L3
set_option Elab.async false
set_option linter.all false
set_option maxRecDepth 100000
namespace L2
open PySem PySem.Spec PyProof.Rows
def Trc (h : Heap) (a T : Addr) (cls a0 : Value) : Prop :=
 ∃ oe vs oT ts, h.get? a = some oe ∧ (oe.cls = cls ∧ vs[0]? = some a0) ∧ oe.data = .fields vs ∧ vs[1]? = some (.ref T) ∧ T ≠ a ∧ h.get? T = some oT ∧ oT.data = .fields ts ∧ ts[3]? = some .none
structure Left (l : List Env) (hid : List Addr) (a T' : Addr) (cls a0 : Value) (h h' : Heap) : Prop where
 keep : ∀ b o, h.get? b = some o → b ∉ hid → h'.get? b = some o
 slot : ∀ b o, h.get? b = some o → b ∈ frs l → ∃ sl, h'.get? b = some { o with slots := sl }
 trc : Trc h' a T' cls a0
 new : ∀ b o, h.get? b = some o → b ∉ hid → b ≠ T'
 nfr : T' ∉ frs l
section
variable {M : Model} {A : Around} {E : Value → Shared → Prop} {s : Shared} {base : Heap} {env : Env} {outer : List Env} {L a T : Addr} {cls a0 : Value} {Q : Unit → Shared → Prop}
theorem zrf {l : List Env} : ∀ env ∈ l, ∀ b, env.frame = some b → b ∈ frs l := fun env he b hb => List.mem_filterMap.mpr ⟨env, he, hb⟩
theorem zq4 {l : List Env} {hid : List Addr} {h h' : Heap} (hf : ∀ b ∈ frs l, b ∈ hid) (hl : h.FunFrames base l) (x : Heap.LeftW (PySem.W.hideAll h hid) l a cls a0 h h') : ∃ T', Left l hid a T' cls a0 h h' := by
 obtain ⟨x1, x2, x3, x4⟩ := x
 obtain ⟨oe, vs, T', oT, ts, t1, t2, t3, t4, t5, t6, t7, t8, t9⟩ := x3
 have kp : ∀ b o, h.get? b = some o → b ∉ hid → (PySem.W.hideAll h hid).get? b = some o := fun b o e n => PySem.W.hideAll_get hid e n
 refine ⟨T', fun b o e n => x1 b o (kp b o e n), fun b o e hb => ?_, ⟨oe, vs, oT, ts, t1, t2, t3, t4, t6, t7, t8, t9⟩, fun b o e n z => ?_, fun hb => ?_⟩
 ·refine x4 b o e fun vs hv => ?_
  obtain ⟨_, o', ho', hn⟩ := hl.mem hb
  rw [e] at ho'
  cases ho'
  exact hn vs hv
 ·have := kp b o e n
  rw [z, t5] at this
  cases this
 ·obtain ⟨_, o', ho', hn⟩ := x2.mem hb
  rw [t7] at ho'
  cases ho'
  exact hn ts t8
theorem znk (hfr : A.frames = some (env :: outer)) (hl : s.heap.FunFrames base (env :: outer)) (hf : env.frame = some L) (tr : Trc s.heap a T cls a0)
  (hQ : ∀ h' T', Left (env :: outer) (a :: T :: frs (env :: outer)) a T' cls a0 s.heap h' → Q () { s with heap := h' }) : wpAny M A (leaving env (.ref a)) Q E s := by
 obtain ⟨oe, vs, oT, ts, t1, t2, t3, t4, t6, t7, t8, t9⟩ := tr
 have hid : ∀ b ∈ frs (env :: outer), b ∈ a :: T :: frs (env :: outer) := fun b hb => .tail _ (.tail _ hb)
 refine wpAny_leaving_nextW (base := PySem.W.hideAll s.heap (a :: T :: frs (env :: outer))) (cls := cls) (a0 := a0) hfr (PySem.W.funFrames_hide hl fun e he b hb => hid b (zrf e he b hb)) hf
  ⟨oe, vs, T, oT, ts, t1, t2, t3, t4, PySem.W.hideAll_none _ (.tail _ (.head _)), t6, t7, t8, t9⟩ (fun b o q => PySem.W.of_hideAll _ q) (PySem.W.hideAll_none _ (.head _)) fun h' x => ?_
 obtain ⟨T', y⟩ := zq4 hid hl x
 exact hQ h' T' y
end
theorem HOk.there {P : Program} {w : World} {H : Hp} {h : Heap} {a : Addr} {o : HO} (x : HOk P w H h) (q : H a = some o) : ∃ ob, h.get? a = some ob := by
 have this := x a o q
 cases e : h.get? a with
 | some ob => exact ⟨ob, rfl⟩
 | none =>
  exfalso
  cases o with
  | lst xs => obtain ⟨_, _, _, _, z⟩ := this; rw [e] at z; cases z
  | tup xs => obtain ⟨_, _, _, o1, z, _⟩ := this; rw [e] at z; cases z
  | dK kvs => obtain ⟨_, _, _, _, o, _, _, z, _⟩ := this; rw [e] at z; cases z
  | dT kvs => obtain ⟨_, _, _, _, o, _, _, z, _⟩ := this; rw [e] at z; cases z
  | set S n => obtain ⟨o, _, _, _, z, _⟩ := this; rw [e] at z; cases z
  | ins C dx fs => obtain ⟨_, _, _, z, _⟩ := this; rw [e] at z; cases z
  | own y => obtain ⟨_, z⟩ := this; rw [e] at z; cases z
  | xd fs => obtain ⟨_, ⟨_, _, _, z, _⟩, _⟩ := this; rw [e] at z; cases z
  | rng lo hi => obtain ⟨_, _, _, z⟩ := this; rw [e] at z; cases z
  | frz ob u => obtain ⟨z, _⟩ := this; rw [e] at z; cases z
  | tbl ps => have z : h.get? a = some _ := this; rw [e] at z; cases z
  | met f y => have z : h.get? a = some _ := this; rw [e] at z; cases z
  | ext φ => obtain ⟨_, ⟨_, z⟩, _⟩ := this; rw [e] at z; cases z
def XT (P : Program) (w : World) : CXT := fun outer H s E e s' => ∃ (a T : Addr) (cls a0 : Value) (H' : Hp), e = .ref a ∧ s'.os = s.os ∧ AllBare s'.gens ∧ Un (frs outer) [] H H' s.heap s'.heap ∧ HOk P w H' s'.heap ∧
 s.heap.get? a = none ∧ s.heap.get? T = none ∧ H' a = none ∧ H' T = none ∧ Trc s'.heap a T cls a0 ∧ E cls none H'
section
variable {P : Program} {w : World} {K : PySem.W.Frag} {mg : Str → Option Value} {base : Heap} {N : List Str} {qual : Str} {scope : Scope} {f : Addr} {cd : Value} {A : Around} {outer : List Env} {s0 : Shared} {H0 : Hp} {E : XK}
theorem Inv.left {X : Cx} {pins : List (Addr × Obj)} {σ : St} {H : Hp} {s : Shared} {hid : List Addr} {a T' : Addr} {cls a0 : Value} {h' : Heap} (hst : X.stack = X.env :: X.outer) (hex : X.ex = []) (I : Inv X pins σ H s) (y : Left X.stack hid a T' cls a0 s.heap h')
  (hh : ∀ b ∈ hid, (b ∈ frs X.stack ∨ X.s₀.heap.get? b = none) ∧ H b = none) :
  Un X.fs [] X.H₀ H X.s₀.heap h' ∧ HOk X.prog X.w H h' ∧ X.s₀.heap.get? T' = none ∧ H T' = none := by
 have hfo : ∀ b o, X.s₀.heap.get? b = some o → b ∉ X.fs → b ∉ frs X.stack := fun b o e n hb => by
  rcases List.mem_cons.mp (I.stkSub b hb) with z | z
  ·have h1 := Heap.lt_size e
   have h2 := I.ok.above
   rw [z] at h1
   exact absurd (Nat.lt_of_lt_of_le h1 h2) (Nat.lt_irrefl _)
  ·exact n z
 have nh : ∀ b o, X.s₀.heap.get? b = some o → b ∉ X.fs → b ∉ hid := fun b o e n hb => by
  rcases (hh b hb).1 with z | z
  ·exact hfo b o e n z
  ·rw [e] at z; cases z
 have fsub : ∀ b ∈ X.fs, b ∈ frs X.stack := fun b hb => by
  rw [hst]
  obtain ⟨v, hv, e⟩ := List.mem_filterMap.mp hb
  exact List.mem_filterMap.mpr ⟨v, .tail _ hv, e⟩
 have U := I.base
 rw [hex] at U
 have no : ∀ b : Addr, b ∉ ([] : List Addr) := fun b z => nomatch z
 have anyway : ∀ b o, s.heap.get? b = some o → (b ∉ hid ∨ b ∈ frs X.stack) → ∃ o', h'.get? b = some o' := fun b o e d => by
  rcases d with d | d
  ·exact ⟨o, y.keep b o e d⟩
  ·obtain ⟨sl, q⟩ := y.slot b o e d
   exact ⟨_, q⟩
 refine ⟨⟨fun b o e n hb _ => y.keep b o (U.keep b o e n hb (no b)) (nh b o e hb), fun b o e n hb _ => ?_, U.free, fun b o e _ => ?_, U.tups, U.frzs, U.tbls⟩, fun b o e => ?_, ?_, ?_⟩
 ·obtain ⟨sl, q⟩ := U.slot b o e n hb (no b)
  obtain ⟨sl', q'⟩ := y.slot b _ q (fsub b hb)
  exact ⟨sl', q'⟩
 ·obtain ⟨o', q⟩ := U.there b o e (no b)
  refine anyway b o' q ?_
  by_cases z : b ∈ X.fs
  ·exact .inr (fsub b z)
  ·exact .inl (nh b o e z)
 ·refine (I.hok b o e).stay (fun c u hc ec => y.keep c u ec fun hm => ?_) (fun _ z => z) fun _ _ z => z
  have := (hh c hm).2
  rcases hc with z | z
  ·rw [z, e] at this; cases this
  ·rw [z] at this; cases this
 ·cases q : X.s₀.heap.get? T' with
  | none => rfl
  | some o =>
   exfalso
   obtain ⟨o', q'⟩ := U.there T' o q (no T')
   by_cases z : T' ∈ X.fs
   ·exact y.nfr (fsub _ z)
   ·exact y.new T' o' q' (nh T' o q z) rfl
 ·cases q : H T' with
  | none => rfl
  | some o =>
   exfalso
   obtain ⟨ob, hob⟩ := I.hok.there q
   refine y.new T' ob hob (fun hm => ?_) rfl
   have := (hh T' hm).2
   rw [q] at this; cases this
theorem za7 : zdk (XT P w) (cxOf (XT P w) P w K mg base N qual scope f cd A outer s0 H0 E) E := by
 intro pins σ H s e s' I hx
 obtain ⟨a, T, cls, a0, H', rfl, os, bare, un, hok, na, nT, ha, hT, tr, q⟩ := hx
 have I' : Inv (cxOf (XT P w) P w K mg base N qual scope f cd A outer s0 H0 E) pins σ H' s' := I.call' os un hok bare fun b z => nomatch z
 have old : ∀ b, s.heap.get? b = none → s0.heap.get? b = none := fun b e => by
  cases z : s0.heap.get? b with
  | none => rfl
  | some o =>
   obtain ⟨o', q'⟩ := I.base.there b o z fun y => nomatch y
   rw [e] at q'; cases q'
 refine znk (base := base) (L := s0.heap.objs.size) I'.ok.frames I'.stack rfl tr fun h' T' y => ?_
 obtain ⟨u, hk, n1, n2⟩ := I'.left rfl rfl y fun b hb => by
  rcases List.mem_cons.mp hb with z | hb
  ·rw [z]; exact ⟨.inr (old a na), ha⟩
  ·rcases List.mem_cons.mp hb with z | hb
   ·rw [z]; exact ⟨.inr (old T nT), hT⟩
   ·exact ⟨.inl hb, I'.stkFree b hb⟩
 exact ⟨a, T', cls, a0, H', rfl, I'.os, I'.bare, u, hk, old a na, n1, ha, n2, y.trc, q⟩
def Raises (X : Cx) (E : XK) : Prop := ∀ (pins : List (Addr × Obj)) (σ : St) (H : Hp) (s : Shared) (a C : Addr) (vs : List Value) (h' : Heap), Inv X pins σ H s → Heap.MadeExcOf s.heap h' a (.ref C) vs → E (.ref C) none H → X.xe (.ref a) { s with heap := h' }
end
abbrev bmV : List Value := [.type "ValueError", .type "Exception", .type "BaseException", .type "object"]
structure XCl (K : PySem.W.Frag) (mg : Str → Option Value) (x : Str) (C : Addr) : Prop where
 ex : PySem.W.excIn K C bmV "ValueError.__new__" = true
 gl : mg x = some (.ref C)
section
variable {X : Cx} {x : Str} {C : Addr} {np cpos pos : Pos} {e : Expr} {es : List Expr} {ta : TA} {E : XK}
def tRaise (C : Addr) (E : XK) (ta : TA) : TS := fun _ σ H => ta σ H fun vs H1 => vs.length ≤ 1000 ∧ E (.ref C) none H1
end
theorem Fun.okX {P : Program} {w : World} {K : PySem.W.Frag} {mg : Str → Option Value} {base : Heap} {x qual : Str} {st : Stmt} {f : Addr} {fd : FuncData} {N ps : List Str} {k : Nat} {sp : Sp} (F : Fun K x qual st f fd) (S : FnScope N ps (zaf st)) (len : ∀ vs H Q E, sp vs H Q E → vs.length = ps.length)
  (hbody : ∀ (cdv : Value) (A : Around) (outer : List Env) (s : Shared) (H : Hp) (vs : List V) (Q : VK) (E : XK), Room k (A.deeper (envOfC qual (zaf st) s.heap.objs.size f cdv)) → sp vs H Q E →
   ∃ t, PSs (cxOf (XT P w) P w K mg base N qual (zaf st) f cdv A outer s H E) (zds st) t ∧ t { nx := fun _ H' => Q .non H', rt := Q } (start N vs) H) : FnOk P w K mg base (XT P w) (k + 1) f fd ps sp := by
 obtain ⟨oc, od, kV, doc, pm, an, cdv, ct, osl, rfl, lk, hcd⟩ := F.ex
 exact zvf lk hcd S len fun A outer s H vs Q E hr hsp => hbody cdv A outer s H vs Q E hr hsp
end L2
set_option Elab.async false
set_option linter.all false
set_option maxRecDepth 100000
namespace L2
open PySem PySem.Spec PyProof.Rows
section
variable {X : Cx} {pins : List (Addr × Obj)} {σ : St} {H : Hp} {s : Shared}
abbrev Cx.pinned (X : Cx) (pn : List (Addr × Obj)) : Cx := { X with pn := pn }
abbrev Cx.suite (X : Cx) (e : Value) : Cx := { X with A := X.A.mark (some e), calm := false }
end
def Tried (X : Cx) (pn : List (Addr × Obj)) (E : XK) : Value → Shared → Prop := fun e s1 => ∃ pins σ H s, Inv (X.pinned pn) pins σ H s ∧ XT X.prog X.w X.stack H s E e s1
def tTry (C : Addr) (E : XK) (tb th : TS) : TS := fun D σ H => tb D σ H ∧ ∀ cls H' σ', σ'.length = σ.length → E cls none H' → cls = .ref C ∧ th D σ' H'
end L2
set_option Elab.async false
set_option linter.all false
set_option maxRecDepth 100000
namespace L2
open PySem PySem.Spec PyProof.Rows
def zum (a : Addr) (cls : Value) : Heap → Prop := fun h => ∃ o vs, h.get? a = some o ∧ o.cls = cls ∧ o.data = .fields vs
abbrev excO (a : Addr) (cls : Value) : HO := .ext (zum a cls)
section
variable {X : Cx} {pins : List (Addr × Obj)} {σ : St} {H : Hp} {s : Shared}
end
end L2
set_option Elab.async false
set_option linter.all false
set_option maxRecDepth 100000
namespace L3
open PySem PySem.Spec PyProof.Rows L2
abbrev F3 := List V3 → H3 → Res Vl
def start3 (n : Nat) (vs : List V3) : S3 := vs.map (fun x => some (.v x)) ++ List.replicate (n - vs.length) none
def O3.res : O3 → Res Vl
 | .nx _ h => .ok (.v .non) h
 | .rt r h => .ok r h
 | .ex x h => .ex x h
 | _ => .no
def fun3 (k n : Nat) (b : D3) : F3 := fun vs h => if vs.length = k then (b (start3 n vs) h).res else .no
def zva (κ : Kx) (N : Addr → Prop) (O : Addr → Prop) (β : List (Option Addr)) (h : H3) (H : Hp) : Vl → V → Prop
 | .v x, v => RelH κ O β h H ∧ Rep κ β O H x v
 | .m c, v => ∃ p, v = .ref p ∧ RelH κ (fun a => a = p ∨ O a) β h H ∧ CellR κ β (fun a => a = p ∨ O a) H c p ∧ N p ∧ ¬ O p
def FOut (κ : Kx) (E : XK) (O : Addr → Prop) (β : List (Option Addr)) (H : Hp) (Q : VK) : Res Vl → Prop
 | .ok r h' => ∀ β' v H', Ext No β H β' H' → zva κ (Nw H) O β' h' H' r v → Q v H'
 | .ex x h' => ∀ β' H', Ext No β H β' H' → RelH κ O β' h' H' → XOk κ E x H'
 | .no => False
def spOf (κ : Kx) (k : Nat) (f : F3) : Sp := fun vs H Q E => ∃ O β vs3 h3, vs.length = k ∧ RelH κ O β h3 H ∧ Reps κ β O H vs3 vs ∧ FOut κ E O β H Q (f vs3 h3)
section
variable {X : Cx} {κ : Kx} {E : XK} {F F1 F2 F' : Fr} {σ σ' : L2.St} {H H1 H2 H' : Hp} {Q : VK} {p : Addr} {e a b o : Expr} {pos apos np : Pos} {i : Nat} {D : Ends}
theorem zc6 {a : Addr} {n : Nat} : some a ∉ List.replicate n (none : Option Addr) := fun h => by cases (List.mem_replicate.mp h).2
theorem zjx {n : Nat} {vs3 : List V3} {i : Nat} {x : Vl} (h : (start3 n vs3)[i]? = some (some x)) : ∃ y, vs3[i]? = some y ∧ x = .v y := by
 unfold start3 at h
 by_cases hi : i < vs3.length
 ·rw [List.getElem?_append_left (by simpa using hi), List.getElem?_map] at h
  cases q : vs3[i]? with
  | none => rw [q] at h; cases h
  | some y => rw [q] at h; cases h; exact ⟨y, rfl, rfl⟩
 ·rw [List.getElem?_append_right (by simpa using hi)] at h
  have := List.mem_replicate.mp (List.mem_of_getElem? h)
  cases this.2
theorem zk6 {O : Addr → Prop} {β : List (Option Addr)} {vs3 : List V3} {vs : List V} {h3 : H3} {N : List Str} (rh : RelH κ O β h3 H) (rv : Reps κ β O H vs3 vs) (hN : vs.length ≤ N.length) :
  Rel κ ⟨O, [], β, List.replicate N.length none, start3 N.length vs3, h3⟩ (L2.start N vs) H := by
 have hO : ∀ a, (⟨O, [], β, List.replicate N.length none, start3 N.length vs3, h3⟩ : Fr).O a → O a := fun a ha => by
  rcases ha with z | z | z
  ·cases z
  ·exact absurd z zc6
  ·exact z
 have hl := rv.length
 refine ⟨rh.sub hO, ?_, ?_, fun i j a h => ?_, fun a ha => absurd ha zc6, fun a ha => absurd ha zc6, fun a ha => (by cases ha), List.nodup_nil, fun i x hx => ?_⟩
 ·show (start3 N.length vs3).length = _
  unfold start3 L2.start
  simp only [List.length_append, List.length_map, List.length_replicate]; omega
 ·show (List.replicate N.length (none : Option Addr)).length = (start3 N.length vs3).length
  unfold start3
  simp only [List.length_append, List.length_map, List.length_replicate]; omega
 ·exact absurd (List.mem_of_getElem? h) zc6
 ·obtain ⟨y, hy, rfl⟩ := zjx hx
  obtain ⟨v, hv, r⟩ := rv.get hy
  refine ⟨v, ?_, Rep.sub hO r⟩
  unfold L2.start
  have hi : i < vs.length := (List.getElem?_eq_some_iff.mp hv).1
  rw [List.getElem?_append_left (by simpa using hi), List.getElem?_map, hv]; rfl
theorem fn3 {P : Program} {w : World} {K : PySem.W.Frag} {mg : Str → Option Value} {base : Heap} {x qual : Str} {st : Stmt} {f : Addr} {fd : FuncData} {N ps : List Str} {k : Nat} {b : D3} (Fn : Fun K x qual st f fd) (S : FnScope N ps (zaf st))
  (hb : ∀ (cdv : Value) (A : Around) (outer : List Env) (s : Shared) (H : Hp) (E : XK), Room k (A.deeper (envOfC qual (zaf st) s.heap.objs.size f cdv)) →
   PSs (cxOf (XT P w) P w K mg base N qual (zaf st) f cdv A outer s H E) (zds st) (tsOf κ E b)) : FnOk P w K mg base (XT P w) (k + 1) f fd ps (spOf κ ps.length (fun3 ps.length N.length b)) := by
 refine Fn.okX S (fun vs H Q E h => ?_) fun cdv A outer s H vs Q E hr h => ?_
 ·obtain ⟨_, _, _, _, h, _⟩ := h; exact h
 ·obtain ⟨O, β, vs3, h3, hl, rh, rv, o⟩ := h
  have hpl : ps.length ≤ N.length := by have := congrArg List.length S.pre; rw [List.length_take] at this; omega
  have rel := zk6 (N := N) rh rv (by omega)
  refine ⟨tsOf κ E b, hb cdv A outer s H E hr, _, rel, rfl, ?_⟩
  unfold fun3 at o
  rw [if_pos (by rw [rv.length]; exact hl)] at o
  generalize hF : (⟨O, [], β, List.replicate N.length none, start3 N.length vs3, h3⟩ : Fr) = F0 at rel
  have e0 : F0.s = start3 N.length vs3 ∧ F0.h = h3 ∧ F0.β = β ∧ F0.Oi = O ∧ ∀ a, some a ∉ F0.l := by subst hF; exact ⟨rfl, rfl, rfl, rfl, fun a => zc6⟩
  obtain ⟨es, eh, eb, eo, el⟩ := e0
  rw [es, eh]
  have ext : ∀ {F' : Fr} {H' : Hp}, SExt F0 H F' H' → Ext No β H F'.β H' := fun {F' H'} se => ⟨fun a u h n _ => se.ext.keep a u h (by rw [eb]; exact n) (el a), by rw [← eb]; exact se.ext.len, fun i a hi h => by
   have := se.ext.bet i a (by rw [eb]; exact hi) h
   rw [eb] at this; exact this, se.ext.there, fun i a hi h => se.ext.nwb i a (by rw [eb]; exact hi) h⟩
  have hO : ∀ {F' : Fr} {H' : Hp}, SExt F0 H F' H' → ∀ a, O a → F'.O a := fun {F' H'} se a ha => .inr (.inr (by rw [se.oi, eo]; exact ha))
  cases q : b (start3 N.length vs3) h3 with
  | nx s1 h1 =>
   rw [q] at o
   exact fun F' σ' H' se _ h' r' => o F'.β .non H' (ext se) ⟨by rw [← h']; exact r'.heap.sub (hO se), .non⟩
  | rt r h1 =>
   rw [q] at o
   intro F' σ' v H' se h' p
   refine o F'.β v H' (ext se) ?_
   cases r with
   | v x => exact ⟨by rw [← h']; exact p.1.heap.sub (hO se), Rep.sub (hO se) p.2⟩
   | m c =>
    obtain ⟨p, h1, h2, h3', h4⟩ := p
    have hs : ∀ a, a = p ∨ O a → (F'.with p).O a := fun a ha => ha.elim (fun z => .inl (by rw [z]; exact List.mem_cons_self)) fun z => Fr.O_with (hO se a z)
    refine ⟨p, h1, by rw [← h']; exact h2.heap.sub hs, h3'.sub hs, h4.elim (fun z => absurd z (el p)) id, fun z => h2.apart (hO se p z)⟩
  | bk s1 h1 => rw [q] at o; exact (show False from o).elim
  | ct s1 h1 => rw [q] at o; exact (show False from o).elim
  | no => rw [q] at o; exact o
  | ex x h1 =>
   rw [q] at o
   intro F' H' se r'
   exact o F'.β H' (ext se) (by rw [se.oi, eo] at r'; exact r')
theorem Rel.nextNew {β' : List (Option Addr)} {h' : H3} (r : Rel κ F σ H) (e : Ext No F.β H β' H') (rh : RelH κ (fun a => a = p ∨ F.O a) β' h' H') (hp : H p = none) : Rel κ ((F.to β' h').with p) σ H' := by
 have n2 : ¬ F.O p := (r.heap.off_new hp).2
 have ho : ∀ a, ((F.to β' h').with p).O a → a = p ∨ F.O a := fun a ha => by
  rcases ha with z | z
  ·rcases List.mem_cons.mp z with z | z
   ·exact .inl z
   ·exact .inr (.inl z)
  ·exact .inr (.inr z)
 have hO : ∀ a u, H a = some u → ¬ F.O a → ¬ ((F.to β' h').with p).O a := fun a u ha n z => (ho a z).elim (fun w => by subst w; rw [hp] at ha; cases ha) n
 refine ⟨rh.sub ho, r.slen, r.llen, r.linj, fun a ha z => ?_, r.lo, fun a ha z => ?_, List.nodup_cons.mpr ⟨fun z => n2 (.inl z), r.tn⟩, fun i x q => ?_⟩
 ·rcases List.mem_cons.mp z with z | z
  ·subst z; exact n2 (.inr (.inl ha))
  ·exact r.lt a ha z
 ·rcases List.mem_cons.mp ha with h | h
  ·subst h; exact n2 (.inr (.inr z))
  ·exact r.to a h z
 ·obtain ⟨v, h1, h2⟩ := r.slot i x q
  refine ⟨v, h1, ?_⟩
  cases x with
  | v x => exact Rep.ext e (fun _ z => z.elim) hO h2
  | m c =>
   obtain ⟨a, a1, a2, a3⟩ := h2
   have ha : F.O a := .inr (.inl (List.mem_of_getElem? a1))
   exact ⟨a, a1, a2, a3.ext e (fun _ z => z.elim) hO fun u hu => (e.keep a u hu (r.heap.off a ha) fun z => z).1⟩
theorem FOut.of {r : Res Vl} (rel : Rel κ F σ H) (o : Out κ E (kE κ) F σ H Q r) : FOut κ E F.O F.β H Q r := by
 cases r with
 | no => exact o
 | ex x h' => exact fun β' H' e r' => o β' H' e (r'.sub fun a ha => .inr (.inr ha))
 | ok r h' =>
  intro β' v H' e q
  refine o β' v H' e ?_
  cases r with
  | v x => exact ⟨rel.next e q.1, q.2⟩
  | m c =>
   obtain ⟨p, h1, h2, h3, h4, h5⟩ := q
   have ho : ∀ a, ((F.to β' h').with p).O a → a = p ∨ F.O a := fun a ha => by
    rcases ha with z | z
    ·rcases List.mem_cons.mp z with z | z
     ·exact .inl z
     ·exact .inr (.inl z)
    ·exact .inr (.inr z)
   exact ⟨p, h1, rel.nextNew e h2 h4, h3.sub ho, h4⟩
def eCall (f : F3) (a : A3) : E3 := fun s h => (a s h).bind fun fs h1 => match vals3 fs with
 | some vs => f vs h1
 | none => .no
def eCallD (f : F3) (a : A3) (ds : List V3) : E3 := fun s h => (a s h).bind fun fs h1 => match vals3 fs with
 | some vs => f (vs ++ ds) h1
 | none => .no
def FLen (f : F3) (k : Nat) : Prop := ∀ vs h, vs.length ≠ k → f vs h = .no
theorem flen {k n : Nat} {b : D3} : FLen (fun3 k n b) k := fun vs h e => if_neg e
theorem zp3 {f : F3} {t : A3} {k : Nat} (hf : FLen f k) (h : teOf κ E (eCall f t) σ H Q) : zuc (spOf κ k f) [] E (taOf κ E t) σ H Q := by
 obtain ⟨F, rel, o⟩ := h
 refine (za9 (K := kA κ) km_E rel o).mono fun vs H1 ⟨β1, h1, fs, e1, ⟨r1, rf1⟩, o1⟩ => ?_
 cases q : vals3 fs with
 | none => simp only [q] at o1; exact o1.elim
 | some xs =>
  simp only [q] at o1
  have hr := zct rf1 q
  rw [List.append_nil]
  refine ⟨F.O, β1, xs, h1, ?_, r1.heap, hr, FOut.of r1 o1⟩
  refine Classical.byContradiction fun n => ?_
  rw [hf xs h1 (by rw [hr.length]; exact n)] at o1
  exact o1
theorem zaq {x : Str} {es : List Expr} {f : F3} {t : A3} {k : Nat} {fa : Addr} {fd : FuncData} {ps : List Str} {n : Nat} (hf : FLen f n) (Fk : FnOk X.prog X.w X.K X.mg X.base (XT X.prog X.w) k fa fd ps (spOf κ n f)) (hr : Room k X.A) (hg : Gl X x) (hm : X.mg x = some (.ref fa)) (hk : PySem.W.keepIn X.K (.ref fa) = true) (hb : Binds X.K fd ps []) (hx : zdk (XT X.prog X.w) X E)
  (ha : PA X (e :: es) (taOf κ E t)) (hdb : (x == ("__debug__" : Str)) = false := by decide) (he : starEach (e :: es) X.env = (false, eval e X.env) :: starEach es X.env := by rfl) (hpl : (backTo pos (starEach es X.env)).any (·.1) = false := by rfl) :
  PE X (.Call (.Name x np) (e :: es) [] pos) (teOf κ E (eCall f t)) := PEw (zpu Fk hr hg hm hk hb .nil hx ha hdb he hpl) fun _ _ _ h => zp3 hf h
theorem zve : zdk (XT X.prog X.w) X E0 := fun pins σ H s e s' I h => by
 obtain ⟨_, _, _, _, _, _, _, _, _, _, _, _, _, _, _, q⟩ := h
 exact q.elim
end
end L3
set_option Elab.async false
set_option linter.all false
set_option maxRecDepth 100000
namespace L3
open PySem PySem.Spec PyProof.Rows L2
section
variable {X : Cx} {κ : Kx} {E : XK} {F : Fr} {σ : L2.St} {H H' : Hp} {Q : VK} {p : Addr} {pos : Pos} {i : Nat}
def oI (g : Int → Int → Option V3) : F2 := fun _ _ x y => match x, y with
 | .x (.int i), .x (.int j) => (g i j).map .v
 | _, _ => none
theorem zmz {g : Int → Int → Option V3} {s : S3} {h : H3} {x y : Rf} {z : Vl} (e : oI g s h x y = some z) : ∃ i j w, x = .x (.int i) ∧ y = .x (.int j) ∧ g i j = some w ∧ z = .v w := by
 unfold oI at e
 split at e
 ·rename_i i j
  cases q : g i j with
  | none => rw [q] at e; cases e
  | some w => rw [q] at e; cases e; exact ⟨i, j, w, rfl, rfl, q, rfl⟩
 ·cases e
theorem zec {gv : Int → Int → V} {g : Int → Int → Option V3} (hg : ∀ i j z, g i j = some z → ∀ β O H, Rep κ β O H z (gv i j)) : OpSim κ (rI0 gv) (oI g) := fun F σ H x y z v w Q rel rx ry e k => by
 obtain ⟨i, j, u, rfl, rfl, q, rfl⟩ := zmz e
 cases (show Rep κ F.β F.O H (.int i) v from rx)
 cases (show Rep κ F.β F.O H (.int j) w from ry)
 exact ⟨i, j, rfl, rfl, k _ H Ext.refl ⟨rel, hg i j u q _ _ _⟩⟩
theorem zjg {C : Int → Int → Prop} {gv : Int → Int → V} {g : Int → Int → Option V3} (hg : ∀ i j z, g i j = some z → C i j ∧ ∀ β O H, Rep κ β O H z (gv i j)) : OpSim κ (rI C gv) (oI g) := fun F σ H x y z v w Q rel rx ry e k => by
 obtain ⟨i, j, u, rfl, rfl, q, rfl⟩ := zmz e
 cases (show Rep κ F.β F.O H (.int i) v from rx)
 cases (show Rep κ F.β F.O H (.int j) w from ry)
 exact ⟨i, j, rfl, rfl, (hg i j u q).1, k _ H Ext.refl ⟨rel, (hg i j u q).2 _ _ _⟩⟩
instance {i j : Int} : Decidable (CMul i j) := inferInstanceAs (Decidable (_ ∨ _))
instance {i j : Int} : Decidable (CDiv i j) := inferInstanceAs (Decidable (_ ∧ _))
instance {i j : Int} : Decidable (CPow i j) := inferInstanceAs (Decidable (_ ∧ _))
def zj2 : F2 := oI fun i j => some (.int (i + j))
def oSub : F2 := oI fun i j => some (.int (i - j))
def zp7 : F2 := oI fun i j => if CMul i j then some (.int (i * j)) else none
def oDiv : F2 := oI fun i j => if CDiv i j then some (.int (i / j)) else none
def oMod : F2 := oI fun i j => if 0 < j then some (.int (i % j)) else none
def oPow : F2 := oI fun i j => if CPow i j then some (.int (i ^ j.toNat)) else none
def oShr : F2 := oI fun i j => if 0 ≤ j then some (.int (i / 2 ^ j.toNat)) else none
def zu3 : F2 := oI fun i j => some (.int (Builtin.bitAnd i j))
def oLt : F2 := oI fun i j => some (.bl (decide (i < j)))
def oLe : F2 := oI fun i j => some (.bl (decide (i ≤ j)))
def oGt : F2 := oI fun i j => some (.bl (decide (j < i)))
def oGe : F2 := oI fun i j => some (.bl (decide (j ≤ i)))
theorem sim_addI : OpSim κ (rI0 fun i j => .int (i + j)) zj2 := zec fun i j z e => by cases e; exact fun _ _ _ => .int _
theorem zfb : OpSim κ (rI0 fun i j => .int (i - j)) oSub := zec fun i j z e => by cases e; exact fun _ _ _ => .int _
theorem zfy : OpSim κ (rI0 fun i j => .bl (decide (i < j))) oLt := zec fun i j z e => by cases e; exact fun _ _ _ => .bl _
theorem zfz : OpSim κ (rI0 fun i j => .bl (decide (i ≤ j))) oLe := zec fun i j z e => by cases e; exact fun _ _ _ => .bl _
theorem zm2 : OpSim κ (rI0 fun i j => .bl (decide (j < i))) oGt := zec fun i j z e => by cases e; exact fun _ _ _ => .bl _
theorem zjv : OpSim κ (rI0 fun i j => .bl (decide (j ≤ i))) oGe := zec fun i j z e => by cases e; exact fun _ _ _ => .bl _
theorem zbr {c : Prop} [Decidable c] {α : Type} {x z : α} (e : (if c then some x else none) = some z) : c ∧ x = z := by
 by_cases h : c
 ·rw [if_pos h] at e; exact ⟨h, Option.some.inj e⟩
 ·rw [if_neg h] at e; cases e
theorem sim_mulI : OpSim κ (rI CMul fun i j => .int (i * j)) zp7 := zjg fun i j z e => by obtain ⟨h, rfl⟩ := zbr e; exact ⟨h, fun _ _ _ => .int _⟩
theorem zbc : OpSim κ (rI CDiv fun i j => .int (i / j)) oDiv := zjg fun i j z e => by obtain ⟨h, rfl⟩ := zbr e; exact ⟨h, fun _ _ _ => .int _⟩
theorem zas : OpSim κ (rI (fun _ j => 0 < j) fun i j => .int (i % j)) oMod := zjg fun i j z e => by obtain ⟨h, rfl⟩ := zbr e; exact ⟨h, fun _ _ _ => .int _⟩
theorem zgu : OpSim κ (rI CPow fun i j => .int (i ^ j.toNat)) oPow := zjg fun i j z e => by obtain ⟨h, rfl⟩ := zbr e; exact ⟨h, fun _ _ _ => .int _⟩
def orF (f g : F2) : F2 := fun s h x y => match f s h x y with
 | some z => some z
 | none => g s h x y
theorem OpSim.or {r r' : R2} {f g : F2} (hf : OpSim κ r f) (hg : OpSim κ r' g) : OpSim κ (fun x y H Q => r x y H Q ∨ r' x y H Q) (orF f g) := fun F σ H x y z v w Q rel rx ry e k => by
 unfold orF at e
 cases q : f F.s F.h x y with
 | some u => rw [q] at e; cases e; exact .inl (hf F σ H x y _ v w Q rel rx ry q k)
 | none => rw [q] at e; exact .inr (hg F σ H x y z v w Q rel rx ry e k)
def zn7 : F2 := fun _ _ x y => match x, y with
 | .x (.str i), .x (.str j) => if i.length + j.length ≤ sizeLine then some (.v (.str (i ++ j))) else none
 | _, _ => none
theorem sim_addS : OpSim κ (fun x y H Q => ∃ i j, x = .str i ∧ y = .str j ∧ i.length + j.length ≤ sizeLine ∧ Q (.str (i ++ j)) H) zn7 := fun F σ H x y z v w Q rel rx ry e k => by
 unfold zn7 at e
 split at e
 ·rename_i i j
  obtain ⟨h, rfl⟩ := zbr e
  cases (show Rep κ F.β F.O H (.str i) v from rx)
  cases (show Rep κ F.β F.O H (.str j) w from ry)
  exact ⟨i, j, rfl, rfl, h, k _ H Ext.refl ⟨rel, .str _⟩⟩
 ·cases e
def rdm (s : S3) (h : H3) : Rf → Option (List V3)
 | .x (.scr _) => none
 | f => rdl s h f
theorem zfp {f : Rf} {v : V} {xs : List V3} (rel : Rel κ F σ H) (r : RfR κ F H f v) (e : rdm F.s F.h f = some xs) : ∃ a ys, v = .ref a ∧ H a = some (.lst ys) ∧ Reps κ F.β F.O H xs ys := by
 cases f with
 | s i =>
  have e : rdl F.s F.h (.s i) = some xs := e
  obtain ⟨a, c, h1, h2, h3, h4⟩ := r
  simp only [rdl, h3] at e
  cases c <;> simp at e
  subst e
  obtain ⟨ys, h5, h6⟩ := h4
  exact ⟨a, ys, h2, h5, h6⟩
 | x y =>
  cases y <;> simp [rdm, rdl] at e
  case lst zs =>
   subst e
   cases r with
   | lst h1 h2 h3 h4 => exact ⟨_, _, rfl, h1, h4⟩
  case loc n =>
   cases r with
   | loc h1 h2 =>
    cases q : F.h[n]? with
    | none => rw [q] at e; cases e
    | some c =>
     rw [q] at e
     cases c <;> simp at e
     subst e
     rcases rel.heap.cell n _ q with z | ⟨a, ha, ys, h5, h6⟩
     ·cases z
     ·exact ⟨a, ys, h2 a ha, h5, h6⟩
def oCat : F2 := fun s h x y => match rdm s h x, rdm s h y with
 | some xs, some ys => if xs.length + ys.length ≤ sizeLine then some (.m (.lst (xs ++ ys))) else none
 | _, _ => none
theorem zrj : OpSim κ rCat oCat := fun F σ H x y z v w Q rel rx ry e k => by
 unfold oCat at e
 cases q1 : rdm F.s F.h x with
 | none => rw [q1] at e; cases e
 | some xs =>
  cases q2 : rdm F.s F.h y with
  | none => rw [q1, q2] at e; cases e
  | some ys =>
   rw [q1, q2] at e
   obtain ⟨h, rfl⟩ := zbr e
   obtain ⟨a, us, rfl, ha, ra⟩ := zfp rel rx q1
   obtain ⟨b, ws, rfl, hb, rb⟩ := zfp rel ry q2
   exact ⟨a, b, us, ws, rfl, rfl, ha, hb, by rw [← ra.length, ← rb.length]; exact h, fun p hp => k _ _ (za6 hp) (Post.lst rel hp (ra.append rb))⟩
def oAdd : F2 := orF zj2 (orF zn7 oCat)
theorem za1 : OpR X (binaryOp .Add) (fun x y H Q => (rI0 fun i j => .int (i + j)) x y H Q ∨ ((fun x y H Q => ∃ i j, x = .str i ∧ y = .str j ∧ i.length + j.length ≤ sizeLine ∧ Q (.str (i ++ j)) H) x y H Q ∨ rCat x y H Q)) := op_add.or (op_add_str.or zro)
theorem za2 : OpSim κ (fun x y H Q => (rI0 fun i j => .int (i + j)) x y H Q ∨ ((fun x y H Q => ∃ i j, x = .str i ∧ y = .str j ∧ i.length + j.length ≤ sizeLine ∧ Q (.str (i ++ j)) H) x y H Q ∨ rCat x y H Q)) oAdd := sim_addI.or (sim_addS.or zrj)
def oRep : F2 := fun s h x y => match rdm s h x, y with
 | some xs, .x (.int k) => if -(2 ^ 63) ≤ k ∧ k < 2 ^ 63 ∧ xs.length * k.toNat ≤ sizeLine then some (.m (.lst (List.replicate k.toNat xs).flatten)) else none
 | _, _ => none
theorem zqz : OpSim κ rRep oRep := fun F σ H x y z v w Q rel rx ry e k => by
 unfold oRep at e
 split at e
 ·rename_i xs n q
  obtain ⟨⟨h1, h2, h3⟩, rfl⟩ := zbr e
  obtain ⟨a, us, rfl, ha, ra⟩ := zfp rel rx q
  cases (show Rep κ F.β F.O H (.int n) w from ry)
  exact ⟨a, n, us, rfl, rfl, ha, h1, h2, by rw [← ra.length]; exact h3, fun p hp => k _ _ (za6 hp) (Post.lst rel hp (ra.rep _))⟩
 ·cases e
def oMul : F2 := orF zp7 oRep
theorem zc1 : OpR X (binaryOp .Mult) (fun x y H Q => (rI CMul fun i j => .int (i * j)) x y H Q ∨ rRep x y H Q) := op_mul.or zsu
theorem zc7 : OpSim κ (fun x y H Q => (rI CMul fun i j => .int (i * j)) x y H Q ∨ rRep x y H Q) oMul := sim_mulI.or zqz
theorem Reps.atI {xs : List V3} {ys : List V} {i : Int} {x : V3} (r : Reps κ F.β F.O H xs ys) (e : atI xs i = some x) : ∃ y, L2.atI ys i = some y ∧ Rep κ F.β F.O H x y := by
 unfold L2.atI at e ⊢
 rw [← r.length]
 cases q : ixN xs.length i with
 | none => rw [q] at e; cases e
 | some j =>
  rw [q] at e
  exact r.get e
def oIxL : F2 := fun s h x y => match y with
 | .x (.int i) => match rdl s h x with
  | some xs => (atI xs i).map .v
  | none => none
 | _ => none
def oIxT : F2 := fun _ _ x y => match x, y with
 | .x (.tup xs), .x (.int i) => (atI xs i).map .v
 | _, _ => none
def oIxS : F2 := fun _ _ x y => match x, y with
 | .x (.str z), .x (.int i) => if z.length ≤ sizeLine then (atI z.cps.toList i).map fun c => .v (.str ⟨#[c]⟩) else none
 | _, _ => none
theorem sim_ixL : OpSim κ (rIxL κ.K) oIxL := fun F σ H x y z v w Q rel rx ry e k => by
 unfold oIxL at e
 split at e
 ·rename_i i
  cases (show Rep κ F.β F.O H (.int i) w from ry)
  cases q : rdl F.s F.h x with
  | none => rw [q] at e; cases e
  | some xs =>
   rw [q] at e
   cases q2 : atI xs i with
   | none => simp only [q2] at e; cases e
   | some u =>
    simp only [q2] at e; cases e
    obtain ⟨a, us, rfl, sq, ra⟩ := zel rel rx q
    obtain ⟨y, hy, ry'⟩ := Reps.atI ra q2
    exact ⟨a, us, i, y, rfl, rfl, sq, hy, k _ H Ext.refl ⟨rel, ry'⟩⟩
 ·cases e
theorem sim_ixT : OpSim κ (rIxT κ.K) oIxT := fun F σ H x y z v w Q rel rx ry e k => by
 unfold oIxT at e
 split at e
 ·rename_i xs i
  cases (show Rep κ F.β F.O H (.int i) w from ry)
  cases q2 : atI xs i with
  | none => rw [q2] at e; cases e
  | some u =>
   rw [q2] at e; cases e
   cases (show Rep κ F.β F.O H (.tup xs) v from rx) with
   | tup h1 h2 h3 h4 =>
    obtain ⟨y, hy, ry'⟩ := Reps.atI h4 q2
    exact ⟨_, _, i, y, rfl, rfl, .of h1, hy, k _ H Ext.refl ⟨rel, ry'⟩⟩
 ·cases e
theorem zqf : OpSim κ rIxS oIxS := fun F σ H x y z v w Q rel rx ry e k => by
 unfold oIxS at e
 split at e
 ·rename_i zz i
  cases (show Rep κ F.β F.O H (.int i) w from ry)
  cases (show Rep κ F.β F.O H (.str zz) v from rx)
  obtain ⟨h, e⟩ : zz.length ≤ sizeLine ∧ ((atI zz.cps.toList i).map fun c => Vl.v (.str ⟨#[c]⟩)) = some z := by
   by_cases h : zz.length ≤ sizeLine
   ·rw [if_pos h] at e; exact ⟨h, e⟩
   ·rw [if_neg h] at e; cases e
  cases q2 : atI zz.cps.toList i with
  | none => rw [q2] at e; cases e
  | some c =>
   rw [q2] at e; cases e
   exact ⟨zz, i, c, rfl, rfl, h, q2, k _ H Ext.refl ⟨rel, .str _⟩⟩
 ·cases e
def oIx : F2 := orF oIxT (orF oIxL oIxS)
theorem za3 (hK : X.K = κ.K) : IxR X (fun x y H Q => rIxT κ.K x y H Q ∨ (fun x y H Q => rIxL κ.K x y H Q ∨ rIxS x y H Q) x y H Q) := by
 rw [← hK]; exact ix_tup.or (ix_list.or zrs)
theorem za4 : OpSim κ (fun x y H Q => rIxT κ.K x y H Q ∨ (fun x y H Q => rIxL κ.K x y H Q ∨ rIxS x y H Q) x y H Q) oIx := sim_ixT.or (sim_ixL.or zqf)
def oIsN (neg : Bool) : F2 := fun _ _ x y => match x, y with
 | .x .non, .x .non => some (.v (.bl (!neg)))
 | .x (.loc _), _ => none
 | .x _, .x .non => some (.v (.bl neg))
 | .s _, .x .non => some (.v (.bl neg))
 | _, _ => none
theorem ztj {x : V3} {v : V} (r : Rep κ F.β F.O H x v) (h : x ≠ .non) (h2 : ∀ n, x ≠ .loc n) : v ≠ .non := by
 cases r <;> first | (intro z; cases z; done) | (exact absurd rfl h) | (exact absurd rfl (h2 _))
theorem zg1 {neg : Bool} {s : S3} {h : H3} {x y : Rf} {z : Vl} {v w : V} (e : oIsN neg s h x y = some z) (rx : RfR κ F H x v) (ry : RfR κ F H y w) : w = .non ∧ z = .v (.bl (if neg then !decide (v = .non) else decide (v = .non))) := by
 unfold oIsN at e
 split at e
 ·cases e
  cases (show Rep κ F.β F.O H .non v from rx)
  cases (show Rep κ F.β F.O H .non w from ry)
  exact ⟨rfl, by cases neg <;> simp⟩
 ·cases e
 ·rename_i x h1 h2
  cases e
  cases (show Rep κ F.β F.O H .non w from ry)
  have hv : v ≠ .non := ztj (show Rep κ F.β F.O H x v from rx) (fun z => by subst z; exact h1 rfl) (fun n z => by subst z; exact h2 n rfl)
  exact ⟨rfl, by cases neg <;> simp [hv]⟩
 ·cases e
  cases (show Rep κ F.β F.O H .non w from ry)
  obtain ⟨a, c, _, h2, _⟩ := rx
  have hv : v ≠ .non := by rw [h2]; intro z; cases z
  exact ⟨rfl, by cases neg <;> simp [hv]⟩
 ·cases e
theorem zqu : OpSim κ (fun x y H Q => y = .non ∧ Q (.bl (decide (x = .non))) H) (oIsN false) := fun F σ H x y z v w Q rel rx ry e k => by
 obtain ⟨h1, rfl⟩ := zg1 e rx ry
 exact ⟨h1, k _ H Ext.refl ⟨rel, .bl _⟩⟩
theorem zi9 : OpSim κ (fun x y H Q => y = .non ∧ Q (.bl (!decide (x = .non))) H) (oIsN true) := fun F σ H x y z v w Q rel rx ry e k => by
 obtain ⟨h1, rfl⟩ := zg1 e rx ry
 exact ⟨h1, k _ H Ext.refl ⟨rel, .bl _⟩⟩
end
end L3
set_option Elab.async false
set_option linter.all false
set_option maxRecDepth 100000
namespace L3
open PySem PySem.Spec PyProof.Rows L2
inductive K3 where
 | f (a : V) | l (xs : List V3) | t (xs : List V3) | o
def zbl (h : H3) : V3 → K3
 | .non => .f .non
 | .bl b => .f (.bl b)
 | .int i => .f (.int i)
 | .str x => .f (.str x)
 | .lst xs => .l xs
 | .tup xs => .t xs
 | .loc n => match h[n]? with
  | some (.lst xs) => .l xs
  | _ => .o
 | _ => .o
def eqZ (f : V3 → V3 → Option Bool) : List V3 → List V3 → Option Bool
 | x :: xs, y :: ys => match f x y, eqZ f xs ys with
  | some a, some b => some (a && b)
  | _, _ => none
 | _, _ => some true
def eq3 (h : H3) : Nat → V3 → V3 → Option Bool
 | 0, x, y => match zbl h x, zbl h y with
  | .f a, .f b => some (eqV a b)
  | _, _ => none
 | n + 1, x, y => match zbl h x, zbl h y with
  | .f a, .f b => some (eqV a b)
  | .l xs, .l ys => if xs.length = ys.length then eqZ (eq3 h n) xs ys else some false
  | .t xs, .t ys => (eqZ (eq3 h n) xs ys).map (· && xs.length == ys.length)
  | .o, _ => none
  | _, .o => none
  | _, _ => some false
section
variable {X : Cx} {κ : Kx} {E : XK} {F : Fr} {σ : L2.St} {H H' : Hp} {Q : VK} {p : Addr} {pos : Pos} {i : Nat}
theorem zfw {f : V3 → V3 → Option Bool} : ∀ {xs ys : List V3} {b : Bool}, eqZ f xs ys = some b → (∀ (j : Nat) (x y : V3), xs[j]? = some x → ys[j]? = some y → ∃ c, f x y = some c) ∧ b = (List.range (min xs.length ys.length)).all fun j => ((xs[j]?).bind fun x => (ys[j]?).bind fun y => f x y).getD false
 | [], ys, b, e => by
  unfold eqZ at e; cases e
  exact ⟨fun j x y h => by simp at h, by simp⟩
 | x :: xs, [], b, e => by
  unfold eqZ at e; cases e
  exact ⟨fun j x y _ h => by simp at h, by simp⟩
 | x :: xs, y :: ys, b, e => by
  unfold eqZ at e
  cases q1 : f x y with
  | none => simp only [q1] at e; cases e
  | some a =>
   cases q2 : eqZ f xs ys with
   | none => simp only [q1, q2] at e; cases e
   | some c =>
    simp only [q1, q2] at e; cases e
    obtain ⟨h1, h2⟩ := zfw q2
    refine ⟨fun j x' y' hx hy => ?_, ?_⟩
    ·cases j with
     | zero => simp at hx hy; subst hx; subst hy; exact ⟨a, q1⟩
     | succ j => exact h1 j x' y' (by simpa using hx) (by simpa using hy)
    ·rw [List.length_cons, List.length_cons, Nat.add_min_add_right, List.range_succ_eq_map, List.all_cons, List.all_map]
     simp only [List.getElem?_cons_zero, Option.bind_some, q1, Option.getD_some, h2, Function.comp_def, List.getElem?_cons_succ]
theorem zbg {x : V3} {v : V} (rel : RelH κ F.O F.β F.h H) (r : Rep κ F.β F.O H x v) : match zbl F.h x with
  | .f a => v = a ∧ zfj a = true
  | .l xs => ∃ a ys, v = .ref a ∧ H a = some (.lst ys) ∧ Reps κ F.β F.O H xs ys
  | .t xs => ∃ a ys, v = .ref a ∧ H a = some (.tup ys) ∧ Reps κ F.β F.O H xs ys
  | .o => True := by
 cases r with
 | lst h1 h2 h3 h4 => exact ⟨_, _, rfl, h1, h4⟩
 | tup h1 h2 h3 h4 => exact ⟨_, _, rfl, h1, h4⟩
 | @loc n v h1 h2 =>
  simp only [zbl]
  cases q : F.h[n]? with
  | none => trivial
  | some c =>
   cases c with
   | lst xs =>
    rcases rel.cell n _ q with z | ⟨a, ha, ys, h5, h6⟩
    ·cases z
    ·exact ⟨a, ys, h2 a ha, h5, h6⟩
   | _ => trivial
 | _ => first | exact ⟨rfl, rfl⟩ | trivial
theorem Vals.at {ys : List V} {us : List Value} {j : Nat} {y : V} (r : Vals ys us) (h : j < us.toArray.size) (e : ys[j]? = some y) : RelV y us.toArray[j] := by
 obtain ⟨u, h1, h2⟩ := r.get e
 have := (List.getElem?_eq_some_iff.mp h1).2
 have e1 : us.toArray[j] = u := by simpa using this
 rw [e1]; exact h2
theorem ziz {n : Nat} (ih : ∀ {x y : V3} {v : V} {b : Bool}, Rep κ F.β F.O H x v → Rep κ F.β F.O H y v → eq3 F.h n x y = some b → b = true) : ∀ {xs ys : List V3} {vs : List V} {b : Bool}, Reps κ F.β F.O H xs vs → Reps κ F.β F.O H ys vs → eqZ (eq3 F.h n) xs ys = some b → b = true := by
 intro xs
 induction xs with
 | nil => intro ys vs b _ _ e; unfold eqZ at e; cases e; rfl
 | cons x xs ihx =>
  intro ys vs b r1 r2 e
  cases r1 with
  | cons a1 t1 =>
   cases r2 with
   | @cons y _ ys _ a2 t2 =>
    unfold eqZ at e
    cases q1 : eq3 F.h n x y with
    | none => simp only [q1] at e; cases e
    | some a =>
     cases q2 : eqZ (eq3 F.h n) xs ys with
     | none => simp only [q1, q2] at e; cases e
     | some c =>
      simp only [q1, q2] at e; cases e
      rw [ih a1 a2 q1, ihx t1 t2 q2]; rfl
theorem zi0 {a : V} (h : zfj a = true) : eqV a a = true := by cases a <;> simp [zfj] at h <;> simp [eqV]
theorem zgz (rel : RelH κ F.O F.β F.h H) : ∀ (n : Nat) {x y : V3} {v : V} {b : Bool}, Rep κ F.β F.O H x v → Rep κ F.β F.O H y v → eq3 F.h n x y = some b → b = true
 | 0, x, y, v, b, rx, ry, e => by
  have kx := zbg rel rx
  have ky := zbg rel ry
  unfold eq3 at e
  cases h1 : zbl F.h x <;> cases h2 : zbl F.h y <;> simp only [h1, h2] at e kx ky <;> try cases e
  obtain ⟨e1, e2⟩ := kx
  obtain ⟨e3, _⟩ := ky
  rw [← e1, ← e3]; rw [← e1] at e2
  exact zi0 e2
 | n + 1, x, y, v, b, rx, ry, e => by
  have kx := zbg rel rx
  have ky := zbg rel ry
  unfold eq3 at e
  cases h1 : zbl F.h x <;> cases h2 : zbl F.h y <;> simp only [h1, h2] at e kx ky <;> try cases e
  case f.f =>
   obtain ⟨e1, e2⟩ := kx
   obtain ⟨e3, _⟩ := ky
   rw [← e1, ← e3]; rw [← e1] at e2
   exact zi0 e2
  case f.l => obtain ⟨e1, e2⟩ := kx; obtain ⟨a, ys, e3, _⟩ := ky; rw [← e1, e3] at e2; cases e2
  case f.t => obtain ⟨e1, e2⟩ := kx; obtain ⟨a, ys, e3, _⟩ := ky; rw [← e1, e3] at e2; cases e2
  case l.f => obtain ⟨e1, e2⟩ := ky; obtain ⟨a, ys, e3, _⟩ := kx; rw [← e1, e3] at e2; cases e2
  case t.f => obtain ⟨e1, e2⟩ := ky; obtain ⟨a, ys, e3, _⟩ := kx; rw [← e1, e3] at e2; cases e2
  case l.t => obtain ⟨a, ys, e3, h5, _⟩ := kx; obtain ⟨a', ys', e4, h6, _⟩ := ky; rw [e3] at e4; cases e4; rw [h5] at h6; cases h6
  case t.l => obtain ⟨a, ys, e3, h5, _⟩ := kx; obtain ⟨a', ys', e4, h6, _⟩ := ky; rw [e3] at e4; cases e4; rw [h5] at h6; cases h6
  case l.l xs ys =>
   obtain ⟨a, us, e3, h5, r5⟩ := kx
   obtain ⟨a', us', e4, h6, r6⟩ := ky
   rw [e3] at e4; cases e4
   rw [h5] at h6; cases h6
   rw [if_pos (by rw [r5.length, r6.length])] at e
   exact ziz (fun a b c => zgz rel n a b c) r5 r6 e
  case t.t xs ys =>
   obtain ⟨a, us, e3, h5, r5⟩ := kx
   obtain ⟨a', us', e4, h6, r6⟩ := ky
   rw [e3] at e4; cases e4
   rw [h5] at h6; cases h6
   cases q : eqZ (eq3 F.h n) xs ys with
   | none => rw [q] at e; cases e
   | some c =>
    rw [q] at e; cases e
    rw [ziz (fun a b c => zgz rel n a b c) r5 r6 q, r5.length, r6.length]
    simp
theorem zle {s : Shared} {a c : V} {v u : Value} {A : Around} (r1 : RelV a v) (r2 : RelV c u) (f1 : zfj a = true) (f2 : zfj c = true) : SeqAt.RcAt A s v u (eqV a c) ∧ SeqAt.RcNeAt A s v u (!eqV a c) := by
 cases a with
 | non =>
  cases r1
  cases c with
  | non => cases r2; exact ⟨.none_none , .none_none ⟩
  | bl c => cases r2; exact ⟨.none_bool _, .none_bool _⟩
  | int c => obtain ⟨tr2, rfl⟩ := r2; exact ⟨.none_int _ _, .none_int _ _⟩
  | str c => obtain ⟨tr2, rfl⟩ := r2; exact ⟨.none_str _ _, .none_str _ _⟩
  | _ => exact absurd (show false = true from f2) Bool.false_ne_true
 | bl a =>
  cases r1
  cases c with
  | non => cases r2; exact ⟨.bool_none _, .bool_none _⟩
  | bl c => cases r2; exact ⟨.bool_bool _ _, .bool_bool _ _⟩
  | int c => obtain ⟨tr2, rfl⟩ := r2; exact ⟨.bool_int _ _ _, .bool_int _ _ _⟩
  | str c => obtain ⟨tr2, rfl⟩ := r2; exact ⟨.bool_str _ _ _, .bool_str _ _ _⟩
  | _ => exact absurd (show false = true from f2) Bool.false_ne_true
 | int a =>
  obtain ⟨tr1, rfl⟩ := r1
  cases c with
  | non => cases r2; exact ⟨.int_none _ _, .int_none _ _⟩
  | bl c => cases r2; exact ⟨.int_bool _ _ _, .int_bool _ _ _⟩
  | int c => obtain ⟨tr2, rfl⟩ := r2; exact ⟨.int_int _ _ _ _, .int_int _ _ _ _⟩
  | str c => obtain ⟨tr2, rfl⟩ := r2; exact ⟨.int_str _ _ _ _, .int_str _ _ _ _⟩
  | _ => exact absurd (show false = true from f2) Bool.false_ne_true
 | str a =>
  obtain ⟨tr1, rfl⟩ := r1
  cases c with
  | non => cases r2; exact ⟨.str_none _ _, .str_none _ _⟩
  | bl c => cases r2; exact ⟨.str_bool _ _ _, .str_bool _ _ _⟩
  | int c => obtain ⟨tr2, rfl⟩ := r2; exact ⟨.str_int _ _ _ _, .str_int _ _ _ _⟩
  | str c => obtain ⟨tr2, rfl⟩ := r2; exact ⟨.str_str _ _ _ _, .str_str _ _ _ _⟩
  | _ => exact absurd (show false = true from f2) Bool.false_ne_true
 | _ => exact absurd (show false = true from f1) Bool.false_ne_true
def ans (h : H3) (n : Nat) (xs ys : List V3) (j : Nat) : Bool := ((xs[j]?).bind fun x => (ys[j]?).bind fun y => eq3 h n x y).getD false
theorem zqw (rel : RelH κ F.O F.β F.h H) : ∀ (n : Nat) {pins : List (Addr × Obj)} {s : Shared} {x y : V3} {v' u' : V} {v u : Value} {b : Bool} {A : Around}, Inv X pins σ H s → Rep κ F.β F.O H x v' → Rep κ F.β F.O H y u' → RelV v' v → RelV u' u → eq3 F.h n x y = some b → A.units + n < cLine →
  (SeqAt.RcAt A s v u b ∧ SeqAt.RcNeAt A s v u (!b)) ∧ SeqAt.EqAt A s v u b := by
 intro n
 induction n with
 | zero =>
  intro pins s x y v' u' v u b A I rx ry rv ru e hu
  have kx := zbg rel rx
  have ky := zbg rel ry
  unfold eq3 at e
  cases h1 : zbl F.h x <;> cases h2 : zbl F.h y <;> simp only [h1, h2] at e kx ky <;> try cases e
  obtain ⟨e1, e2⟩ := kx
  obtain ⟨e3, e4⟩ := ky
  subst e1; subst e3
  exact ⟨zle rv ru e2 e4, zpg rv ru e2 e4⟩
 | succ n ih =>
  intro pins s x y v' u' v u b A I rx ry rv ru e hu
  have kx := zbg rel rx
  have ky := zbg rel ry
  have e0 := e
  unfold eq3 at e
  have items : ∀ {xs ys : List V3} {us ws : List V} {vs zs : List Value} {c : Bool}, Reps κ F.β F.O H xs us → Reps κ F.β F.O H ys ws → Vals us vs → Vals ws zs → eqZ (eq3 F.h n) xs ys = some c → ∀ j (h1 : j < vs.toArray.size) (h2 : j < zs.toArray.size), SeqAt.EqAt A.in1 s vs.toArray[j] zs.toArray[j] (ans F.h n xs ys j) := by
   intro xs ys us ws vs zs c r1 r2 v1 v2 q j h1 h2
   have l1 := r1.length; have l2 := r2.length; have l3 := v1.length; have l4 := v2.length
   have h1' : j < xs.length := by rw [l1, l3]; simpa using h1
   have h2' : j < ys.length := by rw [l2, l4]; simpa using h2
   obtain ⟨y1, hy1, ry1⟩ := r1.get (List.getElem?_eq_getElem h1')
   obtain ⟨y2, hy2, ry2⟩ := r2.get (List.getElem?_eq_getElem h2')
   obtain ⟨d, hd⟩ := (zfw q).1 j _ _ (List.getElem?_eq_getElem h1') (List.getElem?_eq_getElem h2')
   have ea : ans F.h n xs ys j = d := by unfold ans; rw [List.getElem?_eq_getElem h1', List.getElem?_eq_getElem h2']; simp [hd]
   rw [ea]
   exact (ih I ry1 ry2 (Vals.at v1 h1 hy1) (Vals.at v2 h2 hy2) hd (by show A.units + 1 + n < cLine; omega)).2
  have wrap : ∀ {a a' : Addr}, v' = .ref a → u' = .ref a' → (SeqAt.RcAt A s v u b ∧ SeqAt.RcNeAt A s v u (!b)) → (SeqAt.RcAt A s v u b ∧ SeqAt.RcNeAt A s v u (!b)) ∧ SeqAt.EqAt A s v u b := by
   intro a a' ea ea' h
   refine ⟨h, ?_⟩
   subst ea; subst ea'
   cases rv; cases ru
   by_cases z : a = a'
   ·subst z
    rw [zgz rel (n + 1) rx ry e0]
    exact SeqAt.EqAt.same _
   ·exact SeqAt.EqAt.of_refs z h.1
  cases h1 : zbl F.h x <;> cases h2 : zbl F.h y <;> simp only [h1, h2] at e kx ky <;> try cases e
  case succ.f.f.refl =>
   obtain ⟨e1, e2⟩ := kx
   obtain ⟨e3, e4⟩ := ky
   subst e1; subst e3
   exact ⟨zle rv ru e2 e4, zpg rv ru e2 e4⟩
  case succ.l.l xs ys =>
   obtain ⟨a, us, rfl, h5, r5⟩ := kx
   obtain ⟨a', us', rfl, h6, r6⟩ := ky
   refine wrap rfl rfl ?_
   cases rv; cases ru
   obtain ⟨vs, rv, pl, _⟩ := I.list (SqL.of (K := X.K) h5)
   obtain ⟨zs, rz, pz, _⟩ := I.list (SqL.of (K := X.K) h6)
   have l1 := r5.length; have l2 := r6.length; have l3 := rv.length; have l4 := rz.length
   by_cases hl : xs.length = ys.length
   ·rw [if_pos hl] at e
    have hsz : vs.toArray.size = zs.toArray.size := by rw [List.size_toArray, List.size_toArray]; omega
    have eb : b = (List.range vs.toArray.size).all (ans F.h n xs ys) := by
     rw [(zfw e).2, ← hl, Nat.min_self, List.size_toArray, ← l3, ← l1]; rfl
    rw [eb]
    exact ⟨.lists pl.isList pz.isList hsz (by omega) (items r5 r6 rv rz e), .lists pl.isList pz.isList hsz (by omega) (items r5 r6 rv rz e)⟩
   ·rw [if_neg hl] at e; cases e
    have hsz : (vs.toArray.size != zs.toArray.size) = true := by rw [List.size_toArray, List.size_toArray]; simp; omega
    exact ⟨.lists_lengths pl.isList pz.isList hsz (by omega), .lists_lengths pl.isList pz.isList hsz (by omega)⟩
  case succ.t.t xs ys =>
   obtain ⟨a, us, rfl, h5, r5⟩ := kx
   obtain ⟨a', us', rfl, h6, r6⟩ := ky
   refine wrap rfl rfl ?_
   cases rv; cases ru
   obtain ⟨vs, rv, pl, _⟩ := I.tuple (SqT.of (K := X.K) h5)
   obtain ⟨zs, rz, pz, _⟩ := I.tuple (SqT.of (K := X.K) h6)
   have l1 := r5.length; have l2 := r6.length; have l3 := rv.length; have l4 := rz.length
   cases q : eqZ (eq3 F.h n) xs ys with
   | none => rw [q] at e; cases e
   | some c =>
    rw [q] at e
    have eb : b = ((List.range (min vs.toArray.size zs.toArray.size)).all (ans F.h n xs ys) && vs.toArray.size == zs.toArray.size) := by
     cases e
     rw [(zfw q).2, List.size_toArray, List.size_toArray, ← l3, ← l4, ← l1, ← l2]; rfl
    rw [eb]
    exact ⟨.tuples (show s.heap.IsTuple a vs.toArray from pl) (show s.heap.IsTuple a' zs.toArray from pz) (by omega) (items r5 r6 rv rz q), .tuples (show s.heap.IsTuple a vs.toArray from pl) (show s.heap.IsTuple a' zs.toArray from pz) (by omega) (items r5 r6 rv rz q)⟩
  case succ.l.t.refl xs ys =>
   obtain ⟨a, us, rfl, h5, r5⟩ := kx
   obtain ⟨a', us', rfl, h6, r6⟩ := ky
   refine wrap rfl rfl ?_
   cases rv; cases ru
   obtain ⟨vs, rv, pl, _⟩ := I.list (SqL.of (K := X.K) h5)
   obtain ⟨zs, rz, pz, _⟩ := I.tuple (SqT.of (K := X.K) h6)
   exact ⟨.list_tuple pl.isList (show s.heap.IsTuple a' zs.toArray from pz) (by omega), .list_tuple pl.isList (show s.heap.IsTuple a' zs.toArray from pz) (by omega)⟩
  case succ.t.l.refl xs ys =>
   obtain ⟨a, us, rfl, h5, r5⟩ := kx
   obtain ⟨a', us', rfl, h6, r6⟩ := ky
   refine wrap rfl rfl ?_
   cases rv; cases ru
   obtain ⟨vs, rv, pl, _⟩ := I.tuple (SqT.of (K := X.K) h5)
   obtain ⟨zs, rz, pz, _⟩ := I.list (SqL.of (K := X.K) h6)
   exact ⟨.tuple_list (show s.heap.IsTuple a vs.toArray from pl) pz.isList (by omega), .tuple_list (show s.heap.IsTuple a vs.toArray from pl) pz.isList (by omega)⟩
  case succ.l.f.refl xs a0 =>
   obtain ⟨a, us, rfl, h5, r5⟩ := kx
   obtain ⟨e3, e4⟩ := ky
   subst e3
   cases rv
   obtain ⟨vs, rv, pl, _⟩ := I.list (SqL.of (K := X.K) h5)
   have hu' : A.units < cLine := by omega
   cases u' with
   | non => cases ru; exact ⟨⟨.list_none pl.isList hu', .list_none pl.isList hu'⟩, .list_none pl.isList hu'⟩
   | bl b => cases ru; exact ⟨⟨.list_bool b pl.isList hu', .list_bool b pl.isList hu'⟩, .list_bool b pl.isList hu'⟩
   | int b => obtain ⟨t, rfl⟩ := ru; exact ⟨⟨.list_int b t pl.isList hu', .list_int b t pl.isList hu'⟩, .list_int b t pl.isList hu'⟩
   | str b => obtain ⟨t, rfl⟩ := ru; exact ⟨⟨.list_str b t pl.isList hu', .list_str b t pl.isList hu'⟩, .list_str b t pl.isList hu'⟩
   | _ => exact absurd (show false = true from e4) Bool.false_ne_true
  case succ.t.f.refl xs a0 =>
   obtain ⟨a, us, rfl, h5, r5⟩ := kx
   obtain ⟨e3, e4⟩ := ky
   subst e3
   cases rv
   obtain ⟨vs, rv, pl, _⟩ := I.tuple (SqT.of (K := X.K) h5)
   have pl : s.heap.IsTuple a vs.toArray := pl
   have hu' : A.units < cLine := by omega
   cases u' with
   | non => cases ru; exact ⟨⟨.tuple_none pl hu', .tuple_none pl hu'⟩, .tuple_none pl hu'⟩
   | bl b => cases ru; exact ⟨⟨.tuple_bool b pl hu', .tuple_bool b pl hu'⟩, .tuple_bool b pl hu'⟩
   | int b => obtain ⟨t, rfl⟩ := ru; exact ⟨⟨.tuple_int b t pl hu', .tuple_int b t pl hu'⟩, .tuple_int b t pl hu'⟩
   | str b => obtain ⟨t, rfl⟩ := ru; exact ⟨⟨.tuple_str b t pl hu', .tuple_str b t pl hu'⟩, .tuple_str b t pl hu'⟩
   | _ => exact absurd (show false = true from e4) Bool.false_ne_true
  case succ.f.l.refl a0 xs =>
   obtain ⟨a, us, rfl, h5, r5⟩ := ky
   obtain ⟨e3, e4⟩ := kx
   subst e3
   cases ru
   obtain ⟨vs, ru, pl, _⟩ := I.list (SqL.of (K := X.K) h5)
   have hu' : A.units < cLine := by omega
   cases v' with
   | non => cases rv; exact ⟨⟨.none_list pl.isList hu', .none_list pl.isList hu'⟩, .none_list pl.isList hu'⟩
   | bl b => cases rv; exact ⟨⟨.bool_list b pl.isList hu', .bool_list b pl.isList hu'⟩, .bool_list b pl.isList hu'⟩
   | int b => obtain ⟨t, rfl⟩ := rv; exact ⟨⟨.int_list b t pl.isList hu', .int_list b t pl.isList hu'⟩, .int_list b t pl.isList hu'⟩
   | str b => obtain ⟨t, rfl⟩ := rv; exact ⟨⟨.str_list b t pl.isList hu', .str_list b t pl.isList hu'⟩, .str_list b t pl.isList hu'⟩
   | _ => exact absurd (show false = true from e4) Bool.false_ne_true
  case succ.f.t.refl a0 xs =>
   obtain ⟨a, us, rfl, h5, r5⟩ := ky
   obtain ⟨e3, e4⟩ := kx
   subst e3
   cases ru
   obtain ⟨vs, ru, pl, _⟩ := I.tuple (SqT.of (K := X.K) h5)
   have pl : s.heap.IsTuple a vs.toArray := pl
   have hu' : A.units < cLine := by omega
   cases v' with
   | non => cases rv; exact ⟨⟨.none_tuple pl hu', .none_tuple pl hu'⟩, .none_tuple pl hu'⟩
   | bl b => cases rv; exact ⟨⟨.bool_tuple b pl hu', .bool_tuple b pl hu'⟩, .bool_tuple b pl hu'⟩
   | int b => obtain ⟨t, rfl⟩ := rv; exact ⟨⟨.int_tuple b t pl hu', .int_tuple b t pl hu'⟩, .int_tuple b t pl hu'⟩
   | str b => obtain ⟨t, rfl⟩ := rv; exact ⟨⟨.str_tuple b t pl hu', .str_tuple b t pl hu'⟩, .str_tuple b t pl hu'⟩
   | _ => exact absurd (show false = true from e4) Bool.false_ne_true
def eqO (s : S3) (h : H3) (x y : Rf) : Option Bool := match rdm s h x, rdm s h y with
 | some xs, some ys => if xs.length = ys.length then eqZ (eq3 h 8) xs ys else some false
 | _, _ => match x, y with
  | .x a, .x b => eq3 h 9 a b
  | _, _ => none
def oEq : F2 := fun s h x y => (eqO s h x y).map fun b => .v (.bl b)
def oNe : F2 := fun s h x y => (eqO s h x y).map fun b => .v (.bl !b)
def rEqT (κ : Kx) (neg : Bool) : R2 := fun v w H Q => ∃ F σ x y b, Rel κ F σ H ∧ RfR κ F H x v ∧ RfR κ F H y w ∧ eqO F.s F.h x y = some b ∧ Q (.bl (if neg then !b else b)) H
theorem zug {pins : List (Addr × Obj)} {s : Shared} {σ' : L2.St} {x y : Rf} {v' u' : V} {v u : Value} {b : Bool} {A : Around} (I : Inv X pins σ' H s) (rel : Rel κ F σ H) (rx : RfR κ F H x v') (ry : RfR κ F H y u') (rv : RelV v' v) (ru : RelV u' u) (e : eqO F.s F.h x y = some b) (hu : A.units + 9 < cLine) :
  SeqAt.RcAt A s v u b ∧ SeqAt.RcNeAt A s v u (!b) := by
 unfold eqO at e
 split at e
 ·rename_i xs ys q1 q2
  obtain ⟨a, us, rfl, h5, r5⟩ := zfp rel rx q1
  obtain ⟨a', us', rfl, h6, r6⟩ := zfp rel ry q2
  cases rv; cases ru
  obtain ⟨vs, rv, pl, _⟩ := I.list (SqL.of (K := X.K) h5)
  obtain ⟨zs, rz, pz, _⟩ := I.list (SqL.of (K := X.K) h6)
  have l1 := r5.length; have l2 := r6.length; have l3 := rv.length; have l4 := rz.length
  by_cases hl : xs.length = ys.length
  ·rw [if_pos hl] at e
   have hsz : vs.toArray.size = zs.toArray.size := by rw [List.size_toArray, List.size_toArray]; omega
   have eb : b = (List.range vs.toArray.size).all (ans F.h 8 xs ys) := by
    rw [(zfw e).2, ← hl, Nat.min_self, List.size_toArray, ← l3, ← l1]; rfl
   have items : ∀ j (h1 : j < vs.toArray.size) (h2 : j < zs.toArray.size), SeqAt.EqAt A.in1 s vs.toArray[j] zs.toArray[j] (ans F.h 8 xs ys j) := by
    intro j h1 h2
    have h1' : j < xs.length := by rw [l1, l3]; simpa using h1
    have h2' : j < ys.length := by rw [l2, l4]; simpa using h2
    obtain ⟨y1, hy1, ry1⟩ := r5.get (List.getElem?_eq_getElem h1')
    obtain ⟨y2, hy2, ry2⟩ := r6.get (List.getElem?_eq_getElem h2')
    obtain ⟨d, hd⟩ := (zfw e).1 j _ _ (List.getElem?_eq_getElem h1') (List.getElem?_eq_getElem h2')
    have ea : ans F.h 8 xs ys j = d := by unfold ans; rw [List.getElem?_eq_getElem h1', List.getElem?_eq_getElem h2']; simp [hd]
    rw [ea]
    exact (zqw rel.heap 8 I ry1 ry2 (Vals.at rv h1 hy1) (Vals.at rz h2 hy2) hd (by show A.units + 1 + 8 < cLine; omega)).2
   rw [eb]
   exact ⟨.lists pl.isList pz.isList hsz (by omega) items, .lists pl.isList pz.isList hsz (by omega) items⟩
  ·rw [if_neg hl] at e; cases e
   have hsz : (vs.toArray.size != zs.toArray.size) = true := by rw [List.size_toArray, List.size_toArray]; simp; omega
   exact ⟨.lists_lengths pl.isList pz.isList hsz (by omega), .lists_lengths pl.isList pz.isList hsz (by omega)⟩
 ·split at e
  ·exact (zqw rel.heap 9 I (show Rep κ F.β F.O H _ v' from rx) (show Rep κ F.β F.O H _ u' from ry) rv ru e hu).1
  ·cases e
theorem zc2 (hu : X.A.units + 9 < cLine) : OpR X (compareOp .Eq) (rEqT κ false) := by
 intro pins s σ H x y v u Q I rx ry h
 obtain ⟨F, σ', x3, y3, b, rel, r1, r2, e, q⟩ := h
 exact (zug I rel r1 r2 rx ry e hu).1 X.prog X.w X.xe _ ⟨.bl b, H, I, rfl, q⟩
theorem zhq (hu : X.A.units + 9 < cLine) : OpR X (compareOp .NotEq) (rEqT κ true) := by
 intro pins s σ H x y v u Q I rx ry h
 obtain ⟨F, σ', x3, y3, b, rel, r1, r2, e, q⟩ := h
 exact (zug I rel r1 r2 rx ry e hu).2 X.prog X.w X.xe _ ⟨.bl !b, H, I, rfl, q⟩
theorem zc4 : OpSim κ (rEqT κ false) oEq := fun F σ H x y z v w Q rel rx ry e k => by
 unfold oEq at e
 cases q : eqO F.s F.h x y with
 | none => rw [q] at e; cases e
 | some b => rw [q] at e; cases e; exact ⟨F, σ, x, y, b, rel, rx, ry, q, k _ H Ext.refl ⟨rel, .bl _⟩⟩
theorem zg7 : OpSim κ (rEqT κ true) oNe := fun F σ H x y z v w Q rel rx ry e k => by
 unfold oNe at e
 cases q : eqO F.s F.h x y with
 | none => rw [q] at e; cases e
 | some b => rw [q] at e; cases e; exact ⟨F, σ, x, y, b, rel, rx, ry, q, k _ H Ext.refl ⟨rel, .bl _⟩⟩
end
end L3
set_option Elab.async false
set_option linter.all false
set_option maxRecDepth 100000
namespace L3
open PySem PySem.Spec PyProof.Rows L2
section
variable {X : Cx} {κ : Kx} {E : XK} {F : Fr} {σ : L2.St} {H H' : Hp} {Q : VK} {p : Addr} {pos np : Pos} {i : Nat} {x : Str} {e : Expr} {es : List Expr} {t : A3}
theorem r_b {id : String} {r : List V → Hp → VK → Prop} {f : FB} (hs : zch κ r f) (hc : zdp X (.builtin id) r) (hg : Gl X x) (hm : X.mg x = none) (hv : bootBuiltins x = some (.builtin id)) (ha : PA X (e :: es) (taOf κ E t)) (hn : x ≠ "__name__" := by decide) (hdb : (x == ("__debug__" : Str)) = false := by decide)
  (he : starEach (e :: es) X.env = (false, eval e X.env) :: starEach es X.env := by rfl) (hpl : (backTo pos (starEach es X.env)).any (·.1) = false := by rfl) : PE X (.Call (.Name x np) (e :: es) [] pos) (teOf κ E (eB f t)) := PEw (zoe hc hg hm hv ha hn hdb he hpl) fun _ _ _ h => te_b hs h
theorem r_ty {T : String} {r : List V → Hp → VK → Prop} {f : FB} (hs : zch κ r f) (hc : zdp X (.type T) r) (hg : Gl X x) (hm : X.mg x = none) (hv : bootBuiltins x = some (.type T)) (ha : PA X (e :: es) (taOf κ E t)) (hn : x ≠ "__name__" := by decide) (hdb : (x == ("__debug__" : Str)) = false := by decide)
  (he : starEach (e :: es) X.env = (false, eval e X.env) :: starEach es X.env := by rfl) (hpl : (backTo pos (starEach es X.env)).any (·.1) = false := by rfl) : PE X (.Call (.Name x np) (e :: es) [] pos) (teOf κ E (eB f t)) := PEw (zmp hc hg hm hv ha hn hdb he hpl) fun _ _ _ h => te_b hs h
theorem p1 {f : Rf} {vs : List V} (r : Paired (RfR κ F H) [f] vs) : ∃ v, vs = [v] ∧ RfR κ F H f v := by
 cases r with | cons a t => cases t; exact ⟨_, rfl, a⟩
theorem p2 {f g : Rf} {vs : List V} (r : Paired (RfR κ F H) [f, g] vs) : ∃ v w, vs = [v, w] ∧ RfR κ F H f v ∧ RfR κ F H g w := by
 cases r with | cons a t => cases t with | cons b t => cases t; exact ⟨_, _, rfl, a, b⟩
def bLen : FB := fun s h fs => match fs with
 | [.x (.str y)] => if y.length ≤ sizeLine then some (.v (.int y.length)) else none
 | [.x (.tup xs)] => some (.v (.int xs.length))
 | [f] => (rdl s h f).map fun xs => .v (.int xs.length)
 | _ => none
theorem zcu : zch κ (fun xs H Q => ∃ x n, xs = [x] ∧ LenV κ.K x H n ∧ Q (.int n) H) bLen := fun F σ H fs z vs Q rel r e k => by
 unfold bLen at e
 split at e
 ·rename_i y
  obtain ⟨v, rfl, rv⟩ := p1 r
  cases (show Rep κ F.β F.O H (.str y) v from rv)
  obtain ⟨h, rfl⟩ := zbr e
  exact ⟨_, _, rfl, ⟨h, rfl⟩, k _ H Ext.refl ⟨rel, .int _⟩⟩
 ·rename_i xs
  obtain ⟨v, rfl, rv⟩ := p1 r
  cases e
  cases (show Rep κ F.β F.O H (.tup xs) v from rv) with
  | tup h1 h2 h3 h4 => exact ⟨_, _, rfl, .inr ⟨_, .of h1, rfl⟩, k _ H Ext.refl ⟨rel, by rw [h4.length]; exact .int _⟩⟩
 ·rename_i f _ _
  obtain ⟨v, rfl, rv⟩ := p1 r
  cases q : rdl F.s F.h f with
  | none => rw [q] at e; cases e
  | some xs =>
   rw [q] at e; cases e
   obtain ⟨a, ys, rfl, sq, rs⟩ := zel rel rv q
   exact ⟨_, _, rfl, .inl ⟨_, sq, rfl⟩, k _ H Ext.refl ⟨rel, by rw [rs.length]; exact .int _⟩⟩
 ·cases e
theorem zbq (hK : X.K = κ.K) : zdp X (.builtin "len") (fun xs H Q => ∃ x n, xs = [x] ∧ LenV κ.K x H n ∧ Q (.int n) H) := by rw [← hK]; exact znq
def bMax : FB := fun _ _ fs => match fs with
 | [.x (.int i), .x (.int j)] => some (.v (.int (max i j)))
 | _ => none
def bMin : FB := fun _ _ fs => match fs with
 | [.x (.int i), .x (.int j)] => some (.v (.int (min i j)))
 | _ => none
def bMin3 : FB := fun _ _ fs => match fs with
 | [.x (.int i), .x (.int j), .x (.int k)] => some (.v (.int (min i (min j k))))
 | _ => none
theorem zq2 : zch κ (fun xs H Q => ∃ i j, xs = [.int i, .int j] ∧ Q (.int (if j > i then j else i)) H) bMax := fun F σ H fs z vs Q rel r e k => by
 unfold bMax at e
 split at e
 ·rename_i i j
  cases e
  obtain ⟨v, w, rfl, rv, rw'⟩ := p2 r
  cases (show Rep κ F.β F.O H (.int i) v from rv)
  cases (show Rep κ F.β F.O H (.int j) w from rw')
  refine ⟨i, j, rfl, k _ H Ext.refl ⟨rel, ?_⟩⟩
  have : (if j > i then j else i) = max i j := by split <;> omega
  rw [this]; exact .int _
 ·cases e
theorem zqn : zch κ (fun xs H Q => ∃ i j, xs = [.int i, .int j] ∧ Q (.int (if j < i then j else i)) H) bMin := fun F σ H fs z vs Q rel r e k => by
 unfold bMin at e
 split at e
 ·rename_i i j
  cases e
  obtain ⟨v, w, rfl, rv, rw'⟩ := p2 r
  cases (show Rep κ F.β F.O H (.int i) v from rv)
  cases (show Rep κ F.β F.O H (.int j) w from rw')
  refine ⟨i, j, rfl, k _ H Ext.refl ⟨rel, ?_⟩⟩
  have : (if j < i then j else i) = min i j := by split <;> omega
  rw [this]; exact .int _
 ·cases e
def bInt : FB := fun _ _ fs => match fs with
 | [.x (.int i)] => some (.v (.int i))
 | [.x (.bl b)] => some (.v (.int (if b then 1 else 0)))
 | _ => none
theorem zq7 : zch κ (fun xs H Q => (∃ i, xs = [.int i] ∧ Q (.int i) H) ∨ ∃ k, xs = [.bl k] ∧ Q (.int (if k then 1 else 0)) H) bInt := fun F σ H fs z vs Q rel r e k => by
 unfold bInt at e
 split at e
 ·rename_i i
  cases e
  obtain ⟨v, rfl, rv⟩ := p1 r
  cases (show Rep κ F.β F.O H (.int i) v from rv)
  exact .inl ⟨i, rfl, k _ H Ext.refl ⟨rel, .int _⟩⟩
 ·rename_i b
  cases e
  obtain ⟨v, rfl, rv⟩ := p1 r
  cases (show Rep κ F.β F.O H (.bl b) v from rv)
  exact .inr ⟨b, rfl, k _ H Ext.refl ⟨rel, .int _⟩⟩
 ·cases e
def bList : FB := fun s h fs => match fs with
 | [.x (.tup xs)] => some (.m (.lst xs))
 | [f] => (rdl s h f).map fun xs => .m (.lst xs)
 | _ => none
theorem zom : zch κ (fun xs H Q => ∃ p ys, xs = [.ref p] ∧ (SqL κ.K H p ys ∨ SqT κ.K H p ys) ∧ ∀ l, H l = none → Q (.ref l) (upd H l (.lst ys))) bList := fun F σ H fs z vs Q rel r e k => by
 unfold bList at e
 split at e
 ·rename_i xs
  cases e
  obtain ⟨v, rfl, rv⟩ := p1 r
  cases (show Rep κ F.β F.O H (.tup xs) v from rv) with
  | tup h1 h2 h3 h4 => exact ⟨_, _, rfl, .inr (.of h1), fun l hl => k _ _ (za6 hl) (Post.lst rel hl h4)⟩
 ·rename_i f _
  obtain ⟨v, rfl, rv⟩ := p1 r
  cases q : rdl F.s F.h f with
  | none => rw [q] at e; cases e
  | some xs =>
   rw [q] at e; cases e
   obtain ⟨a, ys, rfl, sq, rs⟩ := zel rel rv q
   exact ⟨_, _, rfl, .inl sq, fun l hl => k _ _ (za6 hl) (Post.lst rel hl rs)⟩
 ·cases e
def mapO {α β : Type} (f : α → Option β) : List α → Option (List β)
 | [] => some []
 | x :: r => match f x, mapO f r with
  | some y, some l => some (y :: l)
  | _, _ => none
theorem zez {α β γ : Type} {f : α → Option β} {g : γ → α} {k : γ → β} (h : ∀ c, f (g c) = some (k c)) : ∀ l : List γ, mapO f (l.map g) = some (l.map k)
 | [] => rfl
 | x :: r => by simp only [List.map_cons, mapO, h x, zez h r]
theorem zfg {α β : Type} {f : α → Option β} {x : α} {r : List α} {l : List β} (e : mapO f (x :: r) = some l) : ∃ y l', f x = some y ∧ mapO f r = some l' ∧ l = y :: l' := by
 unfold mapO at e
 cases q1 : f x with
 | none => simp only [q1] at e; cases e
 | some y =>
  cases q2 : mapO f r with
  | none => simp only [q1, q2] at e; cases e
  | some l' => simp only [q1, q2] at e; cases e; exact ⟨y, l', rfl, rfl, rfl⟩
def bl3 : V3 → Option Bool
 | .bl b => some b
 | _ => none
def int3 : V3 → Option Int
 | .int i => some i
 | _ => none
theorem zi8 : ∀ {xs : List V3} {ys : List V} {bs : List Bool}, Reps κ F.β F.O H xs ys → mapO bl3 xs = some bs → ys = bs.map V.bl
 | _, _, _, .nil, e => by cases e; rfl
 | x :: xs, y :: ys, bs, .cons a r, e => by
  obtain ⟨b, l, h1, h2, rfl⟩ := zfg e
  cases x <;> simp [bl3] at h1
  subst h1
  cases a
  rw [List.map_cons, zi8 r h2]
def bAll (q : List Bool → Bool) : FB := fun s h fs => match fs with
 | [f] => match rdl s h f with
  | some xs => (mapO bl3 xs).map fun bs => .v (.bl (q bs))
  | none => none
 | _ => none
theorem zqg {q : List Bool → Bool} : zch κ (fun xs H Q => ∃ (p : Addr) (bs : List Bool), xs = [.ref p] ∧ SqL κ.K H p (bs.map V.bl) ∧ Q (.bl (q bs)) H) (bAll q) := fun F σ H fs z vs Q rel r e k => by
 unfold bAll at e
 split at e
 ·rename_i f
  obtain ⟨v, rfl, rv⟩ := p1 r
  cases q1 : rdl F.s F.h f with
  | none => rw [q1] at e; cases e
  | some xs =>
   rw [q1] at e
   cases q2 : mapO bl3 xs with
   | none => simp only [q2] at e; cases e
   | some bs =>
    simp only [q2] at e; cases e
    obtain ⟨a, ys, rfl, sq, rs⟩ := zel rel rv q1
    exact ⟨a, bs, rfl, by rw [← zi8 rs q2]; exact sq, k _ H Ext.refl ⟨rel, .bl _⟩⟩
 ·cases e
theorem zlb (hK : X.K = κ.K) (hc : X.calm = true) : zdp X (.builtin "all") (fun xs H Q => ∃ (p : Addr) (bs : List Bool), xs = [.ref p] ∧ SqL κ.K H p (bs.map V.bl) ∧ Q (.bl (bs.all id)) H) := by rw [← hK]; exact znm hc
theorem zks (hK : X.K = κ.K) : zdp X (.type "list") (fun xs H Q => ∃ p ys, xs = [.ref p] ∧ (SqL κ.K H p ys ∨ SqT κ.K H p ys) ∧ ∀ l, H l = none → Q (.ref l) (upd H l (.lst ys))) := by rw [← hK]; exact zhf
instance {x : Int} : Decidable (InLong x) := inferInstanceAs (Decidable (_ ∧ _))
def zsv : Int → List Int → Bool
 | _, [] => true
 | a, x :: r => decide (InLong x) && decide (InLong (a + x)) && zsv (a + x) r
def bSum : FB := fun s h fs => match fs with
 | [f] => match rdl s h f with
  | some xs => match mapO int3 xs with
   | some ns => if zsv 0 ns = true then some (.v (.int ns.sum)) else none
   | none => none
  | none => none
 | _ => none
def ty3 (s : S3) (h : H3) : Rf → Option String
 | .x .non => some "NoneType"
 | .x (.bl _) => some "bool"
 | .x (.int _) => some "int"
 | .x (.str _) => some "str"
 | .x (.tup _) => some "tuple"
 | .x (.scr _) => none
 | f => (rdl s h f).map fun _ => "list"
def isa (t T : String) : Option Bool :=
 if T = "int" then some (t == "int" || t == "bool") else if T = "bool" ∨ T = "str" ∨ T = "list" ∨ T = "tuple" then some (t == T) else none
def bIsT : FB := fun s h fs => match fs with
 | [f, .x (.ty T)] => match ty3 s h f with
  | some t => (isa t T).map fun b => .v (.bl b)
  | none => none
 | _ => none
theorem zp1 {K : PySem.W.Frag} {t T : String} {b : Bool} (ht : t ∈ ["NoneType", "bool", "int", "str", "tuple", "list"]) (e : isa t T = some b) : PySem.W.kitOne K (.type t) (.type T) = some b := by
 unfold isa at e
 have hT : T ∈ ["int", "bool", "str", "list", "tuple"] := by
  by_cases h : T = "int"
  ·simp [h]
  ·rw [if_neg h] at e
   by_cases h2 : T = "bool" ∨ T = "str" ∨ T = "list" ∨ T = "tuple"
   ·simp only [List.mem_cons, List.not_mem_nil, or_false]; exact .inr h2
   ·rw [if_neg h2] at e; cases e
 simp only [List.mem_cons, List.not_mem_nil, or_false] at ht hT
 rcases ht with rfl | rfl | rfl | rfl | rfl | rfl <;> rcases hT with rfl | rfl | rfl | rfl | rfl <;> (simp at e; subst e; rfl)
theorem zts {f : Rf} {v : V} {t : String} (rel : Rel κ F σ H) (r : RfR κ F H f v) (e : ty3 F.s F.h f = some t) : t ∈ ["NoneType", "bool", "int", "str", "tuple", "list"] ∧ TyOf κ.K H v (.type t) := by
 have lists : ∀ {f : Rf} {v : V} {t : String}, RfR κ F H f v → (∀ ns, f ≠ .x (.scr ns)) → ((rdl F.s F.h f).map fun _ => "list") = some t → t ∈ ["NoneType", "bool", "int", "str", "tuple", "list"] ∧ TyOf κ.K H v (.type t) := by
  intro f v t r hf e
  cases q : rdl F.s F.h f with
  | none => rw [q] at e; cases e
  | some xs =>
   rw [q] at e; cases e
   have q2 : rdm F.s F.h f = some xs := by
    unfold rdm
    split
    ·rename_i ns; exact absurd rfl (hf ns)
    ·exact q
   obtain ⟨a, ys, rfl, ha, _⟩ := zfp rel r q2
   exact ⟨by simp, .lst ha⟩
 cases f with
 | s i => exact lists r (fun _ z => nomatch z) e
 | x y =>
  cases y with
  | non => cases e; cases (show Rep κ F.β F.O H .non v from r); exact ⟨by simp, .non⟩
  | bl b => cases e; cases (show Rep κ F.β F.O H (.bl b) v from r); exact ⟨by simp, .bl b⟩
  | int b => cases e; cases (show Rep κ F.β F.O H (.int b) v from r); exact ⟨by simp, .int b⟩
  | str b => cases e; cases (show Rep κ F.β F.O H (.str b) v from r); exact ⟨by simp, .str b⟩
  | tup xs => cases e; cases (show Rep κ F.β F.O H (.tup xs) v from r) with | tup h1 _ _ _ => exact ⟨by simp, .tup h1⟩
  | scr ns => cases e
  | lst xs => exact lists r (fun _ z => nomatch z) e
  | loc n => exact lists r (fun _ z => nomatch z) e
  | _ => cases e
theorem zcx : zch κ (fun xs H Q => ∃ x T t b, xs = [x, .ty T] ∧ TyOf κ.K H x t ∧ PySem.W.kitOne κ.K t (.type T) = some b ∧ Q (.bl b) H) bIsT := fun F σ H fs z vs Q rel r e k => by
 unfold bIsT at e
 split at e
 ·rename_i f T
  obtain ⟨v, w, rfl, rv, rw'⟩ := p2 r
  cases (show Rep κ F.β F.O H (.ty T) w from rw')
  cases q1 : ty3 F.s F.h f with
  | none => rw [q1] at e; cases e
  | some t =>
   rw [q1] at e
   cases q2 : isa t T with
   | none => simp only [q2] at e; cases e
   | some b =>
    simp only [q2] at e; cases e
    obtain ⟨h1, h2⟩ := zts rel rv q1
    exact ⟨v, T, _, b, rfl, h2, zp1 h1 q2, k _ H Ext.refl ⟨rel, .bl _⟩⟩
 ·cases e
theorem zby (hK : X.K = κ.K) : zdp X (.builtin "isinstance") (fun xs H Q => ∃ x T t b, xs = [x, .ty T] ∧ TyOf κ.K H x t ∧ PySem.W.kitOne κ.K t (.type T) = some b ∧ Q (.bl b) H) := by rw [← hK]; exact zil
def tru3 (s : S3) (h : H3) : Rf → Option Bool
 | .x .non => some false
 | .x (.bl b) => some b
 | .x (.int i) => some (i != 0)
 | .x (.str y) => if y.length ≤ sizeLine then some ((y.length : Int) != 0) else none
 | .x (.tup xs) => some (!xs.isEmpty)
 | f => (rdl s h f).map fun xs => !xs.isEmpty
def tP (p : P3) : T3 := fun s h => (p s h).bind fun f h1 => match tru3 s h1 f with
 | some b => .ok b h1
 | none => .no
theorem zep {xs : List V3} {ys : List V} (r : Reps κ F.β F.O H xs ys) : xs.isEmpty = ys.isEmpty := by cases r <;> rfl
theorem zps {f : Rf} {v : V} {b : Bool} (rel : Rel κ F σ H) (r : RfR κ F H f v) (e : tru3 F.s F.h f = some b) : TruV κ.K v H b := by
 have lists : ∀ {f : Rf} {v : V} {b : Bool}, RfR κ F H f v → ((rdl F.s F.h f).map fun xs => !xs.isEmpty) = some b → TruV κ.K v H b := by
  intro f v b r e
  cases q : rdl F.s F.h f with
  | none => rw [q] at e; cases e
  | some xs =>
   rw [q] at e; cases e
   obtain ⟨a, ys, rfl, sq, rs⟩ := zel rel r q
   exact .inl ⟨ys, sq, by show (!xs.isEmpty) = _; rw [zep rs]⟩
 cases f with
 | s i => exact lists r e
 | x y =>
  cases y with
  | non => cases e; cases (show Rep κ F.β F.O H .non v from r); rfl
  | bl b => cases e; cases (show Rep κ F.β F.O H (.bl b) v from r); rfl
  | int b => cases e; cases (show Rep κ F.β F.O H (.int b) v from r); rfl
  | str b => cases (show Rep κ F.β F.O H (.str b) v from r); obtain ⟨h, rfl⟩ := zbr e; exact ⟨h, rfl⟩
  | tup xs => cases e; cases (show Rep κ F.β F.O H (.tup xs) v from r) with | tup h1 _ _ h4 => exact .inr (.inl ⟨_, .of h1, by rw [zep h4]⟩)
  | scr ns => exact lists r e
  | lst xs => exact lists r e
  | loc n => exact lists r e
  | _ => cases e
theorem zo6 {a : Expr} {d : P3} (hK : X.K = κ.K) (ha : PE X a (tpOf κ E d)) (he : ∀ whole, isTrue a X.env whole = (do let v ← whole; standAt a.pos; holding [v] (truthy v)) := by intro _; rfl) : PT X a (ttOf κ E (tP d)) := PTw (zny ha he) fun σ H Q ⟨F, rel, o⟩ =>
 (za9 (K := kP κ) km_T rel o).mono fun v H1 ⟨β1, h1, f, e1, ⟨r1, rf⟩, o1⟩ => by
  cases q : tru3 F.s h1 f with
  | none => simp only [q] at o1; exact o1.elim
  | some b =>
   simp only [q] at o1
   exact ⟨b, by rw [hK]; exact zps (F := F.to β1 h1) r1 rf q, o1 β1 b H1 Ext.refl ⟨rfl, r1⟩⟩
def key3 : V3 → Option Key
 | .int i => some (.inl i)
 | .str x => some (.inr x)
 | _ => none
def row3 : V3 → Option (List Key)
 | .tup xs => mapO key3 xs
 | _ => none
def unk : Key → V3
 | .inl i => .int i
 | .inr x => .str x
def zuv (r : List Key) : V3 := .tup (r.map unk)
def zvw (ns : List Int) : List Int := ns.mergeSort (fun a b => decide (a ≤ b))
def zup (rows : List (List Key)) : List (List Key) := rows.mergeSort (fun a b => !lexK b a)
def zqc (rows : List (List Key)) : Bool := match rows with
 | [] => true
 | r :: l => (zor r).head? == some true && l.all fun q => zor q == zor r
def zus (xs : List V3) : Option (List V3) := match mapO int3 xs with
 | some ns => if ns.length ≤ 100000 then some ((zvw ns).map .int) else none
 | none => match mapO row3 xs with
  | some rows => if rows.length ≤ 100000 ∧ zqc rows = true then some ((zup rows).map zuv) else none
  | none => none
def bSorted : FB := fun s h fs => match fs with
 | [f] => match rdl s h f with
  | some xs => (zus xs).map fun ys => .m (.lst ys)
  | none => none
 | _ => none
def rSortT (κ : Kx) : List V → Hp → VK → Prop := fun xs H Q => (∃ (p : Addr) (ns : List Int), xs = [.ref p] ∧ SqL κ.K H p (ns.map V.int) ∧ ns.length ≤ 100000 ∧
  ∀ (l : Addr) (ns' : List Int), H l = none → ns'.Perm ns → ns'.Pairwise (fun a b => a ≤ b) → Q (.ref l) (upd H l (.lst (ns'.map V.int)))) ∨ (∃ (p : Addr) (ys : List V) (rows : List (List Key)) (R : V → List Key → Prop) (sh : List Bool), xs = [.ref p] ∧ SqL κ.K H p ys ∧ (∀ x r, R x r → IsK κ.K H x r) ∧ Paired R ys rows ∧ rows.length ≤ 100000 ∧ (∀ r ∈ rows, zor r = true :: sh) ∧
  ∀ (l : Addr) (ys' : List V) (rows' : List (List Key)), H l = none → rows'.Perm rows → rows'.Pairwise (fun a b => lexK b a = false) → Paired R ys' rows' → Q (.ref l) (upd H l (.lst ys')))
end
end L3
set_option Elab.async false
set_option linter.all false
set_option maxRecDepth 100000
namespace L3
open PySem PySem.Spec PyProof.Rows L2
section
variable {X : Cx} {κ : Kx} {E : XK} {F F1 F2 F' : Fr} {σ σ' : L2.St} {H H1 H2 H' : Hp} {Q : VK} {p : Addr} {e a b o : Expr} {pos apos np : Pos} {i : Nat} {D : Ends}
def iR1 (a : A3) : I3 := fun s h => (a s h).bind fun fs h1 => match fs with
 | [.x (.int j)] => if -(2 ^ 62) ≤ j ∧ j < 2 ^ 62 then .ok ⟨[], (List.range j.toNat).map fun k => .int (0 + (k : Nat)), fun _ => True⟩ h1 else .no
 | _ => .no
def iR2 (a : A3) : I3 := fun s h => (a s h).bind fun fs h1 => match fs with
 | [.x (.int i), .x (.int j)] => if -(2 ^ 62) ≤ i ∧ i < 2 ^ 62 ∧ -(2 ^ 62) ≤ j ∧ j < 2 ^ 62 then .ok ⟨[], (List.range (j - i).toNat).map fun k => .int (i + (k : Nat)), fun _ => True⟩ h1 else .no
 | _ => .no
theorem zjm {lo : Int} {n : Nat} : IR κ ⟨[], (List.range n).map fun k => .int (lo + (k : Nat)), fun _ => True⟩ [] (Itr lo n) := fun F σ H rel _ _ i => by
 have el : ((List.range n).map fun k => V3.int (lo + (k : Nat))).length = n := by simp
 refine ⟨fun hi => ⟨show i < n by rw [el] at hi; exact hi, fun x H' ⟨e1, e2⟩ => ?_⟩, fun hi => show n ≤ i by rw [el] at hi; exact hi⟩
 subst e1; subst e2
 have hi : i < n := by simpa using hi
 exact ⟨.int (lo + i), by simp [hi], Ext.refl, rel, .int _⟩
theorem zfk {tg : Expr} {t : A3} (hg : Gl X "range") (hm : X.mg "range" = none) (ha : PA X [a] (taOf κ E t)) (hs : starEach [a] X.env = [(false, eval a X.env)] := by rfl) : PI X tg (.Call (.Name "range" np) [a] [] pos) (tiOf κ E (iR1 t)) := PIw (zlj hg hm ha hs) fun σ H R ⟨F, rel, o⟩ =>
 (za9 (K := kA κ) km_I rel o).mono fun vs H1 ⟨β1, h1, fs, e1, ⟨r1, rf⟩, o1⟩ => by
  match fs, rf, o1 with
  | [.x (.int j)], rf, o1 =>
   obtain ⟨v, rfl, rv⟩ := p1 rf
   cases (show Rep κ β1 F.O H1 (.int j) v from rv)
   by_cases hj : -(2 ^ 62) ≤ j ∧ j < 2 ^ 62
   ·simp only [if_pos hj] at o1
    exact ⟨j, rfl, hj.1, hj.2, o1 β1 _ H1 Ext.refl ⟨r1, [], .nil, zjm⟩⟩
   ·simp only [if_neg hj] at o1; exact o1.elim
theorem zlx {tg : Expr} {t : A3} (hg : Gl X "range") (hm : X.mg "range" = none) (ha : PA X [a, b] (taOf κ E t)) (hs : starEach [a, b] X.env = [(false, eval a X.env), (false, eval b X.env)] := by rfl) (hs2 : starEach [b] X.env = [(false, eval b X.env)] := by rfl) : PI X tg (.Call (.Name "range" np) [a, b] [] pos) (tiOf κ E (iR2 t)) := PIw (zmv hg hm ha hs hs2) fun σ H R ⟨F, rel, o⟩ =>
 (za9 (K := kA κ) km_I rel o).mono fun vs H1 ⟨β1, h1, fs, e1, ⟨r1, rf⟩, o1⟩ => by
  match fs, rf, o1 with
  | [.x (.int i), .x (.int j)], rf, o1 =>
   obtain ⟨v, w, rfl, rv, rw'⟩ := p2 rf
   cases (show Rep κ β1 F.O H1 (.int i) v from rv)
   cases (show Rep κ β1 F.O H1 (.int j) w from rw')
   by_cases hj : -(2 ^ 62) ≤ i ∧ i < 2 ^ 62 ∧ -(2 ^ 62) ≤ j ∧ j < 2 ^ 62
   ·simp only [if_pos hj] at o1
    exact ⟨i, j, rfl, hj, o1 β1 _ H1 Ext.refl ⟨r1, [], .nil, zjm⟩⟩
   ·simp only [if_neg hj] at o1; exact o1.elim
def ze4 (a : A3) : I3 := fun s h => (a s h).bind fun fs h1 => match fs with
 | [.x x] => match zb3 h1 x with
  | some (xs, ok) => .ok ⟨[x], (List.range xs.length).map fun k => .tup [.int (k : Nat), xs.getD k .non], ok⟩ h1
  | none => .no
 | _ => .no
def iZip3 (a : A3) : I3 := fun s h => (a s h).bind fun fs h1 => match fs with
 | [.x x, .x y] => match zb3 h1 x, zb3 h1 y with
  | some (xs, ok), some (ys, ok') => .ok ⟨[x, y], (xs.zip ys).map fun q => .tup [q.1, q.2], fun h => ok h ∧ ok' h⟩ h1
  | _, _ => .no
 | _ => .no
theorem Rel.tup2 {x y : V3} {v w : V} {T : Addr} (rel : Rel κ F σ H) (hT : H T = none) (rx : Rep κ F.β F.O H x v) (ry : Rep κ F.β F.O H y w) : Ext No F.β H F.β (upd H T (.tup [v, w])) ∧ Rel κ F σ (upd H T (.tup [v, w])) ∧ Rep κ F.β F.O (upd H T (.tup [v, w])) (.tup [x, y]) (.ref T) := by
 have q := Post.tup (N := No) rel hT (.cons rx (.cons ry .nil))
 exact ⟨za6 hT, q.1, q.2⟩
theorem zib {elts : List Expr} {x1} {tp : Pos} {t : A3} (hK : X.K = κ.K) (hg : Gl X "enumerate") (hm : X.mg "enumerate" = none) (ha : PA X [a] (taOf κ E t)) (hs : starEach [a] X.env = [(false, eval a X.env)] := by rfl) : PI X (.Tuple elts x1 tp) (.Call (.Name "enumerate" np) [a] [] pos) (tiOf κ E (ze4 t)) := PIw (zqq hg hm ha hs) fun σ H R ⟨F, rel, o⟩ =>
 (za9 (K := kA κ) km_I rel o).mono fun vs H1 ⟨β1, h1, fs, e1, ⟨r1, rf⟩, o1⟩ => by
  match fs, rf, o1 with
  | [.x x], rf, o1 =>
   obtain ⟨v, rfl, rv⟩ := p1 rf
   have rv : Rep κ β1 F.O H1 x v := rv
   cases q : zb3 h1 x with
   | none => simp only [q] at o1; exact o1.elim
   | some w =>
    obtain ⟨xs, ok⟩ := w
    simp only [q] at o1
    obtain ⟨c, ys, rfl, sq, rs⟩ := zgg (F := F.to β1 h1) q r1 rv (zeg q).1
    rw [hK]
    refine ⟨c, ys, rfl, sq, o1 β1 _ H1 Ext.refl ⟨r1, [.ref c], .cons rv .nil, fun F' σ' H' rel' r' hk i => ?_⟩⟩
    cases r' with
    | cons r'' _ =>
     obtain ⟨c', ys', ec, sq', rs'⟩ := zgg q rel' r'' hk
     cases ec
     have hl := rs'.length
     have el : (((List.range xs.length).map fun k => V3.tup [.int (k : Nat), xs.getD k .non])).length = xs.length := by simp
     refine ⟨fun hi => ?_, fun hi => ⟨ys', sq', by rw [← hl]; rw [el] at hi; exact hi⟩⟩
     rw [el] at hi
     obtain ⟨y, hy, ry⟩ := rs'.get (List.getElem?_eq_getElem hi)
     refine ⟨⟨ys', y, sq', hy⟩, fun x' H'' yl => ?_⟩
     obtain ⟨T, z, rfl, hT, rfl, hz⟩ := yl
     have := hz ys' sq'
     rw [hy] at this; cases this
     obtain ⟨q1, q2, q3⟩ := Rel.tup2 (x := .int (i : Nat)) (v := .int (i : Nat)) rel' hT (.int _) ry
     refine ⟨.tup [.int (i : Nat), xs[i]], ?_, q1, q2, q3⟩
     simp [hi]
def cst3 (n : Nat) (fr : List Nat) (s : S3) : S3 := List.replicate n none ++ fr.map fun j => match s[j]? with
 | some (some (.v x)) => some (.v x)
 | _ => none
open Classical in
noncomputable def zcr (ok : H3 → Prop) (g : G3) (c : T3) (e : E3) : List V3 → List V3 → S3 → H3 → Res (List V3)
 | [], acc, _, h => if ok h then .ok acc h else .no
 | x :: r, acc, s, h => if ok h then match g x s with
  | none => .no
  | some s1 => match c s1 h with
   | .ok true h1 => match e s1 h1 with
    | .ok v h2 => match v.fz with
     | some y => if acc.length < sizeLine then zcr ok g c e r (acc ++ [y]) s1 h2 else .no
     | none => .no
    | _ => .no
   | .ok false h1 => zcr ok g c e r acc s1 h1
   | _ => .no
  else .no
noncomputable def zeq (n : Nat) (fr : List Nat) (it : I3) (g : G3) (c : T3) (e : E3) : E3 := fun s h => (it s h).bind fun I h1 => (zcr I.ok g c e I.xs [] (cst3 n fr s) h1).bind fun vs h2 => .ok (.m (.lst vs)) h2
def tTru : T3 := fun _ h => .ok true h
theorem zkz : PTs X [] (ttOf κ E tTru) := fun pins s σ H Q I ⟨F, rel, o⟩ => zqi pins s σ H Q I (o F.β true H Ext.refl ⟨rfl, rel⟩)
theorem zie {c : Expr} {t : T3} (h : PT X c (ttOf κ E t)) : PTs X [c] (ttOf κ E t) := zqx h
theorem zc9 {β : List (Option Addr)} {d : Addr} {o : HO} (ho : ∃ u, H d = some u) : Ext (fun a => a = d) β H β (upd H d o) :=
 ⟨fun a u ha hn m => ⟨by rw [zaj m]; exact ha, hn⟩, Nat.le_refl _, fun _ _ _ h => h, fun a u ha => by
  by_cases z : a = d
  ·subst z; exact ⟨o, zaw⟩
  ·exact ⟨u, by rw [zaj z]; exact ha⟩, nwb0⟩
theorem RelH.wrO {O : Addr → Prop} {β : List (Option Addr)} {h : H3} {d : Addr} {u : HO} (r : RelH κ O β h H) (hd : O d) : RelH κ O β h (upd H d u) := by
 have ex := zc9 (β := β) (o := u) (r.trk d hd)
 refine ⟨r.len, r.inj, r.off, fun a ha => let ⟨w, q⟩ := r.trk a ha; ex.there a w q, fun i a q => let ⟨w, z⟩ := r.btr i a q; ex.there a w z, fun i c hc => (r.cell i c hc).imp id fun ⟨a, ha, q⟩ => ⟨a, ha, q.ext ex (fun b hb => by rw [hb]; exact hd) (fun _ _ _ n => n) fun w hw => ?_⟩⟩
 rw [zaj (fun z => by subst z; exact r.off a hd (List.mem_of_getElem? ha))]; exact hw
theorem Rel.wrOi {d : Addr} {u : HO} (r : Rel κ F σ H) (hd : F.Oi d) : Rel κ F σ (upd H d u) where
 heap := r.heap.wrO (.inr (.inr hd))
 slen := r.slen
 llen := r.llen
 linj := r.linj
 lt := r.lt
 lo := r.lo
 to := r.to
 tn := r.tn
 slot := fun i x q => by
  have hO : F.O d := .inr (.inr hd)
  have ex := zc9 (β := F.β) (o := u) (r.heap.trk d hO)
  obtain ⟨v, h1, h2⟩ := r.slot i x q
  refine ⟨v, h1, ?_⟩
  cases x with
  | v x => exact Rep.ext ex (fun b hb => by rw [hb]; exact hO) (fun _ _ _ n => n) h2
  | m c =>
   obtain ⟨a, a1, a2, a3⟩ := h2
   refine ⟨a, a1, a2, a3.ext ex (fun b hb => by rw [hb]; exact hO) (fun _ _ _ n => n) fun w hw => ?_⟩
   rw [zaj (fun z => by subst z; exact r.lo a (List.mem_of_getElem? a1) hd)]; exact hw
theorem zlm {n : Nat} {fr : List Nat} {s : S3} {i : Nat} {x : Vl} (h : (cst3 n fr s)[i]? = some (some x)) : ∃ j y, fr[i - n]? = some j ∧ n ≤ i ∧ s[j]? = some (some (.v y)) ∧ x = .v y := by
 unfold cst3 at h
 by_cases hi : i < n
 ·rw [List.getElem?_append_left (by simpa using hi), List.getElem?_replicate] at h
  split at h <;> cases h
 ·rw [List.getElem?_append_right (by simpa using hi), List.length_replicate, List.getElem?_map] at h
  cases q : fr[i - n]? with
  | none => rw [q] at h; cases h
  | some j =>
   rw [q] at h
   simp only [Option.map_some, Option.some.injEq] at h
   split at h
   ·rename_i y hy; cases h; exact ⟨j, y, rfl, by omega, hy, rfl⟩
   ·cases h
theorem zlh {n : Nat} {fr : List Nat} {it : I3} {g : G3} {c : T3} {d : E3} (h : teOf κ E (zeq n fr it g c d) σ H Q) : zm6 (tiOf κ E it) n fr (tgOf κ g) (ttOf κ E0 c) (teOf κ E0 d) σ H Q := by
 obtain ⟨F, rel, o⟩ := h
 refine (za9 (K := kI κ) km_E rel o).mono fun J H1 ⟨β1, h1, I, e1, ⟨r1, vs, rv, ir⟩, o1⟩ => fun D hD => ?_
 have hDH : H D = none := e1.nw D hD
 let Oi : Addr → Prop := fun a => a = D ∨ F.O a
 have rn := (r1.new (o := .lst []) hD)
 have rh1 : RelH κ Oi β1 h1 (upd H1 D (.lst [])) := rn.1.heap.sub fun a ha => ha.elim (fun z => .inl (by rw [z]; exact List.mem_cons_self)) fun z => Fr.O_with z
 have hO1 : ∀ a u, H1 a = some u → ¬ F.O a → ¬ Oi a := fun a u ha n z => z.elim (fun w => by subst w; rw [hD] at ha; cases ha) n
 let F0 : Fr := ⟨Oi, [], β1, List.replicate (cst3 n fr F.s).length none, cst3 n fr F.s, h1⟩
 have sub0 : ∀ (F' : Fr), F'.T = [] → (∀ a, some a ∉ F'.l) → F'.Oi = Oi → ∀ a, F'.O a → Oi a := fun F' t l oi a ha => by
  rcases ha with z | z | z
  ·rw [t] at z; cases z
  ·exact absurd z (l a)
  ·rw [oi] at z; exact z
 have hlen : (cst3 n fr F.s).length = (cst n fr σ).length := by unfold cst3 cst; simp
 have rel0 : Rel κ F0 (cst n fr σ) (upd H1 D (.lst [])) := by
  refine ⟨rh1.sub (sub0 F0 rfl (fun a => zc6) rfl), hlen, ?_, fun i j a h => absurd (List.mem_of_getElem? h) zc6, fun a ha => absurd ha zc6, fun a ha => absurd ha zc6, fun a ha => (by cases ha), List.nodup_nil, fun i x hx => ?_⟩
  ·show (List.replicate (cst3 n fr F.s).length (none : Option Addr)).length = (cst3 n fr F.s).length
   simp
  ·obtain ⟨j, y, hj, hi, hy, rfl⟩ := zlm hx
   obtain ⟨v, hv, rv⟩ := r1.slot j _ hy
   refine ⟨v, ?_, Rep.sub (sub0 F0 rfl (fun a => zc6) rfl) (Rep.ext (za6 hD) (fun _ z => z.elim) hO1 (show Rep κ β1 F.O H1 y v from rv))⟩
   unfold cst
   rw [List.getElem?_append_right (by simpa using hi), List.length_replicate, List.getElem?_map, hj]
   simp [hv]
 have rv0 : Reps κ β1 Oi (upd H1 D (.lst [])) I.its vs := rv.ext (za6 hD) (fun _ z => z.elim) hO1
 refine ⟨fun i m acc σ' H' => m = I.xs.length - i ∧ i ≤ I.xs.length ∧ H' D = some (.lst acc) ∧ ∃ (F' : Fr) (acc3 : List V3), Rel κ F' σ' H' ∧ F'.T = [] ∧ (∀ a, some a ∉ F'.l) ∧ F'.Oi = Oi ∧ Reps κ F'.β Oi H' I.its vs ∧ Reps κ F'.β Oi H' acc3 acc ∧ Ext No β1 H1 F'.β H' ∧
   Out κ E (kE κ) (F.to β1 h1) σ H1 Q ((zcr I.ok g c d (I.xs.drop i) acc3 F'.s F'.h).bind fun vs h2 => .ok (.m (.lst vs)) h2),
  ⟨_, rfl, Nat.zero_le _, zaw, F0, [], rel0, rfl, fun a => zc6, rfl, rv0, .nil, za6 hD, o1⟩, ?_⟩
 rintro i m acc σ' H' ⟨rfl, hi, hacc, F', acc3, rel', ht, hl, hoi, rits, racc, ex, out⟩
 refine ⟨hacc, ?_⟩
 have hO : ∀ a, F'.O a ↔ Oi a := fun a => ⟨sub0 F' ht hl hoi a, fun z => .inr (.inr (by rw [hoi]; exact z))⟩
 have eO : F'.O = Oi := funext fun a => propext (hO a)
 by_cases hok : I.ok F'.h
 case neg =>
  exfalso
  cases q : I.xs.drop i with
  | nil => rw [q] at out; unfold zcr at out; rw [if_neg hok] at out; exact out
  | cons x r => rw [q] at out; unfold zcr at out; rw [if_neg hok] at out; exact out
 obtain ⟨i1, i2⟩ := ir F' σ' H' rel' (by rw [eO]; exact rits) hok i
 by_cases hlt : i < I.xs.length
 ·obtain ⟨go, yl⟩ := i1 hlt
  refine .inr ⟨go, fun acc' σ3 H5 => H5 D = some (.lst acc') ∧ ∃ (F' : Fr) (acc3 : List V3), Rel κ F' σ3 H5 ∧ F'.T = [] ∧ (∀ a, some a ∉ F'.l) ∧ F'.Oi = Oi ∧ Reps κ F'.β Oi H5 I.its vs ∧ Reps κ F'.β Oi H5 acc3 acc' ∧ Ext No β1 H1 F'.β H5 ∧
   Out κ E (kE κ) (F.to β1 h1) σ H1 Q ((zcr I.ok g c d (I.xs.drop (i + 1)) acc3 F'.s F'.h).bind fun vs h2 => .ok (.m (.lst vs)) h2), fun acc' σ3 H5 n5 => ⟨_, by omega, rfl, hlt, n5⟩, fun x H2 y => ?_⟩
  obtain ⟨x3, ex3, ey, ry, rp⟩ := yl x H2 y
  have hd : I.xs.drop i = x3 :: I.xs.drop (i + 1) := by
   rw [List.drop_eq_getElem_cons hlt]
   congr 1
   rw [List.getElem?_eq_getElem hlt] at ex3
   exact Option.some.inj ex3
  rw [hd] at out
  unfold zcr at out
  rw [if_pos hok] at out
  cases w : g x3 F'.s with
  | none => simp only [w] at out; exact out.elim
  | some s1 =>
   simp only [w] at out
   refine ⟨F', x3, s1, ry, ht, rp, w, fun F3 σ3 e3 b3 s3 h3 r3 => ?_⟩
   have hl3 : ∀ a, some a ∉ F3.l := fun a ha => by
    rcases e3.lam a ha with z | z
    ·exact hl a z
    ·obtain ⟨k, hk⟩ := List.getElem?_of_mem ha
     obtain ⟨u, hu⟩ := r3.heap.trk a (.inr (.inl ha))
     rw [z] at hu; cases hu
   have hoi3 : F3.Oi = Oi := e3.oi.trans hoi
   have eO3 : F3.O = Oi := funext fun a => propext ⟨sub0 F3 e3.tt hl3 hoi3 a, fun z => .inr (.inr (by rw [hoi3]; exact z))⟩
   refine ⟨F3, r3, ?_⟩
   rw [s3, h3]
   cases q : c s1 F'.h with
   | no => simp only [q] at out; exact out.elim
   | ex x h2 => simp only [q] at out; exact out.elim
   | ok cb h2 =>
    simp only [q] at out
    rintro β4 cb' H4 e4 ⟨rfl, r4⟩
    have ex4 : Ext No β1 H1 β4 H4 := (ex.trans0 ey).trans0 (by rw [b3] at e4; exact e4)
    have k4 : ∀ {x : List V3} {v : List V}, Reps κ F'.β Oi H' x v → Reps κ β4 Oi H4 x v := fun r => (r.ext0 ey).ext0 (by rw [b3] at e4; exact e4)
    have hD2 : H2 D = some (.lst acc) := (ey.keep D _ hacc (rel'.heap.off D ((hO D).mpr (.inl rfl))) fun z => z).1
    have hD4 : H4 D = some (.lst acc) := (e4.keep D _ hD2 (r3.heap.off D (by rw [eO3]; exact .inl rfl)) fun z => z).1
    cases cb' with
    | false => rw [if_neg Bool.false_ne_true]; exact ⟨hD4, F3.to β4 h2, acc3, r4, e3.tt, hl3, hoi3, k4 rits, k4 racc, ex4, by show Out _ _ _ _ _ _ _ ((zcr I.ok g c d (I.xs.drop (i + 1)) acc3 F3.s h2).bind _); rw [s3]; exact out⟩
    | true =>
     rw [if_pos rfl]
     refine ⟨F3.to β4 h2, r4, ?_⟩
     show Out κ E0 (kE κ) (F3.to β4 h2) σ3 H4 _ (d F3.s h2)
     rw [s3]
     cases q5 : d s1 h2 with
     | no => simp only [q5] at out; exact out.elim
     | ex x h5 => simp only [q5] at out; exact out.elim
     | ok r5 h5 =>
      simp only [q5] at out
      intro β5 v5 H5 e5 p5
      cases z : r5.fz with
      | none => simp only [z] at out; exact out.elim
      | some y5 =>
       simp only [z] at out
       by_cases hsz : acc3.length < sizeLine
       ·rw [if_pos hsz] at out
        obtain ⟨r6, rep6⟩ := Post.fz p5 z
        have hD5 : H5 D = some (.lst acc) := (e5.keep D _ hD4 (r4.heap.off D (.inr (.inr (by show F3.Oi D; rw [hoi3]; exact .inl rfl)))) fun z => z).1
        have ex6 : Ext (fun a => a = D) β5 H5 β5 (upd H5 D (.lst (acc ++ [v5]))) := zc9 ⟨_, hD5⟩
        have k6 : ∀ {x : List V3} {v : List V}, Reps κ β5 Oi H5 x v → Reps κ β5 Oi (upd H5 D (.lst (acc ++ [v5]))) x v := fun r => r.ext ex6 (fun b hb => by rw [hb]; exact .inl rfl) fun _ _ _ n => n
        have rep6 : Rep κ β5 Oi H5 y5 v5 := by
         have e : ((F3.to β4 h2).to β5 h5).O = Oi := eO3
         have q : Rep κ β5 ((F3.to β4 h2).to β5 h5).O H5 y5 v5 := rep6
         rw [e] at q; exact q
        have k45 : ∀ {x : List V3} {v : List V}, Reps κ β4 Oi H4 x v → Reps κ β5 Oi H5 x v := fun r => r.ext0 e5
        refine ⟨hD5, by rw [← racc.length]; exact hsz, zaw, (F3.to β4 h2).to β5 h5, acc3 ++ [y5], Rel.wrOi r6 (by show F3.Oi D; rw [hoi3]; exact .inl rfl), e3.tt, hl3, hoi3, k6 (k45 (k4 rits)), k6 ((k45 (k4 racc)).append (.cons rep6 .nil)), ?_, ?_⟩
        ·have e45 := ex4.trans0 e5
         refine ⟨fun a u ha hn _ => ?_, e45.len, e45.bet, fun a u ha => ?_, e45.nwb⟩
         ·obtain ⟨q1, q2⟩ := e45.keep a u ha hn fun z => z
          exact ⟨by rw [zaj (fun z => by subst z; rw [hD] at ha; cases ha)]; exact q1, q2⟩
         ·obtain ⟨u', hu'⟩ := e45.there a u ha
          exact ex6.there a u' hu'
        ·show Out _ _ _ _ _ _ _ ((zcr I.ok g c d (I.xs.drop (i + 1)) (acc3 ++ [y5]) F3.s h5).bind _)
         rw [s3]; exact out
       ·rw [if_neg hsz] at out; exact out.elim
 ·have hi : i = I.xs.length := by omega
  subst hi
  rw [List.drop_length] at out
  unfold zcr at out
  rw [if_pos hok] at out
  refine .inl ⟨i2 (Nat.le_refl _), out F'.β (.ref D) H' ex ?_⟩
  have rh : RelH κ (fun a => a = D ∨ (F.to β1 h1).O a) F'.β F'.h H' := rel'.heap.sub fun a ha => (hO a).mpr ha
  refine ⟨D, rfl, Rel.nextNew (F := F.to β1 h1) r1 ex rh hD, ⟨acc, hacc, racc.sub fun a ha => ?_⟩, hD⟩
  rcases ha with z | z
  ·rcases List.mem_cons.mp z with z | z
   ·exact .inl z
   ·exact .inr (.inl z)
  ·exact .inr (.inr z)
theorem zlt {elt tg iter : Expr} {ifs : List Expr} {loc free : List Str} {fr : List Nat} {scope : Scope} {it : I3} {g : G3} {c : T3} {d : E3} (hc : X.calm = true) (S : CompScope X loc free fr scope) (hi : PI X tg iter (tiOf κ E it))
  (hg : ∀ cl C s H ex, PG (zbx X (loc ++ free) scope cl C s H ex) tg (tgOf κ g)) (ht : ∀ cl C s H ex, PTs (zbx X (loc ++ free) scope cl C s H ex) ifs (ttOf κ E0 c)) (he : ∀ cl C s H ex, PE (zbx X (loc ++ free) scope cl C s H ex) elt (teOf κ E0 d))
  (hs : ∀ x, foldedSetIterable iter X.env x = pure x := by intro _; rfl) : PE X (.ListComp elt [⟨tg, iter, ifs, 0⟩] scope pos) (teOf κ E (zeq loc.length fr it g c d)) := PEw (zqp hc S hi hg ht he hs) fun _ _ _ h => zlh h
theorem zf6 {y : Str} {py spos : Pos} {elt tg iter : Expr} {ifs : List Expr} {loc free : List Str} {fr : List Nat} {scope : Scope} {it : I3} {g : G3} {c : T3} {d : E3} (hN : X.N.Nodup) (hi' : X.N[i]? = some y) (hx : X.env.scope.names.lookup y = some .local) (hc : X.calm = true) (S : CompScope X loc free fr scope) (hi : PI X tg iter (tiOf κ E it))
  (hg : ∀ cl C s H ex, PG (zbx X (loc ++ free) scope cl C s H ex) tg (tgOf κ g)) (ht : ∀ cl C s H ex, PTs (zbx X (loc ++ free) scope cl C s H ex) ifs (ttOf κ E0 c)) (he : ∀ cl C s H ex, PE (zbx X (loc ++ free) scope cl C s H ex) elt (teOf κ E0 d))
  (hs : ∀ x, foldedSetIterable iter X.env x = pure x := by intro _; rfl) (hsw : swapsWith (.ListComp elt [⟨tg, iter, ifs, 0⟩] scope pos) (some (.Name y py)) spos.line X.env = pure true := by rfl) :
  PS X (.Assign [.Name y py] (.ListComp elt [⟨tg, iter, ifs, 0⟩] scope pos) spos) (tsOf κ E (sSet i (zeq loc.length fr it g c d))) := PSw (zj4 hN hi' hx hc S hi hg ht he hs hsw) fun D σ H h => zlh (zpj h)
end
end L3
set_option Elab.async false
set_option linter.all false
set_option maxRecDepth 100000
namespace L3
open PySem PySem.Spec PyProof.Rows L2
section
variable {X : Cx} {κ : Kx} {E : XK} {F F' : Fr} {σ σ' : L2.St} {H H1 H' : Hp} {Q : VK} {p : Addr} {e a b c o : Expr} {pos apos np cpos : Pos} {i : Nat} {D : Ends}
def eNeg (p : P3) : E3 := fun s h => (p s h).bind fun f h1 => match f with
 | .x (.int i) => .ok (.v (.int (-i))) h1
 | _ => .no
theorem zjw {d : P3} (ha : PE X a (tpOf κ E d)) : PE X (.UnaryOp .USub a pos) (teOf κ E (eNeg d)) := PEw (zvt zs7 ha) fun σ H Q ⟨F, rel, o⟩ =>
 (za9 (K := kP κ) km_E rel o).mono fun v H1 ⟨β1, h1, f, e1, ⟨r1, rf⟩, o1⟩ => by
  match f, rf, o1 with
  | .x (.int i), rf, o1 =>
   cases (show Rep κ β1 F.O H1 (.int i) v from rf)
   exact ⟨i, rfl, o1 β1 _ H1 Ext.refl ⟨r1, .int _⟩⟩
def eChain (f g : F2) (a b c : P3) : E3 := fun s h => (a s h).bind fun x h1 => (b s h1).bind fun y h2 => match f s h2 x y with
 | some (.v (.bl true)) => (c s h2).bind fun z h3 => opt h3 (g s h3 y z)
 | some (.v (.bl false)) => .ok (.v (.bl false)) h2
 | _ => .no
theorem ziy {r r' : R2} {f g : F2} {da db dc : P3} (hs : OpSim κ r f) (hs' : OpSim κ r' g) (h : teOf κ E (eChain f g da db dc) σ H Q) : zl9 r r' (tpOf κ E da) (tpOf κ E db) (tpOf κ E dc) σ H Q := by
 obtain ⟨F, rel, o⟩ := h
 refine (za9 (K := kP κ) km_E rel o).mono fun v H1 ⟨β1, h1, f1, e1, ⟨r1, rf1⟩, o1⟩ => ?_
 refine (za9 (F := F.to β1 h1) (K := kP κ) km_E r1 o1).mono fun w H2 ⟨β2, h2, f2, e2, ⟨r2, rf2⟩, o2⟩ => ?_
 have rf1' := RfR.ext (F := F.to β1 h1) (β' := β2) (h' := h2) r1 e2 rf1
 cases q : f F.s h2 f1 f2 with
 | none => simp only [q] at o2; exact o2.elim
 | some z =>
  refine hs (F.to β2 h2) σ H2 f1 f2 z v w _ r2 rf1' rf2 q fun u H' e p => ?_
  match z, q, p with
  | .v (.bl true), q, p =>
   simp only [q] at o2
   cases (show Rep κ β2 F.O H' (.bl true) u from p.2)
   refine ⟨true, rfl, ?_⟩
   rw [if_pos rfl]
   have o3 := Out.move (F := F.to β2 h2) (h' := h2) km_E e o2
   refine (za9 (F := F.to β2 h2) (K := kP κ) km_E p.1 o3).mono fun w3 H3 ⟨β3, h3, f3, e3, ⟨r3, rf3⟩, o4⟩ => ?_
   obtain ⟨z', q', k⟩ := Out.opt (F := F.to β3 h3) rfl o4
   exact hs' (F.to β3 h3) σ H3 f2 f3 z' w w3 Q r3 (RfR.ext (F := F.to β2 h2) (β' := β3) (h' := h3) p.1 e3 (RfR.ext (F := F.to β2 h2) (β' := β2) (h' := h2) r2 e rf2)) rf3 q' k
  | .v (.bl false), q, p =>
   simp only [q] at o2
   cases (show Rep κ β2 F.O H' (.bl false) u from p.2)
   refine ⟨false, rfl, ?_⟩
   rw [if_neg Bool.false_ne_true]
   exact o2 β2 _ H' e ⟨p.1, .bl _⟩
  | .v .non, q, p => simp only [q] at o2; exact o2.elim
  | .v (.int _), q, p => simp only [q] at o2; exact o2.elim
  | .v (.str _), q, p => simp only [q] at o2; exact o2.elim
  | .v (.ty _), q, p => simp only [q] at o2; exact o2.elim
  | .v (.tup _), q, p => simp only [q] at o2; exact o2.elim
  | .v (.lst _), q, p => simp only [q] at o2; exact o2.elim
  | .v (.scr _), q, p => simp only [q] at o2; exact o2.elim
  | .v (.dK _), q, p => simp only [q] at o2; exact o2.elim
  | .v (.dT _), q, p => simp only [q] at o2; exact o2.elim
  | .v (.obj _ _), q, p => simp only [q] at o2; exact o2.elim
  | .v (.cls _), q, p => simp only [q] at o2; exact o2.elim
  | .v (.fn _ _), q, p => simp only [q] at o2; exact o2.elim
  | .v (.loc _), q, p => simp only [q] at o2; exact o2.elim
  | .m _, q, p => simp only [q] at o2; exact o2.elim
theorem zp8 {op op' : CmpOp} {r r' : R2} {f g : F2} {da db dc : P3} (hs : OpSim κ r f) (hs' : OpSim κ r' g) (ho : OpR X (compareOp op) r) (ho' : OpR X (compareOp op') r') (ha : PE X a (tpOf κ E da)) (hb : PE X b (tpOf κ E db)) (hc : PE X c (tpOf κ E dc))
  (hm : lastMarks [op, op'] [b, c] = false := by with_unfolding_all rfl) : PE X (.Compare a [op, op'] [b, c] pos) (teOf κ E (eChain f g da db dc)) := PEw (zog ho ho' ha hb hc hm) fun _ _ _ h => ziy hs hs' h
theorem zge {op op' : CmpOp} {r r' : R2} {f g : F2} {da db dc : P3} (hs : OpSim κ r f) (hs' : OpSim κ r' g) (ho : OpR X (compareOp op) r) (ho' : OpR X (compareOp op') r') (ha : PE X a (tpOf κ E da)) (hb : PE X b (tpOf κ E db)) (hc : PE X c (tpOf κ E dc))
  (hm : lastMarks [op, op'] [b, c] = false := by with_unfolding_all rfl) : PT X (.Compare a [op, op'] [b, c] pos) (ttOf κ E (tE (eChain f g da db dc))) := PTw (zol ho ho' ha hb hc hm) fun _ _ _ h => ziy hs hs' (zk7 h)
abbrev Po3 := S3 → H3 → Res (Option Int)
def kO (κ : Kx) : Kd (Option Int) (Option Int) := fun _ F σ H' i j => j = i ∧ Rel κ F σ H'
theorem km_O : zhn (kO κ) := fun _ _ _ _ _ _ _ _ _ _ _ h => h
abbrev toOf (κ : Kx) (E : XK) (d : Po3) : TO := tOf κ E (kO κ) d
def poN : Po3 := fun _ h => .ok none h
def poS (p : P3) : Po3 := fun s h => (p s h).bind fun f h1 => match f with
 | .x (.int i) => .ok (some i) h1
 | _ => .no
theorem POw {e : Option Expr} {t t' : TO} (h : PO X e t) (w : ∀ σ H Q, t' σ H Q → t σ H Q) : PO X e t' := fun pins s σ H Q I q => h pins s σ H Q I (w σ H Q q)
theorem zkt : PO X none (toOf κ E poN) := POw zre fun σ H Q ⟨F, rel, o⟩ => o F.β none H Ext.refl ⟨rfl, rel⟩
theorem zkw {d : P3} (ha : PE X a (tpOf κ E d)) : PO X (some a) (toOf κ E (poS d)) := POw (zq1 ha) fun σ H Q ⟨F, rel, o⟩ =>
 (za9 (K := kP κ) km_O rel o).mono fun v H1 ⟨β1, h1, f, e1, ⟨r1, rf⟩, o1⟩ => by
  match f, rf, o1 with
  | .x (.int i), rf, o1 =>
   cases (show Rep κ β1 F.O H1 (.int i) v from rf)
   exact ⟨i, rfl, o1 β1 _ H1 Ext.refl ⟨rfl, r1⟩⟩
def cutL {α : Type} (xs : List α) (lo hi : Option Int) : List α := (xs.drop (HT.sIx xs.length 0 lo)).take (HT.sIx xs.length xs.length hi - HT.sIx xs.length 0 lo)
def oSl (s : S3) (h : H3) (lo hi : Option Int) : Rf → Option Vl
 | .x (.tup xs) => if HT.sIx xs.length 0 lo = 0 ∧ HT.sIx xs.length xs.length hi = xs.length then none else some (.v (.tup (cutL xs lo hi)))
 | .x (.str z) => if z.length ≤ sizeLine then some (.v (.str (Txt.slice z lo hi))) else none
 | f => (rdl s h f).map fun xs => .m (.lst (cutL xs lo hi))
def eSl (p : P3) (lo hi : Po3) : E3 := fun s h => (p s h).bind fun f h1 => (lo s h1).bind fun l h2 => (hi s h2).bind fun u h3 => opt h3 (oSl s h3 l u f)
theorem zjb {xs : List V3} {ys : List V} {lo hi : Option Int} (r : Reps κ F.β F.O H xs ys) : Reps κ F.β F.O H (cutL xs lo hi) (cutV ys lo hi) := by
 unfold cutL cutV; rw [r.length]; exact (r.drop _).take _
theorem r_sl {lo hi : Option Expr} {p2 : Pos} {d : P3} {dl dh : Po3} (hK : X.K = κ.K) (he : PE X a (tpOf κ E d)) (hl : PO X lo (toOf κ E dl)) (hu : PO X hi (toOf κ E dh)) : PE X (.Subscript a (.Slice lo hi none p2) pos) (teOf κ E (eSl d dl dh)) :=
 PEw (znl (sl_tup.or (sl_list.or zr9)) he hl hu) fun σ H Q ⟨F, rel, o⟩ =>
 (za9 (K := kP κ) km_E rel o).mono fun v H1 ⟨β1, h1, f, e1, ⟨r1, rf⟩, o1⟩ =>
 (za9 (F := F.to β1 h1) (K := kO κ) km_E r1 o1).mono fun l H2 ⟨β2, h2, l', e2, ⟨el, r2⟩, o2⟩ =>
 (za9 (F := F.to β2 h2) (K := kO κ) km_E r2 o2).mono fun u H3 ⟨β3, h3, u', e3, ⟨eu, r3⟩, o3⟩ => by
  subst el; subst eu
  obtain ⟨z, q, k⟩ := Out.opt (F := F.to β3 h3) rfl o3
  have rf3 : RfR κ (F.to β3 h3) H3 f v := RfR.ext (F := F.to β2 h2) (β' := β3) (h' := h3) r2 e3 (RfR.ext (F := F.to β1 h1) (β' := β2) (h' := h2) r1 e2 rf)
  rw [hK]
  have lists : (rdl F.s h3 f).map (fun xs => Vl.m (.lst (cutL xs l u))) = some z → rSlL κ.K v l u H3 Q := fun q => by
   cases q1 : rdl F.s h3 f with
   | none => rw [q1] at q; cases q
   | some xs =>
    rw [q1] at q; cases q
    obtain ⟨c, ys, rfl, sq, rs⟩ := zel (F := F.to β3 h3) r3 rf3 q1
    exact ⟨c, ys, rfl, sq, fun p hp => k _ _ (za6 hp) (Post.lst r3 hp (zjb rs))⟩
  match f, rf3, q, lists with
  | .s i, rf3, q, lists => exact .inr (.inl (lists q))
  | .x (.lst _), rf3, q, lists => exact .inr (.inl (lists q))
  | .x (.scr _), rf3, q, lists => exact .inr (.inl (lists q))
  | .x (.loc _), rf3, q, lists => exact .inr (.inl (lists q))
  | .x (.tup xs), rf3, q, lists =>
   have q : (if HT.sIx xs.length 0 l = 0 ∧ HT.sIx xs.length xs.length u = xs.length then none else some (Vl.v (.tup (cutL xs l u)))) = some z := q
   by_cases hw : HT.sIx xs.length 0 l = 0 ∧ HT.sIx xs.length xs.length u = xs.length
   ·rw [if_pos hw] at q; cases q
   ·rw [if_neg hw] at q; cases q
    cases (show Rep κ β3 F.O H3 (.tup xs) v from rf3) with
    | tup h1 h2 h3' h4 => exact .inl ⟨_, _, rfl, .of h1, by rw [← h4.length]; exact hw, fun p hp => k _ _ (za6 hp) (Post.tup r3 hp (zjb (F := F.to β3 h3) h4))⟩
  | .x (.str zz), rf3, q, lists =>
   obtain ⟨hz, rfl⟩ := zbr q
   cases (show Rep κ β3 F.O H3 (.str zz) v from rf3)
   exact .inr (.inr ⟨zz, rfl, hz, k _ H3 Ext.refl ⟨r3, .str _⟩⟩)
def wr3 (s : S3) (h : H3) (c : C3) : Rf → Option (S3 × H3)
 | .s i => some (s.set i (some (.m c)), h)
 | .x (.loc n) => some (s, h.set n c)
 | _ => none
theorem Rel.wrSlot {l : Addr} {c0 c' : C3} {u : HO} (rel : Rel κ F σ H) (hl : F.l[i]? = some (some l)) (hs : F.s[i]? = some (some (.m c0))) (hc : CellR κ F.β F.O (upd H l u) c' l) :
  Rel κ { F with s := F.s.set i (some (.m c')) } σ (upd H l u) := by
 have hO : F.O l := .inr (.inl (List.mem_of_getElem? hl))
 have ex := zc9 (β := F.β) (o := u) (rel.heap.trk l hO)
 refine ⟨rel.heap.wrO hO, ?_, ?_, rel.linj, rel.lt, rel.lo, rel.to, rel.tn, fun j y hj => ?_⟩
 ·show (F.s.set i _).length = _; rw [List.length_set]; exact rel.slen
 ·show F.l.length = (F.s.set i _).length; rw [List.length_set]; exact rel.llen
 ·rcases zb8 hj with ⟨e1, e2⟩ | ⟨n, z⟩
  ·subst e1; cases e2
   obtain ⟨v, h1, a, h2, h3, _⟩ := rel.slot i _ hs
   rw [hl] at h2; cases h2
   exact ⟨v, h1, l, hl, h3, hc⟩
  ·obtain ⟨v, h1, h2⟩ := rel.slot j y z
   refine ⟨v, h1, ?_⟩
   cases y with
   | v x => exact Rep.ext ex (fun b hb => by rw [hb]; exact hO) (fun _ _ _ n => n) h2
   | m c =>
    obtain ⟨a, a1, a2, a3⟩ := h2
    refine ⟨a, a1, a2, a3.ext ex (fun b hb => by rw [hb]; exact hO) (fun _ _ _ n => n) fun w hw => ?_⟩
    rw [zaj (fun z => by subst z; exact n (rel.linj i j a hl a1))]; exact hw
theorem zgt {β : List (Option Addr)} {l : Addr} {o : HO} {n : Nat} (hb : β[n]? = some (some l)) (ho : ∃ u, H l = some u) : Ext No β H β (upd H l o) :=
 ⟨fun a u ha hn _ => ⟨by rw [zaj (fun z => by subst z; exact hn (List.mem_of_getElem? hb))]; exact ha, hn⟩, Nat.le_refl _, fun _ _ _ h => h, fun a u ha => by
  by_cases z : a = l
  ·subst z; exact ⟨o, zaw⟩
  ·exact ⟨u, by rw [zaj z]; exact ha⟩, nwb0⟩
theorem RelH.wrLoc {O : Addr → Prop} {β : List (Option Addr)} {h : H3} {l : Addr} {n : Nat} {c' : C3} {u : HO} (r : RelH κ O β h H) (hb : β[n]? = some (some l)) (hc : CellR κ β O (upd H l u) c' l) : RelH κ O β (h.set n c') (upd H l u) := by
 have ex := zgt (o := u) hb (r.btr n l hb)
 refine ⟨by rw [List.length_set]; exact r.len, r.inj, r.off, fun a ha => let ⟨w, q⟩ := r.trk a ha; ex.there a w q, fun i a q => let ⟨w, z⟩ := r.btr i a q; ex.there a w z, fun i c hi => ?_⟩
 rcases zb8 hi with ⟨e1, e2⟩ | ⟨ne, z⟩
 ·subst e1; subst e2; exact .inr ⟨l, hb, hc⟩
 ·refine (r.cell i c z).imp id fun ⟨a, ha, q⟩ => ⟨a, ha, q.ext ex (fun _ z => z.elim) (fun _ _ _ n => n) fun w hw => ?_⟩
  rw [zaj (fun z => by subst z; exact ne (r.inj n i a hb ha))]; exact hw
theorem zjp {f : Rf} {v : V} {xs ys : List V3} {s' : S3} {h' : H3} (ht : F.T = []) (rel : Rel κ F σ H) (r : RfR κ F H f v) (e : rdm F.s F.h f = some xs) (hw : wr3 F.s F.h (.lst ys) f = some (s', h')) :
  ∃ l us, v = .ref l ∧ H l = some (.lst us) ∧ Reps κ F.β F.O H xs us ∧ ∀ ws, Reps κ F.β F.O H ys ws → ∃ F', SExt F H F' (upd H l (.lst ws)) ∧ F'.s = s' ∧ F'.h = h' ∧ Rel κ F' σ (upd H l (.lst ws)) := by
 cases f with
 | s i =>
  cases hw
  obtain ⟨a, c, h1, h2, h3, h4⟩ := r
  have e : rdl F.s F.h (.s i) = some xs := e
  simp only [rdl, h3] at e
  cases c <;> simp at e
  subst e
  obtain ⟨us, h5, h6⟩ := h4
  have hO : F.O a := .inr (.inl (List.mem_of_getElem? h1))
  refine ⟨a, us, h2, h5, h6, fun ws hr => ⟨{ F with s := F.s.set i (some (.m (.lst ys))) }, ⟨⟨fun b u hb hn m => ⟨by rw [zaj (fun z => by subst z; exact m (List.mem_of_getElem? h1))]; exact hb, hn⟩, Nat.le_refl _, fun _ _ _ h => h, (zc9 (β := F.β) ⟨_, h5⟩).there, nwb0⟩, fun _ h => .inl h, rfl, ht⟩, rfl, rfl, rel.wrSlot h1 h3 ⟨ws, zaw, hr.ext (zc9 (β := F.β) ⟨_, h5⟩) (fun b hb => by rw [hb]; exact hO) fun _ _ _ n => n⟩⟩⟩
 | x y =>
  cases y <;> simp [wr3] at hw
  case loc n =>
   obtain ⟨rfl, rfl⟩ := hw
   cases r with
   | loc h1 h2 =>
    have e : rdl F.s F.h (.x (.loc n)) = some xs := e
    simp only [rdl] at e
    cases q : F.h[n]? with
    | none => rw [q] at e; cases e
    | some c =>
     rw [q] at e
     cases c <;> simp at e
     subst e
     rcases rel.heap.cell n _ q with z | ⟨a, ha, us, h5, h6⟩
     ·cases z
     ·have ex := fun o => zgt (o := o) ha ⟨_, h5⟩
      refine ⟨a, us, h2 a ha, h5, h6, fun ws hr => ⟨F.to F.β (F.h.set n (.lst ys)), SExt.of0 ht (ex _), rfl, rfl, rel.next (ex _) (rel.heap.wrLoc ha ⟨ws, zaw, hr.ext0 (ex _)⟩)⟩⟩
abbrev FM := List V3 → List V3 → Option (List V3 × V3)
def mtO (op : FM) (p : P3) (a : A3) (k : S3 → H3 → V3 → O3) : D3 := fun s h => (p s h).bindS fun f h1 => match rdm s h1 f with
 | none => .no
 | some _ => (a s h1).bindS fun fs h2 => match vals3 fs, rdm s h2 f with
  | some vs, some xs => match op xs vs with
   | some (ys, r) => match wr3 s h2 (.lst ys) f with
    | some (s3, h3) => k s3 h3 r
    | none => .no
   | none => .no
  | _, _ => .no
def sMt (op : FM) (p : P3) (a : A3) : D3 := mtO op p a fun s h _ => .nx s h
def sSetMt (j : Nat) (op : FM) (p : P3) (a : A3) : D3 := mtO op p a fun s h r => if j < s.length then .nx (s.set j (some (.v r))) h else .no
def zjy (κ : Kx) (r : V → List V → Hp → VK → Prop) (op : FM) : Prop := ∀ (β : List (Option Addr)) (O : Addr → Prop) (H : Hp) (l : Addr) (xs ys vs : List V3) (us ws : List V) (rt : V3) (Q : VK), H l = some (.lst us) → Reps κ β O H xs us → Reps κ β O H vs ws → op xs vs = some (ys, rt) →
 (∀ us' rt', Reps κ β O H ys us' → Rep κ β O H rt rt' → Q rt' (upd H l (.lst us'))) → r (.ref l) ws H Q
theorem zo4 {r : V → List V → Hp → VK → Prop} {op : FM} {dp : P3} {da : A3} {k : S3 → H3 → V3 → O3} (hs : zjy κ r op) (rel : Rel κ F σ H) (ht : F.T = []) (o : SOut κ E F H D (mtO op dp da k F.s F.h)) {Q : VK}
  (hQ : ∀ F' rt Fm Hm v H3, SExt Fm Hm F' H3 → F'.s.length = F.s.length → Rel κ F' σ H3 → Rep κ F'.β F'.O H3 rt v → SOut κ E Fm Hm D (k F'.s F'.h rt) → Q v H3) :
  tBM κ.K "list" r (tpOf κ E dp) (taOf κ E da) σ H Q := by
 refine (bindS (K := kP κ) rel ht o).mono fun v H1 ⟨β1, h1, f, e1, ⟨r1, rf⟩, o1⟩ => ?_
 cases q : rdm F.s h1 f with
 | none => simp only [q] at o1; exact o1.elim
 | some xs0 =>
  simp only [q] at o1
  obtain ⟨a, ys, rfl, ha, _⟩ := zfp (F := F.to β1 h1) r1 rf q
  refine ⟨.inl ⟨rfl, ys, .of ha⟩, ?_⟩
  have s1 : SExt F H (F.to β1 h1) H1 := SExt.of0 ht e1
  refine (bindS (F := F.to β1 h1) (K := kA κ) r1 ht (SOut.move s1 o1)).mono fun ws H2 ⟨β2, h2, fs, e2, ⟨r2, rfs⟩, o2⟩ => ?_
  have rf2 := RfR.ext (F := F.to β1 h1) (β' := β2) (h' := h2) r1 e2 rf
  have s2 : SExt (F.to β1 h1) H1 (F.to β2 h2) H2 := SExt.of0 (F := F.to β1 h1) ht e2
  cases q1 : vals3 fs with
  | none => simp only [q1] at o2; exact o2.elim
  | some vs =>
   cases q2 : rdm F.s h2 f with
   | none => simp only [q1, q2] at o2; exact o2.elim
   | some xs =>
    simp only [q1, q2] at o2
    cases q3 : op xs vs with
    | none => simp only [q3] at o2; exact o2.elim
    | some w =>
     obtain ⟨zs, rt⟩ := w
     simp only [q3] at o2
     cases q4 : wr3 F.s h2 (.lst zs) f with
     | none => simp only [q4] at o2; exact o2.elim
     | some w =>
      obtain ⟨s3, h3⟩ := w
      simp only [q4] at o2
      obtain ⟨l, us, ev, hl, rs, wk⟩ := zjp (F := F.to β2 h2) ht r2 rf2 q2 q4
      cases ev
      refine hs β2 F.O H2 a xs zs vs us ws rt _ hl rs (zct rfs q1) q3 fun us' rt' r1' r2' => ?_
      obtain ⟨F', e', es, eh, rel'⟩ := wk us' r1'
      refine hQ F' rt (F.to β2 h2) H2 _ _ e' (by rw [rel'.slen, ← rel.slen]) rel' (Rep.sext (F := F.to β2 h2) e' r2') ?_
      rw [es, eh]
      exact SOut.move s2 o2
theorem zhz {es : List Expr} {name : Str} {id : String} {r : V → List V → Hp → VK → Prop} {op : FM} {dp : P3} {da : A3} (hs : zjy κ r op) (hK : X.K = κ.K) (slot : Slot "list" name id) (hty : typeOf (.builtin id) = pure (.type "method_descriptor")) (hm : MtR X id r) (ho : PE X o (tpOf κ E dp)) (ha : PA X (e :: es) (taOf κ E da))
  (hbase : attributeBase o name X.env (eval o X.env) = eval o X.env := by rfl)
  (hfew : ((backTo cpos (starEach (e :: es) X.env)).all (fun x => !x.1) && (backToKw cpos (keywordEach [] X.env)).all (fun x => x.1.isSome)
   && decide ((e :: es).length + ([] : List Keyword).length + (if ([] : List Keyword).isEmpty then 0 else 1) < 30)) = true := by rfl)
  (hline : (apos.endLine == cpos.line) = true := by rfl) (hst : starEach (e :: es) X.env = (false, eval e X.env) :: starEach es X.env := by rfl) (hplain : (backTo cpos (starEach es X.env)).any (·.1) = false := by rfl)
  (hsw : swapsWith (.Call (.Attribute o name apos) (e :: es) [] cpos) none pos.line X.env = pure false := by rfl) :
  PS X (.Expr (.Call (.Attribute o name apos) (e :: es) [] cpos) pos) (tsOf κ E (sMt op dp da)) := PSw (zim (zvc PySem.F.plainAttrs_list slot hty hm ho ha hbase hfew hline hst hplain) hsw) fun D σ H ⟨F, rel, ht, o⟩ => by
 rw [hK]
 exact zo4 hs rel ht o fun F' rt Fm Hm v H3 e' _ rel' _ o' => o' F' σ H3 e' rfl rfl rel'
theorem zpe {name : Str} {id : String} {r : V → List V → Hp → VK → Prop} {op : FM} {dp : P3} (hs : zjy κ r op) (hK : X.K = κ.K) (slot : Slot "list" name id) (hty : typeOf (.builtin id) = pure (.type "method_descriptor")) (hm : MtR X id r) (ho : PE X o (tpOf κ E dp))
  (hbase : attributeBase o name X.env (eval o X.env) = eval o X.env := by rfl) (hline : (apos.endLine == cpos.line) = true := by rfl) (hsw : swapsWith (.Call (.Attribute o name apos) [] [] cpos) none pos.line X.env = pure false := by rfl) :
  PS X (.Expr (.Call (.Attribute o name apos) [] [] cpos) pos) (tsOf κ E (sMt op dp aNil)) := PSw (zim (zti PySem.F.plainAttrs_list slot hty hm ho hbase hline) hsw) fun D σ H ⟨F, rel, ht, o⟩ => by
 rw [hK]
 refine tOf.mono (zo4 (Q := fun _ H1 => D.nx σ H1) hs rel ht o fun F' rt Fm Hm v H3 e' _ rel' _ o' => o' F' σ H3 e' rfl rfl rel') fun x H1 ⟨h1, F1, r1, h2⟩ => ⟨h1, h2 F1.β [] H1 Ext.refl ⟨r1, .nil⟩⟩
def zbs : FM := fun xs vs => match vs with
 | [y] => if xs.length < sizeLine then some (xs ++ [y], .non) else none
 | _ => none
theorem zb2 : zjy κ zlz zbs := fun β O H l xs ys vs us ws rt Q hl rx rv e k => by
 unfold zbs at e
 split at e
 ·obtain ⟨h, e⟩ := zbr e
  cases e
  cases rv with
  | cons a t => cases t; exact ⟨l, us, _, rfl, rfl, hl, by rw [← rx.length]; exact h, k _ _ (rx.append (.cons a .nil)) .non⟩
 ·cases e
def mPop : FM := fun xs vs => match vs with
 | [] => match xs[xs.length - 1]? with
  | some y => some (xs.dropLast, y)
  | none => none
 | _ => none
theorem zs0 : zjy κ rPop mPop := fun β O H l xs ys vs us ws rt Q hl rx rv e k => by
 unfold mPop at e
 split at e
 ·cases rv
  cases q : xs[xs.length - 1]? with
  | none => rw [q] at e; cases e
  | some y =>
   rw [q] at e; cases e
   obtain ⟨u, hu, ru⟩ := rx.get q
   exact ⟨l, us, u, rfl, rfl, hl, by rw [← rx.length]; exact hu, k _ _ rx.dropLast ru⟩
 ·cases e
def mPopAt : FM := fun xs vs => match vs with
 | [.int i] => if -(2 ^ 63) ≤ i ∧ i < 2 ^ 63 then match seqIndex? i xs.length with
   | some k => match xs[k]? with
    | some y => some (xs.eraseIdx k, y)
    | none => none
   | none => none
  else none
 | _ => none
def zju : FM := fun _ vs => match vs with
 | [] => some ([], .non)
 | _ => none
theorem zop : zjy κ zpo zju := fun β O H l xs ys vs us ws rt Q hl rx rv e k => by
 unfold zju at e
 split at e
 ·cases e; cases rv; exact ⟨l, us, rfl, rfl, hl, k _ _ .nil .non⟩
 ·cases e
end
end L3
set_option Elab.async false
set_option linter.all false
set_option maxRecDepth 100000
namespace L3
open PySem PySem.Spec PyProof.Rows L2
section
variable {X : Cx} {κ : Kx} {E : XK} {F F' : Fr} {σ σ' : L2.St} {H H1 H' : Hp} {Q : VK} {p : Addr} {e a b c o : Expr} {pos apos np cpos : Pos} {i : Nat} {D : Ends}
def mExtend : FM := fun xs vs => match vs with
 | [.lst zs] => if xs.length + zs.length ≤ sizeLine then some (xs ++ zs, .non) else none
 | _ => none
def ziv (p i : P3) (e : E3) : D3 := fun s h => (e s h).bindS fun r h1 => match r.fz with
 | none => .no
 | some y => (p s h1).bindS fun f h2 => (i s h2).bindS fun j h3 => match j, rdm s h3 f with
  | .x (.int k), some xs => match ixN xs.length k with
   | some n => match wr3 s h3 (.lst (xs.set n y)) f with
    | some (s', h') => .nx s' h'
    | none => .no
   | none => .no
  | _, _ => .no
theorem zng {dp di : P3} {d : E3} (h : tsOf κ E (ziv dp di d) D σ H) : tAsg (teOf κ E d) (gSub (tpOf κ E dp) (tpOf κ E di) zp9) D σ H := by
 obtain ⟨F, rel, ht, o⟩ := h
 refine (bindS (K := kE κ) rel ht o).mono fun v H1 ⟨β1, h1, r, e1, p1, o1⟩ => ?_
 cases z : r.fz with
 | none => simp only [z] at o1; exact o1.elim
 | some y =>
  simp only [z] at o1
  obtain ⟨r1, ry⟩ := Post.fz p1 z
  have s1 : SExt F H (F.to β1 h1) H1 := SExt.of0 ht e1
  refine (bindS (F := F.to β1 h1) (K := kP κ) r1 ht (SOut.move s1 o1)).mono fun ov H2 ⟨β2, h2, f, e2, ⟨r2, rf⟩, o2⟩ => ?_
  have s2 : SExt (F.to β1 h1) H1 (F.to β2 h2) H2 := SExt.of0 (F := F.to β1 h1) ht e2
  refine (bindS (F := F.to β2 h2) (K := kP κ) r2 ht (SOut.move s2 o2)).mono fun iv H3 ⟨β3, h3, j, e3, ⟨r3, rj⟩, o3⟩ => ?_
  have s3 : SExt (F.to β2 h2) H2 (F.to β3 h3) H3 := SExt.of0 (F := F.to β2 h2) ht e3
  have rf3 := RfR.ext (F := F.to β2 h2) (β' := β3) (h' := h3) r2 e3 rf
  have ry3 : Rep κ β3 F.O H3 y v := (Rep.ext0 e3 (Rep.ext0 e2 ry))
  match j, rj, o3 with
  | .s _, rj, o3 => exact o3.elim
  | .x (.int k), rj, o3 =>
   cases q : rdm F.s h3 f with
   | none => simp only [q] at o3; exact o3.elim
   | some xs =>
    simp only [q] at o3
    cases q2 : ixN xs.length k with
    | none => simp only [q2] at o3; exact o3.elim
    | some n =>
     simp only [q2] at o3
     cases q3 : wr3 F.s h3 (.lst (xs.set n y)) f with
     | none => simp only [q3] at o3; exact o3.elim
     | some w =>
      obtain ⟨s', h'⟩ := w
      simp only [q3] at o3
      obtain ⟨l, us, ev, hl, rs, wk⟩ := zjp (F := F.to β3 h3) ht r3 rf3 q q3
      subst ev
      cases (show Rep κ β3 F.O H3 (.int k) iv from rj)
      obtain ⟨F', e', es, eh, rel'⟩ := wk (us.set n v) (rs.set ry3 n)
      exact ⟨l, us, k, n, rfl, rfl, hl, by rw [← rs.length]; exact q2, SOut.move s3 o3 F' σ _ e' es eh rel'⟩
theorem znn {tp : Pos} {ii : Expr} {dp di : P3} {d : E3} (he : PE X e (teOf κ E d)) (ho : PE X o (tpOf κ E dp)) (hi : PE X ii (tpOf κ E di))
  (hh : ∀ {te to ti : TE}, PE X e te → PE X o to → PE X ii ti → PS X (.Assign [.Subscript o ii tp] e pos) (tAsg te (gSub to ti zp9))) : PS X (.Assign [.Subscript o ii tp] e pos) (tsOf κ E (ziv dp di d)) := PSw (hh he ho hi) fun D σ H h => zng h
def zey (h : H3) : Rf → Option (Str × List (Str × V3))
 | .x (.obj c fs) => some (c, fs)
 | .x (.loc n) => match h[n]? with
  | some (.ins c fs) => some (c, fs)
  | _ => none
 | _ => none
theorem zji {f : Rf} {v : V} {c : Str} {fs : List (Str × V3)} (rel : Rel κ F σ H) (r : RfR κ F H f v) (e : zey F.h f = some (c, fs)) : ∃ a C dx gs, v = .ref a ∧ κ.cl c = some C ∧ H a = some (.ins C dx gs) ∧ RepP κ F.β F.O H fs gs := by
 cases f with
 | s i => cases e
 | x y =>
  cases y <;> simp [zey] at e
  case obj c' fs' =>
   obtain ⟨rfl, rfl⟩ := e
   cases (show Rep κ F.β F.O H (.obj c' fs') v from r) with
   | obj h1 h2 h3 h4 h5 => exact ⟨_, _, _, _, rfl, h1, h2, h5⟩
  case loc n =>
   cases (show Rep κ F.β F.O H (.loc n) v from r) with
   | loc h1 h2 =>
    cases q : F.h[n]? with
    | none => rw [q] at e; cases e
    | some c0 =>
     rw [q] at e
     cases c0 <;> simp at e
     obtain ⟨rfl, rfl⟩ := e
     rcases rel.heap.cell n _ q with z | ⟨a, ha, C, dx, gs, k1, k2, k3⟩
     ·cases z
     ·exact ⟨a, C, dx, gs, h2 a ha, k1, k2, k3⟩
def Flds (X : Cx) (κ : Kx) (cs : List Str) (f : Str) : Prop := ∀ c ∈ cs, ∀ C, κ.cl c = some C → Cls X.K C ∧ NoAttr X.K C f
theorem Flds.nil {f : Str} : Flds X κ [] f := fun c hc => by cases hc
def eFld (cs : List Str) (fl : Str) (p : P3) : E3 := fun s h => (p s h).bind fun f h1 => match zey h1 f with
 | some (c, fs) => if c ∈ cs then match fs.lookup fl with
   | some x => .ok (.v x) h1
   | none => .no
  else .no
 | none => .no
theorem zs5 {fl : Str} {cs : List Str} {d : P3} (hf : Flds X κ cs fl) (he : PE X e (tpOf κ E d)) (hb : attributeBase e fl X.env (eval e X.env) = eval e X.env := by rfl) : PE X (.Attribute e fl pos) (teOf κ E (eFld cs fl d)) := PEw (zty he hb) fun σ H Q ⟨F, rel, o⟩ =>
 (za9 (K := kP κ) km_E rel o).mono fun v H1 ⟨β1, h1, f, e1, ⟨r1, rf⟩, o1⟩ => by
  cases q : zey h1 f with
  | none => simp only [q] at o1; exact o1.elim
  | some w =>
   obtain ⟨c, fs⟩ := w
   simp only [q] at o1
   by_cases hc : c ∈ cs
   ·rw [if_pos hc] at o1
    cases q2 : fs.lookup fl with
    | none => simp only [q2] at o1; exact o1.elim
    | some x =>
     simp only [q2] at o1
     obtain ⟨a, C, dx, gs, rfl, k1, k2, k3⟩ := zji (F := F.to β1 h1) r1 rf q
     obtain ⟨y, hy, ry⟩ := k3.lookup q2
     exact ⟨a, C, dx, gs, y, rfl, k2, (hf c hc C k1).1, (hf c hc C k1).2, hy, o1 β1 y H1 Ext.refl ⟨r1, ry⟩⟩
   ·rw [if_neg hc] at o1; exact o1.elim
def zj6 (f : Str) (v : V3) : List (Str × V3) → List (Str × V3)
 | [] => [(f, v)]
 | (g, x) :: r => if g = f then (g, v) :: r else (g, x) :: zj6 f v r
theorem RepP.putF {β : List (Option Addr)} {O : Addr → Prop} {f : Str} {x : V3} {y : V} (r : Rep κ β O H x y) : ∀ {fs : List (Str × V3)} {gs : List (Str × V)}, RepP κ β O H fs gs → RepP κ β O H (zj6 f x fs) (L2.putF f y gs)
 | _, _, .nil => .cons r .nil
 | _, _, .cons (k := k) q t => by
  unfold zj6 L2.putF
  by_cases h : k = f
  ·rw [if_pos h, if_pos h]; exact .cons r t
  ·rw [if_neg h, if_neg h]; exact .cons q (RepP.putF r t)
def zn3 (cs : List Str) (fl : Str) (p : P3) (e : E3) : D3 := fun s h => (e s h).bindS fun r h1 => match r.fz with
 | none => .no
 | some y => (p s h1).bindS fun f h2 => match f with
  | .x (.loc n) => match h2[n]? with
   | some (.ins c fs) => if c ∈ cs ∧ fs.length < 1000 then .nx s (h2.set n (.ins c (zj6 fl y fs))) else .no
   | _ => .no
  | _ => .no
theorem zpl {fl : Str} {pos' : Pos} {cs : List Str} {dp : P3} {d : E3} {value : Expr} (hf : Flds X κ cs fl) (ha : PE X o (tpOf κ E dp)) (hv : PE X value (teOf κ E d)) (hs : swapsWith value (some (.Attribute o fl pos')) pos.line X.env = pure false := by rfl) : PS X (.Assign [.Attribute o fl pos'] value pos) (tsOf κ E (zn3 cs fl dp d)) := PSw (zs8 ha hv hs) fun D σ H ⟨F, rel, ht, o⟩ => by
 refine (bindS (K := kE κ) rel ht o).mono fun v H1 ⟨β1, h1, r, e1, p1, o1⟩ => ?_
 cases z : r.fz with
 | none => simp only [z] at o1; exact o1.elim
 | some y =>
  simp only [z] at o1
  obtain ⟨r1, ry⟩ := Post.fz p1 z
  have s1 : SExt F H (F.to β1 h1) H1 := SExt.of0 ht e1
  refine (bindS (F := F.to β1 h1) (K := kP κ) r1 ht (SOut.move s1 o1)).mono fun ov H2 ⟨β2, h2, f, e2, ⟨r2, rf⟩, o2⟩ => ?_
  have s2 : SExt (F.to β1 h1) H1 (F.to β2 h2) H2 := SExt.of0 (F := F.to β1 h1) ht e2
  have ry2 : Rep κ β2 F.O H2 y v := Rep.ext0 e2 ry
  match f, rf, o2 with
  | .x (.loc n), rf, o2 =>
   cases q : h2[n]? with
   | none => simp only [q] at o2; exact o2.elim
   | some c0 =>
    match c0, q, o2 with
    | .ins c fs, q, o2 =>
     simp only [q] at o2
     by_cases hc : c ∈ cs ∧ fs.length < 1000
     ·rw [if_pos hc] at o2
      cases (show Rep κ β2 F.O H2 (.loc n) ov from rf) with
      | loc l1 l2 =>
       rcases r2.heap.cell n _ q with w | ⟨a, ha, C, dx, gs, k1, k2, k3⟩
       ·cases w
       ·have ev := l2 a ha
        subst ev
        have ex := fun o => zgt (H := H2) (β := β2) (o := o) ha ⟨_, k2⟩
        refine ⟨a, C, dx, gs, rfl, k2, (hf c hc.1 C k1).1, (hf c hc.1 C k1).2, by rw [← k3.length]; exact hc.2, ?_⟩
        refine SOut.move s2 o2 (F.to β2 (h2.set n (.ins c (zj6 fl y fs)))) σ _ (SExt.of0 (F := F.to β2 h2) ht (ex _)) rfl rfl ?_
        exact Rel.next (F := F.to β2 h2) r2 (ex _) (r2.heap.wrLoc ha ⟨C, dx, _, k1, zaw, (RepP.putF ry2 k3).ext0 (ex _)⟩)
     ·rw [if_neg hc] at o2; exact o2.elim
    | .lst _, q, o2 => simp only [q] at o2; exact o2.elim
    | .dK _, q, o2 => simp only [q] at o2; exact o2.elim
    | .dT _, q, o2 => simp only [q] at o2; exact o2.elim
    | .dead, q, o2 => simp only [q] at o2; exact o2.elim
def zgm (c m : Str) (f : F3) (p : P3) (a : A3) : E3 := fun s h => (p s h).bind fun g h1 => match g, zey h1 g with
 | .x x, some (c', fs) => if c' = c ∧ fs.lookup m = none then (a s h1).bind fun gs h2 => match vals3 gs with
   | some vs => f (x :: vs) h2
   | none => .no
  else .no
 | _, _ => .no
theorem zqe {C : Addr} {c m : Str} {f : F3} {dp : P3} {t : A3} {k : Nat} (hC : κ.cl c = some C) (hf : FLen f k) (h : teOf κ E (zgm c m f dp t) σ H Q) : ztx C m (spOf κ k f) [] E (tpOf κ E dp) (taOf κ E t) σ H Q := by
 obtain ⟨F, rel, o⟩ := h
 refine (za9 (K := kP κ) km_E rel o).mono fun v H1 ⟨β1, h1, g, e1, ⟨r1, rf⟩, o1⟩ => ?_
 match g, rf, o1 with
 | .s i, rf, o1 => exact o1.elim
 | .x x, rf, o1 =>
  cases q : zey h1 (.x x) with
  | none => simp only [q] at o1; exact o1.elim
  | some w =>
   obtain ⟨c', fs⟩ := w
   simp only [q] at o1
   by_cases hc : c' = c ∧ fs.lookup m = none
   ·rw [if_pos hc] at o1
    obtain ⟨a, C', dx, gs, rfl, k1, k2, k3⟩ := zji (F := F.to β1 h1) r1 rf q
    rw [hc.1, hC] at k1; cases k1
    refine ⟨a, dx, gs, rfl, k2, k3.lookup_none hc.2, ?_⟩
    refine (za9 (F := F.to β1 h1) (K := kA κ) km_E r1 o1).mono fun vs H2 ⟨β2, h2, fs2, e2, ⟨r2, rf2⟩, o2⟩ => ?_
    cases q2 : vals3 fs2 with
    | none => simp only [q2] at o2; exact o2.elim
    | some xs =>
     simp only [q2] at o2
     have hr := zct rf2 q2
     have rx : Rep κ β2 F.O H2 x (.ref a) := Rep.ext0 e2 rf
     rw [List.append_nil]
     refine ⟨F.O, β2, x :: xs, h2, ?_, r2.heap, .cons rx hr, FOut.of (F := F.to β2 h2) r2 o2⟩
     refine Classical.byContradiction fun n => ?_
     rw [hf (x :: xs) h2 (by rw [List.length_cons, hr.length]; exact n)] at o2
     exact o2
   ·rw [if_neg hc] at o1; exact o1.elim
theorem zsi {C fa : Addr} {c m : Str} {es : List Expr} {f : F3} {dp : P3} {t : A3} {k : Nat} {fd : FuncData} {ps : List Str} {n : Nat} {pl : Sem Bool} (hC : κ.cl c = some C) (hf : FLen f n) (he : PE X o (tpOf κ E dp)) (cl : Cls X.K C) (hm : Meth X.K C m fa) (Fk : FnOk X.prog X.w X.K X.mg X.base (XT X.prog X.w) k fa fd ps (spOf κ n f)) (hr : Room k X.A) (hb : Binds X.K fd ps []) (hx : zdk (XT X.prog X.w) X E)
  (ha : PA X (e :: es) (taOf κ E t)) (hst : starEach (e :: es) X.env = (false, eval e X.env) :: starEach es X.env := by rfl) (hpl : (backTo pos (starEach es X.env)).any (·.1) = false := by rfl)
  (ht : eval (.Call (.Attribute o m apos) (e :: es) [] pos) X.env = (do
   let ov ← eval o X.env
   standAt apos.atName
   let (f, first) ← holding [ov] (getMethod ov m pl)
   callWith pos f first (backTo pos (starEach (e :: es) X.env)) (backToKw pos (keywordEach [] X.env))) := by rfl) :
  PE X (.Call (.Attribute o m apos) (e :: es) [] pos) (teOf κ E (zgm c m f dp t)) := PEw (zp0 he cl hm Fk hr hb .nil hx ha hst hpl ht) fun _ _ _ h => zqe hC hf h
def eAlt (d u : E3) : E3 := fun s h => match d s h with
 | .no => u s h
 | r => r
def eNew (c : Str) (f : F3) (a : A3) : E3 := fun s h => (a s h).bind fun fs h1 => match vals3 fs with
 | some vs => match f (.loc h1.length :: vs) (h1 ++ [.ins c []]) with
  | .ok (.v .non) h2 => .ok (.v (.loc h1.length)) h2
  | .ex x h2 => .ex x h2
  | _ => .no
 | none => .no
theorem ztd {C : Addr} {c : Str} {f : F3} {t : A3} {k : Nat} (hC : κ.cl c = some C) (hf : FLen f k) (h : teOf κ E (eNew c f t) σ H Q) : zsx C (spOf κ k f) [] E (taOf κ E t) σ H Q := by
 obtain ⟨F, rel, o⟩ := h
 refine (za9 (K := kA κ) km_E rel o).mono fun vs H1 ⟨β1, h1, fs, e1, ⟨r1, rf1⟩, o1⟩ => fun x dx hx hdx hne => ?_
 cases q : vals3 fs with
 | none => simp only [q] at o1; exact o1.elim
 | some xs =>
  simp only [q] at o1
  have hr : Reps κ β1 F.O H1 xs vs := zct (F := F.to β1 h1) rf1 q
  have hl : β1.length = h1.length := r1.heap.len
  have hdx2 : (upd H1 dx (.own x)) x = none := by rw [zaj (Ne.symm hne)]; exact hx
  have kp : ∀ a u, H1 a = some u → (upd (upd H1 dx (.own x)) x (.ins C dx [])) a = some u := fun a u ha => by rw [zaj (zak ha hx), zaj (zak ha hdx)]; exact ha
  obtain ⟨nx, nO⟩ := r1.heap.off_new hx
  have ex : Ext No β1 H1 (β1 ++ [some x]) (upd (upd H1 dx (.own x)) x (.ins C dx [])) := ⟨fun a u ha hn _ => ⟨kp a u ha, fun z => by
    rcases List.mem_append.mp z with z | z
    ·exact hn z
    ·have := List.mem_singleton.mp z
     cases this
     rw [hx] at ha; cases ha⟩, by simp, fun i a hi h => by rw [List.getElem?_append_left hi] at h; exact h, fun a u ha => ⟨u, kp a u ha⟩, fun i a hi h => by
    rw [List.getElem?_append_right hi] at h
    have : a = x := by have := List.mem_of_getElem? h; simp at this; exact this
    rw [this]; exact hx⟩
  have rh : RelH κ F.O (β1 ++ [some x]) (h1 ++ [.ins c []]) (upd (upd H1 dx (.own x)) x (.ins C dx [])) := by
   refine ⟨by simp [hl], fun i j a h1' h2' => ?_, fun a ha z => ?_, fun a ha => let ⟨u, q⟩ := r1.heap.trk a ha; ⟨u, kp a u q⟩, fun i a q => ?_, fun i c' hc => ?_⟩
   ·rcases Nat.lt_or_ge i β1.length with hi | hi <;> rcases Nat.lt_or_ge j β1.length with hj | hj
    ·rw [List.getElem?_append_left hi] at h1'; rw [List.getElem?_append_left hj] at h2'; exact r1.heap.inj i j a h1' h2'
    ·rw [List.getElem?_append_left hi] at h1'; rw [List.getElem?_append_right hj] at h2'
     have : a = x := by
      have := List.mem_of_getElem? h2'; simp at this; exact this
     subst this; exact absurd (List.mem_of_getElem? h1') nx
    ·rw [List.getElem?_append_right hi] at h1'; rw [List.getElem?_append_left hj] at h2'
     have : a = x := by
      have := List.mem_of_getElem? h1'; simp at this; exact this
     subst this; exact absurd (List.mem_of_getElem? h2') nx
    ·have hi2 : i < (β1 ++ [some x]).length := (List.getElem?_eq_some_iff.mp h1').1
     have hj2 : j < (β1 ++ [some x]).length := (List.getElem?_eq_some_iff.mp h2').1
     simp at hi2 hj2; omega
   ·rcases List.mem_append.mp z with z | z
    ·exact r1.heap.off a ha z
    ·have := List.mem_singleton.mp z
     cases this; exact nO ha
   ·rcases Nat.lt_or_ge i β1.length with hi | hi
    ·rw [List.getElem?_append_left hi] at q
     obtain ⟨u, hu⟩ := r1.heap.btr i a q
     exact ⟨u, kp a u hu⟩
    ·rw [List.getElem?_append_right hi] at q
     have : a = x := by have := List.mem_of_getElem? q; simp at this; exact this
     subst this; exact ⟨_, zaw⟩
   ·rcases Nat.lt_or_ge i h1.length with hi | hi
    ·rw [List.getElem?_append_left hi] at hc
     refine (r1.heap.cell i c' hc).imp id fun ⟨a, ha, q⟩ => ⟨a, by rw [List.getElem?_append_left (by rw [hl]; exact hi)]; exact ha, q.ext ex (fun _ z => z.elim) (fun _ _ _ n => n) fun u hu => kp a u hu⟩
    ·rw [List.getElem?_append_right hi] at hc
     have hi2 : i - h1.length = 0 := by
      have := (List.getElem?_eq_some_iff.mp hc).1; simp at this; exact this
     rw [hi2] at hc; cases hc
     have ei : i = h1.length := by omega
     subst ei
     exact .inr ⟨x, by rw [← hl]; simp, C, dx, [], hC, zaw, .nil⟩
  have rloc : Rep κ (β1 ++ [some x]) F.O (upd (upd H1 dx (.own x)) x (.ins C dx [])) (.loc h1.length) (.ref x) := .loc (by simp [hl]) fun a ha => by rw [← hl] at ha; simp at ha; rw [ha]
  rw [List.append_nil]
  refine ⟨F.O, β1 ++ [some x], .loc h1.length :: xs, h1 ++ [.ins c []], ?_, rh, .cons rloc (hr.ext0 ex), ?_⟩
  ·refine Classical.byContradiction fun n => ?_
   rw [hf (.loc h1.length :: xs) _ (by rw [List.length_cons, hr.length]; exact n)] at o1
   exact o1
  ·cases q2 : f (.loc h1.length :: xs) (h1 ++ [.ins c []]) with
   | no => simp only [q2] at o1; exact o1
   | ex x' h2 => simp only [q2] at o1; exact fun β' H' e' r' => o1 β' H' (ex.trans0 e') (r'.sub fun a ha => .inr (.inr ha))
   | ok r h2 =>
    match r, q2 with
    | .v .non, q2 =>
     simp only [q2] at o1
     intro β' v H' e' pf
     obtain ⟨rh', rn⟩ := pf
     cases rn
     refine ⟨rfl, o1 β' (.ref x) H' (ex.trans0 e') ⟨Rel.next (F := F.to β1 h1) r1 (ex.trans0 e') rh', .loc ?_ fun a ha => ?_⟩⟩
     ·show h1.length < β'.length; have := e'.len; simp at this; omega
     ·have := e'.bet h1.length a (by simp [hl]) ha
      rw [← hl] at this; simp at this; rw [this]
    | .m _, q2 => simp only [q2] at o1; exact o1.elim
    | .v (.bl _), q2 => simp only [q2] at o1; exact o1.elim
    | .v (.int _), q2 => simp only [q2] at o1; exact o1.elim
    | .v (.str _), q2 => simp only [q2] at o1; exact o1.elim
    | .v (.ty _), q2 => simp only [q2] at o1; exact o1.elim
    | .v (.tup _), q2 => simp only [q2] at o1; exact o1.elim
    | .v (.lst _), q2 => simp only [q2] at o1; exact o1.elim
    | .v (.scr _), q2 => simp only [q2] at o1; exact o1.elim
    | .v (.dK _), q2 => simp only [q2] at o1; exact o1.elim
    | .v (.dT _), q2 => simp only [q2] at o1; exact o1.elim
    | .v (.obj _ _), q2 => simp only [q2] at o1; exact o1.elim
    | .v (.cls _), q2 => simp only [q2] at o1; exact o1.elim
    | .v (.fn _ _), q2 => simp only [q2] at o1; exact o1.elim
    | .v (.loc _), q2 => simp only [q2] at o1; exact o1.elim
theorem zui {C fI : Addr} {c x : Str} {es : List Expr} {f : F3} {t : A3} {k : Nat} {fd : FuncData} {ps : List Str} {n : Nat} (hC : κ.cl c = some C) (hf : FLen f n) (M : Mk X.K C fI) (Fk : FnOk X.prog X.w X.K X.mg X.base (XT X.prog X.w) k fI fd ps (spOf κ n f)) (hr : Room (k + 1) X.A) (hg : Gl X x) (hm : X.mg x = some (.ref C)) (hb : Binds X.K fd ps []) (hx : zdk (XT X.prog X.w) X E)
  (ha : PA X (e :: es) (taOf κ E t)) (hdb : (x == ("__debug__" : Str)) = false := by decide) (he : starEach (e :: es) X.env = (false, eval e X.env) :: starEach es X.env := by rfl) (hpl : (backTo pos (starEach es X.env)).any (·.1) = false := by rfl) :
  PE X (.Call (.Name x np) (e :: es) [] pos) (teOf κ E (eNew c f t)) := PEw (zpt M Fk hr hg hm hb .nil hx ha hdb he hpl) fun _ _ _ h => ztd hC hf h
end
end L3
set_option Elab.async false
set_option linter.all false
set_option maxRecDepth 100000
namespace L3
open PySem PySem.Spec PyProof.Rows L2
mutual
def low (n : Nat) : V3 → Bool
 | .loc m => decide (m < n)
 | .tup xs => lows n xs
 | .lst xs => lows n xs
 | .dK kvs => lowK n kvs
 | .dT kvs => lowT n kvs
 | .obj _ fs => lowF n fs
 | .fn _ env => lows n env
 | _ => true
def lows (n : Nat) : List V3 → Bool
 | [] => true
 | x :: r => low n x && lows n r
def lowK (n : Nat) : List (Key × V3) → Bool
 | [] => true
 | (_, x) :: r => low n x && lowK n r
def lowT (n : Nat) : List (MK × V3) → Bool
 | [] => true
 | (_, x) :: r => low n x && lowT n r
def lowF (n : Nat) : List (Str × V3) → Bool
 | [] => true
 | (_, x) :: r => low n x && lowF n r
end
section
variable {X : Cx} {κ : Kx} {E : XK} {F F' : Fr} {σ σ' : L2.St} {H H1 H' : Hp} {Q : VK} {p : Addr} {e a b c o : Expr} {pos apos np cpos : Pos} {i : Nat} {D : Ends} {β : List (Option Addr)} {O : Addr → Prop}
def lowP {α : Type} (n : Nat) (kvs : List (α × V3)) : Prop := ∀ kv ∈ kvs, low n kv.2 = true
theorem lowK_iff {n : Nat} : ∀ {kvs : List (Key × V3)}, lowK n kvs = true ↔ lowP n kvs
 | [] => by simp [lowK, lowP]
 | (k, x) :: r => by simp [lowK, lowP, Bool.and_eq_true, lowK_iff (kvs := r)]
theorem lowT_iff {n : Nat} : ∀ {kvs : List (MK × V3)}, lowT n kvs = true ↔ lowP n kvs
 | [] => by simp [lowT, lowP]
 | (k, x) :: r => by simp [lowT, lowP, Bool.and_eq_true, lowT_iff (kvs := r)]
theorem lowF_iff {n : Nat} : ∀ {kvs : List (Str × V3)}, lowF n kvs = true ↔ lowP n kvs
 | [] => by simp [lowF, lowP]
 | (k, x) :: r => by simp [lowF, lowP, Bool.and_eq_true, lowF_iff (kvs := r)]
mutual
theorem Rep.low : ∀ {x : V3} {v : V}, Rep κ β O H x v → low β.length x = true
 | _, _, .non => by simp [L3.low]
 | _, _, .bl _ => by simp [L3.low]
 | _, _, .int _ => by simp [L3.low]
 | _, _, .str _ => by simp [L3.low]
 | _, _, .ty _ => by simp [L3.low]
 | _, _, .tup _ _ _ r => by simp only [L3.low]; exact Reps.low r
 | _, _, .lst _ _ _ r => by simp only [L3.low]; exact Reps.low r
 | _, _, .scr _ _ _ => by simp [L3.low]
 | _, _, .scrK _ => by simp [L3.low]
 | _, _, .dK _ _ _ r => by simp only [L3.low]; exact lowK_iff.mpr (RepP.low r)
 | _, _, .dT _ _ _ r => by simp only [L3.low]; exact lowT_iff.mpr (RepP.low r)
 | _, _, .obj _ _ _ _ r => by simp only [L3.low]; exact lowF_iff.mpr (RepP.low r)
 | _, _, .cls _ => by simp [L3.low]
 | _, _, .loc h _ => by simp [L3.low, h]
theorem Reps.low : ∀ {x : List V3} {v : List V}, Reps κ β O H x v → lows β.length x = true
 | _, _, .nil => by simp [L3.lows]
 | _, _, .cons a r => by simp only [L3.lows, Bool.and_eq_true]; exact ⟨Rep.low a, Reps.low r⟩
theorem RepP.low : ∀ {α : Type} {x : List (α × V3)} {v : List (α × V)}, RepP κ β O H x v → lowP β.length x
 | _, _, _, .nil => fun kv h => by cases h
 | _, _, _, .cons a r => fun kv h => by
  rcases List.mem_cons.mp h with z | z
  ·rw [z]; exact Rep.low a
  ·exact RepP.low r kv z
end
mutual
theorem Rep.cut {n : Nat} : ∀ {x : V3} {v : V}, Rep κ β O H x v → low n x = true → Rep κ (β.take n) O H x v
 | _, _, .non, _ => .non
 | _, _, .bl b, _ => .bl b
 | _, _, .int i, _ => .int i
 | _, _, .str x, _ => .str x
 | _, _, .ty x, _ => .ty x
 | _, _, .tup h1 h2 h3 r, l => .tup h1 (fun z => h2 (List.mem_of_mem_take z)) h3 (Reps.cut r (by simpa only [L3.low] using l))
 | _, _, .lst h1 h2 h3 r, l => .lst h1 (fun z => h2 (List.mem_of_mem_take z)) h3 (Reps.cut r (by simpa only [L3.low] using l))
 | _, _, .scr h1 h2 h3, _ => .scr h1 (fun z => h2 (List.mem_of_mem_take z)) h3
 | _, _, .scrK h, _ => .scrK h
 | _, _, .dK h1 h2 h3 r, l => .dK h1 (fun z => h2 (List.mem_of_mem_take z)) h3 (RepP.cut r (lowK_iff.mp (by simpa only [L3.low] using l)))
 | _, _, .dT h1 h2 h3 r, l => .dT h1 (fun z => h2 (List.mem_of_mem_take z)) h3 (RepP.cut r (lowT_iff.mp (by simpa only [L3.low] using l)))
 | _, _, .obj h0 h1 h2 h3 r, l => .obj h0 h1 (fun z => h2 (List.mem_of_mem_take z)) h3 (RepP.cut r (lowF_iff.mp (by simpa only [L3.low] using l)))
 | _, _, .cls h, _ => .cls h
 | _, _, .loc (n := m) h1 h2, l => by
  have hm : m < n := by simpa [L3.low] using l
  exact .loc (by rw [List.length_take]; omega) fun a ha => h2 a (by rw [List.getElem?_take_of_lt hm] at ha; exact ha)
theorem Reps.cut {n : Nat} : ∀ {x : List V3} {v : List V}, Reps κ β O H x v → lows n x = true → Reps κ (β.take n) O H x v
 | _, _, .nil, _ => .nil
 | _, _, .cons a r, l => by
  simp only [L3.lows, Bool.and_eq_true] at l
  exact .cons (Rep.cut a l.1) (Reps.cut r l.2)
theorem RepP.cut {n : Nat} : ∀ {α : Type} {x : List (α × V3)} {v : List (α × V)}, RepP κ β O H x v → lowP n x → RepP κ (β.take n) O H x v
 | _, _, _, .nil, _ => .nil
 | _, _, _, .cons a r, l => .cons (Rep.cut a (l _ List.mem_cons_self)) (RepP.cut r fun kv h => l kv (List.mem_cons_of_mem _ h))
end
def lowC (n : Nat) : C3 → Prop
 | .lst xs => lows n xs = true
 | .dK kvs => lowP n kvs
 | .dT kvs => lowP n kvs
 | .ins _ fs => lowP n fs
 | .dead => True
theorem CellR.low {c : C3} {a : Addr} (r : CellR κ β O H c a) : lowC β.length c := by
 cases c with
 | lst xs => obtain ⟨_, _, r⟩ := r; exact r.low
 | dK xs => obtain ⟨_, _, r⟩ := r; exact r.low
 | dT xs => obtain ⟨_, _, r⟩ := r; exact r.low
 | ins c fs => obtain ⟨_, _, _, _, _, r⟩ := r; exact r.low
 | dead => exact r.elim
theorem CellR.cut {c : C3} {a : Addr} {n : Nat} (r : CellR κ β O H c a) (l : lowC n c) : CellR κ (β.take n) O H c a := by
 cases c with
 | lst xs => obtain ⟨_, q, r⟩ := r; exact ⟨_, q, r.cut l⟩
 | dK xs => obtain ⟨_, q, r⟩ := r; exact ⟨_, q, r.cut l⟩
 | dT xs => obtain ⟨_, q, r⟩ := r; exact ⟨_, q, r.cut l⟩
 | ins c fs => obtain ⟨_, _, _, k, q, r⟩ := r; exact ⟨_, _, _, k, q, r.cut l⟩
 | dead => exact r.elim
mutual
theorem Rep.addO {x : Addr} (hx : some x ∈ β) : ∀ {v : V3} {w : V}, Rep κ β O H v w → Rep κ β (fun a => a = x ∨ O a) H v w
 | _, _, .non => .non
 | _, _, .bl b => .bl b
 | _, _, .int i => .int i
 | _, _, .str x => .str x
 | _, _, .ty x => .ty x
 | _, _, .tup h1 h2 h3 r => .tup h1 h2 (fun z => z.elim (fun e => h2 (by rw [e]; exact hx)) h3) (Reps.addO hx r)
 | _, _, .lst h1 h2 h3 r => .lst h1 h2 (fun z => z.elim (fun e => h2 (by rw [e]; exact hx)) h3) (Reps.addO hx r)
 | _, _, .scr h1 h2 h3 => .scr h1 h2 (fun z => z.elim (fun e => h2 (by rw [e]; exact hx)) h3)
 | _, _, .scrK h => .scrK h
 | _, _, .dK h1 h2 h3 r => .dK h1 h2 (fun z => z.elim (fun e => h2 (by rw [e]; exact hx)) h3) (RepP.addO hx r)
 | _, _, .dT h1 h2 h3 r => .dT h1 h2 (fun z => z.elim (fun e => h2 (by rw [e]; exact hx)) h3) (RepP.addO hx r)
 | _, _, .obj h0 h1 h2 h3 r => .obj h0 h1 h2 (fun z => z.elim (fun e => h2 (by rw [e]; exact hx)) h3) (RepP.addO hx r)
 | _, _, .cls h => .cls h
 | _, _, .loc h1 h2 => .loc h1 h2
theorem Reps.addO {x : Addr} (hx : some x ∈ β) : ∀ {v : List V3} {w : List V}, Reps κ β O H v w → Reps κ β (fun a => a = x ∨ O a) H v w
 | _, _, .nil => .nil
 | _, _, .cons a r => .cons (Rep.addO hx a) (Reps.addO hx r)
theorem RepP.addO {x : Addr} (hx : some x ∈ β) : ∀ {α : Type} {v : List (α × V3)} {w : List (α × V)}, RepP κ β O H v w → RepP κ β (fun a => a = x ∨ O a) H v w
 | _, _, _, .nil => .nil
 | _, _, _, .cons a r => .cons (Rep.addO hx a) (RepP.addO hx r)
end
theorem CellR.addO {c : C3} {a x : Addr} (hx : some x ∈ β) (r : CellR κ β O H c a) : CellR κ β (fun a => a = x ∨ O a) H c a := by
 cases c with
 | lst xs => obtain ⟨_, q, r⟩ := r; exact ⟨_, q, r.addO hx⟩
 | dK xs => obtain ⟨_, q, r⟩ := r; exact ⟨_, q, r.addO hx⟩
 | dT xs => obtain ⟨_, q, r⟩ := r; exact ⟨_, q, r.addO hx⟩
 | ins c fs => obtain ⟨_, _, _, k, q, r⟩ := r; exact ⟨_, _, _, k, q, r.addO hx⟩
 | dead => exact r.elim
open Classical in
noncomputable def eObj (e : E3) : E3 := fun s h => (e s h).bind fun r h1 => match r with
 | .v (.loc n) => match h1[n]? with
  | some (.ins c fs) => if n = h.length ∧ h1 = h ++ [.ins c fs] ∧ lowF n fs = true then .ok (.m (.ins c fs)) h else .no
  | _ => .no
 | _ => .no
theorem zok {β1 : List (Option Addr)} {h1 : H3} {n : Nat} {c : Str} {fs : List (Str × V3)} {v : V} (rel : Rel κ F σ H) (e1 : Ext No F.β H β1 H1) (r1 : Rel κ (F.to β1 h1) σ H1) (rl : Rep κ β1 F.O H1 (.loc n) v) (en : n = F.h.length) (eh : h1 = F.h ++ [.ins c fs]) (hlow : lowF n fs = true) :
  Ext No F.β H (β1.take n) H1 ∧ Post κ (Nw H) (F.to (β1.take n) F.h) σ H1 (.m (.ins c fs)) v := by
 have hl1 : β1.length = h1.length := r1.heap.len
 have hl0 : F.β.length = F.h.length := rel.heap.len
 have hlen : β1.length = n + 1 := by rw [hl1, eh]; simp [en]
 have hn : h1[n]? = some (.ins c fs) := by rw [eh, en]; simp
 rcases r1.heap.cell n _ hn with w | ⟨x, hx, C, dx, gs, k1, k2, k3⟩
 ·cases w
 have hx : β1[n]? = some (some x) := hx
 have ev : v = .ref x := by cases rl with | loc _ l2 => exact l2 x hx
 subst ev
 have hxb : some x ∈ β1 := List.mem_of_getElem? hx
 have hxn : some x ∉ β1.take n := fun z => by
  obtain ⟨j, hj⟩ := List.getElem?_of_mem z
  have hj2 : j < n := by have := (List.getElem?_eq_some_iff.mp hj).1; rw [List.length_take] at this; omega
  rw [List.getElem?_take_of_lt hj2] at hj
  have := r1.heap.inj j n x hj hx
  omega
 have hxH : H x = none := e1.nwb n x (by omega) hx
 have ex : Ext No F.β H (β1.take n) H1 := ⟨fun a u ha hb m => by
   obtain ⟨q1, q2⟩ := e1.keep a u ha hb m
   exact ⟨q1, fun z => q2 (List.mem_of_mem_take z)⟩, by rw [List.length_take]; omega, fun i a hi h => by
   rw [List.getElem?_take_of_lt (by omega)] at h; exact e1.bet i a hi h, e1.there, fun i a hi h => by
   have := (List.getElem?_eq_some_iff.mp h).1; rw [List.length_take] at this; omega⟩
 have rh : RelH κ (fun a => a = x ∨ F.O a) (β1.take n) F.h H1 := by
  refine ⟨by rw [List.length_take]; omega, fun i j a h1' h2' => ?_, fun a ha z => ?_, fun a ha => ?_, fun i a q => ?_, fun i c' hc => ?_⟩
  ·have hi : i < n := by have := (List.getElem?_eq_some_iff.mp h1').1; rw [List.length_take] at this; omega
   have hj : j < n := by have := (List.getElem?_eq_some_iff.mp h2').1; rw [List.length_take] at this; omega
   rw [List.getElem?_take_of_lt hi] at h1'; rw [List.getElem?_take_of_lt hj] at h2'
   exact r1.heap.inj i j a h1' h2'
  ·rcases ha with ha | ha
   ·subst ha; exact hxn z
   ·exact r1.heap.off a ha (List.mem_of_mem_take z)
  ·rcases ha with ha | ha
   ·subst ha; exact ⟨_, k2⟩
   ·exact r1.heap.trk a ha
  ·have hi : i < n := by have := (List.getElem?_eq_some_iff.mp q).1; rw [List.length_take] at this; omega
   rw [List.getElem?_take_of_lt hi] at q
   exact r1.heap.btr i a q
  ·have hi : i < n := by rw [en]; exact (List.getElem?_eq_some_iff.mp hc).1
   have hc1 : h1[i]? = some c' := by rw [eh, List.getElem?_append_left (by omega)]; exact hc
   have hlw : c' = .dead ∨ lowC n c' := (rel.heap.cell i c' hc).imp id fun ⟨a, _, q⟩ => by have := q.low; rw [hl0, ← en] at this; exact this
   rcases hlw with z | hlw
   ·exact .inl z
   ·exact (r1.heap.cell i c' hc1).imp id fun ⟨a, ha, q⟩ => ⟨a, by rw [List.getElem?_take_of_lt hi]; exact ha, (CellR.addO hxb q).cut hlw⟩
 refine ⟨ex, x, rfl, rel.nextNew ex rh hxH, ⟨C, dx, gs, k1, k2, ((RepP.addO hxb k3).cut (lowF_iff.mp hlow)).sub fun a ha => ?_⟩, hxH⟩
 rcases ha with z | z
 ·rcases List.mem_cons.mp z with z | z
  ·exact .inl z
  ·exact .inr (.inl z)
 ·exact .inr (.inr z)
theorem zvq {d : E3} (h : PE X e (teOf κ E d)) : PE X e (teOf κ E (eObj d)) := PEw h fun σ H Q ⟨F, rel, o⟩ => by
 refine ⟨F, rel, ?_⟩
 unfold eObj at o
 cases q : d F.s F.h with
 | no => rw [q] at o; exact o
 | ex x h1 => rw [q] at o; exact o
 | ok r h1 =>
  rw [q] at o
  intro β1 v H1 e1 p1
  simp only [Res.bind] at o
  split at o
  ·split at o
   ·split at o
    ·rename_i hc
     obtain ⟨en, eh, hlow⟩ := hc
     obtain ⟨ex, ps⟩ := zok rel e1 p1.1 p1.2 en eh hlow
     exact o _ v H1 ex ps
    ·exact o.elim
   ·exact o.elim
  ·exact o.elim
def iS (p : P3) : I3 := fun s h => (p s h).bind fun f h1 => match f with
 | .x (.str z) => .ok ⟨[], z.cps.toList.map fun c => .str ⟨#[c]⟩, fun _ => True⟩ h1
 | _ => .no
def oInS (neg : Bool) : F2 := fun _ _ x y => match x, y with
 | .x (.str i), .x (.str j) => some (.v (.bl (if neg then !(!(Builtin.Str.occurrences j i 0 j.length 1).isEmpty) else !(Builtin.Str.occurrences j i 0 j.length 1).isEmpty)))
 | _, _ => none
def inO (neg : Bool) (s : S3) (h : H3) (x y : Rf) : Option Bool := match x with
 | .x a => match (match y with | .x (.tup xs) => some xs | f => rdl s h f) with
  | some xs => (mapO (fun b => eq3 h 8 b a) xs).map fun bs => if neg then !bs.any id else bs.any id
  | none => none
 | _ => none
end
end L3
set_option Elab.async false
set_option linter.all false
set_option maxRecDepth 100000
namespace L3
open PySem PySem.Spec PyProof.Rows L2
section
variable {X : Cx} {κ : Kx} {E : XK} {F F' : Fr} {σ σ' : L2.St} {H H1 H' : Hp} {Q : VK} {p : Addr} {e a b c o : Expr} {es : List Expr} {pos apos np cpos : Pos} {i : Nat} {D : Ends}
theorem hu9 {A : Around} {k : Nat} (hr : Room k A) : A.units + 9 < cLine := by have := hr.units; omega
theorem Flds.cons {cs : List Str} {c f : Str} {C : Addr} (hC : κ.cl c = some C) (cl : Cls X.K C) (na : NoAttr X.K C f) (r : Flds X κ cs f) : Flds X κ (c :: cs) f := fun c' hc C' hC' => by
 rcases List.mem_cons.mp hc with z | z
 ·subst z; rw [hC] at hC'; cases hC'; exact ⟨cl, na⟩
 ·exact r c' z C' hC'
theorem zci : ∀ xs s s', gsNil xs s = some s' → xs.length = 0 := fun xs s s' e => by
 cases xs with
 | nil => rfl
 | cons _ _ => cases e
theorem zam {g : G3} {gs : Gs3} {n : Nat} (h : ∀ xs s s', gs xs s = some s' → xs.length = n) : ∀ xs s s', gsCons g gs xs s = some s' → xs.length = n + 1 := fun xs s s' e => by
 cases xs with
 | nil => cases e
 | cons x r =>
  simp only [gsCons] at e
  cases q : g x s with
  | none => rw [q] at e; cases e
  | some s1 => rw [q] at e; rw [List.length_cons, h r s1 s' e]
def sAug (i : Nat) (f : F2) (p : P3) : D3 := fun s h => match s[i]? with
 | some (some (.v x)) => (p s h).bindS fun y h1 => match f s h1 (.x x) y with
  | some (.v z) => .nx (s.set i (some (.v z))) h1
  | _ => .no
 | _ => .no
theorem zlw : OpSim κ (ipI fun i j => i + j) zj2 := sim_addI
theorem ztm {x : Str} {op : Operator} {ti : TIp} {f : F2} {d : P3} {pos' : Pos} (hs : OpSim κ ti f) (hh : ∀ {te : TE}, PE X e te → PS X (.AugAssign (.Name x pos') op e pos) (tAug i te ti)) (he : PE X e (tpOf κ E d)) : PS X (.AugAssign (.Name x pos') op e pos) (tsOf κ E (sAug i f d)) := PSw (hh he) fun D σ H ⟨F, rel, ht, o⟩ => by
 unfold sAug at o
 cases q : F.s[i]? with
 | none => rw [q] at o; exact o.elim
 | some z =>
  rw [q] at o
  match z, q, o with
  | none, q, o => exact o.elim
  | some (.m _), q, o => exact o.elim
  | some (.v x3), q, o =>
   obtain ⟨v, h1, h2⟩ := rel.slot i _ q
   refine ⟨v, h1, (bindS (K := kP κ) rel ht o).mono fun w H1 ⟨β1, h1', y, e1, ⟨r1, ry⟩, o1⟩ => ?_⟩
   have hi' : i < F.s.length := (List.getElem?_eq_some_iff.mp q).1
   cases q2 : f F.s h1' (.x x3) y with
   | none => simp only [q2] at o1; exact o1.elim
   | some z =>
    refine hs (F.to β1 h1') σ H1 (.x x3) y z v w _ r1 (show Rep κ β1 F.O H1 x3 v from Rep.ext0 e1 h2) ry q2 fun u H2 e2 p2 => ?_
    match z, q2, p2, o1 with
    | .m _, q2, p2, o1 => simp only [q2] at o1; exact o1.elim
    | .v z, q2, p2, o1 =>
     simp only [q2] at o1
     have s1 : SExt F H (F.to β1 h1') H1 := SExt.of0 ht e1
     have s2 : SExt (F.to β1 h1') H1 (F.to β1 h1') H2 := SExt.of0 (F := F.to β1 h1') (h' := h1') ht e2
     exact o1 ((F.to β1 h1').setV i z) _ H2 ((s1.trans s2).trans (SExt.setN ht)) rfl rfl (p2.1.setV p2.2 hi')
def eGl (e : E3) : E3 := fun s h => (e s h).bind fun r h1 => match r with
 | .m c => .ok (.v (.loc h1.length)) (h1 ++ [c])
 | .v x => .ok (.v x) h1
mutual
theorem Rep.grow {β : List (Option Addr)} {O O' : Addr → Prop} {x : Addr} (hx : O x) (hs : ∀ a, O' a → O a) : ∀ {v : V3} {w : V}, Rep κ β O H v w → Rep κ (β ++ [some x]) O' H v w
 | _, _, .non => .non
 | _, _, .bl b => .bl b
 | _, _, .int i => .int i
 | _, _, .str x => .str x
 | _, _, .ty x => .ty x
 | _, _, .tup h1 h2 h3 r => .tup h1 (fun z => (List.mem_append.mp z).elim h2 fun z => h3 (by have := List.mem_singleton.mp z; cases this; exact hx)) (fun z => h3 (hs _ z)) (Reps.grow hx hs r)
 | _, _, .lst h1 h2 h3 r => .lst h1 (fun z => (List.mem_append.mp z).elim h2 fun z => h3 (by have := List.mem_singleton.mp z; cases this; exact hx)) (fun z => h3 (hs _ z)) (Reps.grow hx hs r)
 | _, _, .scr h1 h2 h3 => .scr h1 (fun z => (List.mem_append.mp z).elim h2 fun z => h3 (by have := List.mem_singleton.mp z; cases this; exact hx)) (fun z => h3 (hs _ z))
 | _, _, .scrK h => .scrK h
 | _, _, .dK h1 h2 h3 r => .dK h1 (fun z => (List.mem_append.mp z).elim h2 fun z => h3 (by have := List.mem_singleton.mp z; cases this; exact hx)) (fun z => h3 (hs _ z)) (RepP.grow hx hs r)
 | _, _, .dT h1 h2 h3 r => .dT h1 (fun z => (List.mem_append.mp z).elim h2 fun z => h3 (by have := List.mem_singleton.mp z; cases this; exact hx)) (fun z => h3 (hs _ z)) (RepP.grow hx hs r)
 | _, _, .obj h0 h1 h2 h3 r => .obj h0 h1 (fun z => (List.mem_append.mp z).elim h2 fun z => h3 (by have := List.mem_singleton.mp z; cases this; exact hx)) (fun z => h3 (hs _ z)) (RepP.grow hx hs r)
 | _, _, .cls h => .cls h
 | _, _, .loc h1 h2 => .loc (by rw [List.length_append]; omega) fun a ha => h2 a (by rw [List.getElem?_append_left h1] at ha; exact ha)
theorem Reps.grow {β : List (Option Addr)} {O O' : Addr → Prop} {x : Addr} (hx : O x) (hs : ∀ a, O' a → O a) : ∀ {v : List V3} {w : List V}, Reps κ β O H v w → Reps κ (β ++ [some x]) O' H v w
 | _, _, .nil => .nil
 | _, _, .cons a r => .cons (Rep.grow hx hs a) (Reps.grow hx hs r)
theorem RepP.grow {β : List (Option Addr)} {O O' : Addr → Prop} {x : Addr} (hx : O x) (hs : ∀ a, O' a → O a) : ∀ {α : Type} {v : List (α × V3)} {w : List (α × V)}, RepP κ β O H v w → RepP κ (β ++ [some x]) O' H v w
 | _, _, _, .nil => .nil
 | _, _, _, .cons a r => .cons (Rep.grow hx hs a) (RepP.grow hx hs r)
end
theorem CellR.grow {β : List (Option Addr)} {O O' : Addr → Prop} {x : Addr} (hx : O x) (hs : ∀ a, O' a → O a) {c : C3} {a : Addr} (r : CellR κ β O H c a) : CellR κ (β ++ [some x]) O' H c a := by
 cases c with
 | lst xs => obtain ⟨_, q, r⟩ := r; exact ⟨_, q, r.grow hx hs⟩
 | dK xs => obtain ⟨_, q, r⟩ := r; exact ⟨_, q, r.grow hx hs⟩
 | dT xs => obtain ⟨_, q, r⟩ := r; exact ⟨_, q, r.grow hx hs⟩
 | ins c fs => obtain ⟨_, _, _, k, q, r⟩ := r; exact ⟨_, _, _, k, q, r.grow hx hs⟩
 | dead => exact r.elim
theorem Rel.cell {c : C3} {x : Addr} (r1 : Rel κ (F.with x) σ H) (hc : CellR κ F.β (F.with x).O H c x) : Rel κ (F.to (F.β ++ [some x]) (F.h ++ [c])) σ H ∧ Rep κ (F.β ++ [some x]) F.O H (.loc F.h.length) (.ref x) := by
 have hl : F.β.length = F.h.length := r1.heap.len
 have nx : some x ∉ F.β := r1.offp
 have nO : ¬ F.O x := r1.apart
 have hxO : (F.with x).O x := .inl List.mem_cons_self
 have hs : ∀ a, F.O a → (F.with x).O a := fun a ha => Fr.O_with ha
 have rd := r1.drop
 have last : ∀ {i : Nat} {a : Addr}, F.β.length ≤ i → (F.β ++ [some x])[i]? = some (some a) → a = x ∧ i = F.β.length := fun {i a} hi h => by
  have h0 := (List.getElem?_eq_some_iff.mp h).1
  rw [List.getElem?_append_right hi] at h
  have := List.mem_of_getElem? h; simp at this
  simp at h0
  exact ⟨this, by omega⟩
 refine ⟨⟨⟨?_, fun i j a h1 h2 => ?_, fun a ha z => ?_, rd.heap.trk, fun i a q => ?_, fun i c' hc' => ?_⟩, rd.slen, rd.llen, rd.linj, rd.lt, rd.lo, rd.to, rd.tn, fun i y hy => ?_⟩, ?_⟩
 ·show (F.β ++ [some x]).length = (F.h ++ [c]).length; simp [hl]
 ·have h1 : (F.β ++ [some x])[i]? = some (some a) := h1
  have h2 : (F.β ++ [some x])[j]? = some (some a) := h2
  rcases Nat.lt_or_ge i F.β.length with hi | hi <;> rcases Nat.lt_or_ge j F.β.length with hj | hj
  ·rw [List.getElem?_append_left hi] at h1; rw [List.getElem?_append_left hj] at h2; exact r1.heap.inj i j a h1 h2
  ·obtain ⟨rfl, _⟩ := last hj h2; rw [List.getElem?_append_left hi] at h1; exact absurd (List.mem_of_getElem? h1) nx
  ·obtain ⟨rfl, _⟩ := last hi h1; rw [List.getElem?_append_left hj] at h2; exact absurd (List.mem_of_getElem? h2) nx
  ·have a1 := (last hi h1).2; have a2 := (last hj h2).2; omega
 ·have z : some a ∈ F.β ++ [some x] := z
  rcases List.mem_append.mp z with z | z
  ·exact rd.heap.off a ha z
  ·have := List.mem_singleton.mp z; cases this; exact nO ha
 ·have q : (F.β ++ [some x])[i]? = some (some a) := q
  rcases Nat.lt_or_ge i F.β.length with hi | hi
  ·rw [List.getElem?_append_left hi] at q; exact r1.heap.btr i a q
  ·rw [(last hi q).1]; exact r1.heap.trk x hxO
 ·have hc' : (F.h ++ [c])[i]? = some c' := hc'
  rcases Nat.lt_or_ge i F.h.length with hi | hi
  ·rw [List.getElem?_append_left hi] at hc'
   refine (r1.heap.cell i c' hc').imp id fun ⟨a, ha, q⟩ => ⟨a, ?_, q.grow hxO hs⟩
   show (F.β ++ [some x])[i]? = _
   rw [List.getElem?_append_left (by omega)]; exact ha
  ·rw [List.getElem?_append_right hi] at hc'
   have h0 := (List.getElem?_eq_some_iff.mp hc').1
   simp at h0
   rw [h0] at hc'; cases hc'
   have ei : i = F.h.length := by omega
   subst ei
   refine .inr ⟨x, ?_, hc.grow hxO hs⟩
   show (F.β ++ [some x])[F.h.length]? = _
   rw [← hl]; simp
 ·obtain ⟨v, h1, h2⟩ := r1.slot i y hy
  refine ⟨v, h1, ?_⟩
  cases y with
  | v y => exact Rep.grow hxO hs h2
  | m c => obtain ⟨a, a1, a2, a3⟩ := h2; exact ⟨a, a1, a2, a3.grow hxO hs⟩
 ·refine .loc (by simp [hl]) fun a ha => ?_
  rw [← hl] at ha; simp at ha; rw [ha]
theorem r_gl {d : E3} (h : PE X e (teOf κ E d)) : PE X e (teOf κ E (eGl d)) := PEw h fun σ H Q ⟨F, rel, o⟩ => by
 refine ⟨F, rel, ?_⟩
 unfold eGl at o
 cases q : d F.s F.h with
 | no => rw [q] at o; exact o
 | ex x h1 => rw [q] at o; exact o
 | ok r h1 =>
  rw [q] at o
  intro β1 v H1 e1 p1
  cases r with
  | v x => exact o β1 v H1 e1 p1
  | m c =>
   obtain ⟨x, rfl, r1, hc, hn⟩ := p1
   obtain ⟨r2, rl⟩ := Rel.cell (F := F.to β1 h1) r1 hc
   have nx : some x ∉ β1 := r1.offp
   refine o (β1 ++ [some x]) (.ref x) H1 ⟨fun a u ha hb m => ?_, by rw [List.length_append]; have := e1.len; omega, fun i a hi hh => ?_, e1.there, fun i a hi hh => ?_⟩ ⟨r2, rl⟩
   ·obtain ⟨q1, q2⟩ := e1.keep a u ha hb m
    refine ⟨q1, fun z => ?_⟩
    rcases List.mem_append.mp z with z | z
    ·exact q2 z
    ·have := List.mem_singleton.mp z; cases this
     rw [hn] at ha; cases ha
   ·rw [List.getElem?_append_left (by have := e1.len; omega)] at hh
    exact e1.bet i a hi hh
   ·rcases Nat.lt_or_ge i β1.length with h2 | h2
    ·rw [List.getElem?_append_left h2] at hh; exact e1.nwb i a hi hh
    ·rw [List.getElem?_append_right h2] at hh
     have : a = x := by have := List.mem_of_getElem? hh; simp at this; exact this
     rw [this]; exact hn
def oIn (neg : Bool) : F2 := fun s h x y => (inO neg s h x y).map fun b => .v (.bl b)
def rInT (κ : Kx) (neg : Bool) : R2 := fun v w H Q => ∃ F σ x y b, Rel κ F σ H ∧ RfR κ F H x v ∧ RfR κ F H y w ∧ inO neg F.s F.h x y = some b ∧ Q (.bl b) H
theorem zqs {neg : Bool} : OpSim κ (rInT κ neg) (oIn neg) := fun F σ H x y z v w Q rel rx ry e k => by
 unfold oIn at e
 cases q : inO neg F.s F.h x y with
 | none => rw [q] at e; cases e
 | some b => rw [q] at e; cases e; exact ⟨F, σ, x, y, b, rel, rx, ry, q, k _ H Ext.refl ⟨rel, .bl _⟩⟩
theorem ztb : OpSim κ (rInT κ false) (oIn false) := zqs
theorem zll {h : H3} {n : Nat} (rel : RelH κ F.O F.β h H) (hh : F.h = h) (ih : ∀ {x x' z : V3} {v : V} {b b' : Bool}, Rep κ F.β F.O H x v → Rep κ F.β F.O H x' v → eq3 h n x z = some b → eq3 h n x' z = some b' → b = b') :
  ∀ {xs xs' zs : List V3} {vs : List V} {b b' : Bool}, Reps κ F.β F.O H xs vs → Reps κ F.β F.O H xs' vs → eqZ (eq3 h n) xs zs = some b → eqZ (eq3 h n) xs' zs = some b' → b = b' := by
 intro xs
 induction xs with
 | nil => intro xs' zs vs b b' r1 r2 e1 e2; cases r1; cases r2; rw [e1] at e2; cases e2; rfl
 | cons x xs ihx =>
  intro xs' zs vs b b' r1 r2 e1 e2
  cases r1 with
  | cons a1 t1 =>
   cases r2 with
   | @cons x' _ xs' _ a2 t2 =>
    cases zs with
    | nil => unfold eqZ at e1 e2; cases e1; cases e2; rfl
    | cons z zs =>
     unfold eqZ at e1 e2
     cases q1 : eq3 h n x z with
     | none => simp only [q1] at e1; cases e1
     | some c1 =>
      cases q2 : eqZ (eq3 h n) xs zs with
      | none => simp only [q1, q2] at e1; cases e1
      | some c2 =>
       cases q3 : eq3 h n x' z with
       | none => simp only [q3] at e2; cases e2
       | some c3 =>
        cases q4 : eqZ (eq3 h n) xs' zs with
        | none => simp only [q3, q4] at e2; cases e2
        | some c4 =>
         simp only [q1, q2] at e1; simp only [q3, q4] at e2
         cases e1; cases e2
         rw [ih a1 a2 q1 q3, ihx t1 t2 q2 q4]
theorem zio (rel : RelH κ F.O F.β F.h H) : ∀ (n : Nat) {x x' z : V3} {v : V} {b b' : Bool}, Rep κ F.β F.O H x v → Rep κ F.β F.O H x' v → eq3 F.h n x z = some b → eq3 F.h n x' z = some b' → b = b'
 | 0, x, x', z, v, b, b', rx, rx', e, e' => by
  have kx := zbg rel rx
  have kx' := zbg rel rx'
  unfold eq3 at e e'
  cases h1 : zbl F.h x <;> cases h2 : zbl F.h x' <;> cases h3 : zbl F.h z <;> simp only [h1, h2, h3] at e e' kx kx' <;> first | (cases e; done) | (cases e'; done) | skip
  rw [kx.1] at kx'
  rw [kx'.1] at e
  rw [e] at e'; cases e'; rfl
 | n + 1, x, x', z, v, b, b', rx, rx', e, e' => by
  have kx := zbg rel rx
  have kx' := zbg rel rx'
  unfold eq3 at e e'
  have nof : ∀ {a0 : V} {a : Addr}, v = a0 ∧ zfj a0 = true → v = .ref a → False := fun h1 h2 => by rw [← h1.1, h2] at h1; exact absurd h1.2 (by simp [zfj])
  cases h1 : zbl F.h x <;> cases h2 : zbl F.h x' <;> simp only [h1, h2] at kx kx'
  case o.f => cases h3 : zbl F.h z <;> simp only [h1, h3] at e <;> cases e
  case o.l => cases h3 : zbl F.h z <;> simp only [h1, h3] at e <;> cases e
  case o.t => cases h3 : zbl F.h z <;> simp only [h1, h3] at e <;> cases e
  case o.o => cases h3 : zbl F.h z <;> simp only [h1, h3] at e <;> cases e
  case f.o => cases h3 : zbl F.h z <;> simp only [h2, h3] at e' <;> cases e'
  case l.o => cases h3 : zbl F.h z <;> simp only [h2, h3] at e' <;> cases e'
  case t.o => cases h3 : zbl F.h z <;> simp only [h2, h3] at e' <;> cases e'
  case f.l => obtain ⟨a, _, ev, _⟩ := kx'; exact (nof kx ev).elim
  case f.t => obtain ⟨a, _, ev, _⟩ := kx'; exact (nof kx ev).elim
  case l.f => obtain ⟨a, _, ev, _⟩ := kx; exact (nof kx' ev).elim
  case t.f => obtain ⟨a, _, ev, _⟩ := kx; exact (nof kx' ev).elim
  case l.t => obtain ⟨a, _, ev, k1, _⟩ := kx; obtain ⟨a', _, ev', k2, _⟩ := kx'; rw [ev] at ev'; cases ev'; rw [k1] at k2; cases k2
  case t.l => obtain ⟨a, _, ev, k1, _⟩ := kx; obtain ⟨a', _, ev', k2, _⟩ := kx'; rw [ev] at ev'; cases ev'; rw [k1] at k2; cases k2
  case f.f a a' =>
   have : a = a' := by rw [← kx.1, ← kx'.1]
   subst this
   simp only [h1] at e; simp only [h2] at e'
   rw [e] at e'; cases e'; rfl
  case l.l xs xs' =>
   obtain ⟨a, us, ev, k1, r1⟩ := kx
   obtain ⟨a', us', ev', k2, r2⟩ := kx'
   rw [ev] at ev'; cases ev'
   rw [k1] at k2; cases k2
   have hl : xs.length = xs'.length := by rw [r1.length, r2.length]
   cases h3 : zbl F.h z <;> simp only [h1, h3] at e <;> simp only [h2, h3] at e' <;> first | (cases e; done) | (cases e; cases e'; rfl) | skip
   case l zs =>
    by_cases hz : xs.length = zs.length
    ·rw [if_pos hz] at e; rw [if_pos (by omega)] at e'
     exact zll rel rfl (fun a b c d => zio rel n a b c d) r1 r2 e e'
    ·rw [if_neg hz] at e; rw [if_neg (by omega)] at e'; cases e; cases e'; rfl
  case t.t xs xs' =>
   obtain ⟨a, us, ev, k1, r1⟩ := kx
   obtain ⟨a', us', ev', k2, r2⟩ := kx'
   rw [ev] at ev'; cases ev'
   rw [k1] at k2; cases k2
   have hl : xs.length = xs'.length := by rw [r1.length, r2.length]
   cases h3 : zbl F.h z <;> simp only [h1, h3] at e <;> simp only [h2, h3] at e' <;> first | (cases e; done) | (cases e; cases e'; rfl) | skip
   case t zs =>
    cases q1 : eqZ (eq3 F.h n) xs zs with
    | none => rw [q1] at e; cases e
    | some c1 =>
     cases q2 : eqZ (eq3 F.h n) xs' zs with
     | none => rw [q2] at e'; cases e'
     | some c2 =>
      rw [q1] at e; rw [q2] at e'; cases e; cases e'
      rw [zll rel rfl (fun a b c d => zio rel n a b c d) r1 r2 q1 q2, hl]
end
end L3
set_option Elab.async false
set_option linter.all false
set_option maxRecDepth 100000
namespace L3
open PySem PySem.Spec PyProof.Rows L2
section
variable {X : Cx} {κ : Kx} {E : XK} {F F' : Fr} {σ σ' : L2.St} {H H1 H' : Hp} {Q : VK} {p : Addr} {e a b c o : Expr} {es : List Expr} {pos apos np cpos : Pos} {i : Nat} {D : Ends}
theorem zi1 {α β : Type} {f : α → Option β} : ∀ {l : List α} {m : List β}, mapO f l = some m → l.length = m.length ∧ ∀ (j : Nat) x, l[j]? = some x → ∃ y, m[j]? = some y ∧ f x = some y
 | [], _, e => by cases e; exact ⟨rfl, fun j x h => by simp at h⟩
 | x :: r, m, e => by
  obtain ⟨y, l', h1, h2, rfl⟩ := zfg e
  obtain ⟨i1, i2⟩ := zi1 h2
  refine ⟨by simp [i1], fun j x' h => ?_⟩
  cases j with
  | zero => simp at h; subst h; exact ⟨y, rfl, h1⟩
  | succ j => exact i2 j x' (by simpa using h)
open Classical in
theorem zpp {pins : List (Addr × Obj)} {s : Shared} {σ2 : L2.St} {xs : List V3} {us : List V} {its : List Value} {bs : List Bool} {x3 : V3} {v : V} {vv : Value} {A : Around} (I : Inv X pins σ2 H s) (rel : RelH κ F.O F.β F.h H) (rs : Reps κ F.β F.O H xs us) (rv : Vals us its) (rx : Rep κ F.β F.O H x3 v) (rvv : RelV v vv) (q : mapO (fun b => eq3 F.h 8 b x3) xs = some bs) (hu : A.units + 8 < cLine) :
  ∃ e : Value → Bool, (∀ y, y ∈ its.toArray → SeqAt.EqAt A s y vv (e y)) ∧ its.toArray.any e = bs.any id := by
 obtain ⟨hl, hg⟩ := zi1 q
 have l1 := rs.length
 have l2 := rv.length
 let e : Value → Bool := fun y => decide (∃ (j : Nat) (z : V3), xs[j]? = some z ∧ its[j]? = some y ∧ eq3 F.h 8 z x3 = some true)
 have at' : ∀ (j : Nat) (y : Value), its[j]? = some y → ∃ z u b, xs[j]? = some z ∧ us[j]? = some u ∧ RelV u y ∧ Rep κ F.β F.O H z u ∧ bs[j]? = some b ∧ eq3 F.h 8 z x3 = some b ∧ e y = b := fun j y hy => by
  have hj : j < its.length := (List.getElem?_eq_some_iff.mp hy).1
  obtain ⟨u, hu', ru⟩ := rs.get (List.getElem?_eq_getElem (show j < xs.length by omega))
  obtain ⟨y', hy', ry'⟩ := rv.get hu'
  rw [hy] at hy'; cases hy'
  obtain ⟨b, hb, eb⟩ := hg j _ (List.getElem?_eq_getElem (show j < xs.length by omega))
  refine ⟨_, u, b, List.getElem?_eq_getElem (show j < xs.length by omega), hu', ry', ru, hb, eb, ?_⟩
  cases b with
  | true => exact decide_eq_true ⟨j, _, List.getElem?_eq_getElem (show j < xs.length by omega), hy, eb⟩
  | false =>
   refine decide_eq_false fun ⟨j', z', h1, h2, h3⟩ => ?_
   obtain ⟨u', hu2, ru2⟩ := rs.get h1
   obtain ⟨y2, hy2, ry2⟩ := rv.get hu2
   rw [h2] at hy2; cases hy2
   have := RelV.inj ry' ry2
   subst this
   have := zio rel 8 ru ru2 eb h3
   cases this
 refine ⟨e, fun y hy => ?_, ?_⟩
 ·obtain ⟨j, hj⟩ := List.getElem?_of_mem (show y ∈ its by simpa using hy)
  obtain ⟨z, u, b, h1, h2, h3, h4, h5, h6, h7⟩ := at' j y hj
  rw [h7]
  exact (zqw rel 8 I h4 rx h3 rvv h6 hu).2
 ·rw [List.any_toArray, Bool.eq_iff_iff, List.any_eq_true, List.any_eq_true]
  constructor
  ·rintro ⟨y, hy, ey⟩
   obtain ⟨j, hj⟩ := List.getElem?_of_mem hy
   obtain ⟨z, u, b, h1, h2, h3, h4, h5, h6, h7⟩ := at' j y hj
   rw [h7] at ey; subst ey
   exact ⟨true, List.mem_of_getElem? h5, rfl⟩
  ·rintro ⟨b, hb, eb⟩
   have eb : b = true := eb
   subst eb
   obtain ⟨j, hj⟩ := List.getElem?_of_mem hb
   have hj2 : j < its.length := by have := (List.getElem?_eq_some_iff.mp hj).1; omega
   obtain ⟨z, u, b, h1, h2, h3, h4, h5, h6, h7⟩ := at' j _ (List.getElem?_eq_getElem hj2)
   rw [hj] at h5; cases h5
   exact ⟨_, List.getElem_mem hj2, h7⟩
theorem zuf (neg : Bool) (hK : X.K = κ.K) (hu : X.A.units + 9 < cLine) : OpR X (compareOp (if neg then .NotIn else .In)) (rInT κ neg) := by
 intro pins s σ H x y v u Q I rx ry h
 obtain ⟨F, σ', x3, y3, b, rel, r1, r2, e, q⟩ := h
 unfold inO at e
 cases x3 with
 | s i => cases e
 | x a =>
  have r1 : Rep κ F.β F.O H a x := r1
  simp only at e
  have fin : ∀ {bs : List Bool}, b = (if neg then !bs.any id else bs.any id) → EP X pins σ Q (.bool (if neg then !bs.any id else bs.any id)) s := fun hb => ⟨.bl b, H, I, by rw [hb]; rfl, q⟩
  have lists : ∀ xs, rdl F.s F.h y3 = some xs → (mapO (fun b => eq3 F.h 8 b a) xs).map (fun bs => if neg then !bs.any id else bs.any id) = some b → wpAny (model X.prog X.w) X.A (compareOp (if neg then .NotIn else .In) v u) (EP X pins σ Q) X.xe s := fun xs hx e => by
   cases q2 : mapO (fun b => eq3 F.h 8 b a) xs with
   | none => rw [q2] at e; cases e
   | some bs =>
    rw [q2] at e
    obtain ⟨l, us, rfl, sq, rs⟩ := zel rel r2 hx
    cases ry
    obtain ⟨its, rv, pl, _⟩ := I.list (show SqL X.K H l us by rw [hK]; exact sq)
    obtain ⟨ee, h1, h2⟩ := zpp (A := X.A.in1) I rel.heap rs rv r1 rx q2 (by show X.A.units + 1 + 8 < cLine; omega)
    cases neg with
    | false => exact SeqAt.in_listAt ee pl.isList h1 (by rw [h2]; exact fin (bs := bs) (by cases e; rfl))
    | true => exact SeqAt.notIn_listAt ee pl.isList h1 (by rw [h2]; exact fin (bs := bs) (by cases e; rfl))
  split at e
  ·rename_i xs hx
   split at hx
   ·rename_i zs
    cases hx
    cases q2 : mapO (fun b => eq3 F.h 8 b a) xs with
    | none => rw [q2] at e; cases e
    | some bs =>
     rw [q2] at e
     cases (show Rep κ F.β F.O H (.tup xs) y from r2) with
     | @tup _ us l t1 t2 t3 rs =>
      cases ry
      obtain ⟨its, rv, pl, _⟩ := I.tuple (SqT.of (K := X.K) t1)
      obtain ⟨ee, h1, h2⟩ := zpp (A := X.A.in1) I rel.heap rs rv r1 rx q2 (by show X.A.units + 1 + 8 < cLine; omega)
      cases neg with
      | false => exact SeqAt.in_tupleAt ee (show s.heap.IsTuple l its.toArray from pl) h1 (by rw [h2]; exact fin (bs := bs) (by cases e; rfl))
      | true => exact SeqAt.notIn_tupleAt ee (show s.heap.IsTuple l its.toArray from pl) h1 (by rw [h2]; exact fin (bs := bs) (by cases e; rfl))
   ·exact lists xs hx e
  ·cases e
theorem ztn (hK : X.K = κ.K) (hu : X.A.units + 9 < cLine) : OpR X (compareOp .In) (rInT κ false) := zuf false hK hu
def oIsB (neg : Bool) : F2 := fun _ _ x y => match x, y with
 | .x (.bl a), .x (.bl b) => some (.v (.bl (if neg then !(a == b) else a == b)))
 | .x .non, .x (.bl _) => some (.v (.bl neg))
 | .x (.int _), .x (.bl _) => some (.v (.bl neg))
 | .x (.str _), .x (.bl _) => some (.v (.bl neg))
 | .x (.tup _), .x (.bl _) => some (.v (.bl neg))
 | .x (.lst _), .x (.bl _) => some (.v (.bl neg))
 | _, _ => none
def lmin : List Int → Int
 | [] => 0
 | x :: r => r.foldl min x
def lmax : List Int → Int
 | [] => 0
 | x :: r => r.foldl max x
def bMML (g : List Int → Int) : FB := fun s h fs => match fs with
 | [f] => match rdl s h f with
  | some xs => match mapO int3 xs with
   | some (n :: ns) => some (.v (.int (g (n :: ns))))
   | _ => none
  | none => none
 | _ => none
def bMinL : FB := bMML lmin
def bMaxL : FB := bMML lmax
end
end L3
set_option Elab.async false
set_option linter.all false
set_option maxRecDepth 100000
namespace L3
open PySem PySem.Spec PyProof.Rows L2
section
variable {X : Cx} {κ : Kx} {E : XK} {F F' : Fr} {σ σ' : L2.St} {H H1 H' : Hp} {Q : VK} {p : Addr} {e a b c o : Expr} {es : List Expr} {pos apos np cpos : Pos} {i : Nat} {D : Ends}
def str3 : V3 → Option Str
 | .str x => some x
 | _ => none
def rJoin (K : PySem.W.Frag) : V → List V → Hp → VK → Prop := fun x xs H Q => ∃ z p l, x = .str z ∧ xs = [.ref p] ∧ SqL K H p (l.map V.str) ∧ l.length ≤ 1048576 ∧ (∀ a ∈ l, a.length + z.length ≤ 16) ∧ z.length ≤ 16 ∧ Q (.str (PySem.Txt.join z l)) H
def eJoin (p : P3) (a : A3) : E3 := fun s h => (p s h).bind fun f h1 => match f with
 | .x (.str z) => (a s h1).bind fun fs h2 => match fs with
  | [g] => match rdl s h2 g with
   | some xs => match mapO str3 xs with
    | some l => if l.length ≤ 1048576 ∧ (∀ a ∈ l, a.length + z.length ≤ 16) ∧ z.length ≤ 16 then .ok (.v (.str (PySem.Txt.join z l))) h2 else .no
    | none => .no
   | none => .no
  | _ => .no
 | _ => .no
end
end L3
set_option Elab.async false
set_option linter.all false
set_option maxRecDepth 100000
namespace L3
open PySem PySem.Spec PyProof.Rows L2
def spL (K : PySem.W.Frag) : Sp := fun vs H Q _ => ∃ (a : Addr) (ns : List Int), vs = [.ref a] ∧ ns.length ≤ 63 ∧ SqL K H a (ns.map V.int) ∧ Only H ∧ ∀ H', Q (.bl true) H'
theorem spL_of {κ : Kx} {f : F3} (h : ∀ ns : List Int, ns.length ≤ 63 → ∃ h', f [.scr ns] [] = .ok (.v (.bl true)) h') {vs : List V} {H : Hp} {Q : VK} {E : XK} (q : spL κ.K vs H Q E) : spOf κ 1 f vs H Q E := by
 obtain ⟨a, ns, rfl, hn, hS, hO, hQ⟩ := q
 obtain ⟨h', e⟩ := h ns hn
 refine ⟨fun _ => False, [], [.scr ns], [], rfl, ⟨rfl, fun i j a h => by simp at h, fun a h => h.elim, fun a h => h.elim, fun i a h => by simp at h, fun i c h => by simp at h⟩, .cons ?_ .nil, ?_⟩
 ·rcases hS with hS | hS
  ·rcases hS with hS | ⟨o, hS⟩
   ·rcases hO a with z | ⟨o, xs, z⟩
    ·rw [hS] at z; cases z
    ·rw [hS] at z; cases z
   ·exact .scr hS (by simp) fun z => z
  ·exact .scrK hS
 ·rw [e]
  intro β' v H' ex p
  obtain ⟨_, r⟩ := p
  cases r
  exact hQ H'
theorem noX {P : Program} {w : World} {H : Hp} {s : Shared} {e : Value} {s' : Shared} (h : XT P w [] H s (fun _ _ _ => False) e s') : False := by
 obtain ⟨_, _, _, _, _, _, _, _, _, _, _, _, _, _, _, q⟩ := h
 exact q
end L3
set_option Elab.async false
set_option linter.all false
set_option maxRecDepth 100000
namespace L3
open PySem L2
theorem zg5 {a b : D3} {s s1 : S3} {h h1 : H3} (e : a s h = .nx s1 h1) : sSeq a b s h = b s1 h1 := by unfold sSeq; rw [e]
theorem znw {ok : H3 → Prop} {g : G3} {b : D3} {h : H3} {Q : O3 → Prop} (I : Nat → S3 → Prop) {xs : List V3} {s : S3} (hok : ok h) (h0 : I 0 s)
  (step : ∀ (i : Nat) x s, xs[i]? = some x → I i s → ∃ s1, g x s = some s1 ∧ ((∃ s2, (b s1 h = .nx s2 h ∨ b s1 h = .ct s2 h) ∧ I (i + 1) s2) ∨ (∃ r h2, b s1 h = .rt r h2 ∧ Q (.rt r h2)) ∨ ∃ s2, b s1 h = .bk s2 h ∧ Q (.nx s2 h)))
  (done : ∀ s, I xs.length s → Q (.nx s h)) : Q (forC ok g b xs s h) := by
 have gen : ∀ (n i : Nat) (s : S3), n = xs.length - i → i ≤ xs.length → I i s → Q (forC ok g b (xs.drop i) s h) := by
  intro n
  induction n with
  | zero =>
   intro i s hn hi hI
   have : i = xs.length := by omega
   subst this
   rw [List.drop_length]
   unfold forC
   rw [if_pos hok]
   exact done s hI
  | succ n ih =>
   intro i s hn hi hI
   have hlt : i < xs.length := by omega
   rw [List.drop_eq_getElem_cons hlt]
   unfold forC
   rw [if_pos hok]
   obtain ⟨s1, hg, hs⟩ := step i xs[i] s (List.getElem?_eq_getElem hlt) hI
   simp only [hg]
   rcases hs with ⟨s2, hb, hI2⟩ | ⟨r, h2, hb, hq⟩ | ⟨s2, hb, hq⟩
   ·rcases hb with hb | hb <;> simp only [hb] <;> exact ih (i + 1) s2 (by omega) hlt hI2
   ·simp only [hb]; exact hq
   ·simp only [hb]; exact hq
 exact gen _ 0 s rfl (Nat.zero_le _) h0
theorem zh7 {ok : H3 → Prop} {g : G3} {b : D3} {h : H3} (I : Nat → S3 → Prop) {xs : List V3} {s : S3} (hok : ok h) (h0 : I 0 s)
  (step : ∀ (i : Nat) x s, xs[i]? = some x → I i s → ∃ s1 s2, g x s = some s1 ∧ b s1 h = .nx s2 h ∧ I (i + 1) s2) : ∃ s', forC ok g b xs s h = .nx s' h ∧ I xs.length s' := by
 refine znw (Q := fun o => ∃ s', o = .nx s' h ∧ I xs.length s') I hok h0 (fun i x s hx hI => ?_) fun s hI => ⟨s, rfl, hI⟩
 obtain ⟨s1, s2, h1, h2, h3⟩ := step i x s hx hI
 exact ⟨s1, h1, .inl ⟨s2, .inl h2, h3⟩⟩
theorem znr {α : Type} {ok : H3 → Prop} {g : G3} {e : E3} {h : H3} (I : S3 → Prop) (enc : α → V3) (f : α → V3) (hok : ok h) {l : List α} (hl : l.length ≤ sizeLine)
  (step : ∀ a s, a ∈ l → I s → ∃ s1 r, g (enc a) s = some s1 ∧ I s1 ∧ e s1 h = .ok r h ∧ r.fz = some (f a)) {s : S3} (h0 : I s) :
  zcr ok g tTru e (l.map enc) [] s h = .ok (l.map f) h := by
 have gen : ∀ (l : List α) (acc : List V3) (s : S3), acc.length + l.length ≤ sizeLine → (∀ a s, a ∈ l → I s → ∃ s1 r, g (enc a) s = some s1 ∧ I s1 ∧ e s1 h = .ok r h ∧ r.fz = some (f a)) → I s → zcr ok g tTru e (l.map enc) acc s h = .ok (acc ++ l.map f) h := by
  intro l
  induction l with
  | nil => intro acc s _ _ _; rw [List.map_nil]; unfold zcr; rw [if_pos hok]; simp
  | cons x r ih =>
   intro acc s hl st hI
   rw [List.map_cons]
   unfold zcr
   rw [if_pos hok]
   obtain ⟨s1, v, h1, h2, h5, h6⟩ := st x s List.mem_cons_self hI
   rw [List.length_cons] at hl
   simp only [h1, tTru, h5, h6, if_pos (show acc.length < sizeLine by omega)]
   rw [ih (acc ++ [f x]) s1 (by rw [List.length_append, List.length_singleton]; omega) (fun x s hx => st x s (List.mem_cons_of_mem _ hx)) h2]
   simp
 have := gen l [] s (by simpa using hl) step h0
 simpa using this
theorem zid {α : Type} {ok : H3 → Prop} {g : G3} {c : T3} {e : E3} {h : H3} (I : S3 → Prop) (enc : α → V3) (p : α → Bool) (f : α → V3) (hok : ok h) {l : List α} (hl : l.length ≤ sizeLine)
  (step : ∀ a s, a ∈ l → I s → ∃ s1, g (enc a) s = some s1 ∧ I s1 ∧ c s1 h = .ok (p a) h ∧ (p a = true → ∃ r, e s1 h = .ok r h ∧ r.fz = some (f a))) {s : S3} (h0 : I s) :
  zcr ok g c e (l.map enc) [] s h = .ok ((l.filter p).map f) h := by
 have gen : ∀ (l : List α) (acc : List V3) (s : S3), acc.length + l.length ≤ sizeLine → (∀ a s, a ∈ l → I s → ∃ s1, g (enc a) s = some s1 ∧ I s1 ∧ c s1 h = .ok (p a) h ∧ (p a = true → ∃ r, e s1 h = .ok r h ∧ r.fz = some (f a))) → I s → zcr ok g c e (l.map enc) acc s h = .ok (acc ++ (l.filter p).map f) h := by
  intro l
  induction l with
  | nil => intro acc s _ _ _; rw [List.map_nil]; unfold zcr; rw [if_pos hok]; simp
  | cons x r ih =>
   intro acc s hl st hI
   rw [List.map_cons]
   unfold zcr
   rw [if_pos hok]
   obtain ⟨s1, h1, h2, h3, h4⟩ := st x s List.mem_cons_self hI
   rw [List.length_cons] at hl
   simp only [h1, h3]
   cases q : p x with
   | false =>
    simp only [List.filter_cons, q]
    exact ih acc s1 (by omega) (fun x s hx => st x s (List.mem_cons_of_mem _ hx)) h2
   | true =>
    obtain ⟨v, h5, h6⟩ := h4 q
    simp only [h5, h6, List.filter_cons, q, if_pos (show acc.length < sizeLine by omega)]
    rw [ih (acc ++ [f x]) s1 (by rw [List.length_append, List.length_singleton]; omega) (fun x s hx => st x s (List.mem_cons_of_mem _ hx)) h2]
    simp
 have := gen l [] s (by simpa using hl) step h0
 simpa using this
theorem zpy (l : List Bool) : mapO bl3 (l.map .bl) = some l := by
 have := zez (f := bl3) (g := V3.bl) (k := id) (fun _ => rfl) l
 simpa using this
theorem at0 {α : Type} {x : α} {r : List α} : atI (x :: r) (0 : Int) = some x := zck (j := 0) rfl
theorem at1 {α : Type} {x y : α} {r : List α} : atI (x :: y :: r) (1 : Int) = some y := zck (j := 1) rfl
theorem at2 {α : Type} {x y z : α} {r : List α} : atI (x :: y :: z :: r) (2 : Int) = some z := zck (j := 2) rfl
theorem at3 {α : Type} {x y z u : α} {r : List α} : atI (x :: y :: z :: u :: r) (3 : Int) = some u := zck (j := 3) rfl
theorem at4 {α : Type} {x y z u v : α} {r : List α} : atI (x :: y :: z :: u :: v :: r) (4 : Int) = some v := zck (j := 4) rfl
theorem atm1 {α : Type} {l : List α} {x : α} : atI (l ++ [x]) (-1 : Int) = some x := zob l x
theorem zeo {i j : Int} (h : -(2 ^ 64) < i ∧ i < 2 ^ 64) : CMul i j := .inl h
theorem zse {i j : Int} (h : -(2 ^ 64) < j ∧ j < 2 ^ 64) : CMul i j := .inr h
theorem zjo {h : H3} {n : Nat} {x y : V3} {a b : V} (hx : zbl h x = .f a) (hy : zbl h y = .f b) : eq3 h n x y = some (eqV a b) := by
 cases n <;> simp only [eq3, hx, hy]
theorem zd6 {h : H3} {n : Nat} {i j : Int} : eq3 h n (.int i) (.int j) = some (decide (i = j)) := by
 rw [zjo (a := .int i) (b := .int j) rfl rfl]; congr 1
theorem zij {h : H3} {n : Nat} {i j : Str} : eq3 h n (.str i) (.str j) = some (decide (i = j)) := by
 rw [zjo (a := .str i) (b := .str j) rfl rfl]; congr 1
end L3
set_option Elab.async false
set_option linter.all false
set_option maxRecDepth 100000
namespace L3
open PySem L2
theorem nx_ite {c : Prop} [Decidable c] {a b : S3} {h : H3} : (if c then O3.nx a h else O3.nx b h) = O3.nx (if c then a else b) h := by split <;> rfl
theorem rt_ite {c : Prop} [Decidable c] {a b : Vl} {h : H3} : (if c then O3.rt a h else O3.rt b h) = O3.rt (if c then a else b) h := by split <;> rfl
theorem ok_ite {α : Type} {c : Prop} [Decidable c] {a b : α} {h : H3} : (if c then Res.ok a h else Res.ok b h) = Res.ok (if c then a else b) h := by split <;> rfl
theorem cons_ite {α : Type} {c : Prop} [Decidable c] {a b : α} {x y : List α} : (if c then a :: x else b :: y) = (if c then a else b) :: (if c then x else y) := by split <;> rfl
theorem some_ite {α : Type} {c : Prop} [Decidable c] {a b : α} : (if c then some a else some b) = some (if c then a else b) := by split <;> rfl
theorem v_ite {c : Prop} [Decidable c] {a b : V3} : (if c then Vl.v a else Vl.v b) = Vl.v (if c then a else b) := by split <;> rfl
theorem int_ite {c : Prop} [Decidable c] {a b : Int} : (if c then V3.int a else V3.int b) = V3.int (if c then a else b) := by split <;> rfl
theorem bl_ite {c : Prop} [Decidable c] {a b : Bool} : (if c then V3.bl a else V3.bl b) = V3.bl (if c then a else b) := by split <;> rfl
theorem oEq_int {s : S3} {h : H3} {i j : Int} : oEq s h (.x (.int i)) (.x (.int j)) = some (.v (.bl (decide (i = j)))) := by
 unfold oEq eqO; simp only [rdm, rdl, zd6, Option.map_some]
theorem oNe_int {s : S3} {h : H3} {i j : Int} : oNe s h (.x (.int i)) (.x (.int j)) = some (.v (.bl (!decide (i = j)))) := by
 unfold oNe eqO; simp only [rdm, rdl, zd6, Option.map_some]
theorem oAdd_int {s : S3} {h : H3} {i j : Int} : oAdd s h (.x (.int i)) (.x (.int j)) = some (.v (.int (i + j))) := rfl
theorem oAddI_int {s : S3} {h : H3} {i j : Int} : zj2 s h (.x (.int i)) (.x (.int j)) = some (.v (.int (i + j))) := rfl
theorem oSub_int {s : S3} {h : H3} {i j : Int} : oSub s h (.x (.int i)) (.x (.int j)) = some (.v (.int (i - j))) := rfl
theorem oMul_int {s : S3} {h : H3} {i j : Int} (c : CMul i j) : oMul s h (.x (.int i)) (.x (.int j)) = some (.v (.int (i * j))) := by
 unfold oMul orF zp7 oI; simp only [if_pos c, Option.map_some]
theorem oDiv_int {s : S3} {h : H3} {i j : Int} (a : 0 < j) (b : j < 1073741824) : oDiv s h (.x (.int i)) (.x (.int j)) = some (.v (.int (i / j))) := by
 unfold oDiv oI; simp only [if_pos (show CDiv i j from ⟨a, b⟩), Option.map_some]
theorem oMod_int {s : S3} {h : H3} {i j : Int} (c : 0 < j) : oMod s h (.x (.int i)) (.x (.int j)) = some (.v (.int (i % j))) := by
 unfold oMod oI; simp only [if_pos c, Option.map_some]
theorem oShr_int {s : S3} {h : H3} {i j : Int} (c : 0 ≤ j) : oShr s h (.x (.int i)) (.x (.int j)) = some (.v (.int (i / 2 ^ j.toNat))) := by
 unfold oShr oI; simp only [if_pos c, Option.map_some]
theorem oPow_int {s : S3} {h : H3} {i j : Int} (c : CPow i j) : oPow s h (.x (.int i)) (.x (.int j)) = some (.v (.int (i ^ j.toNat))) := by
 unfold oPow oI; simp only [if_pos c, Option.map_some]
theorem oAndI_int {s : S3} {h : H3} {i j : Int} : zu3 s h (.x (.int i)) (.x (.int j)) = some (.v (.int (Builtin.bitAnd i j))) := rfl
theorem oLt_int {s : S3} {h : H3} {i j : Int} : oLt s h (.x (.int i)) (.x (.int j)) = some (.v (.bl (decide (i < j)))) := rfl
theorem oLe_int {s : S3} {h : H3} {i j : Int} : oLe s h (.x (.int i)) (.x (.int j)) = some (.v (.bl (decide (i ≤ j)))) := rfl
theorem oGt_int {s : S3} {h : H3} {i j : Int} : oGt s h (.x (.int i)) (.x (.int j)) = some (.v (.bl (decide (j < i)))) := rfl
theorem oGe_int {s : S3} {h : H3} {i j : Int} : oGe s h (.x (.int i)) (.x (.int j)) = some (.v (.bl (decide (j ≤ i)))) := rfl
theorem oIx_tup {s : S3} {h : H3} {xs : List V3} {i : Int} : oIx s h (.x (.tup xs)) (.x (.int i)) = (atI xs i).map .v := by
 unfold oIx orF oIxT oIxL oIxS; simp only [rdl]; cases atI xs i <;> rfl
theorem oIx_lst {s : S3} {h : H3} {xs : List V3} {i : Int} : oIx s h (.x (.lst xs)) (.x (.int i)) = (atI xs i).map .v := by
 unfold oIx orF oIxT oIxL oIxS; simp only [rdl]; cases atI xs i <;> rfl
theorem oIx_scr {s : S3} {h : H3} {ns : List Int} {i : Int} : oIx s h (.x (.scr ns)) (.x (.int i)) = (atI (ns.map .int) i).map .v := by
 unfold oIx orF oIxT oIxL oIxS; simp only [rdl]; cases atI (ns.map V3.int) i <;> rfl
theorem sMt_ap {op : FM} {p : P3} {a : A3} {s : S3} {h : H3} : sMt op p a s h = mtO op p a (fun s h _ => .nx s h) s h := rfl
theorem mAppend_ok {xs : List V3} {y : V3} (h : xs.length < sizeLine) : zbs xs [y] = some (xs ++ [y], .non) := by unfold zbs; simp only [if_pos h]
theorem szl : 1000000 ≤ sizeLine := by decide
theorem sz0 : (0 ≤ sizeLine) = True := by simp
theorem sz1 : (1 ≤ sizeLine) = True := eq_true (by have := szl; omega)
theorem sz2 : (2 ≤ sizeLine) = True := eq_true (by have := szl; omega)
theorem sz3 : (3 ≤ sizeLine) = True := eq_true (by have := szl; omega)
theorem sz4 : (4 ≤ sizeLine) = True := eq_true (by have := szl; omega)
theorem sz5 : (5 ≤ sizeLine) = True := eq_true (by have := szl; omega)
def gb (g : G3) (b : D3) (x : V3) (s : S3) (h : H3) : O3 := match g x s with
 | some s1 => b s1 h
 | none => .no
theorem zes {Q : Res Vl → Prop} {k n : Nat} {b : D3} {vs : List V3} {h : H3} (hl : vs.length = k) (q : Q ((b (start3 n vs) h).res)) : Q (fun3 k n b vs h) := by
 unfold fun3; rw [if_pos hl]; exact q
theorem zk4 {α : Type} {p : P3} {g : G3} {b : D3} {s : S3} {h : H3} {x : V3} {ok : H3 → Prop} {enc : α → V3} {l : List α} (ep : p s h = .ok (.x x) h) (hw : zb3 h x = some (l.map enc, ok))
  (I : Nat → S3 → Prop) (h0 : I 0 s) (step : ∀ (i : Nat) a s, l[i]? = some a → I i s → ∃ s2, gb g b (enc a) s h = .nx s2 h ∧ I (i + 1) s2) : ∃ s', sFor (iL p) g b s h = .nx s' h ∧ I l.length s' := by
 have hf : sFor (iL p) g b s h = forC ok g b (l.map enc) s h := by
  unfold sFor iL; simp only [ep, Res.bind, Res.bindS, hw]
 rw [hf]
 have := zh7 (ok := ok) (g := g) (b := b) (h := h) I (xs := l.map enc) (s := s) (zeg hw).1 h0 fun i x s hx hI => by
  rw [List.getElem?_map] at hx
  obtain ⟨a, ha, rfl⟩ := Option.map_eq_some_iff.1 hx
  obtain ⟨s2, e, hI2⟩ := step i a s ha hI
  unfold gb at e
  cases q : g (enc a) s with
  | none => rw [q] at e; cases e
  | some s1 => rw [q] at e; exact ⟨s1, s2, rfl, e, hI2⟩
 rwa [List.length_map] at this
theorem zlp {Q : O3 → Prop} {α : Type} {p : P3} {g : G3} {b r : D3} {s : S3} {h : H3} {x : V3} {ok : H3 → Prop} {enc : α → V3} {l : List α} (ep : p s h = .ok (.x x) h) (hw : zb3 h x = some (l.map enc, ok))
  (I : Nat → S3 → Prop) (h0 : I 0 s) (step : ∀ (i : Nat) a s, l[i]? = some a → I i s → ∃ s2, gb g b (enc a) s h = .nx s2 h ∧ I (i + 1) s2) (k : ∀ s', I l.length s' → Q (r s' h)) : Q (sSeq (sFor (iL p) g b) r s h) := by
 obtain ⟨s', e, hI⟩ := zk4 ep hw I h0 step
 rw [zg5 e]; exact k s' hI
theorem zhh {a : A3} {g : G3} {b : D3} {s : S3} {h : H3} {j : Int} (ea : a s h = .ok [.x (.int j)] h) (hj : -(2 ^ 62) ≤ j ∧ j < 2 ^ 62)
  (I : Nat → S3 → Prop) (h0 : I 0 s) (step : ∀ (i : Nat) s, i < j.toNat → I i s → ∃ s2, gb g b (.int (i : Int)) s h = .nx s2 h ∧ I (i + 1) s2) : ∃ s', sFor (iR1 a) g b s h = .nx s' h ∧ I j.toNat s' := by
 have hf : sFor (iR1 a) g b s h = forC (fun _ => True) g b ((List.range j.toNat).map fun k => .int (0 + ((k : Nat) : Int))) s h := by
  unfold sFor iR1; simp only [ea, Res.bind, Res.bindS, if_pos hj]
 rw [hf]
 have := zh7 (ok := fun _ => True) (g := g) (b := b) (h := h) I (xs := (List.range j.toNat).map fun k => .int (0 + ((k : Nat) : Int))) (s := s) trivial h0 fun i x s hx hI => by
  have hi : i < j.toNat := by
   have := List.getElem?_eq_some_iff.1 hx
   simpa using this.1
  rw [List.getElem?_map, List.getElem?_range hi] at hx
  cases hx
  obtain ⟨s2, e, hI2⟩ := step i s hi hI
  simp only [Int.zero_add]
  unfold gb at e
  cases q : g (.int i) s with
  | none => rw [q] at e; cases e
  | some s1 => rw [q] at e; exact ⟨s1, s2, rfl, e, hI2⟩
 rwa [List.length_map, List.length_range] at this
theorem zmm {Q : O3 → Prop} {a : A3} {g : G3} {b r : D3} {s : S3} {h : H3} {j : Int} (ea : a s h = .ok [.x (.int j)] h) (hj : -(2 ^ 62) ≤ j ∧ j < 2 ^ 62)
  (I : Nat → S3 → Prop) (h0 : I 0 s) (step : ∀ (i : Nat) s, i < j.toNat → I i s → ∃ s2, gb g b (.int (i : Int)) s h = .nx s2 h ∧ I (i + 1) s2) (k : ∀ s', I j.toNat s' → Q (r s' h)) : Q (sSeq (sFor (iR1 a) g b) r s h) := by
 obtain ⟨s', e, hI⟩ := zhh ea hj I h0 step
 rw [zg5 e]; exact k s' hI
theorem zao {Q : Res Vl → Prop} {a b : D3} {s s1 : S3} {h h1 : H3} (e : a s h = .nx s1 h1) (q : Q ((b s1 h1).res)) : Q ((sSeq a b s h).res) := by rw [zg5 e]; exact q
theorem zld {Q : Res Vl → Prop} {a : A3} {g : G3} {b r : D3} {s : S3} {h : H3} {j : Int} (ea : a s h = .ok [.x (.int j)] h) (hj : -(2 ^ 62) ≤ j ∧ j < 2 ^ 62)
  (I : Nat → S3 → Prop) (h0 : I 0 s) (step : ∀ (i : Nat) s, i < j.toNat → I i s → ∃ s2, gb g b (.int (i : Int)) s h = .nx s2 h ∧ I (i + 1) s2) (k : ∀ s', I j.toNat s' → Q ((r s' h).res)) : Q ((sSeq (sFor (iR1 a) g b) r s h).res) :=
 zmm (Q := fun o => Q o.res) ea hj I h0 step k
theorem zir {Q : Res Vl → Prop} {α : Type} {p : P3} {g : G3} {b r : D3} {s : S3} {h : H3} {x : V3} {ok : H3 → Prop} {enc : α → V3} {l : List α} (ep : p s h = .ok (.x x) h) (hw : zb3 h x = some (l.map enc, ok))
  (I : Nat → S3 → Prop) (h0 : I 0 s) (step : ∀ (i : Nat) a s, l[i]? = some a → I i s → ∃ s2, gb g b (enc a) s h = .nx s2 h ∧ I (i + 1) s2) (k : ∀ s', I l.length s' → Q ((r s' h).res)) : Q ((sSeq (sFor (iL p) g b) r s h).res) :=
 zlp (Q := fun o => Q o.res) ep hw I h0 step k
end L3
set_option Elab.async false
set_option linter.all false
set_option maxRecDepth 100000
namespace L3
open PySem PySem.Spec PyProof.Rows L2
def kyd3 : V3 → Option Key
 | .int i => some (.inl i)
 | .str z => some (.inr z)
 | _ => none
def zev : V3 → Option MK
 | .tup xs => (mapO kyd3 xs).map .tup
 | .int i => some (.one (.inl i))
 | .str z => some (.one (.inr z))
 | _ => none
def kV3 : Key → V3
 | .inl i => .int i
 | .inr z => .str z
def val3 {α : Type} [DecidableEq α] (kvs : List (α × V3)) (k : α) : Option V3 := (kvs.find? fun kv => decide (kv.1 = k)).map (·.2)
def put3 {α : Type} [DecidableEq α] (kvs : List (α × V3)) (k : α) (v : V3) : List (α × V3) :=
 if (kvs.any fun kv => decide (kv.1 = k)) = true then kvs.map fun kv => if kv.1 = k then (kv.1, v) else kv else kvs ++ [(k, v)]
inductive Dc where
 | k (kvs : List (Key × V3)) | t (kvs : List (MK × V3))
def Dc.c : Dc → C3
 | .k kvs => .dK kvs
 | .t kvs => .dT kvs
def Dc.len : Dc → Nat
 | .k kvs => kvs.length
 | .t kvs => kvs.length
def Dc.get : Dc → V3 → Option (Option V3)
 | .k kvs, x => (kyd3 x).map (val3 kvs)
 | .t kvs, x => (zev x).map (val3 kvs)
def Dc.put : Dc → V3 → V3 → Option Dc
 | .k kvs, x, v => (kyd3 x).map fun k => .k (put3 kvs k v)
 | .t kvs, x, v => (zev x).map fun k => .t (put3 kvs k v)
def C3.dc : C3 → Option Dc
 | .dK kvs => some (.k kvs)
 | .dT kvs => some (.t kvs)
 | _ => none
def rdd (s : S3) (h : H3) : Rf → Option Dc
 | .x (.dK kvs) => some (.k kvs)
 | .x (.dT kvs) => some (.t kvs)
 | .x (.loc n) => match h[n]? with
  | some c => c.dc
  | none => none
 | .s i => match s[i]? with
  | some (some (.m c)) => c.dc
  | _ => none
 | _ => none
section
variable {X : Cx} {κ : Kx} {E : XK} {F F' : Fr} {σ σ' : L2.St} {H H1 H' : Hp} {Q : VK} {p : Addr} {e a b c o : Expr} {pos apos np cpos : Pos} {i : Nat} {D : Ends} {β : List (Option Addr)} {O : Addr → Prop}
def DR (κ : Kx) (β : List (Option Addr)) (O : Addr → Prop) (H : Hp) : Dc → Addr → Prop
 | .k kvs, a => ∃ ws, H a = some (.dK ws) ∧ RepP κ β O H kvs ws
 | .t kvs, a => ∃ ws, H a = some (.dT ws) ∧ RepP κ β O H kvs ws
theorem DR.of {c : C3} {d : Dc} {a : Addr} (e : c.dc = some d) (h : CellR κ β O H c a) : DR κ β O H d a := by
 cases c <;> simp [C3.dc] at e
 ·subst e; exact h
 ·subst e; exact h
theorem zg4 {f : Rf} {v : V} {d : Dc} (rel : Rel κ F σ H) (r : RfR κ F H f v) (e : rdd F.s F.h f = some d) : ∃ a, v = .ref a ∧ DR κ F.β F.O H d a := by
 cases f with
 | s i =>
  obtain ⟨a, c, h1, h2, h3, h4⟩ := r
  simp only [rdd, h3] at e
  exact ⟨a, h2, DR.of e h4⟩
 | x y =>
  cases y <;> simp [rdd] at e
  case dK zs =>
   subst e
   cases r with
   | dK h1 h2 h3 h4 => exact ⟨_, rfl, _, h1, h4⟩
  case dT zs =>
   subst e
   cases r with
   | dT h1 h2 h3 h4 => exact ⟨_, rfl, _, h1, h4⟩
  case loc n =>
   cases r with
   | loc h1 h2 =>
    cases q : F.h[n]? with
    | none => rw [q] at e; cases e
    | some c =>
     rw [q] at e
     rcases rel.heap.cell n _ q with z | ⟨a, ha, h5⟩
     ·subst z; cases e
     ·exact ⟨a, h2 a ha, DR.of e h5⟩
theorem RepP.val {α : Type} [DecidableEq α] {k : α} : ∀ {kvs : List (α × V3)} {ws : List (α × V)}, RepP κ β O H kvs ws → (∀ x, val3 kvs k = some x → ∃ y, valV ws k = some y ∧ Rep κ β O H x y) ∧ (val3 kvs k = none → valV ws k = none)
 | _, _, .nil => ⟨fun x e => (nomatch e), fun _ => rfl⟩
 | _, _, .cons (k := k') (x := x') (y := y') q t => by
  have ih := RepP.val (k := k) t
  by_cases z : k' = k
  ·subst z
   refine ⟨fun x e => ?_, fun e => ?_⟩
   ·simp [val3] at e; subst e; exact ⟨y', by simp [valV], q⟩
   ·simp [val3] at e
  ·have e1 : ∀ (l : List (_ × V3)), val3 ((k', x') :: l) k = val3 l k := fun l => by simp [val3, List.find?_cons, z]
   have e2 : ∀ (l : List (_ × V)), valV ((k', y') :: l) k = valV l k := fun l => by simp [valV, List.find?_cons, z]
   refine ⟨fun x e => ?_, fun e => ?_⟩
   ·rw [e1] at e; rw [e2]; exact ih.1 x e
   ·rw [e1] at e; rw [e2]; exact ih.2 e
theorem RepP.any {α : Type} {g : α → Bool} : ∀ {kvs : List (α × V3)} {ws : List (α × V)}, RepP κ β O H kvs ws → (kvs.any fun kv => g kv.1) = ws.any fun kv => g kv.1
 | _, _, .nil => rfl
 | _, _, .cons q t => by simp only [List.any_cons, RepP.any (g := g) t]
theorem RepP.len {α : Type} : ∀ {kvs : List (α × V3)} {ws : List (α × V)}, RepP κ β O H kvs ws → kvs.length = ws.length
 | _, _, .nil => rfl
 | _, _, .cons q t => by simp only [List.length_cons, RepP.len t]
theorem RepP.snoc {α : Type} {k : α} {x : V3} {y : V} (r : Rep κ β O H x y) : ∀ {kvs : List (α × V3)} {ws : List (α × V)}, RepP κ β O H kvs ws → RepP κ β O H (kvs ++ [(k, x)]) (ws ++ [(k, y)])
 | _, _, .nil => .cons r .nil
 | _, _, .cons q t => .cons q (RepP.snoc r t)
theorem RepP.rpl {α : Type} [DecidableEq α] {k : α} {x : V3} {y : V} (r : Rep κ β O H x y) : ∀ {kvs : List (α × V3)} {ws : List (α × V)}, RepP κ β O H kvs ws → RepP κ β O H (kvs.map fun kv => if kv.1 = k then (kv.1, x) else kv) (ws.map fun kv => if kv.1 = k then (kv.1, y) else kv)
 | _, _, .nil => .nil
 | _, _, .cons (k := k') q t => by
  simp only [List.map_cons]
  by_cases z : k' = k
  ·rw [if_pos z, if_pos z]; exact .cons r (RepP.rpl r t)
  ·rw [if_neg z, if_neg z]; exact .cons q (RepP.rpl r t)
theorem RepP.put {α : Type} [DecidableEq α] {k : α} {x : V3} {y : V} {kvs : List (α × V3)} {ws : List (α × V)} (r : Rep κ β O H x y) (h : RepP κ β O H kvs ws) : RepP κ β O H (put3 kvs k x) (putK ws k y) := by
 unfold put3 putK
 rw [h.any (g := fun z => decide (z = k))]
 split
 ·exact h.rpl r
 ·exact h.snoc r
theorem zh4 {x : V3} {y : V} {k : Key} (r : Rep κ β O H x y) (e : kyd3 x = some k) : y = kV k := by
 cases x <;> simp [kyd3] at e
 ·subst e; cases r; rfl
 ·subst e; cases r; rfl
theorem zmw : ∀ {xs : List V3} {ys : List V} {ks : List Key}, Reps κ β O H xs ys → mapO kyd3 xs = some ks → ys = ks.map kV
 | _, _, _, .nil, e => by cases e; rfl
 | x :: xs, y :: ys, ks, .cons a r, e => by
  obtain ⟨b, l, h1, h2, rfl⟩ := zfg e
  rw [List.map_cons, ← zh4 a h1, zmw r h2]
theorem zja {x : V3} {y : V} {k : MK} (r : Rep κ β O H x y) (e : zev x = some k) : KyT H k y := by
 cases x <;> simp [zev] at e
 ·subst e; cases r; rfl
 ·subst e; cases r; rfl
 ·obtain ⟨ks, hk, rfl⟩ := e
  cases r with
  | tup w1 w2 w3 w4 => exact ⟨_, rfl, by rw [← zmw w4 hk]; exact w1⟩
theorem DR.get {d : Dc} {a : Addr} {x : V3} {y : V} {o : Option V3} (h : DR κ β O H d a) (r : Rep κ β O H x y) (e : d.get x = some o) :
  ∃ o', DGet H a y o' ∧ (∀ z, o = some z → ∃ w, o' = some w ∧ Rep κ β O H z w) ∧ (o = none → o' = none) := by
 cases d with
 | k kvs =>
  obtain ⟨ws, h1, h2⟩ := h
  obtain ⟨k, hk, rfl⟩ := Option.map_eq_some_iff.1 e
  have := h2.val (k := k)
  rw [zh4 r hk]
  exact ⟨_, DGet.k h1, fun z hz => this.1 z hz, this.2⟩
 | t kvs =>
  obtain ⟨ws, h1, h2⟩ := h
  obtain ⟨k, hk, rfl⟩ := Option.map_eq_some_iff.1 e
  have := h2.val (k := k)
  exact ⟨_, DGet.t h1 (zja r hk), fun z hz => this.1 z hz, this.2⟩
theorem DR.isD {d : Dc} {a : Addr} (h : DR κ β O H d a) : IsD H a := by
 cases d with
 | k kvs => obtain ⟨ws, h1, _⟩ := h; exact .inl ⟨ws, .inl h1⟩
 | t kvs => obtain ⟨ws, h1, _⟩ := h; exact .inr ⟨ws, .inl h1⟩
def rDGet : R2 := fun x y H Q => ∃ a v, x = V.ref a ∧ DGet H a y (some v) ∧ Q v H
def oDGet : F2 := fun s h x y => match rdd s h x, y with
 | some d, .x k => match d.get k with
  | some (some v) => some (.v v)
  | _ => none
 | _, _ => none
def rDIn (neg : Bool) : R2 := fun y x H Q => ∃ a o, x = V.ref a ∧ DGet H a y o ∧ Q (.bl (if neg then !o.isSome else o.isSome)) H
def oDIn (neg : Bool) : F2 := fun s h y x => match rdd s h x, y with
 | some d, .x k => match d.get k with
  | some o => some (.v (.bl (if neg then !o.isSome else o.isSome)))
  | none => none
 | _, _ => none
theorem zq0 {neg : Bool} : OpSim κ (rDIn neg) (oDIn neg) := fun F σ H y x z w v Q rel ry rx e k => by
 unfold oDIn at e
 split at e
 ·rename_i d kk q
  obtain ⟨a, rfl, hd⟩ := zg4 rel rx q
  split at e
  ·rename_i o q2
   cases e
   obtain ⟨o', g, h1, h2⟩ := hd.get (show Rep κ F.β F.O H kk w from ry) q2
   have e1 : o'.isSome = o.isSome := by
    cases o with
    | none => rw [h2 rfl]; rfl
    | some z => obtain ⟨u, rfl, _⟩ := h1 z rfl; rfl
   refine ⟨a, o', rfl, g, ?_⟩
   rw [e1]
   exact k _ H Ext.refl ⟨rel, .bl _⟩
  ·cases e
 ·cases e
theorem ztw (hu : X.A.units + 1 < cLine) : OpR X (compareOp .In) (rDIn false) := fun pins s σ H x y v u Q I rx ry ⟨a, o, ey, g, q⟩ => by
 subst ey
 obtain rfl : u = Value.ref a := ry
 exact d_in hu I g rx fun s3 I3 => ⟨.bl o.isSome, H, I3, rfl, q⟩
def zet (d k z : P3) : E3 := fun s h => (d s h).bind fun f h1 => match rdd s h1 f with
 | none => .no
 | some _ => (k s h1).bind fun x h2 => (z s h2).bind fun y h3 => match rdd s h3 f, x, y with
  | some d, .x x, .x y => match d.get x with
   | some o => .ok (.v (o.getD y)) h3
   | none => .no
  | _, _, _ => .no
theorem zis {ee ff : Expr} {dd dk dz : P3} (hu : X.A.units + 1 < cLine) (ho : PE X o (tpOf κ E dd)) (he : PE X ee (tpOf κ E dk)) (hf : PE X ff (tpOf κ E dz)) (m : M2 X o "get" apos ee ff cpos) :
  PE X (.Call (.Attribute o "get" apos) [ee, ff] [] cpos) (teOf κ E (zet dd dk dz)) := PEw (zns hu ho he hf m) fun σ H Q ⟨F, rel, o⟩ =>
 (za9 (K := kP κ) km_E rel o).mono fun v H1 ⟨β1, h1, f, e1, ⟨r1, rf⟩, o1⟩ => by
  cases q : rdd F.s h1 f with
  | none => simp only [q] at o1; exact o1.elim
  | some d0 =>
   simp only [q] at o1
   obtain ⟨a, rfl, hd⟩ := zg4 (F := F.to β1 h1) r1 rf q
   refine ⟨a, rfl, hd.isD, (za9 (F := F.to β1 h1) (K := kP κ) km_E r1 o1).mono fun y H2 ⟨β2, h2, x, e2, ⟨r2, rx⟩, o2⟩ => (za9 (F := F.to β2 h2) (K := kP κ) km_E r2 o2).mono fun w H3 ⟨β3, h3, z, e3, ⟨r3, rz⟩, o3⟩ => ?_⟩
   have rf3 := RfR.ext (F := F.to β2 h2) (β' := β3) (h' := h3) r2 e3 (RfR.ext (F := F.to β1 h1) (β' := β2) (h' := h2) r1 e2 rf)
   have rx3 := RfR.ext (F := F.to β2 h2) (β' := β3) (h' := h3) r2 e3 rx
   cases q3 : rdd F.s h3 f with
   | none => simp only [q3] at o3; exact o3.elim
   | some d =>
    obtain ⟨a', ea, hd3⟩ := zg4 (F := F.to β3 h3) r3 rf3 q3
    cases ea
    match x, z, rx3, rz, o3 with
    | .s _, _, _, _, o3 => simp only [q3] at o3; exact o3.elim
    | .x x, .s _, _, _, o3 => simp only [q3] at o3; exact o3.elim
    | .x x, .x z, rx3, rz, o3 =>
     simp only [q3] at o3
     cases q4 : d.get x with
     | none => simp only [q4] at o3; exact o3.elim
     | some oo =>
      simp only [q4] at o3
      obtain ⟨o', g, h1', h2'⟩ := hd3.get (show Rep κ β3 F.O H3 x y from rx3) q4
      refine ⟨o', g, ?_⟩
      cases oo with
      | none => rw [h2' rfl]; exact o3 β3 _ H3 Ext.refl ⟨r3, rz⟩
      | some zz => obtain ⟨u, rfl, ru⟩ := h1' zz rfl; exact o3 β3 _ H3 Ext.refl ⟨r3, ru⟩
def eDnK : E3 := fun _ h => .ok (.m (.dK [])) h
def eDnT : E3 := fun _ h => .ok (.m (.dT [])) h
theorem zr8 : PE X (.Dict [] [] pos) (teOf κ E eDnT) := PEw zni fun σ H Q ⟨F, rel, o⟩ p hp => o F.β (.ref p) _ (za6 hp) (Post.dT rel hp .nil)
theorem zrq {f : Rf} {v : V} {d d' : Dc} {s' : S3} {h' : H3} (ht : F.T = []) (rel : Rel κ F σ H) (r : RfR κ F H f v) (e : rdd F.s F.h f = some d) (hw : wr3 F.s F.h d'.c f = some (s', h')) :
  ∃ l, v = .ref l ∧ DR κ F.β F.O H d l ∧ ∀ u, (∀ β O H', (∀ {α : Type} {x : List (α × V3)} {y : List (α × V)}, RepP κ F.β F.O H x y → RepP κ β O H' x y) → H' l = some u → CellR κ β O H' d'.c l) → ∃ F', SExt F H F' (upd H l u) ∧ F'.s = s' ∧ F'.h = h' ∧ Rel κ F' σ (upd H l u) := by
 cases f with
 | s i =>
  cases hw
  obtain ⟨a, c, h1, h2, h3, h4⟩ := r
  simp only [rdd, h3] at e
  have hd := DR.of e h4
  have hex : ∃ o, H a = some o := by
   cases d with
   | k kvs => obtain ⟨ws, q, _⟩ := hd; exact ⟨_, q⟩
   | t kvs => obtain ⟨ws, q, _⟩ := hd; exact ⟨_, q⟩
  have hO : F.O a := .inr (.inl (List.mem_of_getElem? h1))
  refine ⟨a, h2, hd, fun u hu => ⟨{ F with s := F.s.set i (some (.m d'.c)) }, ⟨⟨fun b u hb hn m => ⟨by rw [zaj (fun z => by subst z; exact m (List.mem_of_getElem? h1))]; exact hb, hn⟩, Nat.le_refl _, fun _ _ _ h => h, (zc9 (β := F.β) hex).there, nwb0⟩, fun _ h => .inl h, rfl, ht⟩, rfl, rfl, rel.wrSlot h1 h3 (hu _ _ _ (fun hr => hr.ext (zc9 (β := F.β) hex) (fun b hb => by rw [hb]; exact hO) fun _ _ _ n => n) zaw)⟩⟩
 | x y =>
  cases y <;> simp [wr3] at hw
  case loc n =>
   obtain ⟨rfl, rfl⟩ := hw
   cases r with
   | loc h1 h2 =>
    simp only [rdd] at e
    cases q : F.h[n]? with
    | none => rw [q] at e; cases e
    | some c =>
     rw [q] at e
     rcases rel.heap.cell n _ q with z | ⟨a, ha, h5⟩
     ·subst z; cases e
     ·have hd := DR.of e h5
      have hex : ∃ o, H a = some o := by
       cases d with
       | k kvs => obtain ⟨ws, q, _⟩ := hd; exact ⟨_, q⟩
       | t kvs => obtain ⟨ws, q, _⟩ := hd; exact ⟨_, q⟩
      have ex := fun o => zgt (o := o) ha hex
      exact ⟨a, h2 a ha, hd, fun u hu => ⟨F.to F.β (F.h.set n d'.c), SExt.of0 ht (ex _), rfl, rfl, rel.next (ex _) (rel.heap.wrLoc ha (hu _ _ _ (fun hr => hr.ext0 (ex _)) zaw))⟩⟩
def zff (p i : P3) (e : E3) : D3 := fun s h => (e s h).bindS fun r h1 => match r.fz with
 | none => .no
 | some y => (p s h1).bindS fun f h2 => (i s h2).bindS fun j h3 => match j, rdd s h3 f with
  | .x k, some d => match d.put k y with
   | some d' => if d.len < sizeLine then match wr3 s h3 d'.c f with
    | some (s', h') => .nx s' h'
    | none => .no
    else .no
   | none => .no
  | _, _ => .no
theorem zpr {dp di : P3} {d : E3} (h : tsOf κ E (zff dp di d) D σ H) : zs6 (tpOf κ E dp) (tpOf κ E di) (teOf κ E d) D σ H := by
 obtain ⟨F, rel, ht, o⟩ := h
 refine (bindS (K := kE κ) rel ht o).mono fun v H1 ⟨β1, h1, r, e1, p1, o1⟩ => ?_
 cases z : r.fz with
 | none => simp only [z] at o1; exact o1.elim
 | some y =>
  simp only [z] at o1
  obtain ⟨r1, ry⟩ := Post.fz p1 z
  have s1 : SExt F H (F.to β1 h1) H1 := SExt.of0 ht e1
  refine (bindS (F := F.to β1 h1) (K := kP κ) r1 ht (SOut.move s1 o1)).mono fun ov H2 ⟨β2, h2, f, e2, ⟨r2, rf⟩, o2⟩ => ?_
  have s2 : SExt (F.to β1 h1) H1 (F.to β2 h2) H2 := SExt.of0 (F := F.to β1 h1) ht e2
  refine (bindS (F := F.to β2 h2) (K := kP κ) r2 ht (SOut.move s2 o2)).mono fun iv H3 ⟨β3, h3, j, e3, ⟨r3, rj⟩, o3⟩ => ?_
  have s3 : SExt (F.to β2 h2) H2 (F.to β3 h3) H3 := SExt.of0 (F := F.to β2 h2) ht e3
  have rf3 := RfR.ext (F := F.to β2 h2) (β' := β3) (h' := h3) r2 e3 rf
  have ry3 : Rep κ β3 F.O H3 y v := (Rep.ext0 e3 (Rep.ext0 e2 ry))
  match j, rj, o3 with
  | .s _, rj, o3 => exact o3.elim
  | .x k, rj, o3 =>
   cases q : rdd F.s h3 f with
   | none => simp only [q] at o3; exact o3.elim
   | some dc =>
    simp only [q] at o3
    cases q2 : dc.put k y with
    | none => simp only [q2] at o3; exact o3.elim
    | some dc' =>
     simp only [q2] at o3
     by_cases hz : dc.len < sizeLine
     ·simp only [if_pos hz] at o3
      cases q3 : wr3 F.s h3 dc'.c f with
      | none => simp only [q3] at o3; exact o3.elim
      | some w =>
       obtain ⟨s', h'⟩ := w
       simp only [q3] at o3
       obtain ⟨l, ev, hd, wk⟩ := zrq (F := F.to β3 h3) ht r3 rf3 q q3
       subst ev
       have rk : Rep κ β3 F.O H3 k iv := rj
       cases dc with
       | k kvs =>
        obtain ⟨ws, g1, g2⟩ := hd
        obtain ⟨kk, hk, rfl⟩ := Option.map_eq_some_iff.1 q2
        obtain ⟨F', e', es, eh, rel'⟩ := wk (.dK (putK ws kk v)) (fun β O H' mv hl => ⟨_, hl, mv (g2.put ry3)⟩)
        refine ⟨l, _, rfl, ?_, SOut.move s3 o3 F' σ _ e' es eh rel'⟩
        rw [zh4 rk hk]
        exact DPut.k g1 (by rw [← g2.len]; exact hz)
       | t kvs =>
        obtain ⟨ws, g1, g2⟩ := hd
        obtain ⟨kk, hk, rfl⟩ := Option.map_eq_some_iff.1 q2
        obtain ⟨F', e', es, eh, rel'⟩ := wk (.dT (putK ws kk v)) (fun β O H' mv hl => ⟨_, hl, mv (g2.put ry3)⟩)
        refine ⟨l, _, rfl, ?_, SOut.move s3 o3 F' σ _ e' es eh rel'⟩
        exact DPut.t g1 (zja rk hk) (by rw [← g2.len]; exact hz)
     ·simp only [if_neg hz] at o3; exact o3.elim
theorem zl1 {tp : Pos} {ii : Expr} {dp di : P3} {d : E3} (hu : X.A.units + 1 < cLine) (he : PE X e (teOf κ E d)) (ho : PE X o (tpOf κ E dp)) (hi : PE X ii (tpOf κ E di))
  (hsw : swapsWith e (some (.Subscript o ii tp)) pos.line X.env = pure false := by rfl) : PS X (.Assign [.Subscript o ii tp] e pos) (tsOf κ E (zff dp di d)) := PSw (zqt hu ho hi he hsw) fun D σ H h => zpr h
def bListD : FB := fun s h fs => match fs with
 | [f] => match rdd s h f with
  | some (.k kvs) => some (.m (.lst (kvs.map fun kv => kV3 kv.1)))
  | _ => none
 | _ => none
def bLenD : FB := fun s h fs => match fs with
 | [f] => match rdd s h f with
  | some (.k kvs) => some (.v (.int kvs.length))
  | _ => none
 | _ => none
end
end L3
set_option Elab.async false
set_option linter.all false
set_option maxRecDepth 100000
namespace L3
open PySem PySem.Spec PyProof.Rows L2
section
variable {X : Cx} {κ : Kx} {E : XK} {F F' : Fr} {σ σ' : L2.St} {H H1 H' : Hp} {Q : VK} {p : Addr} {e a b c o : Expr} {pos apos np cpos ip jp : Pos} {i : Nat} {D : Ends} {β : List (Option Addr)} {O : Addr → Prop}
theorem hu1 {A : Around} {k : Nat} (hr : Room k A) : A.units + 1 < cLine := by have := hu9 hr; omega
def sSetMtI (j : Nat) (op : FM) (p : P3) (a : A3) (k : Int) : D3 := mtO op p a fun s h r => match oIxT s h (.x r) (.x (.int k)) with
 | some (.v y) => if j < s.length then .nx (s.set j (some (.v y))) h else .no
 | _ => .no
end
section
variable {X : Cx} {κ : Kx} {E : XK} {e a b c o : Expr} {pos apos np cpos : Pos}
def znb (d k : P3) : E3 := fun s h => (d s h).bind fun f h1 => match rdd s h1 f with
 | none => .no
 | some _ => (k s h1).bind fun x h2 => match rdd s h2 f, x with
  | some d, .x x => match d.get x with
   | some o => .ok (.v (o.getD .non)) h2
   | none => .no
  | _, _ => .no
theorem zrg {ee : Expr} {dd dk : P3} (hu : X.A.units + 1 < cLine) (ho : PE X o (tpOf κ E dd)) (he : PE X ee (tpOf κ E dk)) (m : M1 X o "get" apos ee cpos) : PE X (.Call (.Attribute o "get" apos) [ee] [] cpos) (teOf κ E (znb dd dk)) :=
 PEw (zoo hu ho he m) fun σ H Q ⟨F, rel, o⟩ => (za9 (K := kP κ) km_E rel o).mono fun v H1 ⟨β1, h1, f, e1, ⟨r1, rf⟩, o1⟩ => by
  cases q : rdd F.s h1 f with
  | none => simp only [q] at o1; exact o1.elim
  | some d0 =>
   simp only [q] at o1
   obtain ⟨a, rfl, hd⟩ := zg4 (F := F.to β1 h1) r1 rf q
   refine ⟨a, rfl, hd.isD, (za9 (F := F.to β1 h1) (K := kP κ) km_E r1 o1).mono fun y H2 ⟨β2, h2, x, e2, ⟨r2, rx⟩, o2⟩ => ?_⟩
   have rf2 := RfR.ext (F := F.to β1 h1) (β' := β2) (h' := h2) r1 e2 rf
   cases q3 : rdd F.s h2 f with
   | none => simp only [q3] at o2; exact o2.elim
   | some d =>
    obtain ⟨a', ea, hd2⟩ := zg4 (F := F.to β2 h2) r2 rf2 q3
    cases ea
    match x, rx, o2 with
    | .s _, _, o2 => simp only [q3] at o2; exact o2.elim
    | .x x, rx, o2 =>
     simp only [q3] at o2
     cases q4 : d.get x with
     | none => simp only [q4] at o2; exact o2.elim
     | some oo =>
      simp only [q4] at o2
      obtain ⟨o', g, h1', h2'⟩ := hd2.get (show Rep κ β2 F.O H2 x y from rx) q4
      refine ⟨o', g, ?_⟩
      cases oo with
      | none => rw [h2' rfl]; exact o2 β2 _ H2 Ext.refl ⟨r2, .non⟩
      | some zz => obtain ⟨u, rfl, ru⟩ := h1' zz rfl; exact o2 β2 _ H2 Ext.refl ⟨r2, ru⟩
end
end L3
set_option Elab.async false
set_option linter.all false
set_option maxRecDepth 100000
set_option maxHeartbeats 4000000
namespace My
open PySem L2 L3
noncomputable def zbz : D3 := (sFor (iR1 (aCons (pV 3) aNil)) (gN 8) (sSeq (sSet 9 (eOp oAdd (pE (eOp oDiv (pV 0) (pE (eOp oAdd (pE (eC (.int 64))) (pE (eOp oMul (pE (eC (.int 29))) (pV 8))))))) (pE (eOp oMul (pV 6) (pE (eB bInt (aCons (pE (eOp oEq (pV 8) (pV 4))) aNil))))))) (sIf (tE (eOp oEq (pV 8) (pE (eC (.int 0))))) (sSet 7 (eOp oAdd (pV 7) (pE (eOp oIx (pV 2) (pE (eOp oMod (pV 9) (pE (eC (.int 26))))))))) (sSet 7 (eOp oAdd (pV 7) (pE (eOp oIx (pE (eOp oAdd (pV 2) (pE (eC (.str ("0123456789" : Str)))))) (pE (eOp oMod (pV 9) (pE (eC (.int 36))))))))))))
noncomputable def zcs : D3 := (sFor (iR1 (aCons (pV 1) aNil)) (gN 6) (sSeq (sSet 7 (eC (.str ("" : Str)))) (sSeq (sFz 3) (sSeq zbz (sSeq (sFz 7) (sMt zbs (pV 5) (aCons (pV 7) aNil)))))))
noncomputable def zdl : D3 := (sSeq (sSet 2 (eC (.str ("abcdefghijklmnopqrstuvwxyz" : Str)))) (sSeq (sSet 3 (eOp oAdd (pE (eC (.int 1))) (pE (eOp oMod (pV 0) (pE (eC (.int 8))))))) (sSeq (sSet 4 (eOp oMod (pE (eOp oDiv (pV 0) (pE (eC (.int 8))))) (pV 3))) (sSeq (sSet 5 (eLst aNil)) (sSeq zcs (sRetS 5))))))
noncomputable def f_law_names : F3 := fun3 2 10 zdl
theorem zhk : FLen f_law_names 2 := flen
noncomputable def zco : D3 := (sSeq (sIf (tE (eOp oLt (pV 1) (pE (eB bLen (aCons (pV 0) aNil))))) (sRet (eOp oIx (pV 0) (pV 1))) sSkip) (sSeq (sSet 2 (eOp oAdd (pE (eOp oMul (pE (eC (.int 7919))) (pV 1))) (pE (eC (.int 101))))) (sSeq (sIf (tE (eOp oGt (pE (eB bLen (aCons (pV 0) aNil))) (pE (eC (.int 0))))) (sSet 2 (eOp oAdd (pV 2) (pE (eOp oMul (pE (eOp oMod (pE (eOp oIx (pV 0) (pE (eOp oMod (pE (eOp oMul (pE (eC (.int 7))) (pV 1))) (pE (eB bLen (aCons (pV 0) aNil))))))) (pE (eC (.int 1000003))))) (pE (eOp oAdd (pV 1) (pE (eC (.int 3))))))))) sSkip) (sRet (eOp oMod (pE (eOp oMul (pV 2) (pV 2))) (pE (eC (.int 1000003))))))))
noncomputable def f_law_cell : F3 := fun3 2 3 zco
theorem za8 : FLen f_law_cell 2 := flen
noncomputable def zc3 : D3 := (sFor (ze4 (aCons (pE (eSl (pV 1) poN (poS (pE (eNeg (pE (eC (.int 1)))))))) aNil)) (gT (gsCons (gN 3) (gsCons (gN 4) gsNil))) (sSeq (sSet 5 (eCall f_law_cell (aCons (pV 0) (aCons (pE (eOp oAdd (pE (eC (.int 3))) (pV 3))) aNil)))) (sSeq (sSet 6 (eOp oMod (pV 5) (pE (eC (.int 12))))) (sMt zbs (pV 2) (aCons (pE (eTup (aCons (pV 4) (aCons (pV 6) (aCons (pE (eOp oSub (pE (eOp oAdd (pV 6) (pE (eOp oMod (pE (eOp oDiv (pV 5) (pE (eC (.int 12))))) (pE (eC (.int 12))))))) (pE (eC (.int 1))))) (aCons (pE (eOp oAdd (pE (eC (.int 1))) (pE (eOp oMod (pE (eOp oDiv (pV 5) (pE (eC (.int 144))))) (pE (eC (.int 4))))))) (aCons (pE (eOp oAdd (pE (eC (.int 1))) (pE (eOp oMod (pE (eOp oDiv (pV 5) (pE (eC (.int 576))))) (pE (eC (.int 3))))))) aNil))))))) aNil)))))
noncomputable def zed : D3 := (sSeq (sSet 2 (eLst aNil)) (sSeq zc3 (sRetS 2)))
noncomputable def f_law_load : F3 := fun3 2 7 zed
theorem zii : FLen f_law_load 2 := flen
noncomputable def zbb : D3 := (sFor (iL (pV 0)) (gT (gsCons (gN 2) (gsCons (gN 3) gsNil))) (sIf (tAnd3 (tP (pV 1)) (tE (eOp oEq (pE (eOp oIx (pE (eOp oIx (pV 1) (pE (eNeg (pE (eC (.int 1))))))) (pE (eC (.int 1))))) (pV 3)))) (ziv (pV 1) (pE (eNeg (pE (eC (.int 1))))) (eTup (aCons (pE (eOp oAdd (pE (eOp oIx (pE (eOp oIx (pV 1) (pE (eNeg (pE (eC (.int 1))))))) (pE (eC (.int 0))))) (pV 2))) (aCons (pV 3) aNil)))) (sMt zbs (pV 1) (aCons (pE (eTup (aCons (pV 2) (aCons (pV 3) aNil)))) aNil))))
noncomputable def zbi : D3 := (sSeq (sSet 1 (eLst aNil)) (sSeq zbb (sRetS 1)))
noncomputable def f_neighbours_as_one : F3 := fun3 1 4 zbi
theorem zdf : FLen f_neighbours_as_one 1 := flen
noncomputable def zb9 : D3 := (sSeq (sSet 2 (eCall f_neighbours_as_one (aCons (pV 0) aNil))) (sSeq (sIf (tAnd3 (tP (pV 2)) (tE (eOp oEq (pE (eOp oIx (pE (eOp oIx (pV 2) (pE (eNeg (pE (eC (.int 1))))))) (pE (eC (.int 1))))) (pV 1)))) (sMt mPop (pV 2) aNil) sSkip) (sRetS 2)))
noncomputable def f_kept_rows : F3 := fun3 2 3 zb9
theorem zhy : FLen f_kept_rows 2 := flen
noncomputable def zek : D3 := (sRet (eAnd (eB bIsT (aCons (pV 0) (aCons (pE (eC (.ty "int"))) aNil))) (eNot (eB bIsT (aCons (pV 0) (aCons (pE (eC (.ty "bool"))) aNil))))))
noncomputable def f_is_whole : F3 := fun3 1 1 zek
theorem zh9 : FLen f_is_whole 1 := flen
noncomputable def zbp : D3 := (sRet (eAnd (eCall f_is_whole (aCons (pV 0) aNil)) (eChain oLe oLe (pV 1) (pV 0) (pV 2))))
noncomputable def f_is_whole_between : F3 := fun3 3 3 zbp
theorem zbj : FLen f_is_whole_between 3 := flen
noncomputable def zcz : D3 := (sRet (eCall f_is_whole_between (aCons (pV 0) (aCons (pE (eC (.int 0))) (aCons (pE (eC (.int 16))) aNil)))))
noncomputable def f_is_machines : F3 := fun3 1 1 zcz
theorem zfu : FLen f_is_machines 1 := flen
noncomputable def zbt : D3 := (sSeq (sIf (tOr3 (tNot3 (tE (eB bIsT (aCons (pV 0) (aCons (pE (eC (.ty "tuple"))) aNil))))) (tE (eOp oNe (pE (eB bLen (aCons (pV 0) aNil))) (pE (eC (.int 2)))))) (sRet (eC (.bl false))) sSkip) (sRet (eAnd (eCall f_is_whole_between (aCons (pE (eOp oIx (pV 0) (pE (eC (.int 0))))) (aCons (pE (eC (.int 1))) (aCons (pE (eC (.int 1000000))) aNil)))) (eCall f_is_machines (aCons (pE (eOp oIx (pV 0) (pE (eC (.int 1))))) aNil)))))
noncomputable def f_is_calendar_row : F3 := fun3 1 1 zbt
theorem zdz : FLen f_is_calendar_row 1 := flen
noncomputable def za0 : E3 := (zeq 1 [] (iL (pV 0)) (gN 0) tTru (eCall f_is_calendar_row (aCons (pV 0) aNil)))
noncomputable def zbm : D3 := (sSeq (sIf (tOr3 (tNot3 (tE (eB bIsT (aCons (pV 0) (aCons (pE (eC (.ty "list"))) aNil))))) (tE (eOp oGt (pE (eB bLen (aCons (pV 0) aNil))) (pE (eC (.int 16)))))) (sRet (eC (.bl false))) sSkip) (sRet (eB (bAll fun bs => bs.all id) (aCons (pE za0) aNil))))
noncomputable def f_are_calendar_rows : F3 := fun3 1 1 zbm
theorem zde : FLen f_are_calendar_rows 1 := flen
noncomputable def ze9 : D3 := (sRet (eCall f_is_whole_between (aCons (pV 0) (aCons (pE (eC (.int 1))) (aCons (pE (eC (.int 16))) aNil)))))
noncomputable def f_is_rest : F3 := fun3 1 1 ze9
theorem zkl : FLen f_is_rest 1 := flen
noncomputable def zca : D3 := (sSeq (sIf (tOr3 (tNot3 (tE (eCall f_are_calendar_rows (aCons (pV 1) aNil)))) (tNot3 (tE (eCall f_is_rest (aCons (pV 2) aNil))))) sNever sSkip) (sSeq (zn3 [("Calendar" : Str)] ("stretches" : Str) (pV 0) (eCall f_kept_rows (aCons (pV 1) (aCons (pV 2) aNil)))) (zn3 [("Calendar" : Str)] ("beyond" : Str) (pV 0) (eV 2))))
noncomputable def f_Calendar_init : F3 := fun3 3 3 zca
theorem zex : FLen f_Calendar_init 3 := flen
noncomputable def zb6 : D3 := (sFor (iL (pE (eFld [("Calendar" : Str)] ("stretches" : Str) (pV 0)))) (gT (gsCons (gN 3) (gsCons (gN 4) gsNil))) (sSeq (sAug 2 zj2 (pV 3)) (sIf (tE (eOp oLt (pV 1) (pV 2))) (sRetS 4) sSkip)))
noncomputable def zcq : D3 := (sSeq (sSet 2 (eC (.int 0))) (sSeq zb6 (sRet (eFld [("Calendar" : Str)] ("beyond" : Str) (pV 0)))))
noncomputable def f_Calendar_at : F3 := fun3 2 5 zcq
theorem zft : FLen f_Calendar_at 2 := flen
noncomputable def zat : D3 := (sSeq (sAsg (gT (gsCons (gN 4) (gsCons (gN 5) (gsCons (gN 6) gsNil)))) (eV 0)) (sSeq (sIf (tE (eOp (oIsN false) (pV 1) (pE (eC .non)))) (sRet (eC (.str ("name" : Str)))) sSkip) (sSeq (sIf (tNot3 (tE (eChain oLe oLe (pE (eOp oIx (pV 1) (pE (eC (.int 1))))) (pV 4) (pE (eOp oIx (pV 1) (pE (eC (.int 2)))))))) (sRet (eC (.str ("window" : Str)))) sSkip) (sSeq (sIf (tNot3 (tE (eChain oLe oLt (pE (eC (.int 0))) (pV 5) (pE (zgm ("Calendar" : Str) ("at" : Str) f_Calendar_at (pV 2) (aCons (pV 4) aNil)))))) (sRet (eC (.str ("machine" : Str)))) sSkip) (sSeq (sIf (tE (eOp (oDIn false) (pE (eTup (aCons (pV 4) (aCons (pV 5) aNil)))) (pV 3))) (sRet (eC (.str ("taken" : Str)))) sSkip) (sSeq (sIf (tE (eOp oGe (pE (zet (pV 3) (pE (eTup (aCons (pV 4) (aCons (pV 6) aNil)))) (pE (eC (.int 0))))) (pE (eOp oIx (pV 1) (pE (eC (.int 4))))))) (sRet (eC (.str ("breadth" : Str)))) sSkip) (sSeq (sIf (tE (eOp oGe (pE (zet (pV 3) (pV 6) (pE (eC (.int 0))))) (pE (eOp oIx (pV 1) (pE (eC (.int 3))))))) (sRet (eC (.str ("work" : Str)))) sSkip) (sRet (eC .non)))))))))
noncomputable def f_fault_word : F3 := fun3 4 7 zat
theorem zgl : FLen f_fault_word 4 := flen
noncomputable def zcv : D3 := (sFor (iL (pE (eLst (aCons (pE (eTup (aCons (pV 2) (aCons (pV 3) aNil)))) (aCons (pE (eTup (aCons (pV 2) (aCons (pV 4) aNil)))) (aCons (pV 4) aNil)))))) (gN 5) (zff (pV 1) (pV 5) (eOp oAdd (pE (zet (pV 1) (pV 5) (pE (eC (.int 0))))) (pE (eC (.int 1))))))
noncomputable def zdr : D3 := (sSeq (sAsg (gT (gsCons (gN 2) (gsCons (gN 3) (gsCons (gN 4) gsNil)))) (eV 0)) zcv)
noncomputable def f_count_row : F3 := fun3 2 6 zdr
theorem zhg : FLen f_count_row 2 := flen
noncomputable def zei : D3 := (sFor (iL (pV 0)) (gN 4) (zff (pV 3) (pE (eOp oIx (pV 4) (pE (eC (.int 0))))) (eV 4)))
noncomputable def zea : D3 := (sFor (ze4 (aCons (pV 2) aNil)) (gT (gsCons (gN 7) (gsCons (gN 8) gsNil))) (sSeq (sSet 9 (eCall f_fault_word (aCons (pV 8) (aCons (pE (znb (pV 3) (pE (eOp oIx (pV 8) (pE (eC (.int 2))))))) (aCons (pV 1) (aCons (pV 5) aNil)))))) (sSeq (sIf (tE (eOp (oIsN true) (pV 9) (pE (eC .non)))) (sSeq (sFz 9) (sMt zbs (pV 6) (aCons (pE (eTup (aCons (pV 7) (aCons (pV 9) aNil)))) aNil))) sSkip) (sExp (eCall f_count_row (aCons (pV 8) (aCons (pV 5) aNil)))))))
noncomputable def zgx : D3 := (sSeq (sSet 3 eDnT) (sSeq zei (sSeq (sSet 5 (eGl eDnT)) (sSeq (sSet 6 (eLst aNil)) (sSeq zea (sRetS 6))))))
noncomputable def f_faults : F3 := fun3 3 10 zgx
theorem zc5 : FLen f_faults 3 := flen
noncomputable def zdn : D3 := (sRet (eAnd (eB bIsT (aCons (pV 0) (aCons (pE (eC (.ty "int"))) aNil))) (eNot (eB bIsT (aCons (pV 0) (aCons (pE (eC (.ty "bool"))) aNil))))))
noncomputable def f_law_whole : F3 := fun3 1 1 zdn
theorem zhj : FLen f_law_whole 1 := flen
noncomputable def zc8 : D3 := (sFor (iL (pV 0)) (gN 2) (sIf (tOr3 (tNot3 (tE (eB bIsT (aCons (pV 2) (aCons (pE (eC (.ty "tuple"))) aNil))))) (tOr3 (tNot3 (tE (eCall f_law_whole (aCons (pE (eOp oIx (pV 2) (pE (eC (.int 0))))) aNil)))) (tNot3 (tE (eB bIsT (aCons (pE (eOp oIx (pV 2) (pE (eC (.int 1))))) (aCons (pE (eC (.ty "str"))) aNil))))))) (sRet (eC (.bl false))) sSkip))
noncomputable def zd8 : D3 := (sSeq (sIf (tOr3 (tNot3 (tE (eB bIsT (aCons (pV 0) (aCons (pE (eC (.ty "list"))) aNil))))) (tE (eOp oNe (pV 0) (pV 1)))) (sRet (eC (.bl false))) sSkip) (sSeq zc8 (sRet (eC (.bl true)))))
noncomputable def f_law_told : F3 := fun3 2 3 zd8
theorem zdu : FLen f_law_told 2 := flen
noncomputable def zej : D3 := (sFor (iL (pV 0)) (gT (gsCons (gN 3) (gsCons (gN 4) gsNil))) (sSeq (sIf (tE (eOp oLt (pV 2) (pV 3))) (sRetS 4) sSkip) (sSet 2 (eOp oSub (pV 2) (pV 3)))))
noncomputable def zgp : D3 := (sSeq zej (sRetS 1))
noncomputable def f_law_at : F3 := fun3 3 5 zgp
theorem zlr : FLen f_law_at 3 := flen
noncomputable def zcf : E3 := (zeq 1 [7] (iL (pV 0)) (gN 0) (tE (eOp oEq (pE (eOp oIx (pV 0) (pE (eC (.int 0))))) (pV 1))) (eV 0))
noncomputable def zcc : E3 := (zeq 1 [] (iL (pV 3)) (gN 0) tTru (eSl (pV 0) poN (poS (pE (eC (.int 2))))))
noncomputable def zce : E3 := (zeq 1 [7] (iL (pV 3)) (gN 0) (tE (eOp oEq (pE (eOp oIx (pV 0) (pE (eC (.int 2))))) (pV 1))) (eV 0))
noncomputable def zcd : E3 := (zeq 1 [5] (iL (pV 13)) (gN 0) (tE (eOp oEq (pE (eOp oIx (pV 0) (pE (eC (.int 0))))) (pV 1))) (eV 0))
noncomputable def zd7 : D3 := (sSeq (sAsg (gT (gsCons (gN 5) (gsCons (gN 6) (gsCons (gN 7) gsNil)))) (eV 4)) (sSeq (sSet 8 zcf) (sSeq (sIf (tE (eOp oEq (pV 8) (pE (eLst aNil)))) (sRet (eC (.str ("name" : Str)))) sSkip) (sSeq (sAsg (gT (gsCons (gN 9) (gsCons (gN 10) (gsCons (gN 11) (gsCons (gN 12) gsNil))))) (eSl (pE (eOp oIx (pV 8) (pE (eC (.int 0))))) (poS (pE (eC (.int 1)))) poN)) (sSeq (sIf (tOr3 (tE (eOp oLt (pV 5) (pV 9))) (tE (eOp oGt (pV 5) (pV 10)))) (sRet (eC (.str ("window" : Str)))) sSkip) (sSeq (sIf (tNot3 (tE (eChain oLe oLt (pE (eC (.int 0))) (pV 6) (pE (eCall f_law_at (aCons (pV 1) (aCons (pV 2) (aCons (pV 5) aNil)))))))) (sRet (eC (.str ("machine" : Str)))) sSkip) (sSeq (sIf (tE (eOp (oIn false) (pE (eTup (aCons (pV 5) (aCons (pV 6) aNil)))) (pE zcc))) (sRet (eC (.str ("taken" : Str)))) sSkip) (sSeq (sSet 13 zce) (sSeq (sFz 13) (sSeq (sIf (tE (eOp oGe (pE (eB bLen (aCons (pE zcd) aNil))) (pV 12))) (sRet (eC (.str ("breadth" : Str)))) sSkip) (sSeq (sIf (tE (eOp oGe (pE (eB bLen (aCons (pV 13) aNil))) (pV 11))) (sRet (eC (.str ("work" : Str)))) sSkip) (sRet (eC .non)))))))))))))
noncomputable def f_law_word : F3 := fun3 5 14 zd7
theorem zig : FLen f_law_word 5 := flen
noncomputable def zdt : D3 := (sFor (ze4 (aCons (pV 3) aNil)) (gT (gsCons (gN 5) (gsCons (gN 6) gsNil))) (sSeq (sSet 7 (eCall f_law_word (aCons (pV 0) (aCons (pV 1) (aCons (pV 2) (aCons (pE (eSl (pV 3) poN (poS (pV 5)))) (aCons (pV 6) aNil))))))) (sIf (tE (eOp (oIsN true) (pV 7) (pE (eC .non)))) (sSeq (sFz 7) (sMt zbs (pV 4) (aCons (pE (eTup (aCons (pV 5) (aCons (pV 7) aNil)))) aNil))) sSkip)))
noncomputable def ze5 : D3 := (sSeq (sSet 4 (eLst aNil)) (sSeq zdt (sRetS 4)))
noncomputable def f_law_due : F3 := fun3 4 8 ze5
theorem zef : FLen f_law_due 4 := flen
noncomputable def zfh : D3 := (sSeq (sSet 3 (eOp oMod (pV 0) (pE (eC (.int 24))))) (sSeq (sIf (tE (eOp oEq (pE (eOp oMod (pE (eOp oDiv (pV 0) (pE (eC (.int 24))))) (pE (eC (.int 11))))) (pE (eC (.int 5))))) (sSet 3 (eOp oSub (pE (eOp oMod (pE (eOp oDiv (pV 0) (pE (eC (.int 7))))) (pE (eOp oMul (pE (eC (.int 2))) (pE (eOp oPow (pE (eC (.int 10))) (pE (eC (.int 28))))))))) (pE (eOp oPow (pE (eC (.int 10))) (pE (eC (.int 28))))))) sSkip) (sSeq (sSet 4 (eOp oSub (pE (eOp oMod (pE (eOp oDiv (pV 0) (pE (eC (.int 264))))) (pE (eC (.int 6))))) (pE (eC (.int 1))))) (sSeq (sIf (tE (eOp oEq (pE (eOp oMod (pE (eOp oDiv (pV 0) (pE (eC (.int 264))))) (pE (eC (.int 13))))) (pE (eC (.int 7))))) (sSet 4 (eOp oSub (pE (eOp oMod (pE (eOp oDiv (pV 0) (pE (eC (.int 11))))) (pE (eOp oMul (pE (eC (.int 2))) (pE (eOp oPow (pE (eC (.int 10))) (pE (eC (.int 28))))))))) (pE (eOp oPow (pE (eC (.int 10))) (pE (eC (.int 28))))))) sSkip) (sSeq (sSet 5 (eOp oIx (pE (eOp oIx (pV 1) (pE (eOp oMod (pE (eOp oDiv (pV 0) (pE (eC (.int 3432))))) (pE (eB bLen (aCons (pV 1) aNil))))))) (pE (eC (.int 0))))) (sSeq (sIf (tE (eOp oEq (pE (eOp oMod (pE (eOp oDiv (pV 0) (pE (eC (.int 34320))))) (pE (eC (.int 7))))) (pE (eC (.int 6))))) (sSet 5 (eOp oIx (pE (eLst (aCons (pE (eOp oIx (pV 2) (pE (eNeg (pE (eC (.int 1))))))) (aCons (pE (eC (.str ("" : Str)))) (aCons (pE (eOp oAdd (pV 5) (pE (eC (.str ("x" : Str)))))) (aCons (pE (eC (.str ("A b" : Str)))) aNil)))))) (pE (eOp oMod (pE (eOp oDiv (pV 0) (pE (eC (.int 240240))))) (pE (eC (.int 4))))))) sSkip) (sRet (eTup (aCons (pV 3) (aCons (pV 4) (aCons (pV 5) aNil)))))))))))
noncomputable def f_law_row : F3 := fun3 3 6 zfh
theorem zkb : FLen f_law_row 3 := flen
noncomputable def zif : D3 := (sFor (iR1 (aCons (pE (eOp oMod (pE (eCall f_law_cell (aCons (pV 0) (aCons (pE (eC (.int 0))) aNil)))) (pE (eC (.int 5))))) aNil)) (gN 3) (sSeq (sMt zbs (pV 1) (aCons (pE (eTup (aCons (pE (eOp oAdd (pE (eC (.int 1))) (pE (eOp oMod (pV 2) (pE (eC (.int 6))))))) (aCons (pE (eOp oMod (pE (eOp oDiv (pV 2) (pE (eC (.int 6))))) (pE (eC (.int 4))))) aNil)))) aNil)) (sSet 2 (eOp oAdd (pE (eOp oDiv (pV 2) (pE (eC (.int 24))))) (pE (eCall f_law_cell (aCons (pV 0) (aCons (pE (eC (.int 1))) aNil))))))))
noncomputable def zh6 : D3 := (sFor (iR2 (aCons (pE (eC (.int 8))) (aCons (pE (eB bMax (aCons (pE (eC (.int 12))) (aCons (pE (eB bMin (aCons (pE (eB bLen (aCons (pV 0) aNil))) (aCons (pE (eC (.int 68))) aNil)))) aNil)))) aNil))) (gN 3) (sSeq (sFz 5) (sSeq (sFz 6) (sMt zbs (pV 7) (aCons (pE (eCall f_law_row (aCons (pE (eCall f_law_cell (aCons (pV 0) (aCons (pV 3) aNil)))) (aCons (pV 6) (aCons (pV 5) aNil))))) aNil)))))
noncomputable def zp5 : D3 := (sSeq (sSet 1 (eLst aNil)) (sSeq (sSet 2 (eOp oDiv (pE (eCall f_law_cell (aCons (pV 0) (aCons (pE (eC (.int 0))) aNil)))) (pE (eC (.int 5))))) (sSeq zif (sSeq (sSet 4 (eOp oAdd (pE (eC (.int 1))) (pE (eOp oMod (pE (eCall f_law_cell (aCons (pV 0) (aCons (pE (eC (.int 1))) aNil)))) (pE (eC (.int 3))))))) (sSeq (sSet 5 (eCall f_law_names (aCons (pE (eCall f_law_cell (aCons (pV 0) (aCons (pE (eC (.int 2))) aNil)))) (aCons (pE (eOp oAdd (pE (eC (.int 2))) (pE (eOp oMod (pE (eOp oDiv (pE (eCall f_law_cell (aCons (pV 0) (aCons (pE (eC (.int 2))) aNil)))) (pE (eC (.int 7))))) (pE (eC (.int 5))))))) aNil)))) (sSeq (sFz 5) (sSeq (sSet 6 (eCall f_law_load (aCons (pV 0) (aCons (pV 5) aNil)))) (sSeq (sSet 7 (eLst aNil)) (sSeq zh6 (sSeq (sFz 4) (sSeq (sFz 1) (sSeq (sSet 8 (eObj (eNew ("Calendar" : Str) f_Calendar_init (aCons (pV 1) (aCons (pV 4) aNil))))) (sSeq (sSet 9 (eGl (eB bList (aCons (pV 7) aNil)))) (sSeq (sFz 9) (sSeq (sFz 8) (sSeq (sFz 6) (sSeq (sSet 10 (eGl (eCall f_faults (aCons (pV 6) (aCons (pV 8) (aCons (pV 9) aNil)))))) (sSeq (sFz 7) (sSeq (sFz 4) (sSeq (sFz 1) (sSeq (sFz 6) (sSeq (sIf (tOr3 (tNot3 (tE (eCall f_law_told (aCons (pV 10) (aCons (pE (eCall f_law_due (aCons (pV 6) (aCons (pV 1) (aCons (pV 4) (aCons (pV 7) aNil)))))) aNil))))) (tE (eOp oNe (pV 9) (pV 7)))) (sRet (eC (.bl false))) sSkip) (sSeq (sMt zju (pV 10) aNil) (sSeq (sSet 11 (eSl (pV 7) (poS (pE (eOp oAdd (pE (eC (.int 1))) (pE (eOp oMod (pE (eCall f_law_cell (aCons (pV 0) (aCons (pE (eC (.int 3))) aNil)))) (pE (eC (.int 3)))))))) poN)) (sSeq (sFz 4) (sSeq (sFz 1) (sSeq (sFz 11) (sSeq (sFz 8) (sSeq (sFz 6) (sSeq (sIf (tNot3 (tE (eCall f_law_told (aCons (pE (eCall f_faults (aCons (pV 6) (aCons (pV 8) (aCons (pV 11) aNil))))) (aCons (pE (eCall f_law_due (aCons (pV 6) (aCons (pV 1) (aCons (pV 4) (aCons (pV 11) aNil)))))) aNil))))) (sRet (eC (.bl false))) sSkip) (sSeq (sFz 8) (sSeq (sFz 6) (sSeq (sIf (tOr3 (tE (eOp oNe (pE (eCall f_faults (aCons (pV 6) (aCons (pV 8) (aCons (pE (eLst aNil)) aNil))))) (pE (eLst aNil)))) (tE (eOp oNe (pE (eCall f_faults (aCons (pE (eLst aNil)) (aCons (pV 8) (aCons (pE (eSl (pV 7) poN (poS (pE (eC (.int 2)))))) aNil))))) (pE (eLst (aCons (pE (eTup (aCons (pE (eC (.int 0))) (aCons (pE (eC (.str ("name" : Str)))) aNil)))) (aCons (pE (eTup (aCons (pE (eC (.int 1))) (aCons (pE (eC (.str ("name" : Str)))) aNil)))) aNil))))))) (sRet (eC (.bl false))) sSkip) (sSeq (sFz 7) (sSeq (sFz 4) (sSeq (sFz 1) (sSeq (sFz 9) (sSeq (sFz 8) (sSeq (sFz 6) (sRet (eCall f_law_told (aCons (pE (eCall f_faults (aCons (pV 6) (aCons (pV 8) (aCons (pV 9) aNil))))) (aCons (pE (eCall f_law_due (aCons (pV 6) (aCons (pV 1) (aCons (pV 4) (aCons (pV 7) aNil)))))) aNil)))))))))))))))))))))))))))))))))))))))))))
noncomputable def f_law : F3 := fun3 1 12 zp5
end My
set_option Elab.async false
set_option linter.all false
set_option maxRecDepth 100000
set_option maxHeartbeats 4000000
namespace My
open PySem PySem.Spec PyProof.Rows L2 L3
def top (i : Nat) : Stmt := PySem.Challenge.pw_dueyard_k32_faults_of_plans.main.body.getD i (.Pass ⟨0, 0, 0, 0⟩)
abbrev zfm : Stmt := top 24
theorem sc_law_names : FnScope ["_law_cell_here", "_law_many", "_law_letters", "_law_size", "_law_at_here", "_law_names_here", "_law_k", "_law_name", "_law_j", "_law_place"] ["_law_cell_here", "_law_many"] (zaf zfm) := ⟨rfl, rfl, rfl, by decide +kernel, rfl, by decide +kernel, by decide +kernel⟩
abbrev zf2 : Stmt := top 23
theorem sc_law_cell : FnScope ["_law_script", "_law_k", "_law_number"] ["_law_script", "_law_k"] (zaf zf2) := ⟨rfl, rfl, rfl, by decide +kernel, rfl, by decide +kernel, by decide +kernel⟩
abbrev zf1 : Stmt := top 27
theorem sc_law_load : FnScope ["_law_script", "_law_names_here", "_law_load_here", "_law_j", "_law_name", "_law_cell_here", "_law_first"] ["_law_script", "_law_names_here"] (zaf zf1) := ⟨rfl, rfl, rfl, by decide +kernel, rfl, by decide +kernel, by decide +kernel⟩
abbrev zcb : Stmt := top 19
theorem sc_neighbours_as_one : FnScope ["rows", "told", "many", "machines"] ["rows"] (zaf zcb) := ⟨rfl, rfl, rfl, by decide +kernel, rfl, by decide +kernel, by decide +kernel⟩
abbrev zfc : Stmt := top 20
theorem sc_kept_rows : FnScope ["rows", "rest", "told"] ["rows", "rest"] (zaf zfc) := ⟨rfl, rfl, rfl, by decide +kernel, rfl, by decide +kernel, by decide +kernel⟩
abbrev zf7 : Stmt := top 9
theorem zit : FnScope ["thing"] ["thing"] (zaf zf7) := ⟨rfl, rfl, rfl, by decide +kernel, rfl, by decide +kernel, by decide +kernel⟩
abbrev zcg : Stmt := top 10
theorem zdq : FnScope ["thing", "low", "high"] ["thing", "low", "high"] (zaf zcg) := ⟨rfl, rfl, rfl, by decide +kernel, rfl, by decide +kernel, by decide +kernel⟩
abbrev zdw : Stmt := top 15
theorem zfv : FnScope ["thing"] ["thing"] (zaf zdw) := ⟨rfl, rfl, rfl, by decide +kernel, rfl, by decide +kernel, by decide +kernel⟩
abbrev zcm : Stmt := top 17
theorem zd0 : FnScope ["thing"] ["thing"] (zaf zcm) := ⟨rfl, rfl, rfl, by decide +kernel, rfl, by decide +kernel, by decide +kernel⟩
abbrev zbh : Stmt := top 18
theorem zdg : FnScope ["thing"] ["thing"] (zaf zbh) := ⟨rfl, rfl, rfl, by decide +kernel, rfl, by decide +kernel, by decide +kernel⟩
abbrev zht : Stmt := top 16
theorem zka : FnScope ["thing"] ["thing"] (zaf zht) := ⟨rfl, rfl, rfl, by decide +kernel, rfl, by decide +kernel, by decide +kernel⟩
abbrev zda : Stmt := zgf (top 21) 0
theorem zew : FnScope ["self", "rows", "rest"] ["self", "rows", "rest"] (zaf zda) := ⟨rfl, rfl, rfl, by decide +kernel, rfl, by decide +kernel, by decide +kernel⟩
abbrev zd2 : Stmt := zgf (top 21) 3
theorem sc_Calendar_at : FnScope ["self", "turn", "stop", "many", "machines"] ["self", "turn"] (zaf zd2) := ⟨rfl, rfl, rfl, by decide +kernel, rfl, by decide +kernel, by decide +kernel⟩
abbrev zem : Stmt := top 2
theorem sc_fault_word : FnScope ["row", "job", "calendar", "ahead", "turn", "machine", "name"] ["row", "job", "calendar", "ahead"] (zaf zem) := ⟨rfl, rfl, rfl, by decide +kernel, rfl, by decide +kernel, by decide +kernel⟩
abbrev zfa : Stmt := top 3
theorem sc_count_row : FnScope ["row", "ahead", "turn", "machine", "name", "key"] ["row", "ahead"] (zaf zfa) := ⟨rfl, rfl, rfl, by decide +kernel, rfl, by decide +kernel, by decide +kernel⟩
abbrev ziw : Stmt := top 4
theorem sc_faults : FnScope ["load", "calendar", "plan", "jobs", "job", "ahead", "told", "index", "row", "word"] ["load", "calendar", "plan"] (zaf ziw) := ⟨rfl, rfl, rfl, by decide +kernel, rfl, by decide +kernel, by decide +kernel⟩
abbrev ze3 : Stmt := top 25
theorem zho : FnScope ["_law_found"] ["_law_found"] (zaf ze3) := ⟨rfl, rfl, rfl, by decide +kernel, rfl, by decide +kernel, by decide +kernel⟩
abbrev zf4 : Stmt := top 31
theorem sc_law_told : FnScope ["_law_found", "_law_due_here", "_law_fault"] ["_law_found", "_law_due_here"] (zaf zf4) := ⟨rfl, rfl, rfl, by decide +kernel, rfl, by decide +kernel, by decide +kernel⟩
abbrev zjr : Stmt := top 26
theorem sc_law_at : FnScope ["_law_rows", "_law_rest", "_law_turn", "_law_turns", "_law_machines"] ["_law_rows", "_law_rest", "_law_turn"] (zaf zjr) := ⟨rfl, rfl, rfl, by decide +kernel, rfl, by decide +kernel, by decide +kernel⟩
abbrev zb0 : Stmt := top 29
theorem sc_law_word : FnScope ["_law_load_here", "_law_rows", "_law_rest", "_law_ahead", "_law_row_here", "_law_turn", "_law_machine", "_law_name", "_law_mine", "_law_first", "_law_last", "_law_work", "_law_breadth", "_law_same"] ["_law_load_here", "_law_rows", "_law_rest", "_law_ahead", "_law_row_here"] (zaf zb0) := ⟨rfl, rfl, rfl, by decide +kernel, rfl, by decide +kernel, by decide +kernel⟩
abbrev zg2 : Stmt := top 30
theorem sc_law_due : FnScope ["_law_load_here", "_law_rows", "_law_rest", "_law_plan", "_law_due_here", "_law_index", "_law_row_here", "_law_word_here"] ["_law_load_here", "_law_rows", "_law_rest", "_law_plan"] (zaf zg2) := ⟨rfl, rfl, rfl, by decide +kernel, rfl, by decide +kernel, by decide +kernel⟩
abbrev zg0 : Stmt := top 28
theorem sc_law_row : FnScope ["_law_cell_here", "_law_load_here", "_law_names_here", "_law_turn", "_law_machine", "_law_name"] ["_law_cell_here", "_law_load_here", "_law_names_here"] (zaf zg0) := ⟨rfl, rfl, rfl, by decide +kernel, rfl, by decide +kernel, by decide +kernel⟩
abbrev zry : Stmt := top 32
theorem sc_law : FnScope ["_law_script", "_law_rows", "_law_left", "_law_k", "_law_rest", "_law_names_here", "_law_load_here", "_law_plan", "_law_calendar", "_law_handed", "_law_found", "_law_rest_of"] ["_law_script"] (zaf zry) := ⟨rfl, rfl, rfl, by decide +kernel, rfl, by decide +kernel, by decide +kernel⟩
structure Txt (K : PySem.W.Frag) (mg : Str → Option Value) where
 f_law_names : Addr
 fd_law_names : FuncData
 d_law_names : Dfn K mg "_law_names" zfm ["_law_cell_here", "_law_many"] f_law_names fd_law_names
 f_law_cell : Addr
 fd_law_cell : FuncData
 d_law_cell : Dfn K mg "_law_cell" zf2 ["_law_script", "_law_k"] f_law_cell fd_law_cell
 f_law_load : Addr
 fd_law_load : FuncData
 d_law_load : Dfn K mg "_law_load" zf1 ["_law_script", "_law_names_here"] f_law_load fd_law_load
 f_neighbours_as_one : Addr
 fd_neighbours_as_one : FuncData
 d_neighbours_as_one : Dfn K mg "neighbours_as_one" zcb ["rows"] f_neighbours_as_one fd_neighbours_as_one
 f_kept_rows : Addr
 fd_kept_rows : FuncData
 d_kept_rows : Dfn K mg "kept_rows" zfc ["rows", "rest"] f_kept_rows fd_kept_rows
 f_is_whole : Addr
 fd_is_whole : FuncData
 d_is_whole : Dfn K mg "is_whole" zf7 ["thing"] f_is_whole fd_is_whole
 f_is_whole_between : Addr
 fd_is_whole_between : FuncData
 d_is_whole_between : Dfn K mg "is_whole_between" zcg ["thing", "low", "high"] f_is_whole_between fd_is_whole_between
 f_is_machines : Addr
 fd_is_machines : FuncData
 d_is_machines : Dfn K mg "is_machines" zdw ["thing"] f_is_machines fd_is_machines
 f_is_calendar_row : Addr
 fd_is_calendar_row : FuncData
 d_is_calendar_row : Dfn K mg "is_calendar_row" zcm ["thing"] f_is_calendar_row fd_is_calendar_row
 f_are_calendar_rows : Addr
 fd_are_calendar_rows : FuncData
 d_are_calendar_rows : Dfn K mg "are_calendar_rows" zbh ["thing"] f_are_calendar_rows fd_are_calendar_rows
 f_is_rest : Addr
 fd_is_rest : FuncData
 d_is_rest : Dfn K mg "is_rest" zht ["thing"] f_is_rest fd_is_rest
 f_fault_word : Addr
 fd_fault_word : FuncData
 d_fault_word : Dfn K mg "fault_word" zem ["row", "job", "calendar", "ahead"] f_fault_word fd_fault_word
 f_count_row : Addr
 fd_count_row : FuncData
 d_count_row : Dfn K mg "count_row" zfa ["row", "ahead"] f_count_row fd_count_row
 f_faults : Addr
 fd_faults : FuncData
 d_faults : Dfn K mg "faults" ziw ["load", "calendar", "plan"] f_faults fd_faults
 f_law_whole : Addr
 fd_law_whole : FuncData
 d_law_whole : Dfn K mg "_law_whole" ze3 ["_law_found"] f_law_whole fd_law_whole
 f_law_told : Addr
 fd_law_told : FuncData
 d_law_told : Dfn K mg "_law_told" zf4 ["_law_found", "_law_due_here"] f_law_told fd_law_told
 f_law_at : Addr
 fd_law_at : FuncData
 d_law_at : Dfn K mg "_law_at" zjr ["_law_rows", "_law_rest", "_law_turn"] f_law_at fd_law_at
 f_law_word : Addr
 fd_law_word : FuncData
 d_law_word : Dfn K mg "_law_word" zb0 ["_law_load_here", "_law_rows", "_law_rest", "_law_ahead", "_law_row_here"] f_law_word fd_law_word
 f_law_due : Addr
 fd_law_due : FuncData
 d_law_due : Dfn K mg "_law_due" zg2 ["_law_load_here", "_law_rows", "_law_rest", "_law_plan"] f_law_due fd_law_due
 f_law_row : Addr
 fd_law_row : FuncData
 d_law_row : Dfn K mg "_law_row" zg0 ["_law_cell_here", "_law_load_here", "_law_names_here"] f_law_row fd_law_row
 f_law : Addr
 fd_law : FuncData
 d_law : Dfn K mg "law" zry ["_law_script"] f_law fd_law
 C_Calendar : Addr
 cl_Calendar : Cls K C_Calendar
 g_Calendar : mg "Calendar" = some (.ref C_Calendar)
 f_Calendar_init : Addr
 fd_Calendar_init : FuncData
 d_Calendar_init : DfnM K "__init__" "Calendar.__init__" zda ["self", "rows", "rest"] f_Calendar_init fd_Calendar_init
 f_Calendar_at : Addr
 fd_Calendar_at : FuncData
 d_Calendar_at : DfnM K "at" "Calendar.at" zd2 ["self", "turn"] f_Calendar_at fd_Calendar_at
 m_Calendar_at : Meth K C_Calendar "at" f_Calendar_at
 M_Calendar : Mk K C_Calendar f_Calendar_init
 na_Calendar_stretches : NoAttr K C_Calendar "stretches"
 na_Calendar_beyond : NoAttr K C_Calendar "beyond"
 n_all : mg "all" = none
 n_bool : mg "bool" = none
 n_enumerate : mg "enumerate" = none
 n_int : mg "int" = none
 n_isinstance : mg "isinstance" = none
 n_len : mg "len" = none
 n_list : mg "list" = none
 n_max : mg "max" = none
 n_min : mg "min" = none
 n_range : mg "range" = none
 n_str : mg "str" = none
 n_tuple : mg "tuple" = none
 t_MOST_ROWS : Tok
 c_MOST_ROWS : mg "MOST_ROWS" = some (.int 16 t_MOST_ROWS)
 t_MOST_TURNS_OF_ROW : Tok
 c_MOST_TURNS_OF_ROW : mg "MOST_TURNS_OF_ROW" = some (.int 1000000 t_MOST_TURNS_OF_ROW)
 t_MOST_MACHINES : Tok
 c_MOST_MACHINES : mg "MOST_MACHINES" = some (.int 16 t_MOST_MACHINES)
def kx {K : PySem.W.Frag} {mg : Str → Option Value} (T : Txt K mg) : Kx := ⟨K, fun c => ([(("Calendar" : Str), T.C_Calendar)] : List (Str × Addr)).lookup c⟩
section
variable {P : Program} {w : World} {K : PySem.W.Frag} {mg : Str → Option Value} {base : Heap}
theorem zic (T : Txt K mg) : FnOk P w K mg base (XT P w) 1 T.f_law_names T.fd_law_names ["_law_cell_here", "_law_many"] (spOf (kx T) 2 f_law_names) := fn3 T.d_law_names.F sc_law_names fun cdv A outer s H E hr => by unfold zdl zcs zbz; exact (zab (zap (i := 2) sc_law_names.nd rfl (Or.inl rfl) zcn) (zab (zap (i := 3) sc_law_names.nd rfl (Or.inl rfl) (zag za2 za1 (rp_e zad) (rp_e (zag zas za5 (rp_v (pv 0)) (rp_e zad))))) (zab (zap (i := 4) sc_law_names.nd rfl (Or.inl rfl) (zag zas za5 (rp_e (zag zbc zbd (rp_v (pv 0)) (rp_e zad))) (rp_v (pv 3)))) (zab (zap (i := 5) sc_law_names.nd rfl (Or.inl rfl) (zd1 zac)) (zab (zcl PassesOwn.leaving rfl (zfk rfl T.n_range (zaa (rp_v (pv 1)) zac)) (zah (zai (i := 6) sc_law_names.nd rfl (Or.inl rfl))) (zab (zap (i := 7) sc_law_names.nd rfl (Or.inl rfl) zcn) (zbn 3 (zab (zcl PassesOwn.leaving rfl (zfk rfl T.n_range (zaa (rp_v (pv 3)) zac)) (zah (zai (i := 8) sc_law_names.nd rfl (Or.inl rfl))) (zab (zap (i := 9) sc_law_names.nd rfl (Or.inl rfl) (zag za2 za1 (rp_e (zag zbc zbd (rp_v (pv 0)) (rp_e (zag za2 za1 (rp_e zad) (rp_e (zag zc7 zc1 (rp_e zad) (rp_v (pv 8)))))))) (rp_e (zag zc7 zc1 (rp_v (pv 6)) (rp_e (r_ty zq7 zky (by rfl) T.n_int PyProof.Rows.boot_int (zaa (rp_e (zuk zc4 (zc2 (hu9 hr)) (zay _) (rp_v (pv 8)) (rp_v (pv 4)))) zac))))))) (zae (zbf (zax zc4 (zc2 (hu9 hr)) (zay _) (rp_v (pv 8)) (rp_e zad)) (zae (zap (i := 7) sc_law_names.nd rfl (Or.inl rfl) (zag za2 za1 (rp_v (pv 7)) (rp_e (r_ix za4 (za3 rfl) (fun _ _ => rfl) (rp_v (pv 2)) (rp_e (zag zas za5 (rp_v (pv 9)) (rp_e zad)))))))) (zae (zap (i := 7) sc_law_names.nd rfl (Or.inl rfl) (zag za2 za1 (rp_v (pv 7)) (rp_e (r_ix za4 (za3 rfl) (fun _ _ => rfl) (rp_e (zag za2 za1 (rp_v (pv 2)) (rp_e zcn))) (rp_e (zag zas za5 (rp_v (pv 9)) (rp_e zad)))))))))))) (zbn 7 (zae (zhz zb2 rfl PySem.F.slot_list_append PySem.F.type_list_append zbw (rp_v (pv 5)) (zaa (rp_v (pv 7)) zac)))))))) (zae (zcw (pv 5))))))))
theorem zbe (T : Txt K mg) : FnOk P w K mg base (XT P w) 1 T.f_law_cell T.fd_law_cell ["_law_script", "_law_k"] (spOf (kx T) 2 f_law_cell) := fn3 T.d_law_cell.F sc_law_cell fun cdv A outer s H E hr => by unfold zco; exact (zab (zbf (zax zfy zkn (zay _) (rp_v (pv 1)) (rp_e (r_b zcu (zbq rfl) (by rfl) T.n_len PySem.boot_len (zaa (rp_v (pv 0)) zac)))) (zae (zau (r_ix za4 (za3 rfl) (fun _ _ => rfl) (rp_v (pv 0)) (rp_v (pv 1))))) zaz) (zab (zap (i := 2) sc_law_cell.nd rfl (Or.inl rfl) (zag za2 za1 (rp_e (zag zc7 zc1 (rp_e zad) (rp_v (pv 1)))) (rp_e zad))) (zab (zbf (zax zm2 zpw (zay _) (rp_e (r_b zcu (zbq rfl) (by rfl) T.n_len PySem.boot_len (zaa (rp_v (pv 0)) zac))) (rp_e zad)) (zae (zap (i := 2) sc_law_cell.nd rfl (Or.inl rfl) (zag za2 za1 (rp_v (pv 2)) (rp_e (zag zc7 zc1 (rp_e (zag zas za5 (rp_e (r_ix za4 (za3 rfl) (fun _ _ => rfl) (rp_v (pv 0)) (rp_e (zag zas za5 (rp_e (zag zc7 zc1 (rp_e zad) (rp_v (pv 1)))) (rp_e (r_b zcu (zbq rfl) (by rfl) T.n_len PySem.boot_len (zaa (rp_v (pv 0)) zac))))))) (rp_e zad))) (rp_e (zag za2 za1 (rp_v (pv 1)) (rp_e zad)))))))) zaz) (zae (zau (zag zas za5 (rp_e (zag zc7 zc1 (rp_v (pv 2)) (rp_v (pv 2)))) (rp_e zad)))))))
theorem zj3 (T : Txt K mg) : FnOk P w K mg base (XT P w) 2 T.f_law_load T.fd_law_load ["_law_script", "_law_names_here"] (spOf (kx T) 2 f_law_load) := fn3 T.d_law_load.F sc_law_load fun cdv A outer s H E hr => by unfold zed zc3; exact (zab (zap (i := 2) sc_law_load.nd rfl (Or.inl rfl) (zd1 zac)) (zab (zcl PassesOwn.leaving rfl (zib rfl rfl T.n_enumerate (zaa (rp_e (r_sl rfl (rp_v (pv 1)) zkt (zkw (rp_e (zjw (rp_e zad)))))) zac)) (zdj (n := 2) (zdh rfl (zal (zah (zai (i := 3) sc_law_load.nd rfl (Or.inl rfl))) (zal (zah (zai (i := 4) sc_law_load.nd rfl (Or.inl rfl))) zcj zan) zan)) (zam (zam zci))) (zab (zap (i := 5) sc_law_load.nd rfl (Or.inl rfl) (zaq za8 (zbe T) (hr.mono (by decide)) (by rfl) T.d_law_cell.g T.d_law_cell.F.kp T.d_law_cell.b za7 (zaa (rp_v (pv 0)) (zaa (rp_e (zag za2 za1 (rp_e zad) (rp_v (pv 3)))) zac)))) (zab (zap (i := 6) sc_law_load.nd rfl (Or.inl rfl) (zag zas za5 (rp_v (pv 5)) (rp_e zad))) (zae (zhz zb2 rfl PySem.F.slot_list_append PySem.F.type_list_append zbw (rp_v (pv 2)) (zaa (rp_e (zdv (zaa (rp_v (pv 4)) (zaa (rp_v (pv 6)) (zaa (rp_e (zag zfb zhc (rp_e (zag za2 za1 (rp_v (pv 6)) (rp_e (zag zas za5 (rp_e (zag zbc zbd (rp_v (pv 5)) (rp_e zad))) (rp_e zad))))) (rp_e zad))) (zaa (rp_e (zag za2 za1 (rp_e zad) (rp_e (zag zas za5 (rp_e (zag zbc zbd (rp_v (pv 5)) (rp_e zad))) (rp_e zad))))) (zaa (rp_e (zag za2 za1 (rp_e zad) (rp_e (zag zas za5 (rp_e (zag zbc zbd (rp_v (pv 5)) (rp_e zad))) (rp_e zad))))) zac))))))) zac)))))) (zae (zcw (pv 2)))))
theorem zdm (T : Txt K mg) : FnOk P w K mg base (XT P w) 1 T.f_neighbours_as_one T.fd_neighbours_as_one ["rows"] (spOf (kx T) 1 f_neighbours_as_one) := fn3 T.d_neighbours_as_one.F sc_neighbours_as_one fun cdv A outer s H E hr => by unfold zbi zbb; exact (zab (zap (i := 1) sc_neighbours_as_one.nd rfl (Or.inl rfl) (zd1 zac)) (zab (zcl PassesOwn.leaving rfl (zb1 rfl (rp_v (pv 0))) (zdj (n := 2) (zdh rfl (zal (zah (zai (i := 2) sc_neighbours_as_one.nd rfl (Or.inl rfl))) (zal (zah (zai (i := 3) sc_neighbours_as_one.nd rfl (Or.inl rfl))) zcj zan) zan)) (zam (zam zci))) (zae (zbf (PW.pt (zpd (zo6 rfl (rp_v (pv 1))) (zl3 (zax zc4 (zc2 (hu9 hr)) (zay _) (rp_e (r_ix za4 (za3 rfl) (fun _ _ => rfl) (rp_e (r_ix za4 (za3 rfl) (fun _ _ => rfl) (rp_v (pv 1)) (rp_e (zjw (rp_e zad))))) (rp_e zad))) (rp_v (pv 3)))))) (zae (znn (zdv (zaa (rp_e (zag za2 za1 (rp_e (r_ix za4 (za3 rfl) (fun _ _ => rfl) (rp_e (r_ix za4 (za3 rfl) (fun _ _ => rfl) (rp_v (pv 1)) (rp_e (zjw (rp_e zad))))) (rp_e zad))) (rp_v (pv 2)))) (zaa (rp_v (pv 3)) zac))) (rp_v (pv 1)) (rp_e (zjw (rp_e zad))) fun a b c => zg8 a (zsl b c zou))) (zae (zhz zb2 rfl PySem.F.slot_list_append PySem.F.type_list_append zbw (rp_v (pv 1)) (zaa (rp_e (zdv (zaa (rp_v (pv 2)) (zaa (rp_v (pv 3)) zac)))) zac)))))) (zae (zcw (pv 1)))))
theorem zh5 (T : Txt K mg) : FnOk P w K mg base (XT P w) 2 T.f_kept_rows T.fd_kept_rows ["rows", "rest"] (spOf (kx T) 2 f_kept_rows) := fn3 T.d_kept_rows.F sc_kept_rows fun cdv A outer s H E hr => by unfold zb9; exact (zab (zap (i := 2) sc_kept_rows.nd rfl (Or.inl rfl) (zaq zdf (zdm T) (hr.mono (by decide)) (by rfl) T.d_neighbours_as_one.g T.d_neighbours_as_one.F.kp T.d_neighbours_as_one.b za7 (zaa (rp_v (pv 0)) zac))) (zab (zbf (PW.pt (zpd (zo6 rfl (rp_v (pv 2))) (zl3 (zax zc4 (zc2 (hu9 hr)) (zay _) (rp_e (r_ix za4 (za3 rfl) (fun _ _ => rfl) (rp_e (r_ix za4 (za3 rfl) (fun _ _ => rfl) (rp_v (pv 2)) (rp_e (zjw (rp_e zad))))) (rp_e zad))) (rp_v (pv 1)))))) (zae (zpe zs0 rfl PySem.F.slot_list_pop PySem.F.type_list_pop zs4 (rp_v (pv 2)))) zaz) (zae (zcw (pv 2)))))
theorem zkj (T : Txt K mg) : FnOk P w K mg base (XT P w) 1 T.f_is_whole T.fd_is_whole ["thing"] (spOf (kx T) 1 f_is_whole) := fn3 T.d_is_whole.F zit fun cdv A outer s H E hr => by unfold zek; exact (zae (zau (znd (r_b zcx (zby rfl) (by rfl) T.n_isinstance PyProof.Rows.boot_isinstance (zaa (rp_v (pv 0)) (zaa (rp_e (r_c (zcy (v := .ty "int") (by rfl) T.n_int PyProof.Rows.boot_int rfl) fun _ _ _ => .ty _)) zac))) (zot (zst (r_b zcx (zby rfl) (by rfl) T.n_isinstance PyProof.Rows.boot_isinstance (zaa (rp_v (pv 0)) (zaa (rp_e (r_c (zcy (v := .ty "bool") (by rfl) T.n_bool PyProof.Rows.boot_bool rfl) fun _ _ _ => .ty _)) zac))))))))
theorem zbo (T : Txt K mg) : FnOk P w K mg base (XT P w) 2 T.f_is_whole_between T.fd_is_whole_between ["thing", "low", "high"] (spOf (kx T) 3 f_is_whole_between) := fn3 T.d_is_whole_between.F zdq fun cdv A outer s H E hr => by unfold zbp; exact (zae (zau (znd (zaq zh9 (zkj T) (hr.mono (by decide)) (by rfl) T.d_is_whole.g T.d_is_whole.F.kp T.d_is_whole.b za7 (zaa (rp_v (pv 0)) zac)) (zot (zp8 zfz zfz zkq zkq (rp_v (pv 1)) (rp_v (pv 0)) (rp_v (pv 2)))))))
theorem zgj (T : Txt K mg) : FnOk P w K mg base (XT P w) 3 T.f_is_machines T.fd_is_machines ["thing"] (spOf (kx T) 1 f_is_machines) := fn3 T.d_is_machines.F zfv fun cdv A outer s H E hr => by unfold zcz; exact (zae (zau (zaq zbj (zbo T) (hr.mono (by decide)) (by rfl) T.d_is_whole_between.g T.d_is_whole_between.F.kp T.d_is_whole_between.b za7 (zaa (rp_v (pv 0)) (zaa (rp_e zad) (zaa (rp_e (r_c (zgw (v := .int 16) (by rfl) T.c_MOST_MACHINES ⟨_, rfl⟩) fun _ _ _ => .int _)) zac))))))
theorem zd9 (T : Txt K mg) : FnOk P w K mg base (XT P w) 4 T.f_is_calendar_row T.fd_is_calendar_row ["thing"] (spOf (kx T) 1 f_is_calendar_row) := fn3 T.d_is_calendar_row.F zd0 fun cdv A outer s H E hr => by unfold zbt; exact (zab (zbf (PW.pt (zgy (zcp (zdi (r_b zcx (zby rfl) (by rfl) T.n_isinstance PyProof.Rows.boot_isinstance (zaa (rp_v (pv 0)) (zaa (rp_e (r_c (zcy (v := .ty "tuple") (by rfl) T.n_tuple PyProof.Rows.boot_tuple rfl) fun _ _ _ => .ty _)) zac))))) (zen (zax zg7 (zhq (hu9 hr)) (zay _) (rp_e (r_b zcu (zbq rfl) (by rfl) T.n_len PySem.boot_len (zaa (rp_v (pv 0)) zac))) (rp_e zad))))) (zae (zau r_bl)) zaz) (zae (zau (znd (zaq zbj (zbo T) (hr.mono (by decide)) (by rfl) T.d_is_whole_between.g T.d_is_whole_between.F.kp T.d_is_whole_between.b za7 (zaa (rp_e (r_ix za4 (za3 rfl) (fun _ _ => rfl) (rp_v (pv 0)) (rp_e zad))) (zaa (rp_e zad) (zaa (rp_e (r_c (zgw (v := .int 1000000) (by rfl) T.c_MOST_TURNS_OF_ROW ⟨_, rfl⟩) fun _ _ _ => .int _)) zac)))) (zot (zaq zfu (zgj T) (hr.mono (by decide)) (by rfl) T.d_is_machines.g T.d_is_machines.F.kp T.d_is_machines.b za7 (zaa (rp_e (r_ix za4 (za3 rfl) (fun _ _ => rfl) (rp_v (pv 0)) (rp_e zad))) zac)))))))
theorem zdo (T : Txt K mg) : FnOk P w K mg base (XT P w) 5 T.f_are_calendar_rows T.fd_are_calendar_rows ["thing"] (spOf (kx T) 1 f_are_calendar_rows) := fn3 T.d_are_calendar_rows.F zdg fun cdv A outer s H E hr => by unfold zbm za0; exact (zab (zbf (PW.pt (zgy (zcp (zdi (r_b zcx (zby rfl) (by rfl) T.n_isinstance PyProof.Rows.boot_isinstance (zaa (rp_v (pv 0)) (zaa (rp_e (r_c (zcy (v := .ty "list") (by rfl) T.n_list PyProof.Rows.boot_list rfl) fun _ _ _ => .ty _)) zac))))) (zen (zax zm2 zpw (zay _) (rp_e (r_b zcu (zbq rfl) (by rfl) T.n_len PySem.boot_len (zaa (rp_v (pv 0)) zac))) (rp_e (r_c (zgw (v := .int 16) (by rfl) T.c_MOST_ROWS ⟨_, rfl⟩) fun _ _ _ => .int _)))))) (zae (zau r_bl)) zaz) (zae (zau (r_b zqg (zlb rfl rfl) (by rfl) T.n_all PyProof.Rows.boot_all (zaa (rp_e (zlt (loc := ["row"]) (free := []) (fr := []) rfl (zbv (sc := zaf zbh) (N := (["thing"] : List Str)) rfl rfl (by decide +kernel)) (zb1 rfl (rp_v (pv 0))) (fun _ _ _ _ _ => (zah (pgc 0 (["row"] : List Str) (by decide +kernel) rfl rfl (Or.inl rfl) rfl))) (fun _ _ _ _ _ => zkz) (fun _ _ _ _ _ => (zaq zdz (zd9 T) (hr.mono (by decide)) (by rfl) T.d_is_calendar_row.g T.d_is_calendar_row.F.kp T.d_is_calendar_row.b zve (zaa (rp_v (pv 0)) zac))))) zac)))))
theorem zmo (T : Txt K mg) : FnOk P w K mg base (XT P w) 3 T.f_is_rest T.fd_is_rest ["thing"] (spOf (kx T) 1 f_is_rest) := fn3 T.d_is_rest.F zka fun cdv A outer s H E hr => by unfold ze9; exact (zae (zau (zaq zbj (zbo T) (hr.mono (by decide)) (by rfl) T.d_is_whole_between.g T.d_is_whole_between.F.kp T.d_is_whole_between.b za7 (zaa (rp_v (pv 0)) (zaa (rp_e zad) (zaa (rp_e (r_c (zgw (v := .int 16) (by rfl) T.c_MOST_MACHINES ⟨_, rfl⟩) fun _ _ _ => .int _)) zac))))))
theorem zfq (T : Txt K mg) : FnOk P w K mg base (XT P w) 6 T.f_Calendar_init T.fd_Calendar_init ["self", "rows", "rest"] (spOf (kx T) 3 f_Calendar_init) := fn3 T.d_Calendar_init.F zew fun cdv A outer s H E hr => by unfold zca; exact (zab (zbf (PW.pt (zgy (zcp (zdi (zaq zde (zdo T) (hr.mono (by decide)) (by rfl) T.d_are_calendar_rows.g T.d_are_calendar_rows.F.kp T.d_are_calendar_rows.b za7 (zaa (rp_v (pv 1)) zac)))) (zen (zcp (zdi (zaq zkl (zmo T) (hr.mono (by decide)) (by rfl) T.d_is_rest.g T.d_is_rest.F.kp T.d_is_rest.b za7 (zaa (rp_v (pv 2)) zac))))))) (zae zna) zaz) (zab (zpl (Flds.cons rfl T.cl_Calendar T.na_Calendar_stretches Flds.nil) (rp_v (pv 0)) (zaq zhy (zh5 T) (hr.mono (by decide)) (by rfl) T.d_kept_rows.g T.d_kept_rows.F.kp T.d_kept_rows.b za7 (zaa (rp_v (pv 1)) (zaa (rp_v (pv 2)) zac)))) (zae (zpl (Flds.cons rfl T.cl_Calendar T.na_Calendar_beyond Flds.nil) (rp_v (pv 0)) (r_v (pv 2))))))
theorem zgc (T : Txt K mg) : FnOk P w K mg base (XT P w) 1 T.f_Calendar_at T.fd_Calendar_at ["self", "turn"] (spOf (kx T) 2 f_Calendar_at) := fn3 T.d_Calendar_at.F sc_Calendar_at fun cdv A outer s H E hr => by unfold zcq zb6; exact (zab (zap (i := 2) sc_Calendar_at.nd rfl (Or.inl rfl) zad) (zab (zcl PassesOwn.leaving rfl (zb1 rfl (rp_e (zs5 (Flds.cons rfl T.cl_Calendar T.na_Calendar_stretches Flds.nil) (rp_v (pv 0))))) (zdj (n := 2) (zdh rfl (zal (zah (zai (i := 3) sc_Calendar_at.nd rfl (Or.inl rfl))) (zal (zah (zai (i := 4) sc_Calendar_at.nd rfl (Or.inl rfl))) zcj zan) zan)) (zam (zam zci))) (zab (ztm (i := 2) zlw (fun h => zrt sc_Calendar_at.nd rfl (Or.inl rfl) h zt1) (rp_v (pv 3))) (zae (zbf (zax zfy zkn (zay _) (rp_v (pv 1)) (rp_v (pv 2))) (zae (zcw (pv 4))) zaz)))) (zae (zau (zs5 (Flds.cons rfl T.cl_Calendar T.na_Calendar_beyond Flds.nil) (rp_v (pv 0)))))))
theorem zhd (T : Txt K mg) : FnOk P w K mg base (XT P w) 2 T.f_fault_word T.fd_fault_word ["row", "job", "calendar", "ahead"] (spOf (kx T) 4 f_fault_word) := fn3 T.d_fault_word.F sc_fault_word fun cdv A outer s H E hr => by unfold zat; exact (zab (zjs (r_v (pv 0)) (zdj (n := 3) (zdh rfl (zal (zah (zai (i := 4) sc_fault_word.nd rfl (Or.inl rfl))) (zal (zah (zai (i := 5) sc_fault_word.nd rfl (Or.inl rfl))) (zal (zah (zai (i := 6) sc_fault_word.nd rfl (Or.inl rfl))) zcj zan) zan) zan)) (zam (zam (zam zci)))) zg8) (zab (zbf (zax zqu ztp (zay _) (rp_v (pv 1)) (rp_e zls)) (zae (zau zcn)) zaz) (zab (zbf (zcp (zge zfz zfz zkq zkq (rp_e (r_ix za4 (za3 rfl) (fun _ _ => rfl) (rp_v (pv 1)) (rp_e zad))) (rp_v (pv 4)) (rp_e (r_ix za4 (za3 rfl) (fun _ _ => rfl) (rp_v (pv 1)) (rp_e zad))))) (zae (zau zcn)) zaz) (zab (zbf (zcp (zge zfz zfy zkq zkn (rp_e zad) (rp_v (pv 5)) (rp_e (zsi rfl zft (rp_v (pv 2)) T.cl_Calendar T.m_Calendar_at (zgc T) (hr.mono (by decide)) T.d_Calendar_at.b za7 (zaa (rp_v (pv 4)) zac))))) (zae (zau zcn)) zaz) (zab (zbf (zax zq0 (ztw (hu1 hr)) (by with_unfolding_all rfl) (rp_e (zdv (zaa (rp_v (pv 4)) (zaa (rp_v (pv 5)) zac)))) (rp_v (pv 3))) (zae (zau zcn)) zaz) (zab (zbf (zax zjv zn8 (zay _) (rp_e (zis (hu1 hr) (rp_v (pv 3)) (rp_e (zdv (zaa (rp_v (pv 4)) (zaa (rp_v (pv 6)) zac)))) (rp_e zad) ⟨rfl, rfl, rfl, rfl⟩)) (rp_e (r_ix za4 (za3 rfl) (fun _ _ => rfl) (rp_v (pv 1)) (rp_e zad)))) (zae (zau zcn)) zaz) (zab (zbf (zax zjv zn8 (zay _) (rp_e (zis (hu1 hr) (rp_v (pv 3)) (rp_v (pv 6)) (rp_e zad) ⟨rfl, rfl, rfl, rfl⟩)) (rp_e (r_ix za4 (za3 rfl) (fun _ _ => rfl) (rp_v (pv 1)) (rp_e zad)))) (zae (zau zcn)) zaz) (zae (zau zls)))))))))
theorem zh0 (T : Txt K mg) : FnOk P w K mg base (XT P w) 1 T.f_count_row T.fd_count_row ["row", "ahead"] (spOf (kx T) 2 f_count_row) := fn3 T.d_count_row.F sc_count_row fun cdv A outer s H E hr => by unfold zdr zcv; exact (zab (zjs (r_v (pv 0)) (zdj (n := 3) (zdh rfl (zal (zah (zai (i := 2) sc_count_row.nd rfl (Or.inl rfl))) (zal (zah (zai (i := 3) sc_count_row.nd rfl (Or.inl rfl))) (zal (zah (zai (i := 4) sc_count_row.nd rfl (Or.inl rfl))) zcj zan) zan) zan)) (zam (zam (zam zci)))) zg8) (zae (zcl PassesOwn.leaving rfl (zb1 rfl (rp_e (zd1 (zaa (rp_e (zdv (zaa (rp_v (pv 2)) (zaa (rp_v (pv 3)) zac)))) (zaa (rp_e (zdv (zaa (rp_v (pv 2)) (zaa (rp_v (pv 4)) zac)))) (zaa (rp_v (pv 4)) zac)))))) (zah (zai (i := 5) sc_count_row.nd rfl (Or.inl rfl))) (zae (zl1 (hu1 hr) (zag za2 za1 (rp_e (zis (hu1 hr) (rp_v (pv 1)) (rp_v (pv 5)) (rp_e zad) ⟨rfl, rfl, rfl, rfl⟩)) (rp_e zad)) (rp_v (pv 1)) (rp_v (pv 5)))))))
theorem zd3 (T : Txt K mg) : FnOk P w K mg base (XT P w) 3 T.f_faults T.fd_faults ["load", "calendar", "plan"] (spOf (kx T) 3 f_faults) := fn3 T.d_faults.F sc_faults fun cdv A outer s H E hr => by unfold zgx zea zei; exact (zab (zap (i := 3) sc_faults.nd rfl (Or.inl rfl) zr8) (zab (zcl PassesOwn.leaving rfl (zb1 rfl (rp_v (pv 0))) (zah (zai (i := 4) sc_faults.nd rfl (Or.inl rfl))) (zae (zl1 (hu1 hr) (r_v (pv 4)) (rp_v (pv 3)) (rp_e (r_ix za4 (za3 rfl) (fun _ _ => rfl) (rp_v (pv 4)) (rp_e zad)))))) (zab (zap (i := 5) sc_faults.nd rfl (Or.inl rfl) (r_gl zr8)) (zab (zap (i := 6) sc_faults.nd rfl (Or.inl rfl) (zd1 zac)) (zab (zcl PassesOwn.leaving rfl (zib rfl rfl T.n_enumerate (zaa (rp_v (pv 2)) zac)) (zdj (n := 2) (zdh rfl (zal (zah (zai (i := 7) sc_faults.nd rfl (Or.inl rfl))) (zal (zah (zai (i := 8) sc_faults.nd rfl (Or.inl rfl))) zcj zan) zan)) (zam (zam zci))) (zab (zap (i := 9) sc_faults.nd rfl (Or.inl rfl) (zaq zgl (zhd T) (hr.mono (by decide)) (by rfl) T.d_fault_word.g T.d_fault_word.F.kp T.d_fault_word.b za7 (zaa (rp_v (pv 8)) (zaa (rp_e (zrg (hu1 hr) (rp_v (pv 3)) (rp_e (r_ix za4 (za3 rfl) (fun _ _ => rfl) (rp_v (pv 8)) (rp_e zad))) ⟨rfl, rfl, rfl, rfl⟩)) (zaa (rp_v (pv 1)) (zaa (rp_v (pv 5)) zac)))))) (zab (zbf (zax zi9 zmu (zay _) (rp_v (pv 9)) (rp_e zls)) (zbn 9 (zae (zhz zb2 rfl PySem.F.slot_list_append PySem.F.type_list_append zbw (rp_v (pv 6)) (zaa (rp_e (zdv (zaa (rp_v (pv 7)) (zaa (rp_v (pv 9)) zac)))) zac)))) zaz) (zae (zso (zaq zhg (zh0 T) (hr.mono (by decide)) (by rfl) T.d_count_row.g T.d_count_row.F.kp T.d_count_row.b za7 (zaa (rp_v (pv 8)) (zaa (rp_v (pv 5)) zac)))))))) (zae (zcw (pv 6))))))))
theorem zik (T : Txt K mg) : FnOk P w K mg base (XT P w) 1 T.f_law_whole T.fd_law_whole ["_law_found"] (spOf (kx T) 1 f_law_whole) := fn3 T.d_law_whole.F zho fun cdv A outer s H E hr => by unfold zdn; exact (zae (zau (znd (r_b zcx (zby rfl) (by rfl) T.n_isinstance PyProof.Rows.boot_isinstance (zaa (rp_v (pv 0)) (zaa (rp_e (r_c (zcy (v := .ty "int") (by rfl) T.n_int PyProof.Rows.boot_int rfl) fun _ _ _ => .ty _)) zac))) (zot (zst (r_b zcx (zby rfl) (by rfl) T.n_isinstance PyProof.Rows.boot_isinstance (zaa (rp_v (pv 0)) (zaa (rp_e (r_c (zcy (v := .ty "bool") (by rfl) T.n_bool PyProof.Rows.boot_bool rfl) fun _ _ _ => .ty _)) zac))))))))
theorem zeh (T : Txt K mg) : FnOk P w K mg base (XT P w) 2 T.f_law_told T.fd_law_told ["_law_found", "_law_due_here"] (spOf (kx T) 2 f_law_told) := fn3 T.d_law_told.F sc_law_told fun cdv A outer s H E hr => by unfold zd8 zc8; exact (zab (zbf (PW.pt (zgy (zcp (zdi (r_b zcx (zby rfl) (by rfl) T.n_isinstance PyProof.Rows.boot_isinstance (zaa (rp_v (pv 0)) (zaa (rp_e (r_c (zcy (v := .ty "list") (by rfl) T.n_list PyProof.Rows.boot_list rfl) fun _ _ _ => .ty _)) zac))))) (zen (zax zg7 (zhq (hu9 hr)) (zay _) (rp_v (pv 0)) (rp_v (pv 1)))))) (zae (zau r_bl)) zaz) (zab (zcl PassesOwn.leaving rfl (zb1 rfl (rp_v (pv 0))) (zah (zai (i := 2) sc_law_told.nd rfl (Or.inl rfl))) (zae (zbf (PW.pt (zgy (zcp (zdi (r_b zcx (zby rfl) (by rfl) T.n_isinstance PyProof.Rows.boot_isinstance (zaa (rp_v (pv 2)) (zaa (rp_e (r_c (zcy (v := .ty "tuple") (by rfl) T.n_tuple PyProof.Rows.boot_tuple rfl) fun _ _ _ => .ty _)) zac))))) (zgy (zcp (zdi (zaq zhj (zik T) (hr.mono (by decide)) (by rfl) T.d_law_whole.g T.d_law_whole.F.kp T.d_law_whole.b za7 (zaa (rp_e (r_ix za4 (za3 rfl) (fun _ _ => rfl) (rp_v (pv 2)) (rp_e zad))) zac)))) (zen (zcp (zdi (r_b zcx (zby rfl) (by rfl) T.n_isinstance PyProof.Rows.boot_isinstance (zaa (rp_e (r_ix za4 (za3 rfl) (fun _ _ => rfl) (rp_v (pv 2)) (rp_e zad))) (zaa (rp_e (r_c (zcy (v := .ty "str") (by rfl) T.n_str PyProof.Rows.boot_str rfl) fun _ _ _ => .ty _)) zac))))))))) (zae (zau r_bl)) zaz))) (zae (zau r_bl))))
theorem znt (T : Txt K mg) : FnOk P w K mg base (XT P w) 1 T.f_law_at T.fd_law_at ["_law_rows", "_law_rest", "_law_turn"] (spOf (kx T) 3 f_law_at) := fn3 T.d_law_at.F sc_law_at fun cdv A outer s H E hr => by unfold zgp zej; exact (zab (zcl PassesOwn.leaving rfl (zb1 rfl (rp_v (pv 0))) (zdj (n := 2) (zdh rfl (zal (zah (zai (i := 3) sc_law_at.nd rfl (Or.inl rfl))) (zal (zah (zai (i := 4) sc_law_at.nd rfl (Or.inl rfl))) zcj zan) zan)) (zam (zam zci))) (zab (zbf (zax zfy zkn (zay _) (rp_v (pv 2)) (rp_v (pv 3))) (zae (zcw (pv 4))) zaz) (zae (zap (i := 2) sc_law_at.nd rfl (Or.inl rfl) (zag zfb zhc (rp_v (pv 2)) (rp_v (pv 3))))))) (zae (zcw (pv 1))))
theorem zkp (T : Txt K mg) : FnOk P w K mg base (XT P w) 2 T.f_law_word T.fd_law_word ["_law_load_here", "_law_rows", "_law_rest", "_law_ahead", "_law_row_here"] (spOf (kx T) 5 f_law_word) := fn3 T.d_law_word.F sc_law_word fun cdv A outer s H E hr => by unfold zd7 zcd zce zcc zcf; exact (zab (zjs (r_v (pv 4)) (zdj (n := 3) (zdh rfl (zal (zah (zai (i := 5) sc_law_word.nd rfl (Or.inr rfl))) (zal (zah (zai (i := 6) sc_law_word.nd rfl (Or.inl rfl))) (zal (zah (zai (i := 7) sc_law_word.nd rfl (Or.inr rfl))) zcj zan) zan) zan)) (zam (zam (zam zci)))) zg8) (zab (zf6 (i := 8) sc_law_word.nd rfl (by rfl) (loc := ["_law_job"]) (free := ["_law_name"]) (fr := [7]) rfl (zbv (sc := zaf zb0) (N := (["_law_load_here", "_law_rows", "_law_rest", "_law_ahead", "_law_row_here", "_law_turn", "_law_machine", "_law_name", "_law_mine", "_law_first", "_law_last", "_law_work", "_law_breadth", "_law_same"] : List Str)) rfl rfl (by decide +kernel)) (zb1 rfl (rp_v (pv 0))) (fun _ _ _ _ _ => (zah (pgc 0 (["_law_job", "_law_name"] : List Str) (by decide +kernel) rfl rfl (Or.inl rfl) rfl))) (fun _ _ _ _ _ => (zie (zax zc4 (zc2 (hu9 hr)) (zay _) (rp_e (r_ix za4 (za3 rfl) (fun _ _ => rfl) (rp_v (pv 0)) (rp_e zad))) (rp_v (pv 1))))) (fun _ _ _ _ _ => (r_v (pv 0)))) (zab (zbf (zax zc4 (zc2 (hu9 hr)) (zay _) (rp_v (pv 8)) (rp_e (zd1 zac))) (zae (zau zcn)) zaz) (zab (zjs (r_sl rfl (rp_e (r_ix za4 (za3 rfl) (fun _ _ => rfl) (rp_v (pv 8)) (rp_e zad))) (zkw (rp_e zad)) zkt) (zdj (n := 4) (zdh rfl (zal (zah (zai (i := 9) sc_law_word.nd rfl (Or.inl rfl))) (zal (zah (zai (i := 10) sc_law_word.nd rfl (Or.inl rfl))) (zal (zah (zai (i := 11) sc_law_word.nd rfl (Or.inl rfl))) (zal (zah (zai (i := 12) sc_law_word.nd rfl (Or.inl rfl))) zcj zan) zan) zan) zan)) (zam (zam (zam (zam zci))))) zg8) (zab (zbf (PW.pt (zgy (zax zfy zkn (zay _) (rp_v (pv 5)) (rp_v (pv 9))) (zen (zax zm2 zpw (zay _) (rp_v (pv 5)) (rp_v (pv 10)))))) (zae (zau zcn)) zaz) (zab (zbf (zcp (zge zfz zfy zkq zkn (rp_e zad) (rp_v (pv 6)) (rp_e (zaq zlr (znt T) (hr.mono (by decide)) (by rfl) T.d_law_at.g T.d_law_at.F.kp T.d_law_at.b za7 (zaa (rp_v (pv 1)) (zaa (rp_v (pv 2)) (zaa (rp_v (pv 5)) zac))))))) (zae (zau zcn)) zaz) (zab (zbf (zax ztb (ztn rfl (hu9 hr)) (by with_unfolding_all rfl) (rp_e (zdv (zaa (rp_v (pv 5)) (zaa (rp_v (pv 6)) zac)))) (rp_e (zlt (loc := ["_law_one"]) (free := []) (fr := []) rfl (zbv (sc := zaf zb0) (N := (["_law_load_here", "_law_rows", "_law_rest", "_law_ahead", "_law_row_here", "_law_turn", "_law_machine", "_law_name", "_law_mine", "_law_first", "_law_last", "_law_work", "_law_breadth", "_law_same"] : List Str)) rfl rfl (by decide +kernel)) (zb1 rfl (rp_v (pv 3))) (fun _ _ _ _ _ => (zah (pgc 0 (["_law_one"] : List Str) (by decide +kernel) rfl rfl (Or.inl rfl) rfl))) (fun _ _ _ _ _ => zkz) (fun _ _ _ _ _ => (r_sl rfl (rp_v (pv 0)) zkt (zkw (rp_e zad))))))) (zae (zau zcn)) zaz) (zab (zf6 (i := 13) sc_law_word.nd rfl (by rfl) (loc := ["_law_one"]) (free := ["_law_name"]) (fr := [7]) rfl (zbv (sc := zaf zb0) (N := (["_law_load_here", "_law_rows", "_law_rest", "_law_ahead", "_law_row_here", "_law_turn", "_law_machine", "_law_name", "_law_mine", "_law_first", "_law_last", "_law_work", "_law_breadth", "_law_same"] : List Str)) rfl rfl (by decide +kernel)) (zb1 rfl (rp_v (pv 3))) (fun _ _ _ _ _ => (zah (pgc 0 (["_law_one", "_law_name"] : List Str) (by decide +kernel) rfl rfl (Or.inl rfl) rfl))) (fun _ _ _ _ _ => (zie (zax zc4 (zc2 (hu9 hr)) (zay _) (rp_e (r_ix za4 (za3 rfl) (fun _ _ => rfl) (rp_v (pv 0)) (rp_e zad))) (rp_v (pv 1))))) (fun _ _ _ _ _ => (r_v (pv 0)))) (zbn 13 (zab (zbf (zax zjv zn8 (zay _) (rp_e (r_b zcu (zbq rfl) (by rfl) T.n_len PySem.boot_len (zaa (rp_e (zlt (loc := ["_law_one"]) (free := ["_law_turn"]) (fr := [5]) rfl (zbv (sc := zaf zb0) (N := (["_law_load_here", "_law_rows", "_law_rest", "_law_ahead", "_law_row_here", "_law_turn", "_law_machine", "_law_name", "_law_mine", "_law_first", "_law_last", "_law_work", "_law_breadth", "_law_same"] : List Str)) rfl rfl (by decide +kernel)) (zb1 rfl (rp_v (pv 13))) (fun _ _ _ _ _ => (zah (pgc 0 (["_law_one", "_law_turn"] : List Str) (by decide +kernel) rfl rfl (Or.inl rfl) rfl))) (fun _ _ _ _ _ => (zie (zax zc4 (zc2 (hu9 hr)) (zay _) (rp_e (r_ix za4 (za3 rfl) (fun _ _ => rfl) (rp_v (pv 0)) (rp_e zad))) (rp_v (pv 1))))) (fun _ _ _ _ _ => (r_v (pv 0))))) zac))) (rp_v (pv 12))) (zae (zau zcn)) zaz) (zab (zbf (zax zjv zn8 (zay _) (rp_e (r_b zcu (zbq rfl) (by rfl) T.n_len PySem.boot_len (zaa (rp_v (pv 13)) zac))) (rp_v (pv 11))) (zae (zau zcn)) zaz) (zae (zau zls)))))))))))))
theorem zfe (T : Txt K mg) : FnOk P w K mg base (XT P w) 3 T.f_law_due T.fd_law_due ["_law_load_here", "_law_rows", "_law_rest", "_law_plan"] (spOf (kx T) 4 f_law_due) := fn3 T.d_law_due.F sc_law_due fun cdv A outer s H E hr => by unfold ze5 zdt; exact (zab (zap (i := 4) sc_law_due.nd rfl (Or.inl rfl) (zd1 zac)) (zab (zcl PassesOwn.leaving rfl (zib rfl rfl T.n_enumerate (zaa (rp_v (pv 3)) zac)) (zdj (n := 2) (zdh rfl (zal (zah (zai (i := 5) sc_law_due.nd rfl (Or.inl rfl))) (zal (zah (zai (i := 6) sc_law_due.nd rfl (Or.inl rfl))) zcj zan) zan)) (zam (zam zci))) (zab (zap (i := 7) sc_law_due.nd rfl (Or.inl rfl) (zaq zig (zkp T) (hr.mono (by decide)) (by rfl) T.d_law_word.g T.d_law_word.F.kp T.d_law_word.b za7 (zaa (rp_v (pv 0)) (zaa (rp_v (pv 1)) (zaa (rp_v (pv 2)) (zaa (rp_e (r_sl rfl (rp_v (pv 3)) zkt (zkw (rp_v (pv 5))))) (zaa (rp_v (pv 6)) zac))))))) (zae (zbf (zax zi9 zmu (zay _) (rp_v (pv 7)) (rp_e zls)) (zbn 7 (zae (zhz zb2 rfl PySem.F.slot_list_append PySem.F.type_list_append zbw (rp_v (pv 4)) (zaa (rp_e (zdv (zaa (rp_v (pv 5)) (zaa (rp_v (pv 7)) zac)))) zac)))) zaz)))) (zae (zcw (pv 4)))))
theorem zmh (T : Txt K mg) : FnOk P w K mg base (XT P w) 1 T.f_law_row T.fd_law_row ["_law_cell_here", "_law_load_here", "_law_names_here"] (spOf (kx T) 3 f_law_row) := fn3 T.d_law_row.F sc_law_row fun cdv A outer s H E hr => by unfold zfh; exact (zab (zap (i := 3) sc_law_row.nd rfl (Or.inl rfl) (zag zas za5 (rp_v (pv 0)) (rp_e zad))) (zab (zbf (zax zc4 (zc2 (hu9 hr)) (zay _) (rp_e (zag zas za5 (rp_e (zag zbc zbd (rp_v (pv 0)) (rp_e zad))) (rp_e zad))) (rp_e zad)) (zae (zap (i := 3) sc_law_row.nd rfl (Or.inl rfl) (zag zfb zhc (rp_e (zag zas za5 (rp_e (zag zbc zbd (rp_v (pv 0)) (rp_e zad))) (rp_e (zag zc7 zc1 (rp_e zad) (rp_e (zag zgu zi2 (rp_e zad) (rp_e zad))))))) (rp_e (zag zgu zi2 (rp_e zad) (rp_e zad)))))) zaz) (zab (zap (i := 4) sc_law_row.nd rfl (Or.inl rfl) (zag zfb zhc (rp_e (zag zas za5 (rp_e (zag zbc zbd (rp_v (pv 0)) (rp_e zad))) (rp_e zad))) (rp_e zad))) (zab (zbf (zax zc4 (zc2 (hu9 hr)) (zay _) (rp_e (zag zas za5 (rp_e (zag zbc zbd (rp_v (pv 0)) (rp_e zad))) (rp_e zad))) (rp_e zad)) (zae (zap (i := 4) sc_law_row.nd rfl (Or.inl rfl) (zag zfb zhc (rp_e (zag zas za5 (rp_e (zag zbc zbd (rp_v (pv 0)) (rp_e zad))) (rp_e (zag zc7 zc1 (rp_e zad) (rp_e (zag zgu zi2 (rp_e zad) (rp_e zad))))))) (rp_e (zag zgu zi2 (rp_e zad) (rp_e zad)))))) zaz) (zab (zap (i := 5) sc_law_row.nd rfl (Or.inl rfl) (r_ix za4 (za3 rfl) (fun _ _ => rfl) (rp_e (r_ix za4 (za3 rfl) (fun _ _ => rfl) (rp_v (pv 1)) (rp_e (zag zas za5 (rp_e (zag zbc zbd (rp_v (pv 0)) (rp_e zad))) (rp_e (r_b zcu (zbq rfl) (by rfl) T.n_len PySem.boot_len (zaa (rp_v (pv 1)) zac))))))) (rp_e zad))) (zab (zbf (zax zc4 (zc2 (hu9 hr)) (zay _) (rp_e (zag zas za5 (rp_e (zag zbc zbd (rp_v (pv 0)) (rp_e zad))) (rp_e zad))) (rp_e zad)) (zae (zap (i := 5) sc_law_row.nd rfl (Or.inl rfl) (r_ix za4 (za3 rfl) (fun _ _ => rfl) (rp_e (zd1 (zaa (rp_e (r_ix za4 (za3 rfl) (fun _ _ => rfl) (rp_v (pv 2)) (rp_e (zjw (rp_e zad))))) (zaa (rp_e zcn) (zaa (rp_e (zag za2 za1 (rp_v (pv 5)) (rp_e zcn))) (zaa (rp_e zcn) zac)))))) (rp_e (zag zas za5 (rp_e (zag zbc zbd (rp_v (pv 0)) (rp_e zad))) (rp_e zad)))))) zaz) (zae (zau (zdv (zaa (rp_v (pv 3)) (zaa (rp_v (pv 4)) (zaa (rp_v (pv 5)) zac))))))))))))
theorem G_law (T : Txt K mg) : FnOk P w K mg base (XT P w) 8 T.f_law T.fd_law ["_law_script"] (spOf (kx T) 1 f_law) := fn3 T.d_law.F sc_law fun cdv A outer s H E hr => by unfold zp5 zh6 zif; exact (zab (zap (i := 1) sc_law.nd rfl (Or.inl rfl) (zd1 zac)) (zab (zap (i := 2) sc_law.nd rfl (Or.inl rfl) (zag zbc zbd (rp_e (zaq za8 (zbe T) (hr.mono (by decide)) (by rfl) T.d_law_cell.g T.d_law_cell.F.kp T.d_law_cell.b za7 (zaa (rp_v (pv 0)) (zaa (rp_e zad) zac)))) (rp_e zad))) (zab (zcl PassesOwn.leaving rfl (zfk rfl T.n_range (zaa (rp_e (zag zas za5 (rp_e (zaq za8 (zbe T) (hr.mono (by decide)) (by rfl) T.d_law_cell.g T.d_law_cell.F.kp T.d_law_cell.b za7 (zaa (rp_v (pv 0)) (zaa (rp_e zad) zac)))) (rp_e zad))) zac)) (zah (zai (i := 3) sc_law.nd rfl (Or.inl rfl))) (zab (zhz zb2 rfl PySem.F.slot_list_append PySem.F.type_list_append zbw (rp_v (pv 1)) (zaa (rp_e (zdv (zaa (rp_e (zag za2 za1 (rp_e zad) (rp_e (zag zas za5 (rp_v (pv 2)) (rp_e zad))))) (zaa (rp_e (zag zas za5 (rp_e (zag zbc zbd (rp_v (pv 2)) (rp_e zad))) (rp_e zad))) zac)))) zac)) (zae (zap (i := 2) sc_law.nd rfl (Or.inl rfl) (zag za2 za1 (rp_e (zag zbc zbd (rp_v (pv 2)) (rp_e zad))) (rp_e (zaq za8 (zbe T) (hr.mono (by decide)) (by rfl) T.d_law_cell.g T.d_law_cell.F.kp T.d_law_cell.b za7 (zaa (rp_v (pv 0)) (zaa (rp_e zad) zac))))))))) (zab (zap (i := 4) sc_law.nd rfl (Or.inl rfl) (zag za2 za1 (rp_e zad) (rp_e (zag zas za5 (rp_e (zaq za8 (zbe T) (hr.mono (by decide)) (by rfl) T.d_law_cell.g T.d_law_cell.F.kp T.d_law_cell.b za7 (zaa (rp_v (pv 0)) (zaa (rp_e zad) zac)))) (rp_e zad))))) (zab (zap (i := 5) sc_law.nd rfl (Or.inl rfl) (zaq zhk (zic T) (hr.mono (by decide)) (by rfl) T.d_law_names.g T.d_law_names.F.kp T.d_law_names.b za7 (zaa (rp_e (zaq za8 (zbe T) (hr.mono (by decide)) (by rfl) T.d_law_cell.g T.d_law_cell.F.kp T.d_law_cell.b za7 (zaa (rp_v (pv 0)) (zaa (rp_e zad) zac)))) (zaa (rp_e (zag za2 za1 (rp_e zad) (rp_e (zag zas za5 (rp_e (zag zbc zbd (rp_e (zaq za8 (zbe T) (hr.mono (by decide)) (by rfl) T.d_law_cell.g T.d_law_cell.F.kp T.d_law_cell.b za7 (zaa (rp_v (pv 0)) (zaa (rp_e zad) zac)))) (rp_e zad))) (rp_e zad))))) zac)))) (zbn 5 (zab (zap (i := 6) sc_law.nd rfl (Or.inl rfl) (zaq zii (zj3 T) (hr.mono (by decide)) (by rfl) T.d_law_load.g T.d_law_load.F.kp T.d_law_load.b za7 (zaa (rp_v (pv 0)) (zaa (rp_v (pv 5)) zac)))) (zab (zap (i := 7) sc_law.nd rfl (Or.inl rfl) (zd1 zac)) (zab (zcl PassesOwn.leaving rfl (zlx rfl T.n_range (zaa (rp_e zad) (zaa (rp_e (r_b zq2 (zm3 rfl) (by rfl) T.n_max PyProof.Rows.boot_max (zaa (rp_e zad) (zaa (rp_e (r_b zqn (zly rfl) (by rfl) T.n_min PyProof.Rows.boot_min (zaa (rp_e (r_b zcu (zbq rfl) (by rfl) T.n_len PySem.boot_len (zaa (rp_v (pv 0)) zac))) (zaa (rp_e zad) zac)))) zac)))) zac))) (zah (zai (i := 3) sc_law.nd rfl (Or.inl rfl))) (zbn 5 (zbn 6 (zae (zhz zb2 rfl PySem.F.slot_list_append PySem.F.type_list_append zbw (rp_v (pv 7)) (zaa (rp_e (zaq zkb (zmh T) (hr.mono (by decide)) (by rfl) T.d_law_row.g T.d_law_row.F.kp T.d_law_row.b za7 (zaa (rp_e (zaq za8 (zbe T) (hr.mono (by decide)) (by rfl) T.d_law_cell.g T.d_law_cell.F.kp T.d_law_cell.b za7 (zaa (rp_v (pv 0)) (zaa (rp_v (pv 3)) zac)))) (zaa (rp_v (pv 6)) (zaa (rp_v (pv 5)) zac))))) zac)))))) (zbn 4 (zbn 1 (zab (zap (i := 8) sc_law.nd rfl (Or.inl rfl) (zvq (zui rfl zex T.M_Calendar (zfq T) (hr.mono (by decide)) (by rfl) T.g_Calendar T.d_Calendar_init.b za7 (zaa (rp_v (pv 1)) (zaa (rp_v (pv 4)) zac))))) (zab (zap (i := 9) sc_law.nd rfl (Or.inl rfl) (r_gl (r_ty zom (zks rfl) (by rfl) T.n_list PyProof.Rows.boot_list (zaa (rp_v (pv 7)) zac)))) (zbn 9 (zbn 8 (zbn 6 (zab (zap (i := 10) sc_law.nd rfl (Or.inl rfl) (r_gl (zaq zc5 (zd3 T) (hr.mono (by decide)) (by rfl) T.d_faults.g T.d_faults.F.kp T.d_faults.b za7 (zaa (rp_v (pv 6)) (zaa (rp_v (pv 8)) (zaa (rp_v (pv 9)) zac)))))) (zbn 7 (zbn 4 (zbn 1 (zbn 6 (zab (zbf (PW.pt (zgy (zcp (zdi (zaq zdu (zeh T) (hr.mono (by decide)) (by rfl) T.d_law_told.g T.d_law_told.F.kp T.d_law_told.b za7 (zaa (rp_v (pv 10)) (zaa (rp_e (zaq zef (zfe T) (hr.mono (by decide)) (by rfl) T.d_law_due.g T.d_law_due.F.kp T.d_law_due.b za7 (zaa (rp_v (pv 6)) (zaa (rp_v (pv 1)) (zaa (rp_v (pv 4)) (zaa (rp_v (pv 7)) zac)))))) zac))))) (zen (zax zg7 (zhq (hu9 hr)) (zay _) (rp_v (pv 9)) (rp_v (pv 7)))))) (zae (zau r_bl)) zaz) (zab (zpe zop rfl PySem.F.slot_list_clear PySem.F.type_list_clear zoa (rp_v (pv 10))) (zab (zap (i := 11) sc_law.nd rfl (Or.inl rfl) (r_sl rfl (rp_v (pv 7)) (zkw (rp_e (zag za2 za1 (rp_e zad) (rp_e (zag zas za5 (rp_e (zaq za8 (zbe T) (hr.mono (by decide)) (by rfl) T.d_law_cell.g T.d_law_cell.F.kp T.d_law_cell.b za7 (zaa (rp_v (pv 0)) (zaa (rp_e zad) zac)))) (rp_e zad)))))) zkt)) (zbn 4 (zbn 1 (zbn 11 (zbn 8 (zbn 6 (zab (zbf (zcp (zdi (zaq zdu (zeh T) (hr.mono (by decide)) (by rfl) T.d_law_told.g T.d_law_told.F.kp T.d_law_told.b za7 (zaa (rp_e (zaq zc5 (zd3 T) (hr.mono (by decide)) (by rfl) T.d_faults.g T.d_faults.F.kp T.d_faults.b za7 (zaa (rp_v (pv 6)) (zaa (rp_v (pv 8)) (zaa (rp_v (pv 11)) zac))))) (zaa (rp_e (zaq zef (zfe T) (hr.mono (by decide)) (by rfl) T.d_law_due.g T.d_law_due.F.kp T.d_law_due.b za7 (zaa (rp_v (pv 6)) (zaa (rp_v (pv 1)) (zaa (rp_v (pv 4)) (zaa (rp_v (pv 11)) zac)))))) zac))))) (zae (zau r_bl)) zaz) (zbn 8 (zbn 6 (zab (zbf (PW.pt (zgy (zax zg7 (zhq (hu9 hr)) (zay _) (rp_e (zaq zc5 (zd3 T) (hr.mono (by decide)) (by rfl) T.d_faults.g T.d_faults.F.kp T.d_faults.b za7 (zaa (rp_v (pv 6)) (zaa (rp_v (pv 8)) (zaa (rp_e (zd1 zac)) zac))))) (rp_e (zd1 zac))) (zen (zax zg7 (zhq (hu9 hr)) (zay _) (rp_e (zaq zc5 (zd3 T) (hr.mono (by decide)) (by rfl) T.d_faults.g T.d_faults.F.kp T.d_faults.b za7 (zaa (rp_e (zd1 zac)) (zaa (rp_v (pv 8)) (zaa (rp_e (r_sl rfl (rp_v (pv 7)) zkt (zkw (rp_e zad)))) zac))))) (rp_e (zd1 (zaa (rp_e (zdv (zaa (rp_e zad) (zaa (rp_e zcn) zac)))) (zaa (rp_e (zdv (zaa (rp_e zad) (zaa (rp_e zcn) zac)))) zac)))))))) (zae (zau r_bl)) zaz) (zbn 7 (zbn 4 (zbn 1 (zbn 9 (zbn 8 (zbn 6 (zae (zau (zaq zdu (zeh T) (hr.mono (by decide)) (by rfl) T.d_law_told.g T.d_law_told.F.kp T.d_law_told.b za7 (zaa (rp_e (zaq zc5 (zd3 T) (hr.mono (by decide)) (by rfl) T.d_faults.g T.d_faults.F.kp T.d_faults.b za7 (zaa (rp_v (pv 6)) (zaa (rp_v (pv 8)) (zaa (rp_v (pv 9)) zac))))) (zaa (rp_e (zaq zef (zfe T) (hr.mono (by decide)) (by rfl) T.d_law_due.g T.d_law_due.F.kp T.d_law_due.b za7 (zaa (rp_v (pv 6)) (zaa (rp_v (pv 1)) (zaa (rp_v (pv 4)) (zaa (rp_v (pv 7)) zac)))))) zac))))))))))))))))))))))))))))))))))))))))))))
end
end My
set_option Elab.async false
set_option linter.all false
set_option maxRecDepth 100000
set_option maxHeartbeats 0
def PySem.W.Fast.tw14598715356260435866 : Nat := 0
def PySem.W.Fast.tw7238046018651277534 : Nat := 0
def PySem.W.Fast.tw6534874000650894987 : Nat := 0
def PySem.W.Fast.tw10544295344006241723 : Nat := 0
def PySem.W.Fast.tw3182386257043530798 : Nat := 0
def PySem.W.Fast.tw12329155263669439519 : Nat := 0
def PySem.W.Fast.tw3677632882827384062 : Nat := 0
def PySem.W.Fast.tw13388153557339397715 : Nat := 0
def PySem.W.Fast.tw16205993139258394665 : Nat := 0
def PySem.W.Fast.tw12186927737360925045 : Nat := 0
def PySem.W.Fast.tw13256641116850012859 : Nat := 0
def PySem.W.Fast.tw4069818745696331118 : Nat := 0
def PySem.W.Fast.tw12309487429465621764 : Nat := 0
def PySem.W.Fast.tw10594365738534580157 : Nat := 0
def PySem.W.Fast.tw1319192029097868252 : Nat := 0
def PySem.W.Fast.tw10178460254095656201 : Nat := 0
def PySem.W.Fast.tw17846797487192150033 : Nat := 0
def PySem.W.Fast.tw12196925527506493495 : Nat := 0
def PySem.W.Fast.tw8565733149115213228 : Nat := 0
def PySem.W.Fast.tw6667695353286145696 : Nat := 0
def PySem.W.Fast.tw11488531227469871684 : Nat := 0
def PySem.W.Fast.tw5822829993140332335 : Nat := 0
def PySem.W.Fast.tw1992449075930466090 : Nat := 0
def PySem.W.Fast.tw5262731503136342451 : Nat := 0
def PySem.W.Fast.tw5173889594236819067 : Nat := 0
def PySem.W.Fast.tw10531621347620151403 : Nat := 0
def PySem.W.Fast.tw12411216588197505872 : Nat := 0
def PySem.W.Fast.tw17495155262278756735 : Nat := 0
def PySem.W.Fast.tw8988036822726370258 : Nat := 0
def PySem.W.Fast.tw3510150404263062150 : Nat := 0
def PySem.W.Fast.tw17754248650196429969 : Nat := 0
namespace My
open PySem PySem.W L2 L3
def ask : L4.Ask where
 law := 32
 at_ := [2, 3, 15, 17, 18, 20, 21, 22, 24, 25, 27, 28, 29, 31, 32, 34, 35, 36, 38, 39, 41, 42, 43, 50, 51, 52, 53, 56, 63, 64, 65, 68, 70, 71, 73, 74, 75, 77, 78, 80, 81, 82, 84, 85, 87, 88, 89, 91, 92, 94, 95, 96, 98, 99, 101, 102, 103, 106, 107, 108, 110, 111, 113, 114, 115, 117, 118, 120, 121, 129, 131, 132, 134, 135, 136, 138, 139, 141, 142, 143, 145, 146, 148, 149, 150, 152, 153, 155, 156, 157, 159, 160, 162, 163, 164, 166, 167, 169, 170, 171, 173, 174, 176, 177, 178, 180, 181, 183, 184, 185, 187, 188, 190, 191, 192, 194, 195, 197, 198, 199, 201, 202, 204, 205, 206, 207, 208, 209, 210, 213, 215, 216, 218, 219, 220, 222, 223, 225, 226, 227, 229, 230, 232, 233, 234, 236, 237, 239, 240, 241, 243, 244, 246, 247, 248, 250, 251, 253, 254, 255, 258, 259, 260, 262, 263, 265, 266, 267, 269, 270, 272, 273, 274, 276, 277, 279, 280]
 defs := [("_law_names", 24), ("_law_cell", 23), ("_law_load", 27), ("neighbours_as_one", 19), ("kept_rows", 20), ("is_whole", 9), ("is_whole_between", 10), ("is_machines", 15), ("is_calendar_row", 17), ("are_calendar_rows", 18), ("is_rest", 16), ("fault_word", 2), ("count_row", 3), ("faults", 4), ("_law_whole", 25), ("_law_told", 31), ("_law_at", 26), ("_law_word", 29), ("_law_due", 30), ("_law_row", 28), ("law", 32)]
 cls := [("Calendar", 21, [("__init__", "Calendar.__init__", 0), ("at", "Calendar.at", 3)], ["stretches", "beyond"])]
 bare := ["all", "bool", "enumerate", "int", "isinstance", "len", "list", "max", "min", "range", "str", "tuple"]
 con := [("MOST_ROWS", .int 16), ("MOST_TURNS_OF_ROW", .int 1000000), ("MOST_MACHINES", .int 16)]
end My
lay_quick L4.claim L4.goal My.ask PySem.Challenge.pw_dueyard_k32_faults_of_plans
open PySem PySem.W in
theorem My.one1 : ∀ (w : World) (os : OsState), PySem.W.Fast.tw6268680626415656479 PySem.W.Fast.tw450080476106443438 20000 PySem.W.Fast.tw13707301158406841176 w os = PySem.W.Fast.tw12952061662341455360 PySem.W.Fast.tw450080476106443438 PySem.W.Fast.tw13707301158406841176 := by
 intro w os
 kernel_rfl
open PySem PySem.W in
theorem My.one : ∀ (w : World) (os : OsState), L4.claim My.ask 20000 PySem.Challenge.pw_dueyard_k32_faults_of_plans w os = L4.goal My.ask PySem.Challenge.pw_dueyard_k32_faults_of_plans := by
 rw [PySem.W.Fast.te6268680626415656479, PySem.W.Fast.te12952061662341455360, PySem.W.Fast.te450080476106443438, PySem.W.Fast.te13707301158406841176]
 exact My.one1
set_option Elab.async false
set_option linter.all false
set_option maxRecDepth 100000
namespace L3
open PySem L2
theorem ev : type_of% (And.intro (And.intro (And.intro (And.intro (And.intro (And.intro @L3.fun3.eq_1 (And.intro @L3.start3.eq_1 @L3.sSeq.eq_1)) (And.intro (And.intro @L3.sSet.eq_1 @L3.sRet.eq_1) (And.intro @L3.sRetS.eq_1 @L3.sRetN.eq_1))) (And.intro (And.intro (And.intro @L3.sIf.eq_1 @L3.sExp.eq_1) (And.intro @L3.sFz.eq_1 @L3.sAug.eq_1)) (And.intro (And.intro @L3.sAsg.eq_1 @L3.sSkip.eq_1) (And.intro @L3.sNever.eq_1 @L3.gN.eq_1)))) (And.intro (And.intro (And.intro @L3.eV.eq_1 (And.intro @L3.eC.eq_1 @L3.pV.eq_1)) (And.intro (And.intro @L3.pE.eq_1 @L3.eOp.eq_1) (And.intro @L3.eNeg.eq_1 @L3.eNot.eq_1))) (And.intro (And.intro (And.intro @L3.eAnd.eq_1 @L3.eOr.eq_1) (And.intro @L3.eIf.eq_1 @L3.eChain.eq_1)) (And.intro (And.intro @L3.oEq_int @L3.oNe_int) (And.intro @L3.nx_ite @L3.rt_ite))))) (And.intro (And.intro (And.intro (And.intro @L3.ok_ite (And.intro @L3.cons_ite @L3.some_ite)) (And.intro (And.intro @L3.v_ite @L3.int_ite) (And.intro @L3.bl_ite @ite_self.{1}))) (And.intro (And.intro (And.intro @decide_eq_true_eq @and_true) (And.intro @true_and @and_self)) (And.intro (And.intro @L3.eTup.eq_1 @L3.eLst.eq_1) (And.intro @L3.aCons.eq_1 @L3.aNil.eq_1)))) (And.intro (And.intro (And.intro (And.intro @L3.eB.eq_1 @L3.isa.eq_1) (And.intro @L3.eCall.eq_1 @L3.tE.eq_1)) (And.intro (And.intro @L3.tP.eq_1 @L3.tTru.eq_1) (And.intro @L3.tAnd3.eq_1 @L3.tOr3.eq_1))) (And.intro (And.intro (And.intro @L3.tNot3.eq_1 @L3.mtO.eq_1) (And.intro @L3.at0 @L3.at1)) (And.intro (And.intro @L3.at2 @L3.at3) (And.intro @L3.at4 @List.map_cons.{0, 0})))))) (And.intro (And.intro (And.intro (And.intro (And.intro @List.map_nil.{0, 0} (And.intro @List.length_cons.{0} @List.length_nil.{0})) (And.intro (And.intro @List.cons_append.{0} @List.nil_append.{0}) (And.intro @List.append_nil.{0} @List.getElem?_cons_zero.{0}))) (And.intro (And.intro (And.intro @List.getElem?_cons_succ.{0} @List.getElem?_nil.{0}) (And.intro @List.set_cons_zero.{0} @List.set_cons_succ.{0})) (And.intro (And.intro @Option.map_some.{0, 0} @Option.map_none.{0, 0}) (And.intro @Option.bind_some.{0, 0} @Nat.zero_add)))) (And.intro (And.intro (And.intro @ite_true.{1} (And.intro @ite_false.{1} @if_true.{1})) (And.intro (And.intro @if_false.{1} @Bool.not_true) (And.intro @Bool.not_false @decide_true))) (And.intro (And.intro (And.intro @decide_false @Bool.true_and) (And.intro @Bool.false_and @Bool.or_true)) (And.intro (And.intro @Bool.or_false @Bool.true_or) (And.intro @Bool.false_or @beq_self_eq_true.{0}))))) (And.intro (And.intro (And.intro (And.intro @or_true (And.intro @true_or @or_false)) (And.intro (And.intro @false_or @L3.oAdd_int) (And.intro @L3.oAddI_int @L3.oSub_int))) (And.intro (And.intro (And.intro @L3.oMul_int @L3.oDiv_int) (And.intro @L3.oMod_int @L3.oShr_int)) (And.intro (And.intro @L3.oPow_int @L3.oAndI_int) (And.intro @L3.oLt_int @L3.oLe_int)))) (And.intro (And.intro (And.intro (And.intro @L3.oGt_int @L3.oGe_int) (And.intro @L3.oIx_tup @L3.oIx_lst)) (And.intro (And.intro @L3.oIx_scr @L3.sMt_ap) (And.intro @L3.mAppend_ok @L3.sz0))) (And.intro (And.intro (And.intro @L3.sz1 @L3.sz2) (And.intro @L3.sz3 @L3.sz4)) (And.intro (And.intro @L3.sz5 @L3.gb.eq_1) (And.intro @Int.cast_ofNat_Int @Bool.false_eq_true))))))) := (And.intro (And.intro (And.intro (And.intro (And.intro (And.intro @L3.fun3.eq_1 (And.intro @L3.start3.eq_1 @L3.sSeq.eq_1)) (And.intro (And.intro @L3.sSet.eq_1 @L3.sRet.eq_1) (And.intro @L3.sRetS.eq_1 @L3.sRetN.eq_1))) (And.intro (And.intro (And.intro @L3.sIf.eq_1 @L3.sExp.eq_1) (And.intro @L3.sFz.eq_1 @L3.sAug.eq_1)) (And.intro (And.intro @L3.sAsg.eq_1 @L3.sSkip.eq_1) (And.intro @L3.sNever.eq_1 @L3.gN.eq_1)))) (And.intro (And.intro (And.intro @L3.eV.eq_1 (And.intro @L3.eC.eq_1 @L3.pV.eq_1)) (And.intro (And.intro @L3.pE.eq_1 @L3.eOp.eq_1) (And.intro @L3.eNeg.eq_1 @L3.eNot.eq_1))) (And.intro (And.intro (And.intro @L3.eAnd.eq_1 @L3.eOr.eq_1) (And.intro @L3.eIf.eq_1 @L3.eChain.eq_1)) (And.intro (And.intro @L3.oEq_int @L3.oNe_int) (And.intro @L3.nx_ite @L3.rt_ite))))) (And.intro (And.intro (And.intro (And.intro @L3.ok_ite (And.intro @L3.cons_ite @L3.some_ite)) (And.intro (And.intro @L3.v_ite @L3.int_ite) (And.intro @L3.bl_ite @ite_self.{1}))) (And.intro (And.intro (And.intro @decide_eq_true_eq @and_true) (And.intro @true_and @and_self)) (And.intro (And.intro @L3.eTup.eq_1 @L3.eLst.eq_1) (And.intro @L3.aCons.eq_1 @L3.aNil.eq_1)))) (And.intro (And.intro (And.intro (And.intro @L3.eB.eq_1 @L3.isa.eq_1) (And.intro @L3.eCall.eq_1 @L3.tE.eq_1)) (And.intro (And.intro @L3.tP.eq_1 @L3.tTru.eq_1) (And.intro @L3.tAnd3.eq_1 @L3.tOr3.eq_1))) (And.intro (And.intro (And.intro @L3.tNot3.eq_1 @L3.mtO.eq_1) (And.intro @L3.at0 @L3.at1)) (And.intro (And.intro @L3.at2 @L3.at3) (And.intro @L3.at4 @List.map_cons.{0, 0})))))) (And.intro (And.intro (And.intro (And.intro (And.intro @List.map_nil.{0, 0} (And.intro @List.length_cons.{0} @List.length_nil.{0})) (And.intro (And.intro @List.cons_append.{0} @List.nil_append.{0}) (And.intro @List.append_nil.{0} @List.getElem?_cons_zero.{0}))) (And.intro (And.intro (And.intro @List.getElem?_cons_succ.{0} @List.getElem?_nil.{0}) (And.intro @List.set_cons_zero.{0} @List.set_cons_succ.{0})) (And.intro (And.intro @Option.map_some.{0, 0} @Option.map_none.{0, 0}) (And.intro @Option.bind_some.{0, 0} @Nat.zero_add)))) (And.intro (And.intro (And.intro @ite_true.{1} (And.intro @ite_false.{1} @if_true.{1})) (And.intro (And.intro @if_false.{1} @Bool.not_true) (And.intro @Bool.not_false @decide_true))) (And.intro (And.intro (And.intro @decide_false @Bool.true_and) (And.intro @Bool.false_and @Bool.or_true)) (And.intro (And.intro @Bool.or_false @Bool.true_or) (And.intro @Bool.false_or @beq_self_eq_true.{0}))))) (And.intro (And.intro (And.intro (And.intro @or_true (And.intro @true_or @or_false)) (And.intro (And.intro @false_or @L3.oAdd_int) (And.intro @L3.oAddI_int @L3.oSub_int))) (And.intro (And.intro (And.intro @L3.oMul_int @L3.oDiv_int) (And.intro @L3.oMod_int @L3.oShr_int)) (And.intro (And.intro @L3.oPow_int @L3.oAndI_int) (And.intro @L3.oLt_int @L3.oLe_int)))) (And.intro (And.intro (And.intro (And.intro @L3.oGt_int @L3.oGe_int) (And.intro @L3.oIx_tup @L3.oIx_lst)) (And.intro (And.intro @L3.oIx_scr @L3.sMt_ap) (And.intro @L3.mAppend_ok @L3.sz0))) (And.intro (And.intro (And.intro @L3.sz1 @L3.sz2) (And.intro @L3.sz3 @L3.sz4)) (And.intro (And.intro @L3.sz5 @L3.gb.eq_1) (And.intro @Int.cast_ofNat_Int @Bool.false_eq_true)))))))
end L3
local macro_rules | `(tactic| simp_arith [$xs,*] $[$l]?) => `(tactic| simp only [L3.fun3, L3.start3, L3.O3.res, L3.sSeq, L3.sSet, L3.sRet, L3.sRetS, L3.sRetN, L3.sIf, L3.sExp, L3.sFz, L3.sAug, L3.sAsg, L3.sSkip, L3.sNever, L3.gN, L3.gT, L3.gL, L3.gsCons, L3.gsNil, L3.eV, L3.eC, L3.pV, L3.pE, L3.eOp, L3.eNeg, L3.eNot, L3.eAnd, L3.eOr, L3.eIf, L3.eChain, L3.oEq_int, L3.oNe_int, L3.nx_ite, L3.rt_ite, L3.ok_ite, L3.cons_ite, L3.some_ite, L3.v_ite, L3.int_ite, L3.bl_ite, ite_self, decide_eq_true_eq, and_true, true_and, and_self, L3.oIsN, L3.eTup, L3.eLst, L3.aCons, L3.aNil, L3.vals3, L3.eB, L3.bLen, L3.bMax, L3.bMin, L3.bMin3, L3.bInt, L3.bList, L3.bIsT, L3.ty3, L3.isa, L3.eCall, L3.opt, L3.Res.bind, L3.Res.bindS, L3.Vl.fz, L3.C3.fz, L3.tE, L3.tP, L3.tru3, L3.tTru, L3.tAnd3, L3.tOr3, L3.tNot3, L3.rdl, L3.rdm, L3.mtO, L3.wr3, L3.at0, L3.at1, L3.at2, L3.at3, L3.at4, List.map_cons, List.map_nil, List.length_cons, List.length_nil, List.replicate, List.cons_append, List.nil_append, List.append_nil, List.getElem?_cons_zero, List.getElem?_cons_succ, List.getElem?_nil, List.set_cons_zero, List.set_cons_succ, Option.map_some, Option.map_none, Option.bind_some, Nat.reduceSub, Nat.reduceAdd, Nat.reduceLT, Nat.reduceEqDiff, Nat.reduceLeDiff, Nat.zero_add, reduceIte, ite_true, ite_false, if_true, if_false, Bool.not_true, Bool.not_false, decide_true, decide_false, Bool.true_and, Bool.false_and, Bool.or_true, Bool.or_false, Bool.true_or, Bool.false_or, beq_self_eq_true, String.reduceEq, String.reduceBEq, or_true, true_or, or_false, false_or, reduceCtorEq, Int.reduceLT, Int.reduceLE, Int.reduceNeg, L3.oAdd_int, L3.oAddI_int, L3.oSub_int, L3.oMul_int, L3.oDiv_int, L3.oMod_int, L3.oShr_int, L3.oPow_int, L3.oAndI_int, L3.oLt_int, L3.oLe_int, L3.oGt_int, L3.oGe_int, L3.oIx_tup, L3.oIx_lst, L3.oIx_scr, L3.sMt_ap, L3.mAppend_ok, L3.sz0, L3.sz1, L3.sz2, L3.sz3, L3.sz4, L3.sz5, L3.gb, Int.cast_ofNat_Int, Int.reduceEq, Bool.false_eq_true, $xs,*] $[$l]?)
set_option Elab.async false
set_option linter.all false
set_option maxRecDepth 100000
namespace L3
open PySem L2
def tx (l : List Nat) : Str := ⟨l.toArray⟩
theorem zjl (l : List Nat) : (tx l).length = l.length := by simp [tx, Str.length]
theorem zud (l : List Nat) : (tx l).cps.toList = l := by simp [tx]
theorem ztf (z : Str) : tx z.cps.toList = z := by simp [tx]
theorem zsk {a b : List Nat} (h : tx a = tx b) : a = b := by have := congrArg (fun z : Str => z.cps.toList) h; simpa [tx] using this
theorem zsn (a b : List Nat) : tx a ++ tx b = tx (a ++ b) := by
 show Str.append (tx a) (tx b) = _
 simp [Str.append, tx]
def zsr (c : Nat) : Bool := decide (97 ≤ c) && decide (c ≤ 122)
def fig (c : Nat) : Bool := decide (48 ≤ c) && decide (c ≤ 57)
def abc : List Nat := [97, 98, 99, 100, 101, 102, 103, 104, 105, 106, 107, 108, 109, 110, 111, 112, 113, 114, 115, 116, 117, 118, 119, 120, 121, 122]
def abc9 : List Nat := abc ++ [48, 49, 50, 51, 52, 53, 54, 55, 56, 57]
theorem ztt : ("abcdefghijklmnopqrstuvwxyz" : Str) = tx abc := by decide +kernel
theorem zn2 : ("" : Str) = tx [] := by decide +kernel
theorem zl7 {s : S3} {h : H3} {l : List Nat} {i : Int} (hl : l.length ≤ sizeLine) : oIx s h (.x (.str (tx l))) (.x (.int i)) = (atI l i).map fun c => .v (.str (tx [c])) := by
 unfold oIx orF oIxT oIxL oIxS
 simp only [rdl, zjl, zud, if_pos hl]
 cases atI l i <;> rfl
theorem ze0 {s : S3} {h : H3} {a b : List Nat} (hl : a.length + b.length ≤ sizeLine) : oAdd s h (.x (.str (tx a))) (.x (.str (tx b))) = some (.v (.str (tx (a ++ b)))) := by
 unfold oAdd orF zj2 oI zn7
 simp only [zjl, if_pos hl, zsn]
theorem sz36 : 36 ≤ sizeLine := by have := szl; omega
def isN (l : List Nat) : Bool := decide (1 ≤ l.length) && decide (l.length ≤ 8) && (zsr (l.headD 0) && l.all fun c => zsr c || fig c)
end L3
set_option Elab.async false
set_option linter.all false
set_option maxRecDepth 100000
namespace L3
open PySem L2
theorem zf5 {α : Type} {n : Nat} {fr : List Nat} {p : P3} {g : G3} {e : E3} {s : S3} {h : H3} {x : V3} {ok : H3 → Prop} {enc : α → V3} {l : List α} (I : S3 → Prop) (f : α → V3) (ep : p s h = .ok (.x x) h)
  (hw : zb3 h x = some (l.map enc, ok)) (hl : l.length ≤ 1000000) (h0 : I (cst3 n fr s)) (step : ∀ a s, a ∈ l → I s → ∃ s1 r, g (enc a) s = some s1 ∧ I s1 ∧ e s1 h = .ok r h ∧ r.fz = some (f a)) :
  zeq n fr (iL p) g tTru e s h = .ok (.m (.lst (l.map f))) h := by
 have := znr (ok := ok) (g := g) (e := e) (h := h) I enc f (zeg hw).1 (l := l) (by have := szl; omega) step h0
 unfold zeq iL
 simp only [ep, Res.bind, hw, this]
theorem ziu {α : Type} {n : Nat} {fr : List Nat} {p : P3} {g : G3} {c : T3} {e : E3} {s : S3} {h : H3} {x : V3} {ok : H3 → Prop} {enc : α → V3} {l : List α} (I : S3 → Prop) (q : α → Bool) (f : α → V3) (ep : p s h = .ok (.x x) h)
  (hw : zb3 h x = some (l.map enc, ok)) (hl : l.length ≤ 1000000) (h0 : I (cst3 n fr s)) (step : ∀ a s, a ∈ l → I s → ∃ s1, g (enc a) s = some s1 ∧ I s1 ∧ c s1 h = .ok (q a) h ∧ (q a = true → ∃ r, e s1 h = .ok r h ∧ r.fz = some (f a))) :
  zeq n fr (iL p) g c e s h = .ok (.m (.lst ((l.filter q).map f))) h := by
 have := zid (ok := ok) (g := g) (c := c) (e := e) (h := h) I enc q f (zeg hw).1 (l := l) (by have := szl; omega) step h0
 unfold zeq iL
 simp only [ep, Res.bind, hw, this]
theorem zrd {s : S3} {h : H3} {q : List Bool → Bool} {bs : List Bool} : bAll q s h [.x (.lst (bs.map .bl))] = some (.v (.bl (q bs))) := by
 unfold bAll; simp only [rdl, zpy, Option.map_some]
end L3
set_option Elab.async false
set_option linter.all false
set_option maxRecDepth 100000
namespace L3
open PySem L2
theorem zt5 {α : Type} {it : I3} {g : G3} {b : D3} {s : S3} {h : H3} {its : List V3} {ok : H3 → Prop} {enc : α → V3} {l : List α} (ei : it s h = .ok ⟨its, l.map enc, ok⟩ h) (hok : ok h)
  (I : Nat → S3 → Prop) (h0 : I 0 s) (step : ∀ (i : Nat) a s, l[i]? = some a → I i s → ∃ s2, gb g b (enc a) s h = .nx s2 h ∧ I (i + 1) s2) : ∃ s', sFor it g b s h = .nx s' h ∧ I l.length s' := by
 have hf : sFor it g b s h = forC ok g b (l.map enc) s h := by
  unfold sFor; simp only [ei, Res.bindS]
 rw [hf]
 have := zh7 (ok := ok) (g := g) (b := b) (h := h) I (xs := l.map enc) (s := s) hok h0 fun i x s hx hI => by
  rw [List.getElem?_map] at hx
  obtain ⟨a, ha, rfl⟩ := Option.map_eq_some_iff.1 hx
  obtain ⟨s2, e, hI2⟩ := step i a s ha hI
  unfold gb at e
  cases q : g (enc a) s with
  | none => rw [q] at e; cases e
  | some s1 => rw [q] at e; exact ⟨s1, s2, rfl, e, hI2⟩
 rwa [List.length_map] at this
theorem it_R {Q : Res Vl → Prop} {α : Type} {it : I3} {g : G3} {b r : D3} {s : S3} {h : H3} {its : List V3} {ok : H3 → Prop} {enc : α → V3} {l : List α} (ei : it s h = .ok ⟨its, l.map enc, ok⟩ h) (hok : ok h)
  (I : Nat → S3 → Prop) (h0 : I 0 s) (step : ∀ (i : Nat) a s, l[i]? = some a → I i s → ∃ s2, gb g b (enc a) s h = .nx s2 h ∧ I (i + 1) s2) (k : ∀ s', I l.length s' → Q ((r s' h).res)) : Q ((sSeq (sFor it g b) r s h).res) := by
 obtain ⟨s', e, hI⟩ := zt5 ei hok I h0 step
 rw [zg5 e]; exact k s' hI
abbrev encP (p : Int × Int) : V3 := .tup [.int p.1, .int p.2]
def rowP (p : Int × Int) : List Key := [.inl p.1, .inl p.2]
def bk (r : List Key) : Int × Int := match r with
 | [.inl a, .inl b] => (a, b)
 | _ => (0, 0)
end L3
set_option Elab.async false
set_option linter.all false
set_option maxRecDepth 100000
namespace L3
open PySem L2
theorem znp {ok : H3 → Prop} {g : G3} {b : D3} (I : Nat → S3 → H3 → Prop) {xs : List V3} {s : S3} {h : H3} (hok : ∀ i s h, I i s h → ok h) (h0 : I 0 s h)
  (step : ∀ (i : Nat) x s h, xs[i]? = some x → I i s h → ∃ s1 s2 h2, g x s = some s1 ∧ b s1 h = .nx s2 h2 ∧ I (i + 1) s2 h2) : ∃ s' h', forC ok g b xs s h = .nx s' h' ∧ I xs.length s' h' := by
 have gen : ∀ (n i : Nat) (s : S3) (h : H3), n = xs.length - i → i ≤ xs.length → I i s h → ∃ s' h', forC ok g b (xs.drop i) s h = .nx s' h' ∧ I xs.length s' h' := by
  intro n
  induction n with
  | zero =>
   intro i s h hn hi hI
   have : i = xs.length := by omega
   subst this
   rw [List.drop_length]
   unfold forC
   rw [if_pos (hok _ _ _ hI)]
   exact ⟨s, h, rfl, hI⟩
  | succ n ih =>
   intro i s h hn hi hI
   have hlt : i < xs.length := by omega
   rw [List.drop_eq_getElem_cons hlt]
   unfold forC
   rw [if_pos (hok _ _ _ hI)]
   obtain ⟨s1, s2, h2, hg, hb, hI2⟩ := step i xs[i] s h (List.getElem?_eq_getElem hlt) hI
   simp only [hg, hb]
   exact ih (i + 1) s2 h2 (by omega) hlt hI2
 exact gen _ 0 s h rfl (Nat.zero_le _) h0
theorem zm1 {α : Type} {it : I3} {g : G3} {b : D3} {s : S3} {h : H3} {its : List V3} {ok : H3 → Prop} {enc : α → V3} {l : List α} (ei : it s h = .ok ⟨its, l.map enc, ok⟩ h)
  (I : Nat → S3 → H3 → Prop) (hok : ∀ i s h, I i s h → ok h) (h0 : I 0 s h) (step : ∀ (i : Nat) a s h, l[i]? = some a → I i s h → ∃ s2 h2, gb g b (enc a) s h = .nx s2 h2 ∧ I (i + 1) s2 h2) : ∃ s' h', sFor it g b s h = .nx s' h' ∧ I l.length s' h' := by
 have hf : sFor it g b s h = forC ok g b (l.map enc) s h := by
  unfold sFor; simp only [ei, Res.bindS]
 rw [hf]
 have := znp (ok := ok) (g := g) (b := b) I (xs := l.map enc) (s := s) (h := h) hok h0 fun i x s h hx hI => by
  rw [List.getElem?_map] at hx
  obtain ⟨a, ha, rfl⟩ := Option.map_eq_some_iff.1 hx
  obtain ⟨s2, h2, e, hI2⟩ := step i a s h ha hI
  unfold gb at e
  cases q : g (enc a) s with
  | none => rw [q] at e; cases e
  | some s1 => rw [q] at e; exact ⟨s1, s2, h2, rfl, e, hI2⟩
 rwa [List.length_map] at this
theorem zvb {Q : Res Vl → Prop} {α : Type} {it : I3} {g : G3} {b r : D3} {s : S3} {h : H3} {its : List V3} {ok : H3 → Prop} {enc : α → V3} {l : List α} (ei : it s h = .ok ⟨its, l.map enc, ok⟩ h)
  (I : Nat → S3 → H3 → Prop) (hok : ∀ i s h, I i s h → ok h) (h0 : I 0 s h) (step : ∀ (i : Nat) a s h, l[i]? = some a → I i s h → ∃ s2 h2, gb g b (enc a) s h = .nx s2 h2 ∧ I (i + 1) s2 h2) (k : ∀ s' h', I l.length s' h' → Q ((r s' h').res)) : Q ((sSeq (sFor it g b) r s h).res) := by
 obtain ⟨s', h', e, hI⟩ := zm1 ei I hok h0 step
 rw [zg5 e]; exact k s' h' hI
end L3
set_option Elab.async false
set_option linter.all false
set_option maxRecDepth 100000
namespace L2
open PySem
abbrev dkw : List (Str × Value) := [(Str.ofString "default", .none)]
section
variable {n : Nat} {prog : Program} {w : World} {A : Around} {R : Result → Shared → Prop} {I : Addr} {fp wr : List Addr} {P : Nat → Value → Prop} {St : Nat → Heap → Prop}
def MxAt (P : Nat → Value → Prop) (bt : Nat → Nat → Bool) (i : Nat) (xs : Array Value) : Prop := (xs = #[] ∧ i = 0) ∨ ∃ b j, i = j + 1 ∧ xs = #[b, b] ∧ P (argBest bt j) b
def MxEnd (P : Nat → Value → Prop) (bt : Nat → Nat → Bool) (n : Nat) (v : Value) : Prop := (n = 0 ∧ v = .none) ∨ (0 < n ∧ P (argBest bt (n - 1)) v)
end
section
variable {l : Addr} {xs : Array (Int × Tok)} {prog : Program} {w : World} {A : Around} {E : Value → Shared → Prop} {s : Shared}
end
end L2
set_option Elab.async false
set_option linter.all false
set_option maxRecDepth 100000
namespace L3
open PySem PySem.Spec PyProof.Rows L2
section
variable {X : Cx} {κ : Kx} {E : XK} {F : Fr} {σ : L2.St} {H H' : Hp} {Q : VK} {p : Addr} {pos np kp cp : Pos} {e : Expr} {t : A3}
def rMaxD (κ : Kx) (xs : List V) (H : Hp) (Q : VK) : Prop := ∃ (p : Addr) (ns : List Int), xs = [.ref p] ∧ SqL κ.K H p (ns.map V.int) ∧ Q (if ns = [] then .non else .int (lmax ns)) H
def bMaxD : FB := fun s h fs => match fs with
 | [f] => match rdl s h f with
  | some xs => match mapO int3 xs with
   | some ns => some (.v (if ns = [] then .non else .int (lmax ns)))
   | none => none
  | none => none
 | _ => none
end
end L3
set_option Elab.async false
set_option linter.all false
set_option maxRecDepth 100000
namespace L3
open PySem L2
def Is (h : H3) (r : Vl) (R : Res Vl) : Prop := R = .ok r h
def Yes (R : Res Vl) : Prop := ∃ h', R = .ok (.v (.bl true)) h'
theorem zu2 {s : S3} {h : H3} {i : Nat} {j : Int} : oIx s h (.s i) (.x (.int j)) = match s[i]? with
  | some (some (.m (.lst xs))) => (atI xs j).map .v
  | _ => none := by
 unfold oIx orF oIxT oIxL oIxS
 simp only [rdl]
 generalize s[i]? = o
 match o with
 | none => rfl
 | some none => rfl
 | some (some (.v _)) => rfl
 | some (some (.m (.lst xs))) => simp only []; cases atI xs j <;> rfl
 | some (some (.m (.dK _))) => rfl
 | some (some (.m (.dT _))) => rfl
 | some (some (.m (.ins _ _))) => rfl
 | some (some (.m .dead)) => rfl
theorem zov {s : S3} {h : H3} {i : Nat} {l : List V3} {x : V3} (e : s[i]? = some (some (.m (.lst (l ++ [x]))))) : oIx s h (.s i) (.x (.int (-1))) = some (.v x) := by
 rw [zu2, e]; simp only [atm1, Option.map_some]
theorem ze8 {α β : Type} {l : List α} {f : α → β} : (l.map f).isEmpty = l.isEmpty := by cases l <;> rfl
theorem zfl {α : Type} {l : List α} {n : Nat} {x y : α} (h : l.length = n) : (l ++ [x]).set n y = l ++ [y] := by
 subst h; rw [List.set_append_right _ _ (Nat.le_refl _)]; simp
theorem zd5 {α : Type} {l : List α} {i : Nat} {a : α} (h : l[i]? = some a) : l.drop i = a :: l.drop (i + 1) := by
 obtain ⟨hi, rfl⟩ := List.getElem?_eq_some_iff.1 h
 exact List.drop_eq_getElem_cons hi
theorem zdx {α : Type} {l : List α} {i : Nat} {a : α} (h : l[i]? = some a) : l.take (i + 1) = l.take i ++ [a] := by rw [List.take_add_one, h]; rfl
theorem zlg {α : Type} (xs : List α) (k : Nat) : cutL xs (some (k : Int)) none = xs.drop k := by
 unfold cutL HT.sIx
 have h1 : ¬ ((k : Int) < 0) := by omega
 simp only [if_neg h1, Int.toNat_natCast]
 by_cases hk : k ≤ xs.length
 ·rw [Nat.min_eq_left hk, List.take_of_length_le (by simp)]
 ·rw [Nat.min_eq_right (by omega), List.drop_length, List.drop_eq_nil_of_le (by omega)]; simp
theorem zmt {α : Type} (xs : List α) (k : Nat) : cutL xs none (some (k : Int)) = xs.take k := by
 unfold cutL HT.sIx
 have h1 : ¬ ((k : Int) < 0) := by omega
 simp only [if_neg h1, Int.toNat_natCast, List.drop_zero, Nat.sub_zero]
 rw [List.take_eq_take_iff]; omega
theorem zgb {f : V3 → V3 → Option Bool} : ∀ {xs : List V3}, (∀ x ∈ xs, f x x = some true) → eqZ f xs xs = some true
 | [], _ => rfl
 | x :: r, h => by simp only [eqZ, h x List.mem_cons_self, zgb (xs := r) fun y hy => h y (List.mem_cons_of_mem _ hy), Bool.and_self]
theorem znz {s : S3} {h : H3} {f g : Rf} {xs : List V3} (hf : rdm s h f = some xs) (hg : rdm s h g = some xs) (hx : ∀ x ∈ xs, eq3 h 8 x x = some true) : eqO s h f g = some true := by
 unfold eqO; rw [hf, hg]; simp only [if_true, zgb hx]
theorem zgr {s : S3} {h : H3} {f g : Rf} {xs : List V3} (hf : rdm s h f = some xs) (hg : rdm s h g = some xs) (hx : ∀ x ∈ xs, eq3 h 8 x x = some true) : oNe s h f g = some (.v (.bl false)) := by
 unfold oNe; rw [znz hf hg hx]; rfl
theorem zmx {h : H3} {n : Nat} {xs : List V3} (hx : ∀ x ∈ xs, eq3 h n x x = some true) : eq3 h (n + 1) (.tup xs) (.tup xs) = some true := by
 simp only [eq3, zbl]
 rw [zgb hx]; simp
theorem zlf {s : S3} {h : H3} {i j : Str} : oEq s h (.x (.str i)) (.x (.str j)) = some (.v (.bl (decide (i = j)))) := by
 unfold oEq eqO; simp only [rdm, rdl, zij, Option.map_some]
theorem zl8 {s : S3} {h : H3} {f : Rf} {xs : List V3} (hf : rdm s h f = some xs) : eqO s h f (.x (.lst [])) = some xs.isEmpty := by
 unfold eqO; rw [hf]
 simp only [rdm, rdl]
 cases xs <;> rfl
theorem zk8 {s : S3} {h : H3} {f : Rf} {xs : List V3} (hf : rdm s h f = some xs) : oEq s h f (.x (.lst [])) = some (.v (.bl xs.isEmpty)) := by unfold oEq; rw [zl8 hf]; rfl
theorem zpz {s : S3} {h : H3} {f : Rf} {xs : List V3} (hf : rdm s h f = some xs) : oNe s h f (.x (.lst [])) = some (.v (.bl !xs.isEmpty)) := by unfold oNe; rw [zl8 hf]; rfl
theorem zj1 {s : S3} {h : H3} {xs : List V3} : rdm s h (.x (.lst xs)) = some xs := rfl
theorem zt6 {s : S3} {h : H3} {i : Nat} {xs : List V3} (e : s[i]? = some (some (.m (.lst xs)))) : rdm s h (.s i) = some xs := by
 show rdl s h (.s i) = _
 simp only [rdl, e]
theorem zr3 {s : S3} {h : H3} {n : Nat} {xs : List V3} (e : h[n]? = some (.lst xs)) : rdm s h (.x (.loc n)) = some xs := by
 show rdl s h (.x (.loc n)) = _
 simp only [rdl, e]
def IsL (h : H3) (x : V3) (xs : List V3) : Prop := x = .lst xs ∨ ∃ n, x = .loc n ∧ h[n]? = some (.lst xs)
theorem IsL.walk {h : H3} {x : V3} {xs : List V3} (l : IsL h x xs) : ∃ ok, zb3 h x = some (xs, ok) := by
 rcases l with rfl | ⟨n, rfl, e⟩
 ·exact ⟨_, rfl⟩
 ·exact ⟨_, by simp only [zb3, e]; rfl⟩
theorem IsL.rdm {s : S3} {h : H3} {x : V3} {xs : List V3} (l : IsL h x xs) : rdm s h (.x x) = some xs := by
 rcases l with rfl | ⟨n, rfl, e⟩
 ·exact zj1
 ·exact zr3 e
def ch (i : Int) : Nat := abc9.getD i.toNat 0
theorem zvv {i : Int} (h0 : 0 ≤ i) (h1 : i < 36) : atI abc9 i = some (ch i) := by
 obtain ⟨n, rfl⟩ := Int.eq_ofNat_of_zero_le h0
 have hn : n < abc9.length := by show n < 36; omega
 refine zck (j := n) ?_
 rw [List.getElem?_eq_getElem hn]
 unfold ch
 rw [List.getD_eq_getElem?_getD, Int.toNat_natCast, List.getElem?_eq_getElem hn]; rfl
theorem zuw {i : Int} (h0 : 0 ≤ i) (h1 : i < 26) : atI abc i = some (ch i) := by
 obtain ⟨n, rfl⟩ := Int.eq_ofNat_of_zero_le h0
 have hn : n < abc.length := by show n < 26; omega
 have hn9 : n < abc9.length := by show n < 36; omega
 refine zck (j := n) ?_
 unfold ch
 rw [List.getD_eq_getElem?_getD, Int.toNat_natCast]
 unfold abc9
 rw [List.getElem?_append_left hn, List.getElem?_eq_getElem hn]; rfl
theorem zqa (x : Int) : atI abc9 (x % 36) = some (ch (x % 36)) := zvv (by omega) (by omega)
theorem zri (x : Int) : atI abc (x % 26) = some (ch (x % 26)) := zuw (by omega) (by omega)
theorem zo5 : ∀ m n : Nat, m < 36 → n < 36 → ch m = ch n → m = n := by
 have : ∀ m : Nat, m < 36 → ∀ n : Nat, n < 36 → ch m = ch n → m = n := by decide
 exact fun m n hm hn => this m hm n hn
theorem zp2 {x y : Int} (h : ch (x % 36) = ch (y % 36)) : x % 36 = y % 36 := by
 have := zo5 (x % 36).toNat (y % 36).toNat (by omega) (by omega) (by rw [show (((x % 36).toNat : Nat) : Int) = x % 36 by omega, show (((y % 36).toNat : Nat) : Int) = y % 36 by omega]; exact h)
 omega
theorem znh {x y : Int} (h : ch (x % 26) = ch (y % 26)) : x % 26 = y % 26 := by
 have := zo5 (x % 26).toNat (y % 26).toNat (by omega) (by omega) (by rw [show (((x % 26).toNat : Nat) : Int) = x % 26 by omega, show (((y % 26).toNat : Nat) : Int) = y % 26 by omega]; exact h)
 omega
theorem nodup_range {α : Type} {f : Nat → α} {n : Nat} (h : ∀ i j, i < j → j < n → f i ≠ f j) : ((List.range n).map f).Nodup := by
 unfold List.Nodup
 rw [List.pairwise_map]
 refine List.Pairwise.imp_of_mem (fun {a b} ha hb hab => h a b hab (by simpa using hb)) List.pairwise_lt_range
end L3
set_option Elab.async false
set_option linter.all false
set_option maxRecDepth 100000
set_option maxHeartbeats 1000000
namespace My
open PySem L2 L3
theorem zt9 {ns : List Int} {k : Nat} (h1 : k < ns.length) (h : H3) : f_law_cell [.scr ns, .int k] h = .ok (.v (.int ns[k])) h := by
 have e : atI (ns.map V3.int) (k : Int) = some (.int ns[k]) := zck (by rw [List.getElem?_map, List.getElem?_eq_getElem h1]; rfl)
 have h2 : (k : Int) < (ns.length : Int) := by omega
 simp_arith [f_law_cell, zco, e, h2, List.length_map]
theorem zs2 {ns : List Int} {k : Nat} (h2 : ¬ (k : Int) < (ns.length : Int)) (h3 : ¬ (0 : Int) < (ns.length : Int)) (n : Int) (en : 7919 * (k : Int) + 101 = n) (c2 : CMul n n) (h : H3) : f_law_cell [.scr ns, .int k] h = .ok (.v (.int (n * n % 1000003))) h := by
 have c1 : ∀ x, CMul 7919 x := fun x => zeo ⟨by decide, by decide⟩
 simp_arith [f_law_cell, zco, h2, h3, c1, en, c2, List.length_map]
theorem zte {ns : List Int} {k : Nat} (h2 : ¬ (k : Int) < (ns.length : Int)) (h3 : (0 : Int) < (ns.length : Int)) (v n : Int) (e : atI (ns.map V3.int) (7 * (k : Int) % (ns.length : Int)) = some (.int v)) (c4 : ∀ x, CMul x ((k : Int) + 3))
  (en : 7919 * (k : Int) + 101 + v % 1000003 * ((k : Int) + 3) = n) (c2 : CMul n n) (h : H3) : f_law_cell [.scr ns, .int k] h = .ok (.v (.int (n * n % 1000003))) h := by
 have c1 : ∀ x, CMul 7919 x := fun x => zeo ⟨by decide, by decide⟩
 have c3 : ∀ x, CMul 7 x := fun x => zeo ⟨by decide, by decide⟩
 simp_arith [f_law_cell, zco, h2, h3, c1, c3, c4, e, en, c2, List.length_map]
theorem zla (ns : List Int) (k : Int) (hk : 0 ≤ k ∧ k ≤ 100) : ∃ c, ∀ h, f_law_cell [.scr ns, .int k] h = .ok (.v (.int c)) h := by
 obtain ⟨k, rfl⟩ := Int.eq_ofNat_of_zero_le hk.1
 by_cases h1 : k < ns.length
 ·exact ⟨_, fun h => zt9 h1 h⟩
 ·have h2 : ¬ (k : Int) < (ns.length : Int) := by omega
  by_cases h0 : ns.length = 0
  ·have h3 : ¬ (0 : Int) < (ns.length : Int) := by omega
   exact ⟨_, fun h => zs2 h2 h3 _ rfl (zeo ⟨by omega, by omega⟩) h⟩
  ·have h3 : (0 : Int) < (ns.length : Int) := by omega
   obtain ⟨j, hj⟩ := Int.eq_ofNat_of_zero_le (Int.emod_nonneg (7 * (k : Int)) (show (ns.length : Int) ≠ 0 by omega))
   have hjl := Int.emod_lt_of_pos (7 * (k : Int)) h3
   rw [hj] at hjl
   have hjn : j < ns.length := by omega
   have e : atI (ns.map V3.int) (7 * (k : Int) % (ns.length : Int)) = some (.int ns[j]) := by
    rw [hj]; exact zck (by rw [List.getElem?_map, List.getElem?_eq_getElem hjn]; rfl)
   have hb : 0 ≤ ns[j] % 1000003 * ((k : Int) + 3) ∧ ns[j] % 1000003 * ((k : Int) + 3) ≤ 1000003 * 103 := by
    have a1 : 0 ≤ ns[j] % 1000003 := Int.emod_nonneg _ (by omega)
    have a2 : ns[j] % 1000003 < 1000003 := Int.emod_lt_of_pos _ (by omega)
    exact ⟨Int.mul_nonneg a1 (by omega), Int.mul_le_mul (by omega) (by omega) (by omega) (by omega)⟩
   exact ⟨_, fun h => zte h2 h3 _ _ e (fun x => zse ⟨by omega, by omega⟩) rfl (zeo ⟨by omega, by omega⟩) h⟩
noncomputable def cell (ns : List Int) (k : Int) : Int := if h : 0 ≤ k ∧ k ≤ 100 then (zla ns k h).choose else 0
theorem zmq (ns : List Int) (k : Int) (h0 : 0 ≤ k) (h1 : k ≤ 100) (h : H3) : f_law_cell [.scr ns, .int k] h = .ok (.v (.int (cell ns k))) h := by
 unfold cell; rw [dif_pos ⟨h0, h1⟩]; exact (zla ns k ⟨h0, h1⟩).choose_spec h
theorem sz26 : abc.length ≤ sizeLine := by rw [show abc.length = 26 from rfl]; have := szl; omega
def figs : List Nat := [48, 49, 50, 51, 52, 53, 54, 55, 56, 57]
theorem zqo : ("0123456789" : Str) = tx figs := by decide +kernel
theorem zun (s : S3) (h : H3) : oAdd s h (.x (.str (tx abc))) (.x (.str "0123456789")) = some (.v (.str (tx abc9))) := by
 rw [zqo, ze0 (by rw [show abc.length = 26 from rfl, show figs.length = 10 from rfl]; have := szl; omega)]; rfl
def plc (c a : Int) (k j : Nat) : Int := c / (64 + 29 * (j : Int)) + (k : Int) * (if (j : Int) = a then 1 else 0)
def sgn (c a : Int) (k j : Nat) : Nat := if (j : Int) = 0 then ch (plc c a k j % 26) else ch (plc c a k j % 36)
section
noncomputable def nB9 : D3 := (sSet 9 (eOp oAdd (pE (eOp oDiv (pV 0) (pE (eOp oAdd (pE (eC (.int 64))) (pE (eOp oMul (pE (eC (.int 29))) (pV 8))))))) (pE (eOp oMul (pV 6) (pE (eB bInt (aCons (pE (eOp oEq (pV 8) (pV 4))) aNil)))))))
noncomputable def nB7 : D3 := (sSet 7 (eOp oAdd (pV 7) (pE (eOp oIx (pV 2) (pE (eOp oMod (pV 9) (pE (eC (.int 26)))))))))
noncomputable def nC7 : D3 := (sSet 7 (eOp oAdd (pV 7) (pE (eOp oIx (pE (eOp oAdd (pV 2) (pE (eC (.str ("0123456789" : Str)))))) (pE (eOp oMod (pV 9) (pE (eC (.int 36)))))))))
noncomputable def nI : D3 := sIf (tE (eOp oEq (pV 8) (pE (eC (.int 0))))) nB7 nC7
variable (c m a z k : Int) (acc : Option Vl) (w : List Nat) (h : H3)
theorem zvp (i : Int) (y9 : Option Vl) (c1 : CMul 29 i) (c2 : ∀ x, CMul k x) (c5 : (0 : Int) < 64 + 29 * i) (c6 : 64 + 29 * i < 1073741824) (hd : decide (i = a) = true) :
  nB9 [some (.v (.int c)), some (.v (.int m)), some (.v (.str (tx abc))), some (.v (.int z)), some (.v (.int a)), acc, some (.v (.int k)), some (.v (.str (tx w))), some (.v (.int i)), y9] h = .nx [some (.v (.int c)), some (.v (.int m)), some (.v (.str (tx abc))), some (.v (.int z)), some (.v (.int a)), acc, some (.v (.int k)), some (.v (.str (tx w))), some (.v (.int i)), some (.v (.int (c / (64 + 29 * i) + k * 1)))] h := by
 unfold nB9
 simp_arith [hd, c1, c2, c5, c6]
theorem zuj (i : Int) (y9 : Option Vl) (c1 : CMul 29 i) (c2 : ∀ x, CMul k x) (c5 : (0 : Int) < 64 + 29 * i) (c6 : 64 + 29 * i < 1073741824) (hd : decide (i = a) = false) :
  nB9 [some (.v (.int c)), some (.v (.int m)), some (.v (.str (tx abc))), some (.v (.int z)), some (.v (.int a)), acc, some (.v (.int k)), some (.v (.str (tx w))), some (.v (.int i)), y9] h = .nx [some (.v (.int c)), some (.v (.int m)), some (.v (.str (tx abc))), some (.v (.int z)), some (.v (.int a)), acc, some (.v (.int k)), some (.v (.str (tx w))), some (.v (.int i)), some (.v (.int (c / (64 + 29 * i) + k * 0)))] h := by
 unfold nB9
 simp_arith [hd, c1, c2, c5, c6]
theorem zt2 (x : Int) (y8 : Option Vl) (b1 : ∀ x : Nat, w.length + [x].length ≤ sizeLine) : nB7 [some (.v (.int c)), some (.v (.int m)), some (.v (.str (tx abc))), some (.v (.int z)), some (.v (.int a)), acc, some (.v (.int k)), some (.v (.str (tx w))), y8, some (.v (.int x))] h = .nx [some (.v (.int c)), some (.v (.int m)), some (.v (.str (tx abc))), some (.v (.int z)), some (.v (.int a)), acc, some (.v (.int k)), some (.v (.str (tx (w ++ [ch (x % 26)])))), y8, some (.v (.int x))] h := by
 unfold nB7
 have b0 := sz26
 simp_arith [zl7, b0, zri, ze0 (b1 _)]
theorem zt3 (x : Int) (y8 : Option Vl) (b1 : ∀ x : Nat, w.length + [x].length ≤ sizeLine) : nC7 [some (.v (.int c)), some (.v (.int m)), some (.v (.str (tx abc))), some (.v (.int z)), some (.v (.int a)), acc, some (.v (.int k)), some (.v (.str (tx w))), y8, some (.v (.int x))] h = .nx [some (.v (.int c)), some (.v (.int m)), some (.v (.str (tx abc))), some (.v (.int z)), some (.v (.int a)), acc, some (.v (.int k)), some (.v (.str (tx (w ++ [ch (x % 36)])))), y8, some (.v (.int x))] h := by
 unfold nC7
 have b9 : abc9.length ≤ sizeLine := sz36
 simp_arith [zl7, b9, zun, zqa, ze0 (b1 _)]
theorem nI_0 (x : Int) (b1 : ∀ x : Nat, w.length + [x].length ≤ sizeLine) : nI [some (.v (.int c)), some (.v (.int m)), some (.v (.str (tx abc))), some (.v (.int z)), some (.v (.int a)), acc, some (.v (.int k)), some (.v (.str (tx w))), some (.v (.int 0)), some (.v (.int x))] h = .nx [some (.v (.int c)), some (.v (.int m)), some (.v (.str (tx abc))), some (.v (.int z)), some (.v (.int a)), acc, some (.v (.int k)), some (.v (.str (tx (w ++ [ch (x % 26)])))), some (.v (.int 0)), some (.v (.int x))] h := by
 unfold nI
 have e := zt2 c m a z k acc w h x (some (.v (.int 0))) b1
 simp_arith [e]
theorem nI_n (x i : Int) (hi : ¬ i = 0) (b1 : ∀ x : Nat, w.length + [x].length ≤ sizeLine) : nI [some (.v (.int c)), some (.v (.int m)), some (.v (.str (tx abc))), some (.v (.int z)), some (.v (.int a)), acc, some (.v (.int k)), some (.v (.str (tx w))), some (.v (.int i)), some (.v (.int x))] h = .nx [some (.v (.int c)), some (.v (.int m)), some (.v (.str (tx abc))), some (.v (.int z)), some (.v (.int a)), acc, some (.v (.int k)), some (.v (.str (tx (w ++ [ch (x % 36)])))), some (.v (.int i)), some (.v (.int x))] h := by
 unfold nI
 have e := zt3 c m a z k acc w h x (some (.v (.int i))) b1
 simp_arith [e, hi]
theorem zma (hz : 1 ≤ z ∧ z ≤ 8) (kk : Nat) (hk : kk ≤ 100) (ek : k = (kk : Int)) (x8 x9 : Option Vl) :
  ∃ y8 y9, zbz [some (.v (.int c)), some (.v (.int m)), some (.v (.str (tx abc))), some (.v (.int z)), some (.v (.int a)), acc, some (.v (.int k)), some (.v (.str (tx []))), x8, x9] h = .nx [some (.v (.int c)), some (.v (.int m)), some (.v (.str (tx abc))), some (.v (.int z)), some (.v (.int a)), acc, some (.v (.int k)), some (.v (.str (tx ((List.range z.toNat).map (sgn c a kk))))), y8, y9] h := by
 have e0 : zbz = sFor (iR1 (aCons (pV 3) aNil)) (gN 8) (sSeq nB9 nI) := rfl
 rw [e0]
 obtain ⟨s', e, y8, y9, rfl⟩ := zhh (j := z) (a := aCons (pV 3) aNil) (s := [some (.v (.int c)), some (.v (.int m)), some (.v (.str (tx abc))), some (.v (.int z)), some (.v (.int a)), acc, some (.v (.int k)), some (.v (.str (tx []))), x8, x9]) (h := h) (g := gN 8) (b := sSeq nB9 nI) (by simp_arith []) (by omega)
  (fun i s => ∃ y8 y9, s = [some (.v (.int c)), some (.v (.int m)), some (.v (.str (tx abc))), some (.v (.int z)), some (.v (.int a)), acc, some (.v (.int k)), some (.v (.str (tx ((List.range i).map (sgn c a kk))))), y8, y9]) ⟨_, _, rfl⟩ (by
   rintro i s hi ⟨y8, y9, rfl⟩
   have h1 := szl
   have c1 : CMul 29 (i : Int) := zeo ⟨by decide, by decide⟩
   have c2 : ∀ x, CMul k x := fun x => zeo ⟨by omega, by omega⟩
   have c5 : (0 : Int) < 64 + 29 * (i : Int) := by omega
   have c6 : 64 + 29 * (i : Int) < 1073741824 := by omega
   have b1 : ∀ x : Nat, ((List.range i).map (sgn c a kk)).length + [x].length ≤ sizeLine := fun x => by rw [List.length_map, List.length_range, List.length_singleton]; omega
   have e9 : ((List.range (i + 1)).map (sgn c a kk)) = (List.range i).map (sgn c a kk) ++ [sgn c a kk i] := by rw [List.range_succ, List.map_append]; rfl
   obtain ⟨p, hp, e1⟩ : ∃ p, plc c a kk i = p ∧ nB9 [some (.v (.int c)), some (.v (.int m)), some (.v (.str (tx abc))), some (.v (.int z)), some (.v (.int a)), acc, some (.v (.int k)), some (.v (.str (tx ((List.range i).map (sgn c a kk))))), some (.v (.int i)), y9] h = .nx [some (.v (.int c)), some (.v (.int m)), some (.v (.str (tx abc))), some (.v (.int z)), some (.v (.int a)), acc, some (.v (.int k)), some (.v (.str (tx ((List.range i).map (sgn c a kk))))), some (.v (.int i)), some (.v (.int p))] h := by
    cases hd : decide ((i : Int) = a) with
    | true => exact ⟨_, by unfold plc; rw [if_pos (of_decide_eq_true hd), ← ek], zvp c m a z k acc _ h i y9 c1 c2 c5 c6 hd⟩
    | false => exact ⟨_, by unfold plc; rw [if_neg (of_decide_eq_false hd), ← ek], zuj c m a z k acc _ h i y9 c1 c2 c5 c6 hd⟩
   by_cases h0 : (i : Int) = 0
   ·have eg : sgn c a kk i = ch (p % 26) := by unfold sgn; rw [if_pos h0, hp]
    have e2 := nI_0 c m a z k acc ((List.range i).map (sgn c a kk)) h p b1
    rw [← h0] at e2
    exact ⟨_, by (simp_arith [e1, e2]) <;> rfl, ⟨_, _, by rw [e9, eg]⟩⟩
   ·have eg : sgn c a kk i = ch (p % 36) := by unfold sgn; rw [if_neg h0, hp]
    have e2 := nI_n c m a z k acc ((List.range i).map (sgn c a kk)) h p i h0 b1
    exact ⟨_, by (simp_arith [e1, e2]) <;> rfl, ⟨_, _, by rw [e9, eg]⟩⟩)
 exact ⟨y8, y9, e⟩
end
def nme (c : Int) (k : Nat) : List Nat := (List.range (1 + c % 8).toNat).map (sgn c (c / 8 % (1 + c % 8)) k)
theorem zsc (c : Int) {i j : Nat} (h : i < j) (hj : j < 20) : nme c i ≠ nme c j := by
 intro e
 have hz : 1 ≤ 1 + c % 8 ∧ 1 + c % 8 ≤ 8 := by omega
 obtain ⟨a, ha⟩ := Int.eq_ofNat_of_zero_le (Int.emod_nonneg (c / 8) (show 1 + c % 8 ≠ 0 by omega))
 have hal := Int.emod_lt_of_pos (c / 8) (show 0 < 1 + c % 8 by omega)
 have hal2 : a < (1 + c % 8).toNat := by omega
 have := congrArg (fun l => l[a]?) e
 unfold nme at this
 simp only [List.getElem?_map, List.getElem?_range hal2, Option.map_some, Option.some.injEq] at this
 unfold sgn plc at this
 rw [ha] at this
 simp only [if_true, Int.mul_one] at this
 split at this
 ·have := znh this; omega
 ·have := zp2 this; omega
def zql (m : Int) (h : H3) (R : Res Vl) : Prop := ∃ ls : List Str, R = .ok (.m (.lst (ls.map .str))) h ∧ ls.length = m.toNat ∧ ls.Nodup ∧ ∀ l ∈ ls, l.length ≤ 8
theorem zku (c m : Int) (hm : 0 ≤ m ∧ m < 20) (h : H3) : zql m h (f_law_names [.int c, .int m] h) := by
 unfold f_law_names zdl zcs
 refine zes rfl ?_
 refine zao (by rw [ztt]; (simp_arith []) <;> rfl) ?_
 have c0 : 0 < 1 + c % 8 := by omega
 refine zao (by (simp_arith []) <;> rfl) ?_
 refine zao (by (simp_arith [c0]) <;> rfl) ?_
 refine zao (by (simp_arith []) <;> rfl) ?_
 refine zld (j := m) (by simp_arith []) (by omega) (fun i s => ∃ x6 x7 x8 x9, s = [some (.v (.int c)), some (.v (.int m)), some (.v (.str (tx abc))), some (.v (.int (1 + c % 8))), some (.v (.int (c / 8 % (1 + c % 8)))), some (.m (.lst (((List.range i).map fun k => tx (nme c k)).map .str))), x6, x7, x8, x9]) ⟨none, none, none, none, rfl⟩ ?_ ?_
 ·rintro i s hi ⟨x6, x7, x8, x9, rfl⟩
  have h1 := szl
  have c3 : (List.range i).length < sizeLine := by rw [List.length_range]; omega
  obtain ⟨y8, y9, e⟩ := zma c m (c / 8 % (1 + c % 8)) (1 + c % 8) i (some (.m (.lst (((List.range i).map fun k => tx (nme c k)).map .str)))) h (by omega) i (by omega) rfl x8 x9
  refine ⟨_, by rw [zn2]; (simp_arith [e, c3, List.length_map]) <;> rfl, ⟨some (.v (.int i)), some (.v (.str (tx (nme c i)))), y8, y9, ?_⟩⟩
  rw [List.range_succ, List.map_append, List.map_append]; rfl
 ·rintro s ⟨x6, x7, x8, x9, rfl⟩
  refine ⟨(List.range m.toNat).map fun k => tx (nme c k), by (simp_arith []) <;> rfl, by simp, nodup_range fun i j hij hj e => zsc c hij (by omega) (zsk e), ?_⟩
  intro l hl
  obtain ⟨k, _, rfl⟩ := List.mem_map.1 hl
  rw [zjl, nme, List.length_map, List.length_range]; omega
end My
namespace Cal
abbrev P := Int × Int
def at_ : List P → Int → Int → Int
 | [], rest, _ => rest
 | p :: r, rest, t => if t < p.1 then p.2 else at_ r rest (t - p.1)
def zvi : List P → Int → Int → Int
 | [], rest, t => max 0 t * rest
 | p :: r, rest, t => min p.1 (max 0 t) * p.2 + zvi r rest (t - p.1)
def tot : List P → Int
 | [] => 0
 | p :: r => p.1 + tot r
def cc (a b lo hi : Int) : Int := max 0 (min b hi - max a lo + 1)
def over : List P → Int → Int → Int → Int → Int
 | [], rest, st, f, l => rest * cc st l f l
 | p :: r, rest, st, f, l => p.2 * cc st (st + p.1 - 1) f l + over r rest (st + p.1) f l
def zux : List P → Int → List Int
 | [], _ => []
 | p :: r, st => (st + p.1) :: zux r (st + p.1)
def Pos (rows : List P) : Prop := ∀ p ∈ rows, 1 ≤ p.1
theorem Pos.tail {p : P} {r : List P} (h : Pos (p :: r)) : Pos r := fun x hx => h x (List.mem_cons_of_mem _ hx)
theorem Pos.head {p : P} {r : List P} (h : Pos (p :: r)) : 1 ≤ p.1 := h p List.mem_cons_self
def pk (rest : Int) : Int → Int → List P → List P
 | a, c, [] => if c = rest then [] else [(a, c)]
 | a, c, p :: r => if p.2 = c then pk rest (a + p.1) c r else (a, c) :: pk rest p.1 p.2 r
def kform (rest : Int) : List P → List P
 | [] => []
 | p :: r => pk rest p.1 p.2 r
def nstep (acc : List P) (r : P) : List P :=
 match acc.getLast? with
 | some l => if l.2 = r.2 then acc.dropLast ++ [(l.1 + r.1, r.2)] else acc ++ [r]
 | none => acc ++ [r]
theorem zkd {acc : List P} {l : P} (h : acc.getLast? = some l) (r : P) : nstep acc r = if l.2 = r.2 then acc.dropLast ++ [(l.1 + r.1, r.2)] else acc ++ [r] := by
 unfold nstep; rw [h]
theorem nstep_snoc (i : List P) (l r : P) : nstep (i ++ [l]) r = if l.2 = r.2 then i ++ [(l.1 + r.1, r.2)] else (i ++ [l]) ++ [r] := by
 rw [zkd (l := l) (by simp)]
 simp
def drp (rest : Int) (t : List P) : List P :=
 match t.getLast? with
 | some l => if l.2 = rest then t.dropLast else t
 | none => t
theorem drp_last {rest : Int} {t : List P} {l : P} (h : t.getLast? = some l) : drp rest t = if l.2 = rest then t.dropLast else t := by
 unfold drp; rw [h]
theorem drp_empty {rest : Int} {t : List P} (h : t = []) : drp rest t = t := by rw [h]; rfl
theorem zh1 (rest : Int) : ∀ (r i : List P) (a c : Int), drp rest (r.foldl nstep (i ++ [(a, c)])) = i ++ pk rest a c r
 | [], i, a, c => by
  rw [List.foldl_nil, drp_last (l := (a, c)) (by simp)]
  unfold pk
  by_cases h : c = rest
  ·rw [if_pos h, if_pos h]; simp
  ·rw [if_neg h, if_neg h]
 | p :: r, i, a, c => by
  rw [List.foldl_cons, nstep_snoc]
  unfold pk
  by_cases h : c = p.2
  ·rw [if_pos h, if_pos h.symm]
   have := zh1 rest r i (a + p.1) p.2
   rw [← h] at this ⊢
   exact this
  ·rw [if_neg h, if_neg (Ne.symm h)]
   have := zh1 rest r (i ++ [(a, c)]) p.1 p.2
   rw [this, List.append_assoc]
   rfl
theorem kept_eq (rest : Int) (rows : List P) : drp rest (rows.foldl nstep []) = kform rest rows := by
 cases rows with
 | nil => rfl
 | cons p r => exact zh1 rest r [] p.1 p.2
theorem zqb (rest : Int) : ∀ (r : List P) (a c t : Int), Pos r → at_ (pk rest a c r) rest t = at_ ((a, c) :: r) rest t
 | [], a, c, t, _ => by
  unfold pk
  by_cases h : c = rest
  ·rw [if_pos h]
   simp only [at_]
   rw [h]; simp
  ·rw [if_neg h]
 | p :: r, a, c, t, h => by
  have h1 := h.head
  unfold pk
  by_cases e : p.2 = c
  ·rw [if_pos e, zqb rest r (a + p.1) c t h.tail]
   simp only [at_]
   by_cases c1 : t < a
   ·rw [if_pos c1, if_pos (by omega)]
   ·rw [if_neg c1]
    by_cases c2 : t - a < p.1
    ·rw [if_pos c2, if_pos (by omega), e]
    ·rw [if_neg c2, if_neg (by omega)]
     congr 1; omega
  ·rw [if_neg e]
   simp only [at_]
   rw [zqb rest r p.1 p.2 (t - a) h.tail]
   simp only [at_]
theorem kform_at (rest : Int) (rows : List P) (t : Int) (h : Pos rows) : at_ (kform rest rows) rest t = at_ rows rest t := by
 cases rows with
 | nil => rfl
 | cons p r => exact zqb rest r p.1 p.2 t h.tail
def chg (rest : Int) : List P → Int → List Int
 | [], _ => []
 | p :: r, st => (if at_ r rest 0 = p.2 then [] else [st + p.1]) ++ chg rest r (st + p.1)
def bld (F : Int → Int) : Int → List Int → List P
 | _, [] => []
 | b, t :: ts => (t - b, F b) :: bld F t ts
def zod (t lo hi : Int) : Int := max lo (min t hi)
def zue (st f l by_ : Int) (p : P) : List P :=
 [(zod f st (st + p.1) - st, p.2), (zod (l + 1) st (st + p.1) - zod f st (st + p.1), max 0 (p.2 + by_)), (st + p.1 - zod (l + 1) st (st + p.1), p.2)]
def chr : List P → Int → Int → Int → Int → List P
 | [], _, _, _, _ => []
 | p :: r, st, f, l, by_ => (zue st f l by_ p).filter (fun q => decide (0 < q.1)) ++ chr r (st + p.1) f l by_
def zr4 (rows : List P) (rest l : Int) : List P := if 0 < l + 1 - tot rows then rows ++ [(l + 1 - tot rows, rest)] else rows
def chgd (rows : List P) (rest f l by_ : Int) : List P := kform rest (if f ≤ l then chr (zr4 rows rest l) 0 f l by_ else rows)
def wide (rows : List P) (k : Int) : List P := rows.map fun p => (p.1, p.2 + k)
end Cal
set_option Elab.async false
set_option linter.all false
set_option maxRecDepth 100000
namespace L3
open PySem L2
theorem zu4 {Q : Res Vl → Prop} {ok : H3 → Prop} {g : G3} {b r : D3} {α : Type} {enc : α → V3} {l : List α} (I : Nat → S3 → H3 → Prop) (hok : ∀ i s h, I i s h → ok h)
  (step : ∀ (i : Nat) a s h, l[i]? = some a → I i s h → (∃ s2 h2, (gb g b (enc a) s h = .nx s2 h2 ∨ gb g b (enc a) s h = .ct s2 h2) ∧ I (i + 1) s2 h2) ∨ (∃ v h2, gb g b (enc a) s h = .rt v h2 ∧ Q (.ok v h2)) ∨ ∃ s2 h2, gb g b (enc a) s h = .bk s2 h2 ∧ Q ((r s2 h2).res))
  (k : ∀ s' h', I l.length s' h' → Q ((r s' h').res)) : ∀ (n i : Nat) (s : S3) (h : H3), l.length - i = n → i ≤ l.length → I i s h → Q ((match forC ok g b ((l.drop i).map enc) s h with | .nx s h => r s h | o => o).res) := by
 intro n
 induction n with
 | zero =>
  intro i s h hn hi hI
  have e : i = l.length := by omega
  subst e
  rw [List.drop_length, List.map_nil]
  unfold forC
  rw [if_pos (hok _ _ _ hI)]
  exact k s h hI
 | succ n ih =>
  intro i s h hn hi hI
  have hil : i < l.length := by omega
  rw [zd5 (List.getElem?_eq_getElem hil), List.map_cons]
  unfold forC
  rw [if_pos (hok _ _ _ hI)]
  have st := step i l[i] s h (List.getElem?_eq_getElem hil) hI
  unfold gb at st
  cases q : g (enc l[i]) s with
  | none => simp only [q] at st; rcases st with ⟨_, _, z | z, _⟩ | ⟨_, _, z, _⟩ | ⟨_, _, z, _⟩ <;> cases z
  | some s1 =>
   simp only [q] at st ⊢
   rcases st with ⟨s2, h2, z | z, hI2⟩ | ⟨v, h2, z, hq⟩ | ⟨s2, h2, z, hq⟩
   ·rw [z]; exact ih (i + 1) s2 h2 (by omega) hil hI2
   ·rw [z]; exact ih (i + 1) s2 h2 (by omega) hil hI2
   ·rw [z]; exact hq
   ·rw [z]; exact hq
theorem it_E {Q : Res Vl → Prop} {α : Type} {it : I3} {g : G3} {b r : D3} {s : S3} {h : H3} {its : List V3} {ok : H3 → Prop} {enc : α → V3} {l : List α} (ei : it s h = .ok ⟨its, l.map enc, ok⟩ h)
  (I : Nat → S3 → H3 → Prop) (hok : ∀ i s h, I i s h → ok h) (h0 : I 0 s h)
  (step : ∀ (i : Nat) a s h, l[i]? = some a → I i s h → (∃ s2 h2, (gb g b (enc a) s h = .nx s2 h2 ∨ gb g b (enc a) s h = .ct s2 h2) ∧ I (i + 1) s2 h2) ∨ (∃ v h2, gb g b (enc a) s h = .rt v h2 ∧ Q (.ok v h2)) ∨ ∃ s2 h2, gb g b (enc a) s h = .bk s2 h2 ∧ Q ((r s2 h2).res))
  (k : ∀ s' h', I l.length s' h' → Q ((r s' h').res)) : Q ((sSeq (sFor it g b) r s h).res) := by
 have := zu4 (Q := Q) (r := r) I hok step k _ 0 s h rfl (Nat.zero_le _) h0
 unfold sSeq sFor
 simp only [ei, Res.bindS]
 rw [List.drop_zero] at this
 exact this
section
variable {α : Type} [DecidableEq α]
theorem zjh (k j : α) (y : V3) : ∀ kvs : List (α × V3), val3 (kvs.map fun kv => if kv.1 = k then (kv.1, y) else kv) j = if j = k then (val3 kvs k).map (fun _ => y) else val3 kvs j
 | [] => by simp [val3]
 | (a, x) :: r => by
  have ih := zjh k j y r
  unfold val3 at ih ⊢
  simp only [List.map_cons, List.find?_cons]
  by_cases h1 : a = k
  ·subst h1
   by_cases h2 : j = a
   ·subst h2; simp
   ·have h3 : ¬ a = j := fun z => h2 z.symm
    simp only [if_pos, h3, h2, decide_false, if_false] at ih ⊢
    exact ih
  ·by_cases h2 : a = j
   ·subst h2; simp [h1]
   ·simp only [h1, h2, if_false, decide_false]; exact ih
theorem zi7 (kvs : List (α × V3)) (k j : α) (y : V3) : val3 (put3 kvs k y) j = if j = k then some y else val3 kvs j := by
 unfold put3
 by_cases ha : (kvs.any fun kv => decide (kv.1 = k)) = true
 ·rw [if_pos ha, zjh]
  by_cases hj : j = k
  ·rw [if_pos hj, if_pos hj]
   have : (val3 kvs k).isSome = true := by
    unfold val3
    rw [Option.isSome_map, List.find?_isSome]
    simpa using ha
   obtain ⟨z, hz⟩ := Option.isSome_iff_exists.1 this
   rw [hz]; rfl
  ·rw [if_neg hj, if_neg hj]
 ·rw [if_neg ha]
  have hn : val3 kvs k = none := by
   unfold val3
   rw [Option.map_eq_none_iff, List.find?_eq_none]
   intro x hx z
   exact ha (List.any_eq_true.2 ⟨x, hx, z⟩)
  unfold val3 at hn ⊢
  rw [List.find?_append]
  by_cases h2 : j = k
  ·subst h2
   have : kvs.find? (fun kv => decide (kv.1 = j)) = none := by simpa using hn
   rw [this]; simp
  ·have : ([(k, y)] : List (α × V3)).find? (fun kv => decide (kv.1 = j)) = none := by
    simp; exact fun z => h2 z.symm
   rw [this, if_neg h2]; simp
theorem zjk (kvs : List (α × V3)) (k : α) (y : V3) : (put3 kvs k y).length ≤ kvs.length + 1 := by
 unfold put3; split <;> simp
structure Cnt (kvs : List (α × V3)) (L : List α) : Prop where
 val : ∀ k, val3 kvs k = if L.count k = 0 then none else some (.int (L.count k))
 len : kvs.length ≤ L.length
theorem Cnt.nil : Cnt ([] : List (α × V3)) [] := ⟨fun k => by simp [val3], Nat.le_refl _⟩
theorem Cnt.getD {kvs : List (α × V3)} {L : List α} (c : Cnt kvs L) (k : α) : (val3 kvs k).getD (.int 0) = .int (L.count k) := by
 rw [c.val]; split
 ·rename_i e; rw [e]; rfl
 ·rfl
theorem Cnt.isSome {kvs : List (α × V3)} {L : List α} (c : Cnt kvs L) (k : α) : (val3 kvs k).isSome = decide (0 < L.count k) := by
 rw [c.val]; split
 ·rename_i e; rw [e]; rfl
 ·rename_i e; rw [Option.isSome_some, decide_eq_true (by omega)]
theorem Cnt.put {kvs : List (α × V3)} {L : List α} (c : Cnt kvs L) (k : α) : Cnt (put3 kvs k (.int (L.count k + 1))) (L ++ [k]) := ⟨fun j => by
 rw [zi7, List.count_append, List.count_singleton]
 by_cases h : j = k
 ·subst h; simp
 ·have h2 : ¬ (k == j) = true := by simpa using fun z => h z.symm
  rw [if_neg h, if_neg h2, c.val]; rfl, by
 have := zjk kvs k (.int (L.count k + 1))
 have := c.len
 rw [List.length_append, List.length_singleton]; omega⟩
end
end L3
set_option Elab.async false
set_option linter.all false
set_option maxRecDepth 100000
set_option maxHeartbeats 1000000
namespace My
open PySem L2 L3
structure RwB (rows : List (Int × Int)) (rest : Int) : Prop where
 len : rows.length ≤ 16
 one : ∀ p ∈ rows, 1 ≤ p.1 ∧ p.1 ≤ 1000000 ∧ 0 ≤ p.2 ∧ p.2 ≤ 16
 rest : 1 ≤ rest ∧ rest ≤ 16
theorem nb2 : (Str.ofString "stretches" = Str.ofString "beyond") = False := eq_false (by decide +kernel)
abbrev calV (rows : List (Int × Int)) (rest : Int) : V3 := .obj "Calendar" [("stretches", .lst (rows.map encP)), ("beyond", .int rest)]
theorem zgi (a : Int) (h : H3) : f_is_whole [.int a] h = .ok (.v (.bl true)) h := by
 simp_arith [f_is_whole, zek]
theorem zba {a b c : Int} (h1 : b ≤ a) (h2 : a ≤ c) (h : H3) : f_is_whole_between [.int a, .int b, .int c] h = .ok (.v (.bl true)) h := by
 simp_arith [f_is_whole_between, zbp, zgi, h1, h2]
theorem zer {a : Int} (h1 : 0 ≤ a) (h2 : a ≤ 16) (h : H3) : f_is_machines [.int a] h = .ok (.v (.bl true)) h := by
 simp_arith [f_is_machines, zcz, zba h1 h2]
theorem zg6 {a : Int} (h1 : 1 ≤ a) (h2 : a ≤ 16) (h : H3) : f_is_rest [.int a] h = .ok (.v (.bl true)) h := by
 simp_arith [f_is_rest, ze9, zba h1 h2]
theorem zdd {p : Int × Int} (h1 : 1 ≤ p.1 ∧ p.1 ≤ 1000000 ∧ 0 ≤ p.2 ∧ p.2 ≤ 16) (h : H3) : f_is_calendar_row [encP p] h = .ok (.v (.bl true)) h := by
 simp_arith [f_is_calendar_row, zbt, zba h1.1 h1.2.1, zer h1.2.2.1 h1.2.2.2]
theorem zc0 {rows : List (Int × Int)} {rest : Int} (hr : RwB rows rest) (h : H3) : f_are_calendar_rows [.lst (rows.map encP)] h = .ok (.v (.bl true)) h := by
 have hc : za0 [some (.v (.lst (rows.map encP)))] h = .ok (.m (.lst ((rows.map fun _ => true).map .bl))) h := by
  unfold za0
  rw [List.map_map]
  refine zf5 (x := .lst (rows.map encP)) (enc := encP) (fun s => ∃ a, s = [a]) _ (by simp_arith []) rfl (by have := hr.len; omega) ⟨none, rfl⟩ ?_
  rintro p s hp ⟨a, rfl⟩
  exact ⟨_, _, by (simp_arith []) <;> rfl, ⟨_, rfl⟩, by (simp_arith [zdd (hr.one p hp)]) <;> rfl, rfl⟩
 have hl : ¬ ((16 : Int) < (rows.length : Int)) := by have := hr.len; omega
 have ha : (rows.map fun _ => true).all id = true := by simp
 simp_arith [f_are_calendar_rows, zbm, hc, List.length_map, hl, zrd, ha]
theorem zfo (rows : List (Int × Int)) (hl : rows.length ≤ 1000) (h : H3) : f_neighbours_as_one [.lst (rows.map encP)] h = .ok (.m (.lst ((rows.foldl Cal.nstep []).map encP))) h := by
 show Is h _ _
 unfold f_neighbours_as_one zbi zbb
 refine zes rfl ?_
 refine zao (by (simp_arith []) <;> rfl) ?_
 refine zir (x := .lst (rows.map encP)) (l := rows) (enc := encP) (by simp_arith []) rfl (fun i s => ∃ acc x2 x3, s = [some (.v (.lst (rows.map encP))), some (.m (.lst (acc.map encP))), x2, x3] ∧ acc.length ≤ i ∧ (rows.drop i).foldl Cal.nstep acc = rows.foldl Cal.nstep []) ⟨[], none, none, rfl, by simp, by simp⟩ ?_ ?_
 ·rintro i p s hi ⟨acc, x2, x3, rfl, ha, hI⟩
  rw [zd5 hi, List.foldl_cons] at hI
  have hil : i < rows.length := (List.getElem?_eq_some_iff.1 hi).1
  have c3 : acc.length < sizeLine := by have := szl; omega
  rcases List.eq_nil_or_concat acc with rfl | ⟨ini, q, rfl⟩
  ·refine ⟨_, by (simp_arith [ze8, List.isEmpty_nil]) <;> rfl, ⟨[(p.1, p.2)], _, _, rfl, by simp, ?_⟩⟩
   rw [← hI]; rfl
  ·rw [List.concat_eq_append, Cal.nstep_snoc] at hI
   rw [List.concat_eq_append] at c3 ha ⊢
   rw [List.map_append, List.map_cons, List.map_nil]
   rw [List.length_append, List.length_singleton] at ha
   have e1 : ∀ (h : H3) (x2 x3 : Option Vl), oIx [some (.v (.lst (rows.map encP))), some (.m (.lst (ini.map encP ++ [encP q]))), x2, x3] h (.s 1) (.x (.int (-1))) = some (.v (encP q)) := fun h x2 x3 => zov rfl
   have c4 : ini.length + 1 < sizeLine := by simpa using c3
   have ne : (ini.map encP ++ [encP q]).isEmpty = false := by simp
   have e2 : ixN (ini.length + 1) (-1) = some ini.length := by
    unfold ixN
    rw [if_neg (by decide), if_pos (by omega)]
    congr 1; omega
   by_cases hq : q.2 = p.2
   ·rw [if_pos hq] at hI
    refine ⟨_, by (simp_arith [ne, e1, hq, ziv, List.length_append, List.length_map, e2]) <;> rfl, ⟨ini ++ [(q.1 + p.1, p.2)], some (.v (.int p.1)), some (.v (.int p.2)), ?_, by simpa using by omega, hI⟩⟩
    rw [List.map_append, List.map_cons, List.map_nil, zfl (by rw [List.length_map])]
   ·rw [if_neg hq] at hI
    refine ⟨_, by (simp_arith [ne, e1, hq, c4, List.length_append, List.length_map]) <;> rfl, ⟨(ini ++ [q]) ++ [p], some (.v (.int p.1)), some (.v (.int p.2)), ?_, by simpa using by omega, hI⟩⟩
    rw [List.map_append, List.map_append, List.map_cons, List.map_nil, List.map_cons, List.map_nil]
 ·rintro s ⟨acc, x2, x3, rfl, ha, hI⟩
  rw [List.drop_length, List.foldl_nil] at hI
  subst hI
  unfold Is
  (simp_arith []) <;> rfl
theorem zfs (rows : List (Int × Int)) (rest : Int) (hl : rows.length ≤ 1000) (h : H3) : f_kept_rows [.lst (rows.map encP), .int rest] h = .ok (.m (.lst ((Cal.kform rest rows).map encP))) h := by
 rw [← Cal.kept_eq]
 generalize hm : rows.foldl Cal.nstep [] = t
 have e0 := zfo rows hl h
 rw [hm] at e0
 rcases List.eq_nil_or_concat t with rfl | ⟨ini, q, rfl⟩
 ·rw [Cal.drp_empty rfl]
  (simp_arith [f_kept_rows, zb9, e0, ze8, List.isEmpty_nil])
 ·rw [List.concat_eq_append] at e0 ⊢
  rw [Cal.drp_last (l := q) (by simp), List.dropLast_concat]
  have ne : (ini.map encP ++ [encP q]).isEmpty = false := by simp
  have e1 : ∀ (h : H3) (x0 x1 : Option Vl), oIx [x0, x1, some (.m (.lst (ini.map encP ++ [encP q])))] h (.s 2) (.x (.int (-1))) = some (.v (encP q)) := fun h x0 x1 => zov rfl
  rw [List.map_append, List.map_cons, List.map_nil] at e0
  have e3 : mPop (ini.map encP ++ [encP q]) [] = some (ini.map encP, encP q) := by
   unfold mPop; simp
  by_cases hq : q.2 = rest
  ·rw [if_pos hq]
   (simp_arith [f_kept_rows, zb9, e0, ne, e1, hq, e3])
  ·rw [if_neg hq]
   (simp_arith [f_kept_rows, zb9, e0, ne, e1, hq, List.map_append])
theorem zoq {rows : List (Int × Int)} {rest : Int} (hr : RwB rows rest) (h : H3) : f_Calendar_init [.loc h.length, .lst (rows.map encP), .int rest] (h ++ [.ins "Calendar" []]) = .ok (.v .non) (h ++ [.ins "Calendar" [("stretches", .lst ((Cal.kform rest rows).map encP)), ("beyond", .int rest)]]) := by
 have hg : ∀ c, (h ++ [C3.ins "Calendar" c])[h.length]? = some (.ins "Calendar" c) := fun c => by simp
 have hs : ∀ c d, (h ++ [C3.ins "Calendar" c]).set h.length d = h ++ [d] := fun c d => zfl rfl
 simp_arith [f_Calendar_init, zca, zc0 hr, zg6 hr.rest.1 hr.rest.2, zn3, zfs rows rest (by have := hr.len; omega), hg, hs, zj6, List.mem_singleton, nb2]
theorem zmc {p : Int × Int} {r : List (Int × Int)} {rest t : Int} : Cal.at_ (p :: r) rest t = if t < p.1 then p.2 else Cal.at_ r rest (t - p.1) := rfl
theorem zpc {rest t : Int} : Cal.at_ [] rest t = rest := rfl
theorem zee (rows : List (Int × Int)) (rest t : Int) (h : H3) : f_Calendar_at [calV rows rest, .int t] h = .ok (.v (.int (Cal.at_ rows rest t))) h := by
 show Is h _ _
 unfold f_Calendar_at zcq zb6
 refine zes rfl ?_
 refine zao (by (simp_arith []) <;> rfl) ?_
 refine it_E (l := rows) (enc := encP) (its := [.lst (rows.map encP)]) (ok := fun _ => True) (by (simp_arith [iL, zb3]) <;> rfl) (fun i s h' => h' = h ∧ ∃ e y3 y4, s = [some (.v (calV rows rest)), some (.v (.int t)), some (.v (.int e)), y3, y4] ∧ Cal.at_ (rows.drop i) rest (t - e) = Cal.at_ rows rest t) (fun _ _ _ _ => trivial) ⟨rfl, 0, none, none, rfl, by rw [List.drop_zero, Int.sub_zero]⟩ ?_ ?_
 ·rintro i p s h' hi ⟨rfl, e, y3, y4, rfl, hI⟩
  rw [zd5 hi, zmc] at hI
  by_cases hq : t < e + p.1
  ·rw [if_pos (by omega)] at hI
   refine .inr (.inl ⟨.v (.int p.2), _, by (simp_arith [hq]) <;> rfl, ?_⟩)
   unfold Is; rw [hI]
  ·rw [if_neg (by omega)] at hI
   refine .inl ⟨_, _, .inl (by (simp_arith [hq]) <;> rfl), rfl, e + p.1, _, _, rfl, ?_⟩
   rw [← hI]; congr 1; omega
 ·rintro s h' ⟨rfl, e, y3, y4, rfl, hI⟩
  rw [List.drop_length, zpc] at hI
  unfold Is; rw [← hI]
  (simp_arith []) <;> rfl
theorem zbu (rows : List (Int × Int)) (rest t : Int) (h : H3) : f_law_at [.lst (rows.map encP), .int rest, .int t] h = .ok (.v (.int (Cal.at_ rows rest t))) h := by
 show Is h _ _
 unfold f_law_at zgp zej
 refine zes rfl ?_
 refine it_E (l := rows) (enc := encP) (its := [.lst (rows.map encP)]) (ok := fun _ => True) (by (simp_arith [iL, zb3]) <;> rfl) (fun i s h' => h' = h ∧ ∃ e y3 y4, s = [some (.v (.lst (rows.map encP))), some (.v (.int rest)), some (.v (.int e)), y3, y4] ∧ Cal.at_ (rows.drop i) rest e = Cal.at_ rows rest t) (fun _ _ _ _ => trivial) ⟨rfl, t, none, none, rfl, by rw [List.drop_zero]⟩ ?_ ?_
 ·rintro i p s h' hi ⟨rfl, e, y3, y4, rfl, hI⟩
  rw [zd5 hi, zmc] at hI
  by_cases hq : e < p.1
  ·rw [if_pos hq] at hI
   refine .inr (.inl ⟨.v (.int p.2), _, by (simp_arith [hq]) <;> rfl, ?_⟩)
   unfold Is; rw [hI]
  ·rw [if_neg hq] at hI
   exact .inl ⟨_, _, .inl (by (simp_arith [hq]) <;> rfl), rfl, e - p.1, _, _, rfl, hI⟩
 ·rintro s h' ⟨rfl, e, y3, y4, rfl, hI⟩
  rw [List.drop_length, zpc] at hI
  unfold Is; rw [← hI]
  (simp_arith []) <;> rfl
end My
set_option Elab.async false
set_option linter.all false
set_option maxRecDepth 100000
set_option maxHeartbeats 1000000
namespace My
open PySem L2 L3
abbrev Rw := Int × Int × Str
abbrev encR (r : Rw) : V3 := .tup [.int r.1, .int r.2.1, .str r.2.2]
structure Jb where
 n : Str
 f : Int
 l : Int
 w : Int
 b : Int
abbrev Jb.enc (j : Jb) : V3 := .tup [.str j.n, .int j.f, .int j.l, .int j.w, .int j.b]
def own (ah : List Rw) (z : Str) : List Rw := ah.filter fun r => decide (r.2.2 = z)
def now (ah : List Rw) (t : Int) (z : Str) : List Rw := (own ah z).filter fun r => decide (r.1 = t)
def tkn (ah : List Rw) (t m : Int) : Bool := ah.any fun r => decide (r.1 = t) && decide (r.2.1 = m)
def wd (o : Option Jb) (a : Int) (ah : List Rw) (r : Rw) : V3 :=
 match o with
 | none => .str "name"
 | some j => if j.f ≤ r.1 ∧ r.1 ≤ j.l then if 0 ≤ r.2.1 ∧ r.2.1 < a then if tkn ah r.1 r.2.1 = true then .str "taken" else if j.b ≤ ((now ah r.1 r.2.2).length : Int) then .str "breadth" else if j.w ≤ ((own ah r.2.2).length : Int) then .str "work" else .non else .str "machine" else .str "window"
def oj : Option Jb → V3
 | none => .non
 | some j => j.enc
def keys (r : Rw) : List MK := [.tup [.inl r.1, .inl r.2.1], .tup [.inl r.1, .inr r.2.2], .one (.inr r.2.2)]
theorem zrv (t m : Int) : ∀ ah : List Rw, decide (0 < (ah.flatMap keys).count (MK.tup [.inl t, .inl m])) = tkn ah t m
 | [] => rfl
 | r :: ah => by
  have ih := zrv t m ah
  unfold tkn at ih ⊢
  rw [List.flatMap_cons, List.count_append, List.any_cons, ← ih]
  have e : (keys r).count (MK.tup [.inl t, .inl m]) = if r.1 = t ∧ r.2.1 = m then 1 else 0 := by
   unfold keys
   simp only [List.count_cons, List.count_nil, beq_iff_eq, MK.tup.injEq, List.cons.injEq, Sum.inl.injEq, and_true, reduceCtorEq, if_false, and_false, false_and]
   split <;> simp_all
  rw [e]
  by_cases h : r.1 = t ∧ r.2.1 = m
  ·rw [if_pos h, h.1, h.2]; simp; omega
  ·rw [if_neg h]
   have : (decide (r.1 = t) && decide (r.2.1 = m)) = false := by simpa using h
   rw [this]; simp
theorem ztk (t : Int) (z : Str) : ∀ ah : List Rw, (ah.flatMap keys).count (MK.tup [.inl t, .inr z]) = (now ah t z).length
 | [] => rfl
 | r :: ah => by
  have ih := ztk t z ah
  unfold now own at ih ⊢
  rw [List.flatMap_cons, List.count_append, ih]
  have e : (keys r).count (MK.tup [.inl t, .inr z]) = if r.1 = t ∧ r.2.2 = z then 1 else 0 := by
   unfold keys
   simp only [List.count_cons, List.count_nil, beq_iff_eq, MK.tup.injEq, List.cons.injEq, Sum.inl.injEq, Sum.inr.injEq, and_true, reduceCtorEq, if_false, and_false, false_and]
   split <;> simp_all
  rw [e]
  by_cases h : r.2.2 = z
  ·by_cases h2 : r.1 = t
   ·simp [h, h2]; omega
   ·simp [h, h2]
  ·simp [h]
theorem zth (z : Str) : ∀ ah : List Rw, (ah.flatMap keys).count (MK.one (.inr z)) = (own ah z).length
 | [] => rfl
 | r :: ah => by
  have ih := zth z ah
  unfold own at ih ⊢
  rw [List.flatMap_cons, List.count_append, ih]
  have e : (keys r).count (MK.one (.inr z)) = if r.2.2 = z then 1 else 0 := by
   unfold keys
   simp only [List.count_cons, List.count_nil, beq_iff_eq, MK.one.injEq, Sum.inr.injEq, reduceCtorEq, if_false]
   split <;> simp_all
  rw [e]
  by_cases h : r.2.2 = z
  ·simp [h]; omega
  ·simp [h]
section
variable {ah : List Rw} {kvs : List (MK × V3)} {n : Nat} {h : H3}
theorem g_in (c : Cnt kvs (ah.flatMap keys)) (hn : h[n]? = some (.dT kvs)) (s : S3) (t m : Int) : oDIn false s h (.x (.tup [.int t, .int m])) (.x (.loc n)) = some (.v (.bl (tkn ah t m))) := by
 unfold oDIn rdd
 simp only [hn, C3.dc, Dc.get, zev, mapO, kyd3, Option.map_some, c.isSome, zrv, if_false, Bool.false_eq_true]
theorem g_t (c : Cnt kvs (ah.flatMap keys)) (hn : h[n]? = some (.dT kvs)) {s : S3} {d k z : P3} {t : Int} {y : Str} (ed : d s h = .ok (.x (.loc n)) h) (ek : k s h = .ok (.x (.tup [.int t, .str y])) h) (ez : z s h = .ok (.x (.int 0)) h) : zet d k z s h = .ok (.v (.int (now ah t y).length)) h := by
 unfold zet rdd
 simp only [ed, ek, ez, Res.bind, hn, C3.dc, Dc.get, zev, mapO, kyd3, Option.map_some, c.getD, ztk]
theorem g_n (c : Cnt kvs (ah.flatMap keys)) (hn : h[n]? = some (.dT kvs)) {s : S3} {d k z : P3} {y : Str} (ed : d s h = .ok (.x (.loc n)) h) (ek : k s h = .ok (.x (.str y)) h) (ez : z s h = .ok (.x (.int 0)) h) : zet d k z s h = .ok (.v (.int (own ah y).length)) h := by
 unfold zet rdd
 simp only [ed, ek, ez, Res.bind, hn, C3.dc, Dc.get, zev, mapO, kyd3, Option.map_some, c.getD, zth]
end
theorem zj9 {rows : List (Int × Int)} {rest : Int} : List.lookup (Str.ofString "at") [((Str.ofString "stretches"), V3.lst (rows.map encP)), ((Str.ofString "beyond"), V3.int rest)] = none := by
 have h1 : (Str.ofString "at" == Str.ofString "stretches") = false := by decide +kernel
 have h2 : (Str.ofString "at" == Str.ofString "beyond") = false := by decide +kernel
 simp only [List.lookup, h1, h2]
theorem zl2 {ah : List Rw} {kvs : List (MK × V3)} {n : Nat} {h : H3} (c : Cnt kvs (ah.flatMap keys)) (hn : h[n]? = some (.dT kvs)) (rows : List (Int × Int)) (rest : Int) (o : Option Jb) (r : Rw) :
  f_fault_word [encR r, oj o, calV rows rest, .loc n] h = .ok (.v (wd o (Cal.at_ rows rest r.1) ah r)) h := by
 have h1 := g_in c hn
 cases o with
 | none =>
  unfold oj wd
  (simp_arith [f_fault_word, zat]) <;> rfl
 | some j =>
  unfold oj wd
  simp only []
  by_cases q1 : j.f ≤ r.1
  ·by_cases q2 : r.1 ≤ j.l
   ·rw [if_pos ⟨q1, q2⟩]
    by_cases q3 : 0 ≤ r.2.1
    ·by_cases q4 : r.2.1 < Cal.at_ rows rest r.1
     ·rw [if_pos ⟨q3, q4⟩]
      by_cases q5 : tkn ah r.1 r.2.1 = true
      ·rw [if_pos q5]
       (simp_arith [f_fault_word, zat, q1, q2, q3, q4, q5, h1, zgm, zey, zj9, zee]) <;> rfl
      ·rw [if_neg q5]
       have q5 : tkn ah r.1 r.2.1 = false := by simpa using q5
       have e2 : ∀ s : S3, s[3]? = some (some (.v (.loc n))) → s[4]? = some (some (.v (.int r.1))) → s[6]? = some (some (.v (.str r.2.2))) → zet (pV 3) (pE (eTup (aCons (pV 4) (aCons (pV 6) aNil)))) (pE (eC (.int 0))) s h = .ok (.v (.int (now ah r.1 r.2.2).length)) h := fun s a b d => g_t c hn (by (simp_arith [a]) <;> rfl) (by (simp_arith [b, d]) <;> rfl) (by (simp_arith []) <;> rfl)
       have e3 : ∀ s : S3, s[3]? = some (some (.v (.loc n))) → s[6]? = some (some (.v (.str r.2.2))) → zet (pV 3) (pV 6) (pE (eC (.int 0))) s h = .ok (.v (.int (own ah r.2.2).length)) h := fun s a d => g_n c hn (by (simp_arith [a]) <;> rfl) (by (simp_arith [d]) <;> rfl) (by (simp_arith []) <;> rfl)
       by_cases q6 : j.b ≤ ((now ah r.1 r.2.2).length : Int)
       ·rw [if_pos q6]
        (simp_arith [f_fault_word, zat, q1, q2, q3, q4, q5, q6, h1, e2, e3, zgm, zey, zj9, zee]) <;> rfl
       ·rw [if_neg q6]
        by_cases q7 : j.w ≤ ((own ah r.2.2).length : Int)
        ·rw [if_pos q7]
         (simp_arith [f_fault_word, zat, q1, q2, q3, q4, q5, q6, q7, h1, e2, e3, zgm, zey, zj9, zee]) <;> rfl
        ·rw [if_neg q7]
         (simp_arith [f_fault_word, zat, q1, q2, q3, q4, q5, q6, q7, h1, e2, e3, zgm, zey, zj9, zee]) <;> rfl
     ·rw [if_neg fun z => q4 z.2]
      (simp_arith [f_fault_word, zat, q1, q2, q3, q4, zgm, zey, zj9, zee]) <;> rfl
    ·rw [if_neg fun z => q3 z.1]
     (simp_arith [f_fault_word, zat, q1, q2, q3, zgm, zey, zj9, zee]) <;> rfl
   ·rw [if_neg fun z => q2 z.2]
    (simp_arith [f_fault_word, zat, q1, q2]) <;> rfl
  ·rw [if_neg fun z => q1 z.1]
   (simp_arith [f_fault_word, zat, q1]) <;> rfl
end My
set_option Elab.async false
set_option linter.all false
set_option maxRecDepth 100000
set_option maxHeartbeats 1000000
namespace My
open PySem L2 L3
def kxE : MK → V3
 | .one k => kV3 k
 | .tup ks => .tup (ks.map kV3)
theorem zvr : ∀ k : Key, kyd3 (kV3 k) = some k
 | .inl _ => rfl
 | .inr _ => rfl
theorem kx_k : ∀ k : MK, zev (kxE k) = some k
 | .one (.inl _) => rfl
 | .one (.inr _) => rfl
 | .tup ks => by
  unfold kxE zev
  simp only [zez (f := kyd3) (g := kV3) (k := id) (fun k => zvr k) ks, List.map_id, Option.map_some]
def zvd (n : Nat) (L : List MK) (r : Rw) (h : H3) (R : Res Vl) : Prop := ∃ kvs', R = .ok (.v .non) (h.set n (.dT kvs')) ∧ Cnt kvs' (L ++ keys r)
theorem zkv {L : List MK} {kvs : List (MK × V3)} {n : Nat} {h : H3} (c : Cnt kvs L) (hn : h[n]? = some (.dT kvs)) (hL : L.length ≤ 1000) (r : Rw) : zvd n L r h (f_count_row [encR r, .loc n] h) := by
 unfold f_count_row zdr
 refine zes rfl ?_
 refine zao (by (simp_arith []) <;> rfl) ?_
 have hlt : n < h.length := (List.getElem?_eq_some_iff.1 hn).1
 unfold zcv
 obtain ⟨s', h', e, kvs1, y5, rfl, rfl, c1⟩ := zm1 (it := iL (pE (eLst (aCons (pE (eTup (aCons (pV 2) (aCons (pV 3) aNil)))) (aCons (pE (eTup (aCons (pV 2) (aCons (pV 4) aNil)))) (aCons (pV 4) aNil)))))) (g := gN 5) (b := zff (pV 1) (pV 5) (eOp oAdd (pE (zet (pV 1) (pV 5) (pE (eC (.int 0))))) (pE (eC (.int 1))))) (s := [some (.v (encR r)), some (.v (.loc n)), some (.v (.int r.1)), some (.v (.int r.2.1)), some (.v (.str r.2.2)), none]) (h := h) (l := keys r) (enc := kxE) (its := [.lst ((keys r).map kxE)]) (ok := fun _ => True) (by (simp_arith [iL, zb3]) <;> rfl)
  (fun i s h' => ∃ kvs1 y5, s = [some (.v (encR r)), some (.v (.loc n)), some (.v (.int r.1)), some (.v (.int r.2.1)), some (.v (.str r.2.2)), y5] ∧ h' = h.set n (.dT kvs1) ∧ Cnt kvs1 (L ++ (keys r).take i)) (fun _ _ _ _ => trivial)
  ⟨kvs, none, rfl, by rw [← (List.getElem?_eq_some_iff.1 hn).2, List.set_getElem_self], by rw [List.take_zero, List.append_nil]; exact c⟩ (by
   rintro i k s h' hi ⟨kvs1, y5, rfl, rfl, c1⟩
   have g0 : (h.set n (.dT kvs1))[n]? = some (.dT kvs1) := List.getElem?_set_self hlt
   have g1 : ∀ x y, (h.set n x).set n y = h.set n y := fun x y => List.set_set ..
   have hi3 : i < 3 := by have := (List.getElem?_eq_some_iff.1 hi).1; simpa [keys] using this
   have hl : kvs1.length < sizeLine := by
    have h1 := c1.len
    rw [List.length_append, List.length_take] at h1
    have := szl; omega
   have hg := c1.getD k
   have ek := kx_k k
   refine ⟨_, _, by (simp_arith [zff, zet, rdd, g0, C3.dc, Dc.get, Dc.put, Dc.c, Dc.len, ek, Option.map_some, hg, hl, g1]) <;> rfl, ⟨_, _, rfl, rfl, ?_⟩⟩
   rw [zdx hi, ← List.append_assoc]
   exact c1.put k)
 refine ⟨kvs1, by rw [e]; rfl, ?_⟩
 rw [List.take_length] at c1
 exact c1
def fj (js : List Jb) (z : Str) : Option Jb := (js.filter fun j => decide (j.n = z)).getLast?
theorem zrc (js : List Jb) (j : Jb) (z : Str) : fj (js ++ [j]) z = if z = j.n then some j else fj js z := by
 unfold fj
 rw [List.filter_append]
 by_cases h : j.n = z
 ·rw [if_pos h.symm]; simp [h]
 ·rw [if_neg fun e => h e.symm]; simp [h]
structure Bn (kvs : List (MK × V3)) (js : List Jb) : Prop where
 val : ∀ z, val3 kvs (.one (.inr z)) = (fj js z).map Jb.enc
 len : kvs.length ≤ js.length
theorem zo2 (o : Option Jb) : (o.map Jb.enc).getD .non = oj o := by cases o <;> rfl
def due (js : List Jb) (A : Int → Int) (rs : List Rw) : Nat → List (Nat × Str)
 | 0 => []
 | i + 1 => due js A rs i ++ (match rs[i]? with
  | none => []
  | some r => match wd (fj js r.2.2) (A r.1) (rs.take i) r with
   | .str z => [(i, z)]
   | _ => [])
theorem zh8 (js : List Jb) (A : Int → Int) (rs : List Rw) : ∀ i, (due js A rs i).length ≤ i
 | 0 => Nat.le_refl _
 | i + 1 => by
  have ih := zh8 js A rs i
  unfold due
  rw [List.length_append]
  cases rs[i]? with
  | none => simp; omega
  | some r => simp only []; split <;> simp <;> omega
abbrev encD (p : Nat × Str) : V3 := .tup [.int p.1, .str p.2]
theorem zo7 (o : Option Jb) (a : Int) (ah : List Rw) (r : Rw) : wd o a ah r = .non ∨ ∃ z, wd o a ah r = .str z := by
 unfold wd
 cases o with
 | none => exact .inr ⟨_, rfl⟩
 | some j =>
  simp only []
  split
  ·split
   ·split
    ·exact .inr ⟨_, rfl⟩
    ·split
     ·exact .inr ⟨_, rfl⟩
     ·split
      ·exact .inr ⟨_, rfl⟩
      ·exact .inl rfl
   ·exact .inr ⟨_, rfl⟩
  ·exact .inr ⟨_, rfl⟩
theorem zjc {rs : List Rw} {i : Nat} {r : Rw} (h : rs[i]? = some r) : (rs.map encR).getD i .non = encR r := by
 rw [List.getD_eq_getElem?_getD, List.getElem?_map, h]; rfl
theorem zgk {n i k : Nat} (h : (List.range n)[i]? = some k) : k = i ∧ i < n := by
 obtain ⟨h1, h2⟩ := List.getElem?_eq_some_iff.1 h
 simp at h1 h2; exact ⟨h2.symm, h1⟩
def znf (js : List Jb) (A : Int → Int) (rs : List Rw) (h : H3) (R : Res Vl) : Prop := ∃ kvs, R = .ok (.m (.lst ((due js A rs rs.length).map encD))) (h ++ [.dT kvs])
theorem zh2 (js : List Jb) (rows : List (Int × Int)) (rest : Int) {rs : List Rw} {x : V3} {h : H3} (hx : IsL h x (rs.map encR)) (hj : js.length ≤ 1000) (hr : rs.length ≤ 300) :
  znf js (fun t => Cal.at_ rows rest t) rs h (f_faults [.lst (js.map Jb.enc), calV rows rest, x] h) := by
 unfold f_faults zgx zei zea
 refine zes rfl ?_
 refine zao (by (simp_arith []) <;> rfl) ?_
 refine zir (x := .lst (js.map Jb.enc)) (l := js) (enc := Jb.enc) (by simp_arith []) rfl (fun i s => ∃ kvs y4, s = [some (.v (.lst (js.map Jb.enc))), some (.v (calV rows rest)), some (.v x), some (.m (.dT kvs)), y4, none, none, none, none, none] ∧ Bn kvs (js.take i)) ⟨[], none, rfl, ⟨fun z => by simp [val3, fj], Nat.le_refl _⟩⟩ ?_ ?_
 ·rintro i j s hi ⟨kvs, y4, rfl, b⟩
  have hl : kvs.length < sizeLine := by
   have h1 := b.len
   rw [List.length_take] at h1
   have := szl; omega
  refine ⟨_, by (simp_arith [zff, rdd, C3.dc, Dc.put, Dc.c, Dc.len, zev, Option.map_some, hl]) <;> rfl, ⟨_, _, rfl, ?_⟩⟩
  rw [zdx hi]
  refine ⟨fun z => ?_, ?_⟩
  ·rw [zi7, zrc, b.val]
   by_cases hz : z = j.n
   ·rw [if_pos hz, if_pos (by rw [hz])]; rfl
   ·rw [if_neg hz, if_neg fun e => hz (Sum.inr.inj (MK.one.inj e))]
  ·have h1 := zjk kvs (.one (.inr j.n)) j.enc
   have h2 := b.len
   rw [List.length_append, List.length_singleton]; omega
 ·rintro s ⟨kj, y4, rfl, b⟩
  rw [List.take_length] at b
  refine zao (by (simp_arith [eGl, eDnT]) <;> rfl) ?_
  refine zao (by (simp_arith []) <;> rfl) ?_
  obtain ⟨ok, hw, hok⟩ : ∃ ok, zb3 (h ++ [.dT []]) x = some (rs.map encR, ok) ∧ ∀ kvs, ok (h ++ [.dT kvs]) := by
   rcases hx with rfl | ⟨n, rfl, e⟩
   ·exact ⟨_, rfl, fun _ => trivial⟩
   ·have hlt : n < h.length := (List.getElem?_eq_some_iff.1 e).1
    have g : ∀ kvs, (h ++ [C3.dT kvs])[n]? = some (.lst (rs.map encR)) := fun kvs => by rw [List.getElem?_append_left hlt]; exact e
    exact ⟨fun h' => h'[n]? = some (.lst (rs.map encR)), by simp only [zb3, g []], g⟩
  refine zvb (l := List.range rs.length) (enc := fun k : Nat => .tup [.int k, (rs.map encR).getD k .non]) (its := [x]) (ok := ok) (by (simp_arith [ze4, hw, List.length_map]) <;> rfl)
   (fun i s h' => ∃ kvs y7 y8 y9, s = [some (.v (.lst (js.map Jb.enc))), some (.v (calV rows rest)), some (.v x), some (.m (.dT kj)), y4, some (.v (.loc h.length)), some (.m (.lst ((due js (fun t => Cal.at_ rows rest t) rs i).map encD))), y7, y8, y9] ∧ h' = h ++ [.dT kvs] ∧ Cnt kvs ((rs.take i).flatMap keys))
   (fun i s h' ⟨kvs, _, _, _, _, e, _⟩ => e ▸ hok kvs) ⟨[], none, none, none, rfl, rfl, Cnt.nil⟩ ?_ ?_
  ·rintro i k s h' hi ⟨kvs, y7, y8, y9, rfl, rfl, c⟩
   obtain ⟨rfl, hil⟩ := zgk hi
   have hri : rs[k]? = some rs[k] := List.getElem?_eq_getElem hil
   generalize rs[k] = r at hri
   have hgr := zjc hri
   have g0 : (h ++ [C3.dT kvs])[h.length]? = some (.dT kvs) := by simp
   have hL : ((rs.take k).flatMap keys).length ≤ 1000 := by
    have : ∀ l : List Rw, (l.flatMap keys).length = 3 * l.length := fun l => by
     induction l with
     | nil => rfl
     | cons a l ih => rw [List.flatMap_cons, List.length_append, ih, List.length_cons]; simp [keys]; omega
    rw [this, List.length_take]; omega
   obtain ⟨kvs', ec, c'⟩ := zkv c g0 hL r
   have hset : (h ++ [C3.dT kvs]).set h.length (.dT kvs') = h ++ [.dT kvs'] := zfl rfl
   rw [hset] at ec
   have ew := zl2 c g0 rows rest (fj js r.2.2) r
   have eg := fun z => b.val z
   have hap : ((due js (fun t => Cal.at_ rows rest t) rs k).map encD).length < sizeLine := by
    have := zh8 js (fun t => Cal.at_ rows rest t) rs k
    rw [List.length_map]; have := szl; omega
   have hdu : due js (fun t => Cal.at_ rows rest t) rs (k + 1) = due js (fun t => Cal.at_ rows rest t) rs k ++ (match wd (fj js r.2.2) (Cal.at_ rows rest r.1) (rs.take k) r with
    | .str z => [(k, z)]
    | _ => []) := by
    show due js (fun t => Cal.at_ rows rest t) rs k ++ _ = _
    rw [hri]
   have hc2 : Cnt kvs' ((rs.take (k + 1)).flatMap keys) := by rw [zdx hri, List.flatMap_append]; simpa using c'
   rw [hdu]
   have hap2 : ∀ y, zbs ((due js (fun t => Cal.at_ rows rest t) rs k).map encD) [y] = some ((due js (fun t => Cal.at_ rows rest t) rs k).map encD ++ [y], .non) := fun y => mAppend_ok hap
   rcases zo7 (fj js r.2.2) (Cal.at_ rows rest r.1) (rs.take k) r with e | ⟨z, e⟩
   ·rw [e] at ew ⊢
    exact ⟨_, _, by (simp_arith [hgr, znb, rdd, C3.dc, Dc.get, zev, Option.map_some, eg, zo2, ew, ec, eq_self]) <;> rfl, ⟨_, _, _, _, by rw [List.append_nil], rfl, hc2⟩⟩
   ·rw [e] at ew ⊢
    exact ⟨_, _, by (simp_arith [hgr, znb, rdd, C3.dc, Dc.get, zev, Option.map_some, eg, zo2, ew, ec, hap2, eq_self]) <;> rfl, ⟨_, _, _, _, by rw [List.map_append]; rfl, rfl, hc2⟩⟩
  ·rintro s h' ⟨kvs, y7, y8, y9, rfl, rfl, c⟩
   rw [List.length_range]
   exact ⟨kvs, by (simp_arith []) <;> rfl⟩
end My
set_option Elab.async false
set_option linter.all false
set_option maxRecDepth 100000
set_option maxHeartbeats 1000000
namespace My
open PySem L2 L3
theorem zoz : ∀ {js : List Jb}, (js.map Jb.n).Nodup → ∀ z, (js.filter fun j => decide (j.n = z)) = (fj js z).toList
 | [], _, z => rfl
 | j :: r, hn, z => by
  rw [List.map_cons, List.nodup_cons] at hn
  have ih := zoz hn.2 z
  unfold fj at ih ⊢
  by_cases h : j.n = z
  ·have h0 : (r.filter fun j => decide (j.n = z)) = [] := by
    rw [List.filter_eq_nil_iff]
    intro a ha e
    exact hn.1 (h ▸ of_decide_eq_true e ▸ List.mem_map_of_mem ha)
   rw [List.filter_cons_of_pos (by simpa using h), h0]; rfl
  ·rw [List.filter_cons_of_neg (by simpa using h)]; exact ih
theorem zr7 {h : H3} (p q : Int × Int) : eq3 h 8 (encP p) (encP q) = some (decide (p.1 = q.1) && decide (p.2 = q.2)) := by
 have e : eq3 h 8 (encP p) (encP q) = (eqZ (eq3 h 7) [.int p.1, .int p.2] [.int q.1, .int q.2]).map (· && true) := rfl
 rw [e]
 simp only [eqZ, zd6, Option.map_some, Bool.and_true]
theorem zqy {s : S3} {h : H3} (ah : List Rw) (t m : Int) : oIn false s h (.x (.tup [.int t, .int m])) (.x (.lst ((ah.map fun r => (r.1, r.2.1)).map encP))) = some (.v (.bl (tkn ah t m))) := by
 have e2 : mapO (fun b => eq3 h 8 b (.tup [.int t, .int m])) ((ah.map fun r => (r.1, r.2.1)).map encP) = some ((ah.map fun r => (r.1, r.2.1)).map fun p => decide (p.1 = t) && decide (p.2 = m)) := zez (f := fun b => eq3 h 8 b (.tup [.int t, .int m])) (g := encP) (k := fun p => decide (p.1 = t) && decide (p.2 = m)) (fun p => zr7 p (t, m)) _
 unfold oIn inO
 simp only [rdl, e2, Option.map_some, Bool.false_eq_true, if_false, List.any_map]
 rfl
section
variable {js : List Jb} {ah : List Rw} (h : H3) (r : Rw)
theorem c_1 (hj : js.length ≤ 1000) (x1 x2 x3 x4 x5 x6 x8 x9 x10 x11 x12 x13 : Option Vl) : zcf [some (.v (.lst (js.map Jb.enc))), x1, x2, x3, x4, x5, x6, some (.v (.str r.2.2)), x8, x9, x10, x11, x12, x13] h = .ok (.m (.lst ((js.filter fun j => decide (j.n = r.2.2)).map Jb.enc))) h := by
 unfold zcf
 refine ziu (x := .lst (js.map Jb.enc)) (enc := Jb.enc) (fun s => ∃ a, s = [a, some (.v (.str r.2.2))]) _ _ (by simp_arith []) rfl (by omega) ⟨none, rfl⟩ ?_
 rintro j s _ ⟨a, rfl⟩
 exact ⟨_, by (simp_arith []) <;> rfl, ⟨_, rfl⟩, by (simp_arith [zlf]) <;> rfl, fun _ => ⟨_, by (simp_arith []) <;> rfl, rfl⟩⟩
theorem c_2 (hl : ah.length ≤ 1000) (x0 x1 x2 x4 x5 x6 x7 x8 x9 x10 x11 x12 x13 : Option Vl) : zcc [x0, x1, x2, some (.v (.lst (ah.map encR))), x4, x5, x6, x7, x8, x9, x10, x11, x12, x13] h = .ok (.m (.lst ((ah.map fun r => (r.1, r.2.1)).map encP))) h := by
 unfold zcc
 rw [List.map_map]
 refine zf5 (x := .lst (ah.map encR)) (enc := encR) (fun s => ∃ a, s = [a]) _ (by simp_arith []) rfl (by omega) ⟨none, rfl⟩ ?_
 rintro r s _ ⟨a, rfl⟩
 exact ⟨_, _, by (simp_arith []) <;> rfl, ⟨_, rfl⟩, by rfl, rfl⟩
theorem c_3 (hl : ah.length ≤ 1000) (x0 x1 x2 x4 x5 x6 x8 x9 x10 x11 x12 x13 : Option Vl) : zce [x0, x1, x2, some (.v (.lst (ah.map encR))), x4, x5, x6, some (.v (.str r.2.2)), x8, x9, x10, x11, x12, x13] h = .ok (.m (.lst ((own ah r.2.2).map encR))) h := by
 unfold zce own
 refine ziu (x := .lst (ah.map encR)) (enc := encR) (fun s => ∃ a, s = [a, some (.v (.str r.2.2))]) _ _ (by simp_arith []) rfl (by omega) ⟨none, rfl⟩ ?_
 rintro j s _ ⟨a, rfl⟩
 exact ⟨_, by (simp_arith []) <;> rfl, ⟨_, rfl⟩, by (simp_arith [zlf]) <;> rfl, fun _ => ⟨_, by (simp_arith []) <;> rfl, rfl⟩⟩
theorem c_4 (hl : ah.length ≤ 1000) (x0 x1 x2 x3 x4 x6 x7 x8 x9 x10 x11 x12 : Option Vl) : zcd [x0, x1, x2, x3, x4, some (.v (.int r.1)), x6, x7, x8, x9, x10, x11, x12, some (.v (.lst ((own ah r.2.2).map encR)))] h = .ok (.m (.lst ((now ah r.1 r.2.2).map encR))) h := by
 unfold zcd now
 have hl2 : (own ah r.2.2).length ≤ ah.length := List.length_filter_le _ _
 refine ziu (x := .lst ((own ah r.2.2).map encR)) (enc := encR) (fun s => ∃ a, s = [a, some (.v (.int r.1))]) _ _ (by simp_arith []) rfl (by omega) ⟨none, rfl⟩ ?_
 rintro j s _ ⟨a, rfl⟩
 exact ⟨_, by (simp_arith []) <;> rfl, ⟨_, rfl⟩, by (simp_arith []) <;> rfl, fun _ => ⟨_, by (simp_arith []) <;> rfl, rfl⟩⟩
end
theorem zj0 {js : List Jb} (hn : (js.map Jb.n).Nodup) (hj : js.length ≤ 1000) {ah : List Rw} (hl : ah.length ≤ 1000) (rows : List (Int × Int)) (rest : Int) (r : Rw) (h : H3) :
  f_law_word [.lst (js.map Jb.enc), .lst (rows.map encP), .int rest, .lst (ah.map encR), encR r] h = .ok (.v (wd (fj js r.2.2) (Cal.at_ rows rest r.1) ah r)) h := by
 show Is h _ _
 unfold f_law_word zd7
 refine zes rfl ?_
 have hc1 := c_1 h r hj
 rw [zoz hn] at hc1
 have hc2 := c_2 h hl
 have hc3 := c_3 h r hl
 have hc4 := c_4 h r hl
 have hin := fun s => zqy (s := s) (h := h) ah r.1 r.2.1
 refine zao (by (simp_arith []) <;> rfl) ?_
 cases q0 : fj js r.2.2 with
 | none =>
  rw [q0] at hc1
  refine zao (by (simp_arith [hc1]) <;> rfl) ?_
  unfold Is wd
  have heq : ∀ s : S3, s[8]? = some (some (.m (.lst []))) → oEq s h (.s 8) (.x (.lst [])) = some (.v (.bl true)) := fun s e => zk8 (zt6 e)
  (simp_arith [Option.toList, List.map_nil, heq]) <;> rfl
 | some j =>
  rw [q0] at hc1
  refine zao (by (simp_arith [hc1]) <;> rfl) ?_
  have heq : ∀ s : S3, s[8]? = some (some (.m (.lst [j.enc]))) → oEq s h (.s 8) (.x (.lst [])) = some (.v (.bl false)) := fun s e => zk8 (zt6 e)
  refine zao (s1 := [some (.v (.lst (js.map Jb.enc))), some (.v (.lst (rows.map encP))), some (.v (.int rest)), some (.v (.lst (ah.map encR))), some (.v (encR r)), some (.v (.int r.1)), some (.v (.int r.2.1)), some (.v (.str r.2.2)), some (.m (.lst [j.enc])), none, none, none, none, none]) (h1 := h) (by (simp_arith [Option.toList, List.map_nil, List.map_cons, heq]) <;> rfl) ?_
  refine zao (s1 := [some (.v (.lst (js.map Jb.enc))), some (.v (.lst (rows.map encP))), some (.v (.int rest)), some (.v (.lst (ah.map encR))), some (.v (encR r)), some (.v (.int r.1)), some (.v (.int r.2.1)), some (.v (.str r.2.2)), some (.m (.lst [j.enc])), some (.v (.int j.f)), some (.v (.int j.l)), some (.v (.int j.w)), some (.v (.int j.b)), none]) (h1 := h) rfl ?_
  unfold Is wd
  simp only []
  by_cases q1 : j.f ≤ r.1
  ·have q1' : ¬ r.1 < j.f := by omega
   by_cases q2 : r.1 ≤ j.l
   ·have q2' : ¬ j.l < r.1 := by omega
    rw [if_pos ⟨q1, q2⟩]
    by_cases q3 : 0 ≤ r.2.1
    ·by_cases q4 : r.2.1 < Cal.at_ rows rest r.1
     ·rw [if_pos ⟨q3, q4⟩]
      by_cases q5 : tkn ah r.1 r.2.1 = true
      ·rw [if_pos q5]
       (simp_arith [q1', q2', q3, q4, q5, hc2, hin, zbu]) <;> rfl
      ·rw [if_neg q5]
       have q5 : tkn ah r.1 r.2.1 = false := by simpa using q5
       by_cases q6 : j.b ≤ ((now ah r.1 r.2.2).length : Int)
       ·rw [if_pos q6]
        (simp_arith [q1', q2', q3, q4, q5, q6, hc2, hc3, hc4, hin, zbu, List.length_map]) <;> rfl
       ·rw [if_neg q6]
        by_cases q7 : j.w ≤ ((own ah r.2.2).length : Int)
        ·rw [if_pos q7]
         (simp_arith [q1', q2', q3, q4, q5, q6, q7, hc2, hc3, hc4, hin, zbu, List.length_map]) <;> rfl
        ·rw [if_neg q7]
         (simp_arith [q1', q2', q3, q4, q5, q6, q7, hc2, hc3, hc4, hin, zbu, List.length_map]) <;> rfl
     ·rw [if_neg fun z => q4 z.2]
      (simp_arith [q1', q2', q3, q4, zbu]) <;> rfl
    ·rw [if_neg fun z => q3 z.1]
     (simp_arith [q1', q2', q3, zbu]) <;> rfl
   ·have q2' : j.l < r.1 := by omega
    rw [if_neg fun z => q2 z.2]
    (simp_arith [q1', q2']) <;> rfl
  ·have q1' : r.1 < j.f := by omega
   rw [if_neg fun z => q1 z.1]
   (simp_arith [q1']) <;> rfl
theorem zoj {js : List Jb} (hn : (js.map Jb.n).Nodup) (hj : js.length ≤ 1000) {rs : List Rw} (hr : rs.length ≤ 300) (rows : List (Int × Int)) (rest : Int) (h : H3) :
  f_law_due [.lst (js.map Jb.enc), .lst (rows.map encP), .int rest, .lst (rs.map encR)] h = .ok (.m (.lst ((due js (fun t => Cal.at_ rows rest t) rs rs.length).map encD))) h := by
 show Is h _ _
 unfold f_law_due ze5 zdt
 refine zes rfl ?_
 refine zao (by (simp_arith []) <;> rfl) ?_
 refine it_R (l := List.range rs.length) (enc := fun k : Nat => .tup [.int k, (rs.map encR).getD k .non]) (its := [.lst (rs.map encR)]) (ok := fun _ => True) (by (simp_arith [ze4, zb3, List.length_map]) <;> rfl) trivial
  (fun i s => ∃ y5 y6 y7, s = [some (.v (.lst (js.map Jb.enc))), some (.v (.lst (rows.map encP))), some (.v (.int rest)), some (.v (.lst (rs.map encR))), some (.m (.lst ((due js (fun t => Cal.at_ rows rest t) rs i).map encD))), y5, y6, y7]) ⟨none, none, none, rfl⟩ ?_ ?_
 ·rintro i k s hi ⟨y5, y6, y7, rfl⟩
  obtain ⟨rfl, hil⟩ := zgk hi
  have hri : rs[k]? = some rs[k] := List.getElem?_eq_getElem hil
  generalize rs[k] = r at hri
  have hgr := zjc hri
  have hcut : cutL (rs.map encR) none (some (k : Int)) = (rs.take k).map encR := by rw [zmt, List.map_take]
  have ew := zj0 hn hj (ah := rs.take k) (by rw [List.length_take]; omega) rows rest r h
  have hap : ((due js (fun t => Cal.at_ rows rest t) rs k).map encD).length < sizeLine := by
   have := zh8 js (fun t => Cal.at_ rows rest t) rs k
   rw [List.length_map]; have := szl; omega
  have hap2 : ∀ y, zbs ((due js (fun t => Cal.at_ rows rest t) rs k).map encD) [y] = some ((due js (fun t => Cal.at_ rows rest t) rs k).map encD ++ [y], .non) := fun y => mAppend_ok hap
  have hdu : due js (fun t => Cal.at_ rows rest t) rs (k + 1) = due js (fun t => Cal.at_ rows rest t) rs k ++ (match wd (fj js r.2.2) (Cal.at_ rows rest r.1) (rs.take k) r with
   | .str z => [(k, z)]
   | _ => []) := by
   show due js (fun t => Cal.at_ rows rest t) rs k ++ _ = _
   rw [hri] <;> rfl
  rw [hdu]
  rcases zo7 (fj js r.2.2) (Cal.at_ rows rest r.1) (rs.take k) r with e | ⟨z, e⟩
  ·rw [e] at ew ⊢
   exact ⟨_, by (simp_arith [hgr, eSl, poN, poS, oSl, hcut, ew, eq_self]) <;> rfl, ⟨_, _, _, by rw [List.append_nil]⟩⟩
  ·rw [e] at ew ⊢
   exact ⟨_, by (simp_arith [hgr, eSl, poN, poS, oSl, hcut, ew, hap2, eq_self]) <;> rfl, ⟨_, _, _, by rw [List.map_append]; rfl⟩⟩
 ·rintro s ⟨y5, y6, y7, rfl⟩
  rw [List.length_range]
  unfold Is
  (simp_arith []) <;> rfl
theorem zuz {h : H3} {n : Nat} (r : Nat × Str) : eq3 h (n + 1) (encD r) (encD r) = some true := zmx fun x hx => by
 simp only [List.mem_cons, List.not_mem_nil, or_false] at hx
 rcases hx with rfl | rfl
 ·rw [zd6]; simp
 ·rw [zij]; simp
theorem zpb {h : H3} (rs : List (Nat × Str)) : ∀ x ∈ rs.map encD, eq3 h 8 x x = some true := fun x hx => by
 obtain ⟨r, _, rfl⟩ := List.mem_map.1 hx
 exact zuz r
theorem zu7 {h : H3} {n : Nat} (r : Rw) : eq3 h (n + 1) (encR r) (encR r) = some true := zmx fun x hx => by
 simp only [List.mem_cons, List.not_mem_nil, or_false] at hx
 rcases hx with rfl | rfl | rfl
 ·rw [zd6]; simp
 ·rw [zd6]; simp
 ·rw [zij]; simp
theorem zrp {h : H3} (rs : List Rw) : ∀ x ∈ rs.map encR, eq3 h 8 x x = some true := fun x hx => by
 obtain ⟨r, _, rfl⟩ := List.mem_map.1 hx
 exact zu7 r
theorem zno (a : Int) (h : H3) : f_law_whole [.int a] h = .ok (.v (.bl true)) h := by
 simp_arith [f_law_whole, zdn]
theorem zln {ds : List (Nat × Str)} {x : V3} {h : H3} (hx : IsL h x (ds.map encD)) : f_law_told [x, .lst (ds.map encD)] h = .ok (.v (.bl true)) h := by
 show Is h _ _
 unfold f_law_told zd8 zc8
 refine zes rfl ?_
 have hne : ∀ s, oNe s h (.x x) (.x (.lst (ds.map encD))) = some (.v (.bl false)) := fun s => zgr hx.rdm zj1 (zpb ds)
 obtain ⟨ok, hw⟩ := hx.walk
 refine zao (s1 := [some (.v x), some (.v (.lst (ds.map encD))), none]) (h1 := h) (by
  rcases hx with rfl | ⟨n, rfl, e⟩
  ·(simp_arith [hne]) <;> rfl
  ·(simp_arith [hne, e]) <;> rfl) ?_
 refine zir (x := x) (l := ds) (enc := encD) (by simp_arith []) hw (fun i s => ∃ y2, s = [some (.v x), some (.v (.lst (ds.map encD))), y2]) ⟨none, rfl⟩ ?_ ?_
 ·rintro i r s hi ⟨y2, rfl⟩
  exact ⟨_, by (simp_arith [zno, eq_self]) <;> rfl, ⟨_, rfl⟩⟩
 ·rintro s ⟨y2, rfl⟩
  unfold Is
  simp_arith []
end My
set_option Elab.async false
set_option linter.all false
set_option maxRecDepth 100000
set_option maxHeartbeats 2000000
namespace My
open PySem L2 L3
theorem zpq {α : Type} (xs : List α) : cutL xs none (some (-1)) = xs.dropLast := by
 unfold cutL HT.sIx
 simp
 rw [List.dropLast_eq_take]
 congr 1
 omega
theorem zoh {ls : List Str} {k : Nat} (h : k < ls.length) : (ls.map V3.str).getD k .non = .str ls[k] := by
 rw [List.getD_eq_getElem?_getD, List.getElem?_map, List.getElem?_eq_getElem h]; rfl
def zss (ls : List Str) (h : H3) (R : Res Vl) : Prop := ∃ js : List Jb, R = .ok (.m (.lst (js.map Jb.enc))) h ∧ js.map Jb.n = ls.dropLast
theorem zmk (ns : List Int) {ls : List Str} (hl : ls.length ≤ 20) (h : H3) : zss ls h (f_law_load [.scr ns, .lst (ls.map .str)] h) := by
 unfold f_law_load zed zc3
 refine zes rfl ?_
 have ed : ls.dropLast.length = ls.length - 1 := List.length_dropLast
 refine zao (by (simp_arith []) <;> rfl) ?_
 refine it_R (l := List.range ls.dropLast.length) (enc := fun k : Nat => .tup [.int k, (ls.dropLast.map V3.str).getD k .non]) (its := [.lst (ls.dropLast.map V3.str)]) (ok := fun _ => True) (by (simp_arith [ze4, zb3, eSl, poN, poS, oSl, zpq, List.map_dropLast, List.length_dropLast, List.length_map]) <;> rfl) trivial (fun i s => ∃ js y3 y4 y5 y6, s = [some (.v (.scr ns)), some (.v (.lst (ls.map .str))), some (.m (.lst (js.map Jb.enc))), y3, y4, y5, y6] ∧ js.map Jb.n = ls.dropLast.take i) ⟨[], none, none, none, none, rfl, rfl⟩ ?_ ?_
 ·rintro i k s hi ⟨js, y3, y4, y5, y6, rfl, hjn⟩
  obtain ⟨rfl, hil⟩ := zgk hi
  have hjl : js.length ≤ k := by have := congrArg List.length hjn; rw [List.length_map, List.length_take] at this; omega
  have c3 : js.length < sizeLine := by have := szl; omega
  have hc := zmq ns (3 + (k : Int)) (by omega) (by omega)
  generalize cell ns (3 + (k : Int)) = c at hc
  refine ⟨_, by (simp_arith [hc, c3, zoh hil, List.length_map]) <;> rfl, ⟨js ++ [⟨ls.dropLast[k], c % 12, c % 12 + c / 12 % 12 - 1, 1 + c / 144 % 4, 1 + c / 576 % 3⟩], _, _, _, _, by rw [List.map_append]; rfl, ?_⟩⟩
  rw [List.map_append, hjn, zdx (List.getElem?_eq_getElem hil)]; rfl
 ·rintro s ⟨js, y3, y4, y5, y6, rfl, hjn⟩
  rw [List.length_range, List.take_length] at hjn
  exact ⟨js, by (simp_arith []) <;> rfl, hjn⟩
def zu8 (h : H3) (R : Res Vl) : Prop := ∃ r : Rw, R = .ok (.v (encR r)) h
theorem zrz {js : List Jb} {i : Int} (h0 : 0 ≤ i) (h1 : i < js.length) : ∃ j ∈ js, atI (js.map Jb.enc) i = some j.enc := by
 obtain ⟨n, rfl⟩ := Int.eq_ofNat_of_zero_le h0
 have hn : n < js.length := by omega
 exact ⟨js[n], List.getElem_mem hn, zck (by rw [List.getElem?_map, List.getElem?_eq_getElem hn]; rfl)⟩
theorem tx_x : ("x" : Str) = tx [120] := by decide +kernel
theorem zuo (c : Int) {ls : List Str} {js : List Jb} (hl : 2 ≤ ls.length) (hj : 1 ≤ js.length) (h8 : ∀ j ∈ js, j.n.length ≤ 8) (h : H3) : zu8 h (f_law_row [.int c, .lst (js.map Jb.enc), .lst (ls.map .str)] h) := by
 unfold f_law_row zfh
 refine zes rfl ?_
 have p3 : CPow 10 28 := by decide
 have p4 : (10 : Int) ^ (28 : Int).toNat = 10000000000000000000000000000 := by decide
 have c1 : ∀ x, CMul 2 x := fun x => zeo ⟨by decide, by decide⟩
 have p5 : (0 : Int) < 2 * 10000000000000000000000000000 := by decide
 refine zao (by (simp_arith []) <;> rfl) ?_
 refine zao (by (simp_arith [p3, p4, c1, p5]) <;> rfl) ?_
 generalize (if c / 24 % 11 = 5 then c / 7 % (2 * 10000000000000000000000000000) - 10000000000000000000000000000 else c % 24) = t
 refine zao (by (simp_arith []) <;> rfl) ?_
 refine zao (by (simp_arith [p3, p4, c1, p5]) <;> rfl) ?_
 generalize (if c / 264 % 13 = 7 then c / 11 % (2 * 10000000000000000000000000000) - 10000000000000000000000000000 else c / 264 % 6 - 1) = t2
 have c2 : (0 : Int) < (js.length : Int) := by omega
 obtain ⟨j, hjm, ez⟩ := zrz (js := js) (i := c / 3432 % (js.length : Int)) (Int.emod_nonneg _ (by omega)) (Int.emod_lt_of_pos _ c2)
 refine zao (by (simp_arith [c2, ez, List.length_map]) <;> rfl) ?_
 obtain ⟨l', y, ey⟩ : ∃ l' y, ls = l' ++ [y] := ⟨ls.dropLast, ls.getLast (by intro z; rw [z] at hl; simp at hl), (List.dropLast_concat_getLast _).symm⟩
 have em : atI (ls.map V3.str) (-1) = some (.str y) := by rw [ey, List.map_append]; exact atm1
 have hb : j.n.cps.toList.length + [120].length ≤ sizeLine := by
  have h1 := h8 j hjm
  have h2 := zjl j.n.cps.toList
  rw [ztf] at h2
  rw [← h2, List.length_singleton]; have := szl; omega
 have ea : ∀ s, oAdd s h (.x (.str j.n)) (.x (.str "x")) = some (.v (.str (tx (j.n.cps.toList ++ [120])))) := fun s => by
  rw [tx_x]
  have := ze0 (s := s) (h := h) hb
  rw [ztf] at this
  exact this
 generalize tx (j.n.cps.toList ++ [120]) = zx at ea
 obtain ⟨z2, e2⟩ : ∃ z2, atI [V3.str y, .str "", .str zx, .str "A b"] (c / 240240 % 4) = some (.str z2) := by
  have hh : c / 240240 % 4 = 0 ∨ c / 240240 % 4 = 1 ∨ c / 240240 % 4 = 2 ∨ c / 240240 % 4 = 3 := by omega
  rcases hh with e | e | e | e <;> rw [e] <;> exact ⟨_, rfl⟩
 by_cases h3 : c / 34320 % 7 = 6
 ·have u0 := h3
  refine zao (by (simp_arith [h3, em, ea, e2]) <;> rfl) ?_
  exact ⟨(t, t2, z2), by (simp_arith []) <;> rfl⟩
 ·have u0 := h3
  refine zao (by (simp_arith [h3]) <;> rfl) ?_
  exact ⟨(t, t2, j.n), by (simp_arith []) <;> rfl⟩
theorem zoy {n : Nat} : ∀ (l : List (Int × Int)), lows n (l.map encP) = true
 | [] => rfl
 | p :: r => by
  have := zoy (n := n) r
  simp only [List.map_cons, lows, low, this, Bool.and_self]
theorem zvh {rows : List (Int × Int)} {rest : Int} (hr : RwB rows rest) : (fun t => Cal.at_ (Cal.kform rest rows) rest t) = fun t => Cal.at_ rows rest t := funext fun t => Cal.kform_at rest rows t fun p hp => (hr.one p hp).1
end My
set_option Elab.async false
set_option linter.all false
set_option maxRecDepth 100000
set_option maxHeartbeats 2000000
namespace My
open PySem L2 L3
theorem zvs {rs : List Rw} {a b : Rw} {r : List Rw} (e : rs = a :: b :: r) : cutL (rs.map encR) none (some 2) = [a, b].map encR := by
 rw [e, show (2 : Int) = ((2 : Nat) : Int) from rfl, zmt]; rfl
theorem law_yes (ns : List Int) (hns : ns.length ≤ 63) : Yes (f_law [.scr ns] []) := by
 unfold f_law zp5 zif zh6
 refine zes rfl ?_
 have hf := fun k h0 h1 h => zmq ns k h0 h1 h
 refine zao (by (simp_arith []) <;> rfl) ?_
 refine zao (by (simp_arith [hf]) <;> rfl) ?_
 refine zld (j := cell ns 0 % 5) (by (simp_arith [hf]) <;> rfl) (by omega) (fun i s => ∃ rows sd y3, s = [some (.v (.scr ns)), some (.m (.lst (rows.map encP))), some (.v (.int sd)), y3, none, none, none, none, none, none, none, none] ∧ rows.length ≤ i ∧ ∀ p ∈ rows, 1 ≤ p.1 ∧ p.1 ≤ 1000000 ∧ 0 ≤ p.2 ∧ p.2 ≤ 16) ⟨[], _, none, rfl, Nat.le_refl _, by simp⟩ ?_ ?_
 ·rintro i s hi ⟨rows, sd, y3, rfl, hrl, hro⟩
  have c3 : rows.length < sizeLine := by have := szl; omega
  refine ⟨_, by (simp_arith [hf, c3, List.length_map]) <;> rfl, ⟨rows ++ [(1 + sd % 6, sd / 6 % 4)], _, _, by rw [List.map_append]; rfl, by simpa using hrl, ?_⟩⟩
  intro p hp
  rw [List.mem_append, List.mem_singleton] at hp
  rcases hp with hp | rfl
  ·exact hro p hp
  ·show 1 ≤ 1 + sd % 6 ∧ 1 + sd % 6 ≤ 1000000 ∧ 0 ≤ sd / 6 % 4 ∧ sd / 6 % 4 ≤ 16
   omega
 ·rintro s ⟨rows, sd, y3, rfl, hrl, hro⟩
  refine zao (by (simp_arith [hf]) <;> rfl) ?_
  have hrest : 1 ≤ 1 + cell ns 1 % 3 ∧ 1 + cell ns 1 % 3 ≤ 16 := by omega
  generalize 1 + cell ns 1 % 3 = rest at hrest ⊢
  have hrb : RwB rows rest := ⟨by omega, hro, hrest⟩
  obtain ⟨ls, el, hll, hnd, hn8⟩ := zku (cell ns 2) (2 + cell ns 2 / 7 % 5) (by omega) []
  refine zao (by (simp_arith [hf, el]) <;> rfl) ?_
  refine zao (by (simp_arith []) <;> rfl) ?_
  have hl2 : 2 ≤ ls.length ∧ ls.length ≤ 20 := by omega
  obtain ⟨js, ej, hjn⟩ := zmk ns hl2.2 []
  refine zao (by (simp_arith [ej]) <;> rfl) ?_
  refine zao (by (simp_arith []) <;> rfl) ?_
  have hjl : js.length = ls.length - 1 := by have := congrArg List.length hjn; rw [List.length_map, List.length_dropLast] at this; exact this
  have hj7 : js.length ≤ 1000 := by omega
  have hjd : (js.map Jb.n).Nodup := by rw [hjn]; exact hnd.sublist (List.dropLast_sublist _)
  have hj8 : ∀ j ∈ js, j.n.length ≤ 8 := fun j hj => hn8 _ (List.dropLast_subset _ (hjn ▸ List.mem_map_of_mem hj))
  refine it_R (l := List.range (max 12 (min (ns.length : Int) 68) - 8).toNat) (enc := fun k : Nat => .int (8 + (k : Int))) (its := []) (ok := fun _ => True) (by
   have q1 : -(2 ^ 62) ≤ (8 : Int) ∧ (8 : Int) < 2 ^ 62 ∧ -(2 ^ 62) ≤ max 12 (min (ns.length : Int) 68) ∧ max 12 (min (ns.length : Int) 68) < 2 ^ 62 := by omega
   (simp_arith [iR2, List.length_map, if_pos q1]) <;> rfl) trivial (fun i s => ∃ rs x6 y3, s = [some (.v (.scr ns)), some (.m (.lst (rows.map encP))), some (.v (.int sd)), y3, some (.v (.int rest)), some (.v (.lst (ls.map .str))), some x6, some (.m (.lst (rs.map encR))), none, none, none, none] ∧ rs.length = i ∧ ((i = 0 ∧ x6 = .m (.lst (js.map Jb.enc))) ∨ x6 = .v (.lst (js.map Jb.enc)))) ⟨[], _, _, rfl, rfl, .inl ⟨rfl, rfl⟩⟩ ?_ ?_
  ·rintro i k s hi ⟨rs, x6, y3, rfl, hrl, hx⟩
   obtain ⟨rfl, hk⟩ := zgk hi
   have hc := zmq ns (8 + (k : Int)) (by omega) (by omega)
   have c3 : rs.length < sizeLine := by have := szl; omega
   obtain ⟨r, er⟩ := zuo (cell ns (8 + (k : Int))) (ls := ls) (js := js) hl2.1 (by omega) hj8 []
   rcases hx with ⟨-, rfl⟩ | rfl
   ·exact ⟨_, by (simp_arith [hc, er, c3, List.length_map]) <;> rfl, ⟨rs ++ [r], _, _, by rw [List.map_append]; rfl, by simp [hrl], .inr rfl⟩⟩
   ·exact ⟨_, by (simp_arith [hc, er, c3, List.length_map]) <;> rfl, ⟨rs ++ [r], _, _, by rw [List.map_append]; rfl, by simp [hrl], .inr rfl⟩⟩
  ·rintro s ⟨rs, x6, y3, rfl, hrl, hx⟩
   rw [List.length_range] at hrl hx
   have hx : x6 = .v (.lst (js.map Jb.enc)) := by
    rcases hx with ⟨z, -⟩ | hx
    ·omega
    ·exact hx
   subst hx
   have hr4 : 4 ≤ rs.length ∧ rs.length ≤ 300 := by omega
   have hcal := zoq hrb []
   rw [List.nil_append, List.nil_append, List.length_nil] at hcal
   have hlow : lowF 0 [(Str.ofString "stretches", V3.lst ((Cal.kform rest rows).map encP)), (Str.ofString "beyond", V3.int rest)] = true := by
    simp only [lowF, low, zoy, Bool.and_self]
   refine zao (by (simp_arith []) <;> rfl) ?_
   refine zao (by (simp_arith []) <;> rfl) ?_
   refine zao (by (simp_arith [eObj, eNew, hcal, hlow]) <;> rfl) ?_
   refine zao (by (simp_arith [eGl]) <;> rfl) ?_
   refine zao (by (simp_arith []) <;> rfl) ?_
   refine zao (by (simp_arith []) <;> rfl) ?_
   refine zao (by (simp_arith []) <;> rfl) ?_
   have hkf := zvh hrb
   have hF := fun (js' : List Jb) (x : V3) (h : H3) (rs' : List Rw) (hx : IsL h x (rs'.map encR)) (hj : js'.length ≤ 1000) (hr : rs'.length ≤ 300) => zh2 js' (Cal.kform rest rows) rest hx hj hr
   rw [hkf] at hF
   have hD := fun (rs' : List Rw) (hr : rs'.length ≤ 300) h => zoj hjd hj7 (rs := rs') hr rows rest h
   generalize (fun t => Cal.at_ rows rest t) = A at hF hD
   obtain ⟨kv1, e1⟩ := hF js (.loc 0) [.lst (rs.map encR)] rs (.inr ⟨0, rfl, rfl⟩) hj7 hr4.2
   refine zao (by (simp_arith [eGl, e1]) <;> rfl) ?_
   refine zao (by (simp_arith []) <;> rfl) ?_
   refine zao (by (simp_arith []) <;> rfl) ?_
   refine zao (by (simp_arith []) <;> rfl) ?_
   refine zao (by (simp_arith []) <;> rfl) ?_
   have t1 := zln (ds := due js A rs rs.length) (x := .loc 2) (h := [.lst (rs.map encR), .dT kv1, .lst ((due js A rs rs.length).map encD)]) (.inr ⟨2, rfl, rfl⟩)
   have d1 := fun h => hD rs hr4.2 h
   have n1 : ∀ s, oNe s [.lst (rs.map encR), .dT kv1, .lst ((due js A rs rs.length).map encD)] (.x (.loc 0)) (.x (.lst (rs.map encR))) = some (.v (.bl false)) := fun s => zgr (zr3 rfl) zj1 (zrp rs)
   refine zao (by (simp_arith [d1, t1, n1]) <;> rfl) ?_
   refine zao (by (simp_arith [zju]) <;> rfl) ?_
   have ht : (1 : Int) + cell ns 3 % 3 = ((1 + cell ns 3 % 3).toNat : Int) := by omega
   have hcut := zlg (rs.map encR) (1 + cell ns 3 % 3).toNat
   rw [← ht, ← List.map_drop] at hcut
   generalize hrp : rs.drop (1 + cell ns 3 % 3).toNat = rp at hcut
   have hpl : rp.length ≤ 300 := by rw [← hrp, List.length_drop]; omega
   refine zao (by (simp_arith [hf, eSl, poN, poS, oSl, hcut]) <;> rfl) ?_
   refine zao (by (simp_arith []) <;> rfl) ?_
   refine zao (by (simp_arith []) <;> rfl) ?_
   refine zao (by (simp_arith []) <;> rfl) ?_
   refine zao (by (simp_arith []) <;> rfl) ?_
   refine zao (by (simp_arith []) <;> rfl) ?_
   generalize hH : ([C3.lst (rs.map encR), .dT kv1, .lst []] : H3) = H2
   have k0 : H2[0]? = some (.lst (rs.map encR)) := by rw [← hH]; rfl
   have kk : ∀ (h : H3) c, h[0]? = some (.lst (rs.map encR)) → (h ++ [c])[0]? = some (.lst (rs.map encR)) := fun h c e => by
    rw [List.getElem?_append_left (List.getElem?_eq_some_iff.1 e).1]; exact e
   clear hH t1 n1 e1 hcal hlow
   obtain ⟨kv2, e2⟩ := hF js (.lst (rp.map encR)) H2 rp (.inl rfl) hj7 hpl
   have t2 := zln (ds := due js A rp rp.length) (h := H2 ++ [.dT kv2]) (.inl rfl)
   have d2 := fun h => hD rp hpl h
   refine zao (by (simp_arith [e2, d2, t2]) <;> rfl) ?_
   generalize hH3 : H2 ++ [C3.dT kv2] = H3'
   have k3 : H3'[0]? = some (.lst (rs.map encR)) := hH3 ▸ kk _ _ k0
   refine zao (by (simp_arith []) <;> rfl) ?_
   refine zao (by (simp_arith []) <;> rfl) ?_
   obtain ⟨kv3, e3⟩ := hF js (.lst []) H3' [] (.inl rfl) hj7 (by simp)
   obtain ⟨a, b, r, hab⟩ : ∃ a b r, rs = a :: b :: r := by
    match rs, hr4 with
    | [], h => simp at h
    | [_], h => simp at h
    | a :: b :: r, _ => exact ⟨a, b, r, rfl⟩
   have hc2 : cutL (rs.map encR) none (some 2) = [encR a, encR b] := zvs hab
   obtain ⟨kv4, e4⟩ := hF [] (.lst ([a, b].map encR)) (H3' ++ [.dT kv3]) [a, b] (.inl rfl) (by simp) (by simp)
   have hd2 : (due [] A [a, b] [a, b].length).map encD = [.tup [.int 0, .str "name"], .tup [.int 1, .str "name"]] := rfl
   have hd0 : (due js A [] ([] : List Rw).length).map encD = [] := rfl
   rw [hd2] at e4
   rw [hd0] at e3
   have n0 : ∀ (s : S3) (h : H3), oNe s h (.x (.lst [])) (.x (.lst [])) = some (.v (.bl false)) := fun s h => zpz zj1
   have n4 : ∀ (s : S3) (h : H3), oNe s h (.x (.lst [.tup [.int 0, .str "name"], .tup [.int 1, .str "name"]])) (.x (.lst [.tup [.int 0, .str "name"], .tup [.int 1, .str "name"]])) = some (.v (.bl false)) := fun s h => zgr zj1 zj1 (zpb [(0, ("name" : Str)), (1, ("name" : Str))])
   have e4' : f_faults [.lst [], calV (Cal.kform rest rows) rest, .lst [encR a, encR b]] (H3' ++ [.dT kv3]) = .ok (.m (.lst [.tup [.int 0, .str "name"], .tup [.int 1, .str "name"]])) (H3' ++ [.dT kv3] ++ [.dT kv4]) := e4
   clear e4
   refine zao (by (simp_arith [e3, n0, eSl, poN, poS, oSl, hc2, e4', n4]) <;> rfl) ?_
   generalize hH5 : H3' ++ [C3.dT kv3] ++ [C3.dT kv4] = H5
   have k5 : H5[0]? = some (.lst (rs.map encR)) := hH5 ▸ kk _ _ (kk _ _ k3)
   refine zao (by (simp_arith []) <;> rfl) ?_
   refine zao (by (simp_arith []) <;> rfl) ?_
   refine zao (by (simp_arith []) <;> rfl) ?_
   refine zao (by (simp_arith []) <;> rfl) ?_
   refine zao (by (simp_arith []) <;> rfl) ?_
   refine zao (by (simp_arith []) <;> rfl) ?_
   obtain ⟨kv6, e6⟩ := hF js (.loc 0) H5 rs (.inr ⟨0, rfl, k5⟩) hj7 hr4.2
   have t6 := zln (ds := due js A rs rs.length) (h := H5 ++ [.dT kv6]) (.inl rfl)
   exact ⟨_, by (simp_arith [e6, d1, t6]) <;> rfl⟩
end My
set_option Elab.async false
set_option linter.all false
set_option maxRecDepth 100000
set_option maxHeartbeats 0
namespace My
open PySem PySem.Spec PyProof.Rows L2 L3
theorem law_true : ∀ ns : List Int, ns.length ≤ 63 → ∃ h', f_law [.scr ns] [] = .ok (.v (.bl true)) h' := law_yes
theorem txt {K : PySem.W.Frag} {mg : Str → Option Value} {h : Heap} (X : K.In h) (G : h.Ns mainGlobals mg) (S : L4.seenK ask K = L4.good PySem.Challenge.pw_dueyard_k32_faults_of_plans ask) : ∃ _ : Txt K mg, True := by
 obtain ⟨f0, d0, a0, F0⟩ := L4.def_at S 0 rfl
 obtain ⟨f1, d1, a1, F1⟩ := L4.def_at S 1 rfl
 obtain ⟨f2, d2, a2, F2⟩ := L4.def_at S 2 rfl
 obtain ⟨f3, d3, a3, F3⟩ := L4.def_at S 3 rfl
 obtain ⟨f4, d4, a4, F4⟩ := L4.def_at S 4 rfl
 obtain ⟨f5, d5, a5, F5⟩ := L4.def_at S 5 rfl
 obtain ⟨f6, d6, a6, F6⟩ := L4.def_at S 6 rfl
 obtain ⟨f7, d7, a7, F7⟩ := L4.def_at S 7 rfl
 obtain ⟨f8, d8, a8, F8⟩ := L4.def_at S 8 rfl
 obtain ⟨f9, d9, a9, F9⟩ := L4.def_at S 9 rfl
 obtain ⟨f10, d10, a10, F10⟩ := L4.def_at S 10 rfl
 obtain ⟨f11, d11, a11, F11⟩ := L4.def_at S 11 rfl
 obtain ⟨f12, d12, a12, F12⟩ := L4.def_at S 12 rfl
 obtain ⟨f13, d13, a13, F13⟩ := L4.def_at S 13 rfl
 obtain ⟨f14, d14, a14, F14⟩ := L4.def_at S 14 rfl
 obtain ⟨f15, d15, a15, F15⟩ := L4.def_at S 15 rfl
 obtain ⟨f16, d16, a16, F16⟩ := L4.def_at S 16 rfl
 obtain ⟨f17, d17, a17, F17⟩ := L4.def_at S 17 rfl
 obtain ⟨f18, d18, a18, F18⟩ := L4.def_at S 18 rfl
 obtain ⟨f19, d19, a19, F19⟩ := L4.def_at S 19 rfl
 obtain ⟨f20, d20, a20, F20⟩ := L4.def_at S 20 rfl
 obtain ⟨C0, c0⟩ := L4.cls_at S 0 rfl
 obtain ⟨g0, e0, A0, M0, I0⟩ := c0.meth 0 _ rfl
 obtain ⟨g1, e1, A1, M1, I1⟩ := c0.meth 1 _ rfl
 obtain ⟨t0, v0⟩ := L4.int_at S 0 rfl
 obtain ⟨t1, v1⟩ := L4.int_at S 1 rfl
 obtain ⟨t2, v2⟩ := L4.int_at S 2 rfl
 exact ⟨⟨f0, d0, ⟨F0, L4.b2 F0 fun _ _ _ _ _ _ _ _ => rfl, PySem.W.mg_of X G a0⟩, f1, d1, ⟨F1, L4.b2 F1 fun _ _ _ _ _ _ _ _ => rfl, PySem.W.mg_of X G a1⟩, f2, d2, ⟨F2, L4.b2 F2 fun _ _ _ _ _ _ _ _ => rfl, PySem.W.mg_of X G a2⟩, f3, d3, ⟨F3, L4.b1 F3 fun _ _ _ _ _ _ _ => rfl, PySem.W.mg_of X G a3⟩, f4, d4, ⟨F4, L4.b2 F4 fun _ _ _ _ _ _ _ _ => rfl, PySem.W.mg_of X G a4⟩, f5, d5, ⟨F5, L4.b1 F5 fun _ _ _ _ _ _ _ => rfl, PySem.W.mg_of X G a5⟩, f6, d6, ⟨F6, L4.b3 F6 fun _ _ _ _ _ _ _ _ _ => rfl, PySem.W.mg_of X G a6⟩, f7, d7, ⟨F7, L4.b1 F7 fun _ _ _ _ _ _ _ => rfl, PySem.W.mg_of X G a7⟩, f8, d8, ⟨F8, L4.b1 F8 fun _ _ _ _ _ _ _ => rfl, PySem.W.mg_of X G a8⟩, f9, d9, ⟨F9, L4.b1 F9 fun _ _ _ _ _ _ _ => rfl, PySem.W.mg_of X G a9⟩, f10, d10, ⟨F10, L4.b1 F10 fun _ _ _ _ _ _ _ => rfl, PySem.W.mg_of X G a10⟩, f11, d11, ⟨F11, L4.b4 F11 fun _ _ _ _ _ _ _ _ _ _ => rfl, PySem.W.mg_of X G a11⟩, f12, d12, ⟨F12, L4.b2 F12 fun _ _ _ _ _ _ _ _ => rfl, PySem.W.mg_of X G a12⟩, f13, d13, ⟨F13, L4.b3 F13 fun _ _ _ _ _ _ _ _ _ => rfl, PySem.W.mg_of X G a13⟩, f14, d14, ⟨F14, L4.b1 F14 fun _ _ _ _ _ _ _ => rfl, PySem.W.mg_of X G a14⟩, f15, d15, ⟨F15, L4.b2 F15 fun _ _ _ _ _ _ _ _ => rfl, PySem.W.mg_of X G a15⟩, f16, d16, ⟨F16, L4.b3 F16 fun _ _ _ _ _ _ _ _ _ => rfl, PySem.W.mg_of X G a16⟩, f17, d17, ⟨F17, L4.b5 F17 fun _ _ _ _ _ _ _ _ _ _ _ => rfl, PySem.W.mg_of X G a17⟩, f18, d18, ⟨F18, L4.b4 F18 fun _ _ _ _ _ _ _ _ _ _ => rfl, PySem.W.mg_of X G a18⟩, f19, d19, ⟨F19, L4.b3 F19 fun _ _ _ _ _ _ _ _ _ => rfl, PySem.W.mg_of X G a19⟩, f20, d20, ⟨F20, L4.b1 F20 fun _ _ _ _ _ _ _ => rfl, PySem.W.mg_of X G a20⟩, C0, c0.cls, PySem.W.mg_of X G c0.g, g0, e0, ⟨M0, L4.b3 M0 fun _ _ _ _ _ _ _ _ _ => rfl⟩, g1, e1, ⟨M1, L4.b2 M1 fun _ _ _ _ _ _ _ _ => rfl⟩, ⟨A1, I1, M1.kp⟩, ⟨c0.makes, A0, I0, c0.kp⟩, c0.fld 0 _ rfl, c0.fld 1 _ rfl, PySem.W.mg_none_of X G (L4.bare_at S 0 rfl), PySem.W.mg_none_of X G (L4.bare_at S 1 rfl), PySem.W.mg_none_of X G (L4.bare_at S 2 rfl), PySem.W.mg_none_of X G (L4.bare_at S 3 rfl), PySem.W.mg_none_of X G (L4.bare_at S 4 rfl), PySem.W.mg_none_of X G (L4.bare_at S 5 rfl), PySem.W.mg_none_of X G (L4.bare_at S 6 rfl), PySem.W.mg_none_of X G (L4.bare_at S 7 rfl), PySem.W.mg_none_of X G (L4.bare_at S 8 rfl), PySem.W.mg_none_of X G (L4.bare_at S 9 rfl), PySem.W.mg_none_of X G (L4.bare_at S 10 rfl), PySem.W.mg_none_of X G (L4.bare_at S 11 rfl), t0, PySem.W.mg_of X G v0, t1, PySem.W.mg_of X G v1, t2, PySem.W.mg_of X G v2⟩, trivial⟩
def d_law : PySem.DefRec := ⟨"law", zfr (top 32), zds (top 32), zaf (top 32), ⟨198, 0, 221, 131⟩⟩
end My
open PySem PySem.W PyProof.Rows
set_option maxRecDepth 100000 in
set_option maxHeartbeats 0 in
theorem PySem.Challenge.cw_dueyard_k32_faults_of_plans_holds : PySem.Challenge.rw_dueyard_k32_faults_of_plans.Holds := by
 w_on; o_law
 refine PySem.W.holds_open (q := L4.lawView My.ask PySem.Challenge.pw_dueyard_k32_faults_of_plans) (loose := L4.looseOf PySem.Challenge.pw_dueyard_k32_faults_of_plans) (Xt := fun _ => true) (XP := fun _ _ => True) (YP := fun _ h => ∃ K : Frag, K.In h ∧ L4.seenK My.ask K = L4.good PySem.Challenge.pw_dueyard_k32_faults_of_plans My.ask) (d := My.d_law) (kwd := []) (N := 20000) (L4.left_one (good := L4.good PySem.Challenge.pw_dueyard_k32_faults_of_plans My.ask) (by kernel_rfl) (by decide) (fun _ => rfl) My.one) (fun w s e => L4.seen_ok w s e) (fun w h h' => L4.seen_keeps w h h') (fun _ _ => trivial) (fun _ _ _ _ _ => trivial) (by kernel_rfl) (by kernel_rfl) rfl (fun _ _ => recFacts_nil rfl) rfl (by assumption) (by decide +kernel) ⟨rfl, rfl, rfl, rfl, rfl, by decide +kernel⟩ ?hw ?hc
 case hw => w_witness2
 case hc =>
  refine L4.walk_one (l := PySem.Challenge.rw_dueyard_k32_faults_of_plans) (n := 63) (k := 8) (x := "_law_script") (CX := fun w => L2.XT PySem.Challenge.rw_dueyard_k32_faults_of_plans.prog w) (sp := L3.spL) rfl (by decide) rfl ⟨rfl, by decide, by decide⟩ ?F (fun _ _ a ns hl hO hS => ⟨a, ns, rfl, hl, hS, hO, fun _ => rfl⟩) fun _ _ _ _ _ z => L3.noX z
  intro w mg fa h K KX G S hmg
  obtain ⟨T, _⟩ := My.txt KX G S
  have e := hmg.symm.trans T.d_law.g
  cases e
  exact ⟨T.fd_law, L4.binds_law T.d_law.F fun _ _ _ _ _ _ _ => rfl, fun base _ _ => (My.G_law (P := PySem.Challenge.rw_dueyard_k32_faults_of_plans.prog) (w := w) (base := base) T).imp (sp' := L3.spL K) fun vs H Q E h => L3.spL_of (κ := My.kx T) My.law_true h⟩
