import PyProof.Rows.All
import Wide.All
import OpenK.AllK
import Wide.FinOn
import Lean
import PyProof.EqAt
import PyProof.EqKinds
import PyProof.TupleCall
import KE.KSortTup
import KE.KUnpack
import PyProof.EnumFor
import PyProof.EnumStmt
import PyProof.EnumMake
import PyProof.MaxThree
import PySem.Challenge.RW_dueyard_k31_shares_end_to_end
set_option Elab.async false
set_option linter.all false
set_option maxRecDepth 100000
/-! THE HAND LAYER, for ints, bools, texts, own classes, LISTS and tuples (index, slices, in, append, pop ..), calls, loops. Paste it whole ahead of your own text; what your proof does not reach may be deleted. -/
namespace L2
open PySem PySem.Spec PyProof.Rows

/-- a key: an int or a str -/
abbrev Key := Sum Int Str
def keyIs : Key → Value → Bool
  | .inl k, v => Value.isInt k v
  | .inr x, v => Value.isStrOf x v
def keyH (w : World) : Key → Int
  | .inl k => hashInt k
  | .inr x => hashStr w x
theorem keyIs_shape : ∀ {k : Key} {v : Value}, keyIs k v = true → (∃ i t, k = Sum.inl i ∧ v = Value.int i t) ∨ (∃ x t, k = Sum.inr x ∧ v = Value.str x t)
  | .inl i, v, h => by
    obtain ⟨t, e⟩ := Value.isInt_shape (k := i) (v := v) h
    exact .inl ⟨i, t, rfl, e⟩
  | .inr x, v, h => by
    obtain ⟨t, e⟩ := Value.isStrOf_shape (x := x) (v := v) h
    exact .inr ⟨x, t, rfl, e⟩
theorem key_ll (a b : Int) : decide ((Sum.inl a : Key) = Sum.inl b) = (a == b) := by
  by_cases e : a = b
  · subst e; simp
  · have h : ¬ (Sum.inl a : Key) = Sum.inl b := fun q => e (Sum.inl.inj q)
    rw [decide_eq_false h]
    exact (beq_eq_false_iff_ne.mpr e).symm
theorem key_rr (a b : Str) : decide ((Sum.inr a : Key) = Sum.inr b) = decide (a = b) := by
  by_cases e : a = b
  · subst e; simp
  · have h : ¬ (Sum.inr a : Key) = Sum.inr b := fun q => e (Sum.inr.inj q)
    rw [decide_eq_false h, decide_eq_false e]
theorem key_lr (a : Int) (b : Str) : decide ((Sum.inl a : Key) = Sum.inr b) = false := decide_eq_false (fun q => nomatch q)
theorem key_rl (a : Str) (b : Int) : decide ((Sum.inr a : Key) = Sum.inl b) = false := decide_eq_false (fun q => nomatch q)

def mixKind (prog : Program) (w : World) : PySem.KeyKind prog w Key where
  is := keyIs
  hash := keyH w
  inj := fun v a b ha hb => by
    rcases keyIs_shape ha with ⟨i, t, rfl, rfl⟩ | ⟨x, t, rfl, rfl⟩
    · rcases keyIs_shape hb with ⟨j, u, rfl, e⟩ | ⟨y, u, rfl, e⟩
      · injection e with e1 _; rw [e1]
      · exact nomatch e
    · rcases keyIs_shape hb with ⟨j, u, rfl, e⟩ | ⟨y, u, rfl, e⟩
      · exact nomatch e
      · injection e with e1 _; rw [e1]
  byValue := fun k v h => by
    rcases keyIs_shape h with ⟨i, t, rfl, rfl⟩ | ⟨x, t, rfl, rfl⟩ <;> rfl
  pyHash := fun hv h => by
    rcases keyIs_shape hv with ⟨i, t, rfl, rfl⟩ | ⟨x, t, rfl, rfl⟩
    · exact wpAny_pyHash_int h
    · exact wpAny_pyHash_str h
  eqBool := fun hu hv h => by
    rcases keyIs_shape hu with ⟨i, t, rfl, rfl⟩ | ⟨x, t, rfl, rfl⟩
    · rcases keyIs_shape hv with ⟨j, u, rfl, rfl⟩ | ⟨y, u, rfl, rfl⟩
      · rw [key_ll] at h; exact wpAny_eqBool_int h
      · rw [key_lr] at h; exact SeqAt.EqAt.int_str i t y u _ _ _ _ h
    · rcases keyIs_shape hv with ⟨j, u, rfl, rfl⟩ | ⟨y, u, rfl, rfl⟩
      · rw [key_rl] at h; exact SeqAt.EqAt.str_int x t j u _ _ _ _ h
      · rw [key_rr] at h; exact wpAny_eqBool_str h
  «strs» := fun k x t v h => by
    rcases keyIs_shape h with ⟨i, u, rfl, e⟩ | ⟨y, u, rfl, e⟩
    · exact nomatch e
    · injection e with e1 _
      subst e1
      cases v <;> rfl

end L2

namespace L2
open PySem PySem.Spec PyProof.Rows

/-- a value, without the heap -/
inductive V where
  | non | bl (b : Bool) | int (i : Int) | str (x : Str) | byt (b : Array UInt8) | flt (b : UInt64) | ref (a : Addr) | ty (n : String)
  deriving DecidableEq

def RelV : V → Value → Prop
  | .non, u => u = Value.none
  | .bl b, u => u = Value.bool b
  | .int i, u => ∃ t, u = Value.int i t
  | .str x, u => ∃ t, u = Value.str x t
  | .byt b, u => ∃ t, u = Value.bytes b t
  | .flt b, u => ∃ t, u = Value.float b t
  | .ref a, u => u = Value.ref a
  | .ty n, u => u = Value.type n

abbrev Vals : List V → List Value → Prop := Paired RelV
theorem Vals.length {xs : List V} {us : List Value} (r : Vals xs us) : xs.length = us.length := Paired.length r
theorem Vals.get : ∀ {xs : List V} {us : List Value} {i : Nat} {x : V}, Vals xs us → xs[i]? = some x → ∃ u, us[i]? = some u ∧ RelV x u
  | _, _, _, _, .nil, e => by simp at e
  | _, _, 0, _, .cons r _, e => by simp at e; subst e; exact ⟨_, rfl, r⟩
  | _, _, i + 1, x, .cons _ t, e => by
    obtain ⟨u, h1, h2⟩ := Vals.get (i := i) (x := x) t (by simpa using e)
    exact ⟨u, by simpa using h1, h2⟩
theorem Vals.set {x : V} {u : Value} (r : RelV x u) : ∀ {xs : List V} {us : List Value} (i : Nat), Vals xs us → Vals (xs.set i x) (us.set i u)
  | _, _, _, .nil => .nil
  | _, _, 0, .cons _ t => .cons r t
  | _, _, i + 1, .cons q t => .cons q (Vals.set r i t)
theorem Vals.append : ∀ {xs ys : List V} {us ws : List Value}, Vals xs us → Vals ys ws → Vals (xs ++ ys) (us ++ ws)
  | _, _, _, _, .nil, s => s
  | _, _, _, _, .cons r t, s => .cons r (Vals.append t s)

def RelO : Option V → Option Value → Prop
  | some v, some u => RelV v u
  | none, none => True
  | _, _ => False
def KV {κ : Type} : List (κ × V) → List (κ × Value) → Prop := Paired fun (p : κ × V) (q : κ × Value) => p.1 = q.1 ∧ RelV p.2 q.2

/-- a key of a dict (00_mix): an int or a text -/
def kV : Key → V
  | .inl i => .int i
  | .inr x => .str x

/-- what stands at a tracked address -/
inductive HO where
  /-- a list -/
  | lst (xs : List V)
  /-- a tuple (never changes) -/
  | tup (xs : List V)
  /-- a dict whose keys are ints and texts; one whose keys are tuples of ints and texts (the empty one is both) -/
  | dK (kvs : List (Key × V)) | dT (kvs : List (List Key × V))
  /-- a set of ints: its members, its size -/
  | set (S : Int → Bool) (n : Nat)
  /-- an instance of the class at C, its dict at dx, its attributes -/
  | ins (C dx : Addr) (fs : List (Str × V))
  /-- the dict of the instance at x -/
  | own (x : Addr)
  /-- the dict of an exception -/
  | xd (fs : List (Str × V))
  /-- a bound method, f of x -/
  | met (f x : Addr)
  /-- a range object lo, lo + 1, .. below hi -/
  | rng (lo hi : Int)
  /-- a thing that is known to the object (the script; a dict while a loop walks it): read, never written while it is so -/
  | frz (o : Obj) (u : HO)
  /-- a code object's table -/
  | tbl (ps : Array Value)
  /-- any other thing, by what is true of its one object (a def of one's own: SetO a S n := HO.ext fun h => ..) -/
  | ext (φ : Heap → Prop)

abbrev Hp := Addr → Option HO
def upd (H : Hp) (a : Addr) (o : HO) : Hp := fun b => if b = a then some o else H b
theorem upd_same {H : Hp} {a : Addr} {o : HO} : upd H a o a = some o := by unfold upd; rw [if_pos rfl]
theorem upd_ne {H : Hp} {a b : Addr} {o : HO} (h : b ≠ a) : upd H a o b = H b := by unfold upd; rw [if_neg h]
theorem ne_of_none {H : Hp} {a b : Addr} {o : HO} (h : H a = some o) (h' : H b = none) : a ≠ b := by
  intro e; subst e; rw [h] at h'; cases h'

section
variable (P : Program) (w : World)
def ObjOk (H : Hp) (h : Heap) (a : Addr) : HO → Prop
  | .lst xs => xs.length ≤ sizeLine ∧ ∃ (its : List Value) (n : Nat), Vals xs its ∧ h.get? a = some { cls := .type "list", data := .seq its.toArray n }
  | .tup xs => xs.length ≤ sizeLine ∧ ∃ its : List Value, Vals xs its ∧ IsTup h a its.toArray
  | .dK kvs => kvs.length ≤ sizeLine ∧ (a == sysModules) = false ∧ ∃ vs, KV kvs vs ∧ h.DictOf (mixKind P w) a vs
  | .dT kvs => kvs.length ≤ sizeLine ∧ (a == sysModules) = false ∧ ∃ xs : List (List Key × Addr × Value),
      Paired (fun (p : List Key × V) (q : List Key × Addr × Value) => p.1 = q.1 ∧ H q.2.1 = some (.tup (p.1.map kV)) ∧ RelV p.2 q.2.2) kvs xs ∧
      ∃ o es ep, h.get? a = some o ∧ o.ExactDict ∧ o.data = .dict es ep ∧ es.toList = xs.map (entryOfKey (tupleKind (mixKind P w))) ∧ (xs.map (·.1)).Nodup
  | .set S n => h.SetOf (intKind P w) a S n
  | .ins C dx fs => H dx = some (.own a) ∧ fs.length ≤ 1000 ∧ dx ≠ a ∧ h.get? a = some (PySem.W.instObj C dx) ∧
      ∃ mA, h.Ns1 dx mA ∧ (∀ f, RelO (fs.lookup f) (mA f)) ∧ PySem.Within mA (fs.map (·.1))
  | .own _ => ∃ o, h.get? a = some o
  | .xd fs => ∃ mA, h.Ns1 a mA ∧ ∀ f, RelO (fs.lookup f) (mA f)
  | .rng lo hi => ∃ t u v, h.get? a = some { cls := .type "range", data := .fields #[.int lo t, .int hi u, .int 1 v] }
  | .frz o u => h.get? a = some o ∧ ObjOk H h a u
  | .tbl ps => h.get? a = some { cls := .none, data := .fields ps }
  | .met f x => h.get? a = some (PySem.W.methodObj (.ref f) (.ref x))
  | .ext φ => φ h ∧ (∃ o, h.get? a = some o) ∧ ∀ h1 h2 : Heap, φ h1 → (∀ o, h1.get? a = some o → h2.get? a = some o) → φ h2
/-- the abstract heap is held -/
def HOk (H : Hp) (h : Heap) : Prop := ∀ a o, H a = some o → ObjOk P w H h a o
end

section
variable {P : Program} {w : World} {H H' : Hp} {h h' : Heap} {a : Addr} {o : HO}
theorem ObjOk.lt (x : ObjOk P w H h a o) : a < h.objs.size := by
  cases o with
  | lst xs => obtain ⟨_, _, _, _, e⟩ := x; exact Heap.lt_size e
  | tup xs => obtain ⟨_, _, _, p⟩ := x; exact p.lt
  | dK kvs => obtain ⟨_, _, _, _, o, _, _, e, _⟩ := x; exact Heap.lt_size e
  | dT kvs => obtain ⟨_, _, _, _, o, _, _, e, _⟩ := x; exact Heap.lt_size e
  | set S n => obtain ⟨o, _, _, _, e, _⟩ := x; exact Heap.lt_size e
  | ins C dx fs => obtain ⟨_, _, _, e, _⟩ := x; exact Heap.lt_size e
  | own y => obtain ⟨_, e⟩ := x; exact Heap.lt_size e
  | xd fs => obtain ⟨_, ⟨_, _, _, e, _⟩, _⟩ := x; exact Heap.lt_size e
  | rng lo hi => obtain ⟨_, _, _, e⟩ := x; exact Heap.lt_size e
  | frz ob u => obtain ⟨e, _⟩ := x; exact Heap.lt_size e
  | tbl ps => exact Heap.lt_size (show h.get? a = some _ from x)
  | met f y => exact Heap.lt_size (show h.get? a = some _ from x)
  | ext φ => obtain ⟨_, ⟨_, e⟩, _⟩ := x; exact Heap.lt_size e
theorem Paired.mapP {α β : Type} {F G : α → β → Prop} : ∀ {l₁ : List α} {l₂ : List β}, Paired F l₁ l₂ → (∀ a b, F a b → G a b) → Paired G l₁ l₂
  | _, _, .nil, _ => .nil
  | _, _, .cons r t, f => .cons (f _ _ r) (Paired.mapP t f)
theorem Paired.imp' {α β : Type} {F G : α → β → Prop} (f : ∀ a b, F a b → G a b) {l₁ : List α} {l₂ : List β} (r : Paired F l₁ l₂) : Paired G l₁ l₂ := Paired.mapP r f
/-- what an object's description leans on: its own object, its own dict, the tuples -/
theorem ObjOk.stay (x : ObjOk P w H h a o) (k : ∀ b u, (b = a ∨ H b = some (.own a)) → h.get? b = some u → h'.get? b = some u)
    (ho : ∀ b, H b = some (.own a) → H' b = some (.own a)) (ht : ∀ b xs, H b = some (.tup xs) → H' b = some (.tup xs)) : ObjOk P w H' h' a o := by
  induction o with
  | lst xs => obtain ⟨z, its, n, r, e⟩ := x; exact ⟨z, its, n, r, k _ _ (.inl rfl) e⟩
  | tup xs => obtain ⟨z, its, r, ob, e, c⟩ := x; exact ⟨z, its, r, ob, k _ _ (.inl rfl) e, c⟩
  | dK kvs => obtain ⟨z, y, vs, r, ob, es, ep, e, c⟩ := x; exact ⟨z, y, vs, r, ob, es, ep, k _ _ (.inl rfl) e, c⟩
  | dT kvs =>
    obtain ⟨z, y, xs, r, ob, es, ep, e, c⟩ := x
    exact ⟨z, y, xs, Paired.mapP r fun p q z => ⟨z.1, ht _ _ z.2.1, z.2.2⟩, ob, es, ep, k _ _ (.inl rfl) e, c⟩
  | set S n => obtain ⟨ob, es, ep, t, e, c⟩ := x; exact ⟨ob, es, ep, t, k _ _ (.inl rfl) e, c⟩
  | ins C dx fs =>
    obtain ⟨d, z, ne, e, mA, ⟨od, es, ep, e2, c⟩, r⟩ := x
    exact ⟨ho _ d, z, ne, k _ _ (.inl rfl) e, mA, ⟨od, es, ep, k _ _ (.inr d) e2, c⟩, r⟩
  | own y => obtain ⟨ob, e⟩ := x; exact ⟨ob, k _ _ (.inl rfl) e⟩
  | xd fs => obtain ⟨mA, ⟨od, es, ep, e, c⟩, r⟩ := x; exact ⟨mA, ⟨od, es, ep, k _ _ (.inl rfl) e, c⟩, r⟩
  | rng lo hi => obtain ⟨t, u, v, e⟩ := x; exact ⟨t, u, v, k _ _ (.inl rfl) e⟩
  | frz ob u ih => obtain ⟨e, q⟩ := x; exact ⟨k _ _ (.inl rfl) e, ih q⟩
  | tbl ps =>
    have e : h.get? a = some { cls := .none, data := .fields ps } := x
    show h'.get? a = some { cls := .none, data := .fields ps }
    exact k a _ (.inl rfl) e
  | met f y =>
    have e : h.get? a = some (PySem.W.methodObj (.ref f) (.ref y)) := x
    show h'.get? a = some (PySem.W.methodObj (.ref f) (.ref y))
    exact k a _ (.inl rfl) e
  | ext φ => obtain ⟨p, ⟨o, e⟩, st⟩ := x; exact ⟨st _ _ p fun o q => k _ _ (.inl rfl) q, ⟨o, k _ _ (.inl rfl) e⟩, st⟩
theorem HOk.lt (x : HOk P w H h) (e : H a = some o) : a < h.objs.size := (x a o e).lt
theorem HOk.fresh (x : HOk P w H h) (e : h.objs.size ≤ a) : H a = none := by
  cases q : H a with
  | none => rfl
  | some u => exact absurd (Nat.lt_of_lt_of_le (x.lt q) e) (Nat.lt_irrefl _)
/-- every object of the heap is kept -/
theorem HOk.kept (x : HOk P w H h) (k : ∀ b u, h.get? b = some u → h'.get? b = some u) : HOk P w H h' := fun a o e =>
  (x a o e).stay (fun b u _ q => k b u q) (fun _ q => q) fun _ _ q => q
/-- a new object is laid and tracked -/
theorem HOk.laid (x : HOk P w H h) (k : ∀ b u, h.get? b = some u → h'.get? b = some u) (hp : h.objs.size ≤ a) (new : ObjOk P w (upd H a o) h' a o) : HOk P w (upd H a o) h' := fun b u e => by
  have hn := x.fresh hp
  by_cases hb : b = a
  · subst hb; rw [upd_same] at e; cases e; exact new
  · rw [upd_ne hb] at e
    exact (x b u e).stay (fun c v _ q => k c v q) (fun c q => by rw [upd_ne (ne_of_none q hn)]; exact q) fun c xs q => by rw [upd_ne (ne_of_none q hn)]; exact q
end

/-- what may be read as u: it is u, or a known u -/
def Rd (H : Hp) (a : Addr) (u : HO) : Prop := H a = some u ∨ ∃ o, H a = some (.frz o u)
theorem Rd.ok {P : Program} {w : World} {H : Hp} {h : Heap} {a : Addr} {u : HO} (r : Rd H a u) (x : HOk P w H h) : ObjOk P w H h a u := by
  rcases r with r | ⟨o, r⟩
  · exact x a u r
  · obtain ⟨_, q⟩ := x a _ r
    exact q
/-- what may be written -/
def Mut : Option HO → Prop
  | some (.lst _) => True
  | some (.dK _) => True
  | some (.dT _) => True
  | some (.set _ _) => True
  | some (.ins _ _ _) => True
  | some (.ext _) => True
  | _ => False
section
variable {P : Program} {w : World} {H : Hp} {h h' : Heap} {x e : Addr} {o' : HO}
/-- the object at e is changed: x itself, or the dict of the instance x -/
theorem HOk.write (ok : HOk P w H h) (mu : Mut (H x)) (he : e = x ∨ H e = some (.own x)) (k : ∀ b u, b ≠ e → h.get? b = some u → h'.get? b = some u) (heo : ∃ u, h'.get? e = some u)
    (new : ObjOk P w (upd H x o') h' x o') : HOk P w (upd H x o') h' := fun b u q => by
  have nown : ∀ c y, H c = some (.own y) → c ≠ x := fun c y r z => by subst z; rw [r] at mu; exact mu
  have ntup : ∀ c xs, H c = some (.tup xs) → c ≠ x := fun c xs r z => by subst z; rw [r] at mu; exact mu
  by_cases hb : b = x
  · subst hb; rw [upd_same] at q; cases q; exact new
  · rw [upd_ne hb] at q
    by_cases hbe : b = e
    · have q' : H b = some (.own x) := by
        rcases he with z | z
        · exact absurd (hbe.trans z) hb
        · rw [hbe]; exact z
      rw [q] at q'; cases q'
      obtain ⟨v, hv⟩ := heo
      exact ⟨v, by rw [hbe]; exact hv⟩
    · refine (ok b u q).stay (fun c v hc r => k c v ?_ r) (fun c r => by rw [upd_ne (nown c b r)]; exact r) fun c xs r => by rw [upd_ne (ntup c xs r)]; exact r
      rcases hc with rfl | hc
      · exact hbe
      · rintro rfl
        rcases he with z | z
        · exact nown c b hc z
        · rw [hc] at z; cases z; exact hb rfl
end

/-! ### kept unless tracked; of the frames at fs (the callers') the slots may change (an exception that passes writes there); of the records at ex (iterators) nothing is said -/
structure Un (fs ex : List Addr) (H H' : Hp) (h h' : Heap) : Prop where
  keep : ∀ b o, h.get? b = some o → H b = none → b ∉ fs → b ∉ ex → h'.get? b = some o
  slot : ∀ b o, h.get? b = some o → H b = none → b ∈ fs → b ∉ ex → ∃ sl, h'.get? b = some { o with slots := sl }
  free : ∀ b o, h.get? b = some o → H b = none → b ∉ ex → H' b = none
  there : ∀ b o, h.get? b = some o → b ∉ ex → ∃ o', h'.get? b = some o'
  tups : ∀ b xs, H b = some (.tup xs) → H' b = some (.tup xs)
  frzs : ∀ b o u, H b = some (.frz o u) → H' b = some (.frz o u)
  tbls : ∀ b ps, H b = some (.tbl ps) → ∃ more, H' b = some (.tbl (ps ++ more))
section
variable {fs fs' ex ex' : List Addr} {H H1 H2 : Hp} {h h1 h2 h' : Heap} {a x e : Addr} {o : HO}
theorem Un.any (u : Un fs ex H H1 h h1) {b : Addr} {ob : Obj} (q : h.get? b = some ob) (n : H b = none) (hx : b ∉ ex) : ∃ sl, h1.get? b = some { ob with slots := sl } := by
  by_cases hb : b ∈ fs
  · exact u.slot b ob q n hb hx
  · exact ⟨ob.slots, u.keep b ob q n hb hx⟩
theorem Un.kept (k : ∀ b u, h.get? b = some u → h'.get? b = some u) : Un fs ex H H h h' :=
  ⟨fun b ob q _ _ _ => k b ob q, fun b ob q _ _ _ => ⟨ob.slots, k b ob q⟩, fun _ _ _ n _ => n, fun b ob q _ => ⟨ob, k b ob q⟩, fun _ _ q => q, fun _ _ _ q => q, fun _ ps q => ⟨#[], by rw [q]; simp⟩⟩
theorem Un.refl : Un fs ex H H h h := Un.kept fun _ _ q => q
theorem Un.laid (k : ∀ b u, h.get? b = some u → h'.get? b = some u) (hp : h.objs.size ≤ a) (hn : H a = none) : Un fs ex H (upd H a o) h h' where
  keep := fun b u q _ _ _ => k b u q
  slot := fun b u q _ _ _ => ⟨u.slots, k b u q⟩
  free := fun b u q n _ => by rw [upd_ne (Nat.ne_of_lt (Nat.lt_of_lt_of_le (Heap.lt_size q) hp))]; exact n
  there := fun b u q _ => ⟨u, k b u q⟩
  tups := fun b xs q => by rw [upd_ne (ne_of_none q hn)]; exact q
  frzs := fun b u xs q => by rw [upd_ne (ne_of_none q hn)]; exact q
  tbls := fun b ps q => ⟨#[], by rw [upd_ne (ne_of_none q hn), q]; simp⟩
theorem Un.write (mu : Mut (H x)) (he : e = x ∨ H e = some (.own x)) (k : ∀ b u, b ≠ e → h.get? b = some u → h'.get? b = some u) (heo : ∃ u, h'.get? e = some u) : Un fs ex H (upd H x o) h h' := by
  have hx : ∀ b, H b = none → b ≠ x := fun b n z => by subst z; rw [n] at mu; exact mu
  have hb : ∀ b, H b = none → b ≠ e := fun b n z => by
    subst z
    rcases he with r | r
    · exact hx b n r
    · rw [n] at r; cases r
  have hm : ∀ b u, H b = some u → ¬ Mut (some u) → b ≠ x := fun b u q nm z => by subst z; rw [q] at mu; exact nm mu
  refine ⟨fun b u q n _ _ => k b u (hb b n) q, fun b u q n _ _ => ⟨u.slots, k b u (hb b n) q⟩, fun b u q n _ => by rw [upd_ne (hx b n)]; exact n, fun b u q _ => ?_,
    fun b xs q => by rw [upd_ne (hm b _ q fun z => z)]; exact q, fun b u xs q => by rw [upd_ne (hm b _ q fun z => z)]; exact q, fun b ps q => ⟨#[], by rw [upd_ne (hm b _ q fun z => z), q]; simp⟩⟩
  by_cases hbe : b = e
  · subst hbe; exact heo
  · exact ⟨u, k b u hbe q⟩
end

/-! ### the heap without what is tracked -/
def trk (h : Heap) (H : Hp) : List Addr := (List.range h.objs.size).filter fun a => (H a).isSome
def hidT (h : Heap) (H : Hp) : Heap := PySem.W.hideAll h (trk h H)
theorem hidT_size (h : Heap) (H : Hp) : (hidT h H).objs.size = h.objs.size := PySem.W.hideAll_size _ _
theorem hidT_get {h : Heap} {H : Hp} {b : Addr} {o : Obj} (e : h.get? b = some o) (n : H b = none) : (hidT h H).get? b = some o :=
  PySem.W.hideAll_get _ e fun hm => by
    have q : (H b).isSome = true := (List.mem_filter.mp hm).2
    rw [n] at q; simp at q
theorem of_hidT {h : Heap} {H : Hp} {b : Addr} {o : Obj} (e : (hidT h H).get? b = some o) : h.get? b = some o ∧ H b = none := by
  have e' : h.get? b = some o := PySem.W.of_hideAll (trk h H) e
  refine ⟨e', ?_⟩
  cases q : H b with
  | none => rfl
  | some x =>
    have hm : b ∈ trk h H := List.mem_filter.mpr ⟨List.mem_range.mpr (Heap.lt_size e'), by simp [q]⟩
    have z : (hidT h H).get? b = none := PySem.W.hideAll_none (trk h H) hm
    rw [z] at e; cases e

/-! ### OpenK's ledger, filled with every new object but one -/
def allNews (g h : Heap) (L : Addr) : List (Addr × Obj) := (List.range h.objs.size).filterMap fun a => if a = L ∨ (g.get? a).isSome = true then none else (h.get? a).map fun o => (a, o)
def rest (g h : Heap) (L d : Addr) : List (Addr × Obj) := (allNews g h L).filter fun p => decide (p.1 ≠ d)
end L2

namespace L2
open PySem PySem.Spec PyProof.Rows

/-- the module's facts, over the base: the heap at the law's entry without what is tracked there -/
structure Mod (K : PySem.W.Frag) (mg : Str → Option Value) (base : Heap) : Prop where
  kin : K.In base
  glob : base.Ns mainGlobals mg
  blt : ∃ mb, base.Ns builtinsNs mb ∧ ∀ x : Str, x ≠ "__name__" → mb x = bootBuiltins x
  nolimit : base.NoLimit

/-- the context: a def's body (or a comprehension's block) running. base: fixed through the whole law; s₀, H₀: the entry; outer: the frames whose slots others may change (a def's callers); stack: all frames that run;
   ex: iterators that were made ahead of the entry and are walked here (a comprehension's); fn: the names whose cells were made at the entry (a def: all; a comprehension's block: its own); calm: not within an except suite; pn: pins that every state bears; xe: what is wanted of an exception that leaves the code -/
structure Cx where
  prog : Program
  w : World
  K : PySem.W.Frag
  mg : Str → Option Value
  base : Heap
  A : Around
  N : List Str
  s₀ : Shared
  H₀ : Hp
  env : Env
  outer : List Env
  stack : List Env
  ex : List Addr
  fn : Str → Bool
  calm : Bool
  pn : List (Addr × Obj)
  xe : Value → Shared → Prop
/-- the callers' frames -/
def frs (l : List Env) : List Addr := l.filterMap (·.frame)
abbrev Cx.fs (X : Cx) : List Addr := frs X.outer

def Vis (sc : Scope) (x : Str) : Prop := sc.names.lookup x = some .local ∨ sc.names.lookup x = some .cell ∨ sc.names.lookup x = some .free
def Loc (sc : Scope) (x : Str) : Prop := sc.names.lookup x = some .local ∨ sc.names.lookup x = some .cell
def Look (env : Env) (h : Heap) (m : Str → Option Value) (x : Str) (u : Value) : Prop :=
  (env.kindOf x = some .local ∧ m x = some u) ∨ ((env.kindOf x = some .cell ∨ env.kindOf x = some .free) ∧ ∃ c, env.cells.lookup x = some c ∧ h.IsCell c (some u))

structure Cx.Ok (X : Cx) : Prop where
  mod : Mod X.K X.mg X.base
  kind : X.env.scope.kind = .function
  glob : X.env.globals = mainGlobals
  blt : X.env.builtins = builtinsNs
  above : X.s₀.heap.objs.size ≤ X.env.locals
  inj : ∀ x y c, X.env.cells.lookup x = some c → X.env.cells.lookup y = some c → x = y
  has : ∀ x, (X.env.kindOf x = some .cell ∨ X.env.kindOf x = some .free) → ∃ c, X.env.cells.lookup x = some c
  cab : ∀ x c, X.fn x = true → X.env.cells.lookup x = some c → X.s₀.heap.objs.size ≤ c
  hd : X.calm = true → X.A.handled = none
  frames : X.A.frames = some X.stack
  stk : X.stack = X.outer ∨ (X.stack = X.env :: X.outer ∧ X.env.frame = some X.env.locals)
  exf : ∀ b ∈ X.ex, b ≠ X.env.locals ∧ ∀ x c, X.env.cells.lookup x = some c → c ≠ b
  bs : ∀ b o, X.base.get? b = some o → X.s₀.heap.get? b = some o ∧ X.H₀ b = none
  bsz : X.base.objs.size ≤ X.s₀.heap.objs.size
  noex : ∀ b o, X.base.get? b = some o → b ∉ X.ex
  exfs : ∀ b ∈ X.ex, b ∉ X.fs
  funs : X.s₀.heap.FunFrames X.base X.outer
  frf : ∀ b ∈ X.fs, X.H₀ b = none

structure Inv (X : Cx) (pins : List (Addr × Obj)) (σ : List (Option V)) (H : Hp) (s : Shared) : Prop where
  ok : X.Ok
  os : s.os = X.s₀.os
  bare : AllBare s.gens
  base : Un X.fs X.ex X.H₀ H X.s₀.heap s.heap
  loc : ∃ m, s.heap.Ns X.env.locals m ∧ ∀ (i : Nat) (x : Str) (v : V), X.N[i]? = some x → σ[i]? = some (some v) → Vis X.env.scope x → ∃ u, RelV v u ∧ Look X.env s.heap m x u
  cell : ∀ x c, X.env.cells.lookup x = some c → ∃ v, s.heap.IsCell c v
  free : H X.env.locals = none
  freeC : ∀ x c, X.env.cells.lookup x = some c → H c = none
  pin : ∀ p ∈ X.pn ++ pins, s.heap.get? p.1 = some p.2 ∧ H p.1 = none ∧ p.1 ≠ X.env.locals ∧ p.1 ∉ X.fs ∧ ∀ v, p.2.data ≠ .cell v
  hok : HOk X.prog X.w H s.heap
  len : σ.length = X.N.length

section
variable {X : Cx} {pins : List (Addr × Obj)} {σ : List (Option V)} {H H' : Hp} {s : Shared} {h' : Heap}

theorem Cx.Ok.nofr (ok : X.Ok) {b : Addr} {o : Obj} (e : X.base.get? b = some o) : b ∉ X.fs := fun hb => by
  have := (ok.funs.mem hb).1
  rw [e] at this; cases this
theorem Inv.bs (I : Inv X pins σ H s) : ∀ b o, X.base.get? b = some o → s.heap.get? b = some o ∧ H b = none := fun b o e =>
  ⟨I.base.keep b o (I.ok.bs b o e).1 (I.ok.bs b o e).2 (I.ok.nofr e) (I.ok.noex b o e), I.base.free b o (I.ok.bs b o e).1 (I.ok.bs b o e).2 (I.ok.noex b o e)⟩
theorem Inv.bk (I : Inv X pins σ H s) : ∀ b o, X.base.get? b = some o → s.heap.get? b = some o := fun b o e => (I.bs b o e).1
theorem Inv.mod (I : Inv X pins σ H s) : Mod X.K X.mg X.base := I.ok.mod
theorem Inv.kIn (I : Inv X pins σ H s) : X.K.In s.heap := I.ok.mod.kin.keeps I.bk
theorem Inv.lt (I : Inv X pins σ H s) : X.env.locals < s.heap.objs.size := let ⟨_, hn, _⟩ := I.loc; hn.lt
theorem Inv.sz (I : Inv X pins σ H s) : X.s₀.heap.objs.size ≤ s.heap.objs.size := Nat.le_trans I.ok.above (Nat.le_of_lt I.lt)
theorem Inv.nofs (I : Inv X pins σ H s) {a : Addr} (h : s.heap.objs.size ≤ a) : a ∉ X.fs := fun hb => by
  obtain ⟨_, o, ho, _⟩ := I.ok.funs.mem hb
  exact absurd (Nat.lt_of_lt_of_le (Heap.lt_size ho) (Nat.le_trans I.sz h)) (Nat.lt_irrefl _)
theorem Inv.cne (I : Inv X pins σ H s) : ∀ x c, X.env.cells.lookup x = some c → c ≠ X.env.locals := fun x c e z => by
  obtain ⟨v, o, ho, hd⟩ := I.cell x c e
  obtain ⟨m, ⟨o', es, ep, ho', hd', _⟩, _⟩ := I.loc
  rw [z, ho'] at ho; cases ho; rw [hd'] at hd; cases hd
theorem Inv.funs (I : Inv X pins σ H s) : s.heap.FunFrames X.base X.outer := by
  have all : ∀ (l : List Env), (∀ b ∈ frs l, b ∈ X.fs) → X.s₀.heap.FunFrames X.base l → s.heap.FunFrames X.base l := by
    intro l
    induction l with
    | nil => intro _ _; trivial
    | cons env r ih =>
      intro hs hl
      obtain ⟨hk, ⟨L, o, hf, hn, ho, hd⟩, hr⟩ := hl
      have hL : L ∈ X.fs := hs L (by unfold frs; rw [List.filterMap_cons, hf]; exact List.mem_cons_self)
      obtain ⟨sl, e⟩ := I.base.slot L o ho (I.ok.frf L hL) hL fun z => I.ok.exfs L z hL
      exact ⟨hk, ⟨L, _, hf, hn, e, hd⟩, ih (fun b hb => hs b (by unfold frs; rw [List.filterMap_cons, hf]; exact List.mem_cons_of_mem _ hb)) hr⟩
  exact all X.outer (fun _ hb => hb) I.ok.funs

/-- the frames that run, for a call -/
theorem Inv.stack (I : Inv X pins σ H s) : s.heap.FunFrames X.base X.stack := by
  rcases I.ok.stk with e | ⟨e, hf⟩
  · rw [e]; exact I.funs
  · rw [e]
    obtain ⟨m, hn, _⟩ := I.loc
    refine .cons (by rw [I.ok.kind]; decide) hf hn ?_ I.funs
    exact Heap.get?_none_of_le (Nat.le_trans I.ok.bsz I.ok.above)
theorem Inv.stkSub (I : Inv X pins σ H s) : ∀ b ∈ frs X.stack, b ∈ X.env.locals :: X.fs := fun b hb => by
  rcases I.ok.stk with e | ⟨e, hf⟩
  · rw [e] at hb; exact List.mem_cons_of_mem _ hb
  · rw [e] at hb
    unfold frs at hb
    rw [List.filterMap_cons, hf] at hb
    exact hb
theorem Inv.stkFree (I : Inv X pins σ H s) : ∀ b ∈ frs X.stack, H b = none := fun b hb => by
  rcases List.mem_cons.mp (I.stkSub b hb) with e | hb
  · rw [e]; exact I.free
  · obtain ⟨_, o, ho, _⟩ := I.ok.funs.mem hb
    exact I.base.free b o ho (I.ok.frf b hb) fun z => I.ok.exfs b z hb

/-- THE STEP: the untracked objects but the frame and the records at ch are kept (the callers' frames up to slots), the frame's map is kept, the new abstract heap is held -/
theorem Inv.step {g' : Array GenState} {t' : Nat} {d' : Drawn} {ch : List Addr} (I : Inv X pins σ H s)
    (hch : ∀ b ∈ ch, (b ∈ X.ex ∨ X.s₀.heap.objs.size ≤ b) ∧ b ≠ X.env.locals ∧ (∀ x c, X.env.cells.lookup x = some c → c ≠ b) ∧ ∀ p ∈ X.pn ++ pins, p.1 ≠ b)
    (keep : ∀ b o, b ≠ X.env.locals → b ∉ X.fs → b ∉ ch → s.heap.get? b = some o → H b = none → h'.get? b = some o)
    (slot : ∀ b o, b ≠ X.env.locals → b ∈ X.fs → b ∉ ch → s.heap.get? b = some o → H b = none → ∃ sl, h'.get? b = some { o with slots := sl }) (free : ∀ b o, b ∉ ch → s.heap.get? b = some o → H b = none → H' b = none)
    (there : ∀ b o, b ∉ ch → s.heap.get? b = some o → ∃ o', h'.get? b = some o')
    (tups : ∀ b xs, H b = some (.tup xs) → H' b = some (.tup xs)) (frzs : ∀ b o u, H b = some (.frz o u) → H' b = some (.frz o u)) (tbls : ∀ b ps, H b = some (.tbl ps) → ∃ more, H' b = some (.tbl (ps ++ more)))
    (ns : ∀ m, s.heap.Ns X.env.locals m → h'.Ns X.env.locals m) (hok : HOk X.prog X.w H' h') (hg : AllBare g') :
    Inv X pins σ H' { s with heap := h', gens := g', drawn := d', toks := t' } := by
  have neL : ∀ b o, X.s₀.heap.get? b = some o → b ≠ X.env.locals := fun b o e => Nat.ne_of_lt (Nat.lt_of_lt_of_le (Heap.lt_size e) I.ok.above)
  have neC : ∀ b o, X.s₀.heap.get? b = some o → b ∉ X.ex → b ∉ ch := fun b o e hx hb => by
    rcases (hch b hb).1 with z | z
    · exact hx z
    · exact absurd (Nat.lt_of_lt_of_le (Heap.lt_size e) z) (Nat.lt_irrefl _)
  have cellK : ∀ x c, X.env.cells.lookup x = some c → ∀ v, s.heap.IsCell c v → h'.IsCell c v := fun x c e v ⟨o, ho, hd⟩ => by
    have nch : c ∉ ch := fun z => (hch c z).2.2.1 x c e rfl
    by_cases hc : c ∈ X.fs
    · obtain ⟨sl, q⟩ := slot c o (I.cne x c e) hc nch ho (I.freeC x c e)
      exact ⟨_, q, hd⟩
    · exact ⟨o, keep c o (I.cne x c e) hc nch ho (I.freeC x c e), hd⟩
  refine ⟨I.ok, I.os, hg, ⟨fun b o e n hb hx => ?_, fun b o e n hb hx => ?_, fun b o e n hx => ?_, fun b o e hx => ?_, fun b xs e => tups b xs (I.base.tups b xs e), fun b o xs e => frzs b o xs (I.base.frzs b o xs e), fun b ps e => ?_⟩, ?_, fun x c e => ?_, ?_, fun x c e => ?_, fun p hp => ?_, hok, I.len⟩
  · exact keep b o (neL b o e) hb (neC b o e hx) (I.base.keep b o e n hb hx) (I.base.free b o e n hx)
  · obtain ⟨sl, e1⟩ := I.base.slot b o e n hb hx
    obtain ⟨sl', e2⟩ := slot b _ (neL b o e) hb (neC b o e hx) e1 (I.base.free b o e n hx)
    exact ⟨sl', e2⟩
  · obtain ⟨o', e1⟩ := I.base.there b o e hx
    exact free b o' (neC b o e hx) e1 (I.base.free b o e n hx)
  · obtain ⟨o', e1⟩ := I.base.there b o e hx
    exact there b o' (neC b o e hx) e1
  · obtain ⟨m1, e1⟩ := I.base.tbls b ps e
    obtain ⟨m2, e2⟩ := tbls b _ e1
    exact ⟨m1 ++ m2, by rw [e2, Array.append_assoc]⟩
  · obtain ⟨m, hn, hl⟩ := I.loc
    refine ⟨m, ns m hn, fun i x v e1 e2 e3 => ?_⟩
    obtain ⟨u, r, l⟩ := hl i x v e1 e2 e3
    refine ⟨u, r, ?_⟩
    rcases l with l | ⟨k, c, e, z⟩
    · exact .inl l
    · exact .inr ⟨k, c, e, cellK x c e _ z⟩
  · obtain ⟨v, z⟩ := I.cell x c e
    exact ⟨v, cellK x c e v z⟩
  · obtain ⟨m, ⟨o, _, _, ho, _⟩, _⟩ := I.loc
    exact free _ o (fun z => (hch _ z).2.1 rfl) ho I.free
  · obtain ⟨v, o, ho, hd⟩ := I.cell x c e
    exact free c o (fun z => (hch c z).2.2.1 x c e rfl) ho (I.freeC x c e)
  · obtain ⟨e, n, ne, nf, d⟩ := I.pin p hp
    have nch : p.1 ∉ ch := fun z => (hch p.1 z).2.2.2 p hp rfl
    exact ⟨keep p.1 p.2 ne nf nch e n, free p.1 p.2 nch e n, ne, nf, d⟩
/-- .. where the frame's own object is kept too -/
theorem Inv.un {t' : Nat} (I : Inv X pins σ H s) (u : Un X.fs [] H H' s.heap h') (hok : HOk X.prog X.w H' h') : Inv X pins σ H' { s with heap := h', toks := t' } := by
  obtain ⟨m, ⟨o, es, ep, ho, r⟩, _⟩ := id I.loc
  obtain ⟨sl, hL⟩ := u.any ho I.free (by simp)
  exact I.step (g' := s.gens) (d' := s.drawn) (ch := []) (fun _ z => nomatch z) (fun b o _ hb _ e n => u.keep b o e n hb (by simp)) (fun b o _ hb _ e n => u.slot b o e n hb (by simp)) (fun b o _ e n => u.free b o e n (by simp)) (fun b o _ e => u.there b o e (by simp)) u.tups u.frzs u.tbls (fun m' hm => by
    obtain ⟨o', es', ep', ho', r'⟩ := hm
    rw [ho] at ho'; cases ho'
    exact ⟨_, es', ep', hL, r'⟩) hok I.bare
/-- behind a call (or a comprehension's block): the slots of this frame may have changed too, the records at ch may have turned -/
theorem Inv.call {g' : Array GenState} {t' : Nat} {d' : Drawn} {ch : List Addr} (I : Inv X pins σ H s) (u : Un (frs X.stack) ch H H' s.heap h') (hok : HOk X.prog X.w H' h') (hg : AllBare g')
    (hch : ∀ b ∈ ch, (b ∈ X.ex ∨ X.s₀.heap.objs.size ≤ b) ∧ b ≠ X.env.locals ∧ (∀ x c, X.env.cells.lookup x = some c → c ≠ b) ∧ ∀ p ∈ X.pn ++ pins, p.1 ≠ b) :
    Inv X pins σ H' { s with heap := h', gens := g', drawn := d', toks := t' } := by
  obtain ⟨m, ⟨o, es, ep, ho, r⟩, _⟩ := id I.loc
  obtain ⟨sl, hL⟩ := u.any ho I.free fun z => (hch _ z).2.1 rfl
  exact I.step (ch := ch) hch (fun b o hL hb hc e n => u.keep b o e n (fun z => (List.mem_cons.mp (I.stkSub b z)).elim hL hb) hc) (fun b o _ _ hc e n => u.any e n hc) (fun b o hc e n => u.free b o e n hc) (fun b o hc e => u.there b o e hc) u.tups u.frzs u.tbls (fun m' hm => by
    obtain ⟨o', es', ep', ho', r'⟩ := hm
    rw [ho] at ho'; cases ho'
    exact ⟨_, es', ep', hL, r'⟩) hok hg
/-- an untracked record of ours (an iterator) has turned -/
theorem Inv.turned {t' : Nat} {it : Addr} (I : Inv X pins σ H s) (k : ∀ b o, b ≠ it → s.heap.get? b = some o → h'.get? b = some o) (hn : H it = none) (hL : it ≠ X.env.locals)
    (h1 : it ∈ X.ex ∨ X.s₀.heap.objs.size ≤ it) (h2 : ∀ x c, X.env.cells.lookup x = some c → c ≠ it) (h3 : ∀ p ∈ X.pn ++ pins, p.1 ≠ it) : Inv X pins σ H { s with heap := h', toks := t' } := by
  have nit : ∀ b u, H b = some u → b ≠ it := fun b u e z => by rw [z, hn] at e; cases e
  refine I.step (g' := s.gens) (d' := s.drawn) (ch := [it]) (fun b hb => ?_) (fun b o _ _ hc e _ => k b o (fun z => hc (by simp [z])) e) (fun b o _ _ hc e _ => ⟨o.slots, k b o (fun z => hc (by simp [z])) e⟩) (fun _ _ _ _ n => n)
    (fun b o hc e => ⟨o, k b o (fun z => hc (by simp [z])) e⟩) (fun _ _ e => e) (fun _ _ _ e => e) (fun b ps e => ⟨#[], by rw [e]; simp⟩) (fun m hm => ?_) (fun b u e => ?_) I.bare
  · have e : b = it := by simpa using hb
    subst e
    exact ⟨h1, hL, h2, h3⟩
  · obtain ⟨o, es, ep, ho, r⟩ := hm
    exact ⟨o, es, ep, k _ o (Ne.symm hL) ho, r⟩
  · refine (I.hok b u e).stay (fun c v hc q => k c v ?_ q) (fun _ q => q) fun _ _ q => q
    rcases hc with z | z
    · rw [z]; exact nit b u e
    · exact nit c _ z
theorem Inv.tok (I : Inv X pins σ H s) (t : Nat) : Inv X pins σ H { s with toks := t } := I.un (h' := s.heap) (t' := t) Un.refl I.hok
/-- all objects kept -/
theorem Inv.kept {t' : Nat} (I : Inv X pins σ H s) (k : ∀ b u, s.heap.get? b = some u → h'.get? b = some u) : Inv X pins σ H { s with heap := h', toks := t' } := I.un (Un.kept k) (I.hok.kept k)
/-- a new object laid and tracked -/
theorem Inv.laid {a : Addr} {o : HO} {t' : Nat} (I : Inv X pins σ H s) (k : ∀ b u, s.heap.get? b = some u → h'.get? b = some u) (hp : s.heap.objs.size ≤ a) (new : ObjOk X.prog X.w (upd H a o) h' a o) :
    Inv X pins σ (upd H a o) { s with heap := h', toks := t' } := I.un (Un.laid k hp (I.hok.fresh hp)) (I.hok.laid k hp new)
/-- an object written -/
theorem Inv.write {x e : Addr} {o : HO} {t' : Nat} (I : Inv X pins σ H s) (mu : Mut (H x)) (he : e = x ∨ H e = some (.own x)) (k : ∀ b u, b ≠ e → s.heap.get? b = some u → h'.get? b = some u) (heo : ∃ u, h'.get? e = some u)
    (new : ObjOk X.prog X.w (upd H x o) h' x o) : Inv X pins σ (upd H x o) { s with heap := h', toks := t' } := I.un (Un.write mu he k heo) (I.hok.write mu he k heo new)
theorem Inv.pins_of {pins' : List (Addr × Obj)} (I : Inv X pins σ H s) (h : ∀ p ∈ pins', s.heap.get? p.1 = some p.2 ∧ H p.1 = none ∧ p.1 ≠ X.env.locals ∧ p.1 ∉ X.fs ∧ ∀ v, p.2.data ≠ .cell v) : Inv X pins' σ H s :=
  ⟨I.ok, I.os, I.bare, I.base, I.loc, I.cell, I.free, I.freeC, fun p hp => (List.mem_append.mp hp).elim (fun z => I.pin p (List.mem_append_left _ z)) (h p), I.hok, I.len⟩

theorem nodup_ix {N : List Str} (hN : N.Nodup) {i j : Nat} {x : Str} (a : N[i]? = some x) (b : N[j]? = some x) : i = j := by
  obtain ⟨h1, e1⟩ := List.getElem?_eq_some_iff.mp a
  obtain ⟨h2, e2⟩ := List.getElem?_eq_some_iff.mp b
  exact (List.getElem_inj hN).mp (e1.trans e2.symm)

/-- a name is stored; what changed -/
theorem store_ok2 {M : Model} {A : Around} {E : Value → Shared → Prop} {i : Nat} {x : Str} {v : V} {u : Value} {Q : Unit → Shared → Prop} (I : Inv X pins σ H s) (hN : X.N.Nodup) (hi : X.N[i]? = some x) (hx : Loc X.env.scope x) (r : RelV v u)
    (h : ∀ s', Inv X pins (σ.set i (some v)) H s' → (∃ a, Heap.SameBut a s.heap s'.heap ∧ (a = X.env.locals ∨ X.env.cells.lookup x = some a)) → Q () s') (hf : X.fn x = true ∨ X.env.scope.names.lookup x = some .local := by first | exact .inl rfl | exact .inr rfl | assumption) : wpAny M A (storeName X.env x u) Q E s := by
  obtain ⟨m, hn, hl⟩ := id I.loc
  have hcls : (X.env.scope.kind == .class || (X.env.scope.kind == .module && X.env.locals != X.env.globals)) = false := by rw [I.ok.kind]; rfl
  have hiσ : i < σ.length := by rw [I.len]; exact (List.getElem?_eq_some_iff.mp hi).1
  have cne := I.cne
  have tracked : ∀ {a : Addr} {h' : Heap}, (∃ o, s.heap.get? a = some o ∧ H a = none) → Heap.SameBut a s.heap h' → HOk X.prog X.w H h' := fun {a h'} ha hs b ob e => by
    obtain ⟨_, _, hfree⟩ := ha
    refine (I.hok b ob e).stay (fun c w' hc q => (hs.2 c ?_).trans q) (fun _ q => q) fun _ _ q => q
    rintro rfl
    rcases hc with rfl | hc
    · rw [hfree] at e; cases e
    · rw [hfree] at hc; cases hc
  rcases hx with hk | hk
  · refine wpAny_storeName_local hk hn (fun h' hn' hs => ?_) hcls
    obtain ⟨oL, _, _, hoL, _⟩ := id hn
    refine h _ ⟨I.ok, I.os, I.bare, ⟨fun b o e n hb hx => ?_, fun b o e n hb hx => ?_, I.base.free, fun b o e hx => ?_, I.base.tups, I.base.frzs, I.base.tbls⟩, ⟨_, hn', fun j y v' e1 e2 e3 => ?_⟩, fun y c e => ?_, I.free, I.freeC, fun p hp => ?_, tracked ⟨oL, hoL, I.free⟩ hs, by simpa using I.len⟩ ⟨_, hs, .inl rfl⟩
    · exact (hs.2 b (Nat.ne_of_lt (Nat.lt_of_lt_of_le (Heap.lt_size e) I.ok.above))).trans (I.base.keep b o e n hb hx)
    · obtain ⟨sl, e1⟩ := I.base.slot b o e n hb hx
      exact ⟨sl, (hs.2 b (Nat.ne_of_lt (Nat.lt_of_lt_of_le (Heap.lt_size e) I.ok.above))).trans e1⟩
    · obtain ⟨o', e1⟩ := I.base.there b o e hx
      exact ⟨o', (hs.2 b (Nat.ne_of_lt (Nat.lt_of_lt_of_le (Heap.lt_size e) I.ok.above))).trans e1⟩
    · by_cases hj : j = i
      · subst hj
        rw [hi] at e1; cases e1
        rw [List.getElem?_set_self hiσ] at e2
        cases e2
        exact ⟨u, r, .inl ⟨hk, by simp⟩⟩
      · rw [List.getElem?_set_ne (Ne.symm hj)] at e2
        obtain ⟨u', r', q⟩ := hl j y v' e1 e2 e3
        refine ⟨u', r', ?_⟩
        rcases q with ⟨k, e⟩ | ⟨k, c, e, z⟩
        · refine .inl ⟨k, ?_⟩
          have : y ≠ x := fun e => hj (nodup_ix hN e1 (e ▸ hi))
          simp [this, e]
        · exact .inr ⟨k, c, e, z.sameBut hs (cne y c e)⟩
    · obtain ⟨w', z⟩ := I.cell y c e
      exact ⟨w', z.sameBut hs (cne y c e)⟩
    · obtain ⟨e, n, ne, nf, d⟩ := I.pin p hp
      exact ⟨(hs.2 p.1 ne).trans e, n, ne, nf, d⟩
  · have hfn : X.fn x = true := by
      rcases hf with z | z
      · exact z
      · rw [z] at hk; cases hk
    obtain ⟨c, hc⟩ := I.ok.has x (.inl hk)
    obtain ⟨w', z⟩ := I.cell x c hc
    refine wpAny_storeName_cell I.ok.kind hk hc z (fun h' hc' hs => ?_)
    obtain ⟨oc, hoc, hocd⟩ := id z
    refine h { s with heap := h' } ⟨I.ok, I.os, I.bare, ⟨fun b o e n hb hx => ?_, fun b o e n hb hx => ?_, I.base.free, fun b o e hx => ?_, I.base.tups, I.base.frzs, I.base.tbls⟩, ⟨m, hn.sameBut hs (Ne.symm (cne x c hc)), fun j y v' e1 e2 e3 => ?_⟩, fun y c' e => ?_, I.free, I.freeC, fun p hp => ?_, tracked ⟨oc, hoc, I.freeC x c hc⟩ hs, by simpa using I.len⟩ ⟨c, hs, .inr hc⟩
    · exact (hs.2 b (Nat.ne_of_lt (Nat.lt_of_lt_of_le (Heap.lt_size e) (I.ok.cab x c hfn hc)))).trans (I.base.keep b o e n hb hx)
    · obtain ⟨sl, e1⟩ := I.base.slot b o e n hb hx
      exact ⟨sl, (hs.2 b (Nat.ne_of_lt (Nat.lt_of_lt_of_le (Heap.lt_size e) (I.ok.cab x c hfn hc)))).trans e1⟩
    · obtain ⟨o', e1⟩ := I.base.there b o e hx
      exact ⟨o', (hs.2 b (Nat.ne_of_lt (Nat.lt_of_lt_of_le (Heap.lt_size e) (I.ok.cab x c hfn hc)))).trans e1⟩
    · by_cases hj : j = i
      · subst hj
        rw [hi] at e1; cases e1
        rw [List.getElem?_set_self hiσ] at e2
        cases e2
        exact ⟨u, r, .inr ⟨.inl hk, c, hc, hc'⟩⟩
      · rw [List.getElem?_set_ne (Ne.symm hj)] at e2
        obtain ⟨u', r', q⟩ := hl j y v' e1 e2 e3
        refine ⟨u', r', ?_⟩
        rcases q with q | ⟨k, c', e, z'⟩
        · exact .inl q
        · refine .inr ⟨k, c', e, z'.sameBut hs ?_⟩
          rintro rfl
          exact hj (nodup_ix hN e1 (I.ok.inj _ _ _ e hc ▸ hi))
    · by_cases hcc : c' = c
      · subst hcc; exact ⟨_, hc'⟩
      · obtain ⟨w2, z2⟩ := I.cell y c' e
        exact ⟨w2, z2.sameBut hs hcc⟩
    · obtain ⟨e, n, ne, nf, d⟩ := I.pin p hp
      refine ⟨(hs.2 p.1 ?_).trans e, n, ne, nf, d⟩
      intro q
      rw [q, hoc] at e
      have q' : oc = p.2 := Option.some.inj e
      exact d w' (by rw [← q']; exact hocd)
theorem store_ok {M : Model} {A : Around} {E : Value → Shared → Prop} {i : Nat} {x : Str} {v : V} {u : Value} {Q : Unit → Shared → Prop} (I : Inv X pins σ H s) (hN : X.N.Nodup) (hi : X.N[i]? = some x) (hx : Loc X.env.scope x) (r : RelV v u)
    (h : ∀ s', Inv X pins (σ.set i (some v)) H s' → Q () s') (hf : X.fn x = true ∨ X.env.scope.names.lookup x = some .local := by first | exact .inl rfl | exact .inr rfl | assumption) : wpAny M A (storeName X.env x u) Q E s :=
  store_ok2 I hN hi hx r (fun s' I' _ => h s' I') hf
/-- behind a call or a block, the state as it is -/
theorem Inv.call' {s' : Shared} {ch : List Addr} (I : Inv X pins σ H s) (ho : s'.os = s.os) (u : Un (frs X.stack) ch H H' s.heap s'.heap) (hok : HOk X.prog X.w H' s'.heap) (hg : AllBare s'.gens)
    (hch : ∀ b ∈ ch, (b ∈ X.ex ∨ X.s₀.heap.objs.size ≤ b) ∧ b ≠ X.env.locals ∧ (∀ x c, X.env.cells.lookup x = some c → c ≠ b) ∧ ∀ p ∈ X.pn ++ pins, p.1 ≠ b) : Inv X pins σ H' s' := by
  obtain ⟨h', g', d', t', o'⟩ := s'
  have e : o' = s.os := ho
  subst e
  exact I.call (g' := g') (t' := t') (d' := d') u hok hg hch
end

/-! ### the judgements -/
/-- an exception: its class, its own dict's address (where it has one), the abstract heap behind it -/
abbrev XK := Value → Option Addr → Hp → Prop
abbrev St := List (Option V)
abbrev VK := V → Hp → Prop
/-- an expression's reading; a test's; an argument list's -/
abbrev TE := St → Hp → VK → Prop
abbrev TT := St → Hp → (Bool → Hp → Prop) → Prop
abbrev TA := St → Hp → (List V → Hp → Prop) → Prop
/-- what is wanted behind a statement -/
structure Ends where
  nx : St → Hp → Prop
  rt : VK
  bk : St → Hp → Prop := fun _ _ => False
  ct : St → Hp → Prop := fun _ _ => False
abbrev TS := Ends → St → Hp → Prop

def EP (X : Cx) (pins : List (Addr × Obj)) (σ : St) (Q : VK) (u : Value) (s' : Shared) : Prop := ∃ v H', Inv X pins σ H' s' ∧ RelV v u ∧ Q v H'
def TP (X : Cx) (pins : List (Addr × Obj)) (σ : St) (Q : Bool → Hp → Prop) (b : Bool) (s' : Shared) : Prop := ∃ H', Inv X pins σ H' s' ∧ Q b H'
def AP (X : Cx) (pins : List (Addr × Obj)) (σ : St) (Q : List V → Hp → Prop) (us : List Value) (s' : Shared) : Prop := ∃ vs H', Inv X pins σ H' s' ∧ Vals vs us ∧ Q vs H'
def SP (X : Cx) (pins : List (Addr × Obj)) (D : Ends) (f : Flow) (s' : Shared) : Prop :=
  match f with
  | .next => ∃ σ' H', Inv X pins σ' H' s' ∧ D.nx σ' H'
  | .brk => ∃ σ' H', Inv X pins σ' H' s' ∧ D.bk σ' H'
  | .cont => ∃ σ' H', Inv X pins σ' H' s' ∧ D.ct σ' H'
  | .ret u => ∃ v σ' H', Inv X pins σ' H' s' ∧ RelV v u ∧ D.rt v H'

def PE (X : Cx) (e : Expr) (t : TE) : Prop :=
  ∀ (pins : List (Addr × Obj)) (s : Shared) (σ : St) (H : Hp) (Q : VK), Inv X pins σ H s → t σ H Q → wpAny (model X.prog X.w) X.A (eval e X.env) (EP X pins σ Q) X.xe s
def PT (X : Cx) (e : Expr) (t : TT) : Prop :=
  ∀ (pins : List (Addr × Obj)) (s : Shared) (σ : St) (H : Hp) (Q : Bool → Hp → Prop), Inv X pins σ H s → t σ H Q → wpAny (model X.prog X.w) X.A (isTrue e X.env (eval e X.env)) (TP X pins σ Q) X.xe s
/-- a test whatever its 'whole' is (and, or) -/
def PW (X : Cx) (e : Expr) (t : TT) : Prop :=
  ∀ (whole : Sem Value) (pins : List (Addr × Obj)) (s : Shared) (σ : St) (H : Hp) (Q : Bool → Hp → Prop), Inv X pins σ H s → t σ H Q → wpAny (model X.prog X.w) X.A (isTrue e X.env whole) (TP X pins σ Q) X.xe s
theorem PW.pt {X : Cx} {e : Expr} {t : TT} (h : PW X e t) : PT X e t := h _
/-- an argument list (no star), from the left -/
def PA (X : Cx) (es : List Expr) (t : TA) : Prop :=
  ∀ (pos : Pos) (pins : List (Addr × Obj)) (s : Shared) (σ : St) (H : Hp) (Q : List V → Hp → Prop), Inv X pins σ H s → t σ H Q → wpAny (model X.prog X.w) X.A (spliced (backTo pos (starEach es X.env))) (AP X pins σ Q) X.xe s
def PS (X : Cx) (st : Stmt) (t : TS) : Prop :=
  ∀ (pins : List (Addr × Obj)) (s : Shared) (σ : St) (H : Hp) (D : Ends), Inv X pins σ H s → t D σ H → wpAny (model X.prog X.w) X.A (exec st X.env) (SP X pins D) X.xe s
def PSs (X : Cx) (st : List Stmt) (t : TS) : Prop :=
  ∀ (pins : List (Addr × Obj)) (s : Shared) (σ : St) (H : Hp) (D : Ends), Inv X pins σ H s → t D σ H → wpAny (model X.prog X.w) X.A (execs st X.env) (SP X pins D) X.xe s
/-- weaken the end -/
theorem thn {α : Type} {t : Sem α} {Q Q' : α → Shared → Prop} {M : Model} {A : Around} {E : Value → Shared → Prop} {s : Shared} (h : wpAny M A t Q E s) (hQ : ∀ a s, Q a s → Q' a s) : wpAny M A t Q' E s := wpAny_mono h hQ fun _ _ x => x
end L2

namespace L2
open PySem PySem.Spec PyProof.Rows
section
variable {X : Cx}


/-! ### names and constants -/
def tVar (i : Nat) : TE := fun σ H Q => ∃ v, σ[i]? = some (some v) ∧ Q v H
def tC (v : V) : TE := fun _ H Q => Q v H
theorem pe_var {i : Nat} {x : Str} {pos : Pos} (hN : X.N[i]? = some x) (hv : Vis X.env.scope x) (hd : (x == ("__debug__" : Str)) = false := by decide) (hcd : (x == ("__classdict__" : Str)) = false := by decide) : PE X (.Name x pos) (tVar i) := by
  intro pins s σ H Q I h
  obtain ⟨v, e, h⟩ := h
  obtain ⟨m, hn, hl⟩ := I.loc
  obtain ⟨u, r, l⟩ := hl i x v hN e hv
  have fin : EP X pins σ Q u s := ⟨v, H, I, r, h⟩
  rcases l with ⟨hk, hm⟩ | ⟨hk, c, hc, hcell⟩
  · exact wpAny_Name (wpAny_loadName_local I.ok.kind hk hn hm fin) hd
  · rcases hk with hk | hk
    · exact wpAny_Name (wpAny_loadName_cell I.ok.kind hk hc hcell fin) hd
    · exact wpAny_Name (wpAny_loadName_free I.ok.kind hk hc hcell fin hcd) hd
theorem pe_int {i j pos} : PE X (.Constant (.int i) j pos) (tC (.int i)) := fun _ _ _ H _ I h => wpAny_Constant_int ⟨.int i, H, I.tok _, ⟨_, rfl⟩, h⟩
theorem pe_bl {b j pos} : PE X (.Constant (.bool b) j pos) (tC (.bl b)) := fun _ _ _ H _ I h => Constant_bool ⟨.bl b, H, I, rfl, h⟩
theorem pe_str {x j pos} : PE X (.Constant (.str x) j pos) (tC (.str x)) := fun _ _ _ H _ I h => Calls.Constant_str ⟨.str x, H, I.tok _, ⟨_, rfl⟩, h⟩

/-- a global name of the def -/
def Gl (X : Cx) (x : Str) : Prop := X.env.kindOf x = some .globalImplicit
theorem ld_glob {E : Value → Shared → Prop} {pins : List (Addr × Obj)} {s : Shared} {σ : St} {H : Hp} {x : Str} {u : Value} {pos : Pos} {Q : Value → Shared → Prop} (I : Inv X pins σ H s) (hg : Gl X x) (hm : X.mg x = some u) (h : Q u s)
    (hd : (x == ("__debug__" : Str)) = false := by decide) : wpAny (model X.prog X.w) X.A (eval (.Name x pos) X.env) Q E s :=
  Calls.Name_function_global I.ok.kind hg (Calls.loadGlobal_global (by rw [I.ok.glob]; exact I.mod.glob.keeps I.bk) hm h) hd
theorem ld_blt {E : Value → Shared → Prop} {pins : List (Addr × Obj)} {s : Shared} {σ : St} {H : Hp} {x : Str} {u : Value} {pos : Pos} {Q : Value → Shared → Prop} (I : Inv X pins σ H s) (hg : Gl X x) (hm : X.mg x = none) (hv : bootBuiltins x = some u) (h : Q u s)
    (hn : x ≠ "__name__" := by decide) (hd : (x == ("__debug__" : Str)) = false := by decide) : wpAny (model X.prog X.w) X.A (eval (.Name x pos) X.env) Q E s := by
  obtain ⟨mb, h1, h2⟩ := I.mod.blt
  exact Calls.Name_function_global I.ok.kind hg (Calls.loadGlobal_builtin (by rw [I.ok.glob]; exact I.mod.glob.keeps I.bk) hm (by rw [I.ok.blt]; exact h1.keeps I.bk) ((h2 x hn).trans hv) h) hd
theorem pe_bltn {x : Str} {v : V} {u : Value} {pos : Pos} (hg : Gl X x) (hm : X.mg x = none) (hv : bootBuiltins x = some u) (r : RelV v u) (hn : x ≠ "__name__" := by decide) (hd : (x == ("__debug__" : Str)) = false := by decide) : PE X (.Name x pos) (tC v) :=
  fun _ _ _ H _ I h => ld_blt I hg hm hv ⟨v, H, I, r, h⟩ hn hd

/-! ### arithmetic -/
/-- two ints -/
def t2I (ta tb : TE) (k : Int → Int → Hp → Prop) : St → Hp → Prop := fun σ H => ta σ H fun x H1 => tb σ H1 fun y H2 => ∃ i j, x = .int i ∧ y = .int j ∧ k i j H2
def tAdd (ta tb : TE) : TE := fun σ H Q => t2I ta tb (fun i j H2 => Q (.int (i + j)) H2) σ H
def tSub (ta tb : TE) : TE := fun σ H Q => t2I ta tb (fun i j H2 => Q (.int (i - j)) H2) σ H
/-- the left factor below 2^64 -/
def tMul (ta tb : TE) : TE := fun σ H Q => t2I ta tb (fun i j H2 => (-(2 ^ 64) < i ∧ i < 2 ^ 64) ∧ Q (.int (i * j)) H2) σ H
variable {a b : Expr} {ta tb : TE} {pos : Pos}

/-! ### comparisons -/
def PC (X : Cx) (op : CmpOp) (a b : Expr) (t : TE) : Prop :=
  ∀ (pins : List (Addr × Obj)) (s : Shared) (σ : St) (H : Hp) (Q : VK), Inv X pins σ H s → t σ H Q →
    wpAny (model X.prog X.w) X.A (eval a X.env) (fun v s₁ => wpAny (model X.prog X.w) X.A (eval b X.env) (fun u s₂ => wpAny (model X.prog X.w) X.A (compareOp op v u) (EP X pins σ Q) X.xe s₂) X.xe s₁) X.xe s
def tCmp (p : Int → Int → Bool) (ta tb : TE) : TE := fun σ H Q => t2I ta tb (fun i j H2 => Q (.bl (p i j)) H2) σ H
abbrev tLt : TE → TE → TE := tCmp fun i j => decide (i < j)
abbrev tLe : TE → TE → TE := tCmp fun i j => decide (i ≤ j)
abbrev tGt : TE → TE → TE := tCmp fun i j => decide (j < i)
abbrev tGe : TE → TE → TE := tCmp fun i j => decide (j ≤ i)
abbrev tEqI : TE → TE → TE := tCmp fun i j => decide (i = j)
abbrev tNeI : TE → TE → TE := tCmp fun i j => !decide (i = j)
/-- is None -/
def tIsN (ta : TE) : TE := fun σ H Q => ta σ H fun x H1 => Q (.bl (decide (x = .non))) H1
def tNotN (ta : TE) : TE := fun σ H Q => ta σ H fun x H1 => Q (.bl (!decide (x = .non))) H1
/-- a comparison as a value, as a test -/
def tB (t : TE) : TT := fun σ H Q => t σ H fun x H1 => ∃ c, x = .bl c ∧ Q c H1
/-- an expression whose value is a bool, as a test -/
theorem pt_val {e : Expr} {t : TE} (h : PE X e t) (he : ∀ whole, isTrue e X.env whole = (do let v ← whole; standAt e.pos; holding [v] (truthy v)) := by intro _; rfl) : PT X e (tB t) := by
  intro pins s σ H Q I hw
  refine isTrue_plain (thn (h pins s σ H _ I hw) fun v s1 ⟨x, H1, I1, r1, q1⟩ => ?_) (he _)
  obtain ⟨d, rfl, q⟩ := q1
  cases r1
  exact wpAny_truthy_bool ⟨H1, I1, q⟩

/-! ### and, or, not -/
variable {tA tB' : TT} {rest : List Expr}
def tAnd (t u : TT) : TT := fun σ H Q => t σ H fun c H1 => if c = true then u σ H1 Q else Q false H1
def tOr (t u : TT) : TT := fun σ H Q => t σ H fun c H1 => if c = true then Q true H1 else u σ H1 Q
def tNot (t : TT) : TT := fun σ H Q => t σ H fun c H1 => Q (!c) H1
theorem pw_or1 (ha : PT X a tA) : PW X (.BoolOp .Or [a] pos) tA := by
  intro wh pins s σ H Q I h
  refine isTrue_or (thn (ha pins s σ H Q I h) fun c s1 e => ?_)
  cases c with
  | false => exact isTrue_or_nil e
  | true => exact e
theorem pw_or (ha : PT X a tA) (hb : PW X (.BoolOp .Or (b :: rest) pos) tB') : PW X (.BoolOp .Or (a :: b :: rest) pos) (tOr tA tB') := by
  intro wh pins s σ H Q I h
  refine isTrue_or (thn (ha pins s σ H _ I h) fun c s1 ⟨H1, I1, q1⟩ => ?_)
  cases c with
  | true => exact ⟨H1, I1, q1⟩
  | false => exact hb wh pins s1 σ H1 Q I1 q1
theorem pt_not (ha : PT X a tA) : PT X (.UnaryOp .Not a pos) (tNot tA) := by
  intro pins s σ H Q I h
  exact isTrue_not (ha pins s σ H (fun c H1 => Q (!c) H1) I h)
/-- .. as values (bools) -/
def tAndV (ta tb : TE) : TE := fun σ H Q => ta σ H fun x H1 => ∃ c, x = .bl c ∧ if c = true then tb σ H1 Q else Q (.bl false) H1
def tOrV (ta tb : TE) : TE := fun σ H Q => ta σ H fun x H1 => ∃ c, x = .bl c ∧ if c = true then Q (.bl true) H1 else tb σ H1 Q
def tNotV (ta : TE) : TE := fun σ H Q => ta σ H fun x H1 => ∃ c, x = .bl c ∧ Q (.bl (!c)) H1
theorem pe_one {op} {t : TE} (h : PE X a t) : PE X (.BoolOp op [a] pos) t := fun pins s σ H Q I hw => BoolOp_one (h pins s σ H Q I hw)
theorem pe_and (ha : PE X a ta) (hb : PE X (.BoolOp .And (b :: rest) pos) tb) : PE X (.BoolOp .And (a :: b :: rest) pos) (tAndV ta tb) := by
  intro pins s σ H Q I h
  refine BoolOp_and (thn (ha pins s σ H _ I h) fun v s1 ⟨x, H1, I1, r1, q1⟩ => ?_)
  obtain ⟨c, rfl, q1⟩ := q1
  cases r1
  refine wpAny_truthy_bool ?_
  cases c with
  | true => exact hb pins s1 σ H1 Q I1 q1
  | false => exact ⟨.bl false, H1, I1, rfl, q1⟩
theorem pe_not (ha : PE X a ta) : PE X (.UnaryOp .Not a pos) (tNotV ta) := by
  intro pins s σ H Q I h
  refine UnaryOp_ (thn (ha pins s σ H _ I h) fun v s1 ⟨x, H1, I1, r1, q1⟩ => ?_)
  obtain ⟨c, rfl, q1⟩ := q1
  cases r1
  exact not_of (wpAny_truthy_bool ⟨.bl (!c), H1, I1, rfl, q1⟩)
/-- a if t else b -/
def tIf (t : TT) (ta tb : TE) : TE := fun σ H Q => t σ H fun c H1 => if c = true then ta σ H1 Q else tb σ H1 Q
end
end L2

namespace L2
open PySem PySem.Spec PyProof.Rows

/-! ### a list, a tuple that is read: tracked, frozen, or an object of the module -/
def SqL (K : PySem.W.Frag) (H : Hp) (a : Addr) (xs : List V) : Prop :=
  Rd H a (.lst xs) ∨
    ∃ (o : Obj) (its : Array Value) (n : Nat), K.lookup a = some o ∧ o.cls = .type "list" ∧ o.dict = none ∧ o.data = .seq its n ∧ its.size ≤ sizeLine ∧ Vals xs its.toList
def SqT (K : PySem.W.Frag) (H : Hp) (a : Addr) (xs : List V) : Prop :=
  Rd H a (.tup xs) ∨
    ∃ (o : Obj) (its : Array Value) (n : Nat), K.lookup a = some o ∧ o.cls = .type "tuple" ∧ o.data = .seq its n ∧ its.size ≤ sizeLine ∧ Vals xs its.toList
def absV : Value → Option V
  | .none => some .non
  | .bool b => some (.bl b)
  | .int i _ => some (.int i)
  | .str x _ => some (.str x)
  | .bytes b _ => some (.byt b)
  | .float b _ => some (.flt b)
  | .ref a => some (.ref a)
  | .type n => some (.ty n)
  | _ => none
theorem RelV.abs {x : V} {u : Value} (r : RelV x u) : absV u = some x := by
  cases x with
  | non => cases r; rfl
  | bl _ => cases r; rfl
  | int _ => obtain ⟨t, rfl⟩ := r; rfl
  | str _ => obtain ⟨t, rfl⟩ := r; rfl
  | byt _ => obtain ⟨t, rfl⟩ := r; rfl
  | flt _ => obtain ⟨t, rfl⟩ := r; rfl
  | ref _ => cases r; rfl
  | ty _ => cases r; rfl
theorem RelV.inj {x y : V} {u : Value} (r : RelV x u) (q : RelV y u) : x = y := Option.some.inj (r.abs.symm.trans q.abs)
theorem Vals.inj : ∀ {xs ys : List V} {us : List Value}, Vals xs us → Vals ys us → xs = ys
  | _, _, _, .nil, .nil => rfl
  | _, _, _, .cons r t, .cons r' t' => by rw [r.inj r', Vals.inj t t']
section
variable {X : Cx} {pins : List (Addr × Obj)} {σ : St} {H : Hp} {s : Shared} {a : Addr} {xs ys : List V}
theorem SqL.of {K : PySem.W.Frag} (h : H a = some (.lst xs)) : SqL K H a xs := .inl (.inl h)
theorem SqT.of {K : PySem.W.Frag} (h : H a = some (.tup xs)) : SqT K H a xs := .inl (.inl h)
theorem Inv.list (I : Inv X pins σ H s) (h : SqL X.K H a xs) : ∃ its : List Value, Vals xs its ∧ PlainL s.heap a its.toArray ∧ xs.length ≤ sizeLine := by
  rcases h with h | ⟨o, its, n, hk, hc, hd, hs, hz, r⟩
  · obtain ⟨z, its, n, r, e⟩ := h.ok I.hok
    exact ⟨its, r, ⟨_, n, e, rfl, rfl, rfl⟩, z⟩
  · refine ⟨its.toList, r, ⟨o, n, I.kIn a o hk, hc, hd, by simpa using hs⟩, ?_⟩
    have e := r.length
    simp only [Array.length_toList] at e
    omega
theorem Inv.tuple (I : Inv X pins σ H s) (h : SqT X.K H a xs) : ∃ its : List Value, Vals xs its ∧ IsTup s.heap a its.toArray ∧ xs.length ≤ sizeLine := by
  rcases h with h | ⟨o, its, n, hk, hc, hs, hz, r⟩
  · obtain ⟨z, its, r, p⟩ := h.ok I.hok
    exact ⟨its, r, p, z⟩
  · refine ⟨its.toList, r, ⟨o, I.kIn a o hk, hc, n, by simpa using hs⟩, ?_⟩
    have e := r.length
    simp only [Array.length_toList] at e
    omega
theorem Inv.list_inj (I : Inv X pins σ H s) (h : SqL X.K H a xs) (h' : SqL X.K H a ys) : xs = ys := by
  obtain ⟨its, r, ⟨o, n, e, _, _, d⟩, _⟩ := I.list h
  obtain ⟨its', r', ⟨o', n', e', _, _, d'⟩, _⟩ := I.list h'
  rw [e] at e'; cases e'
  rw [d] at d'
  injection d' with d1 _
  have : its = its' := by simpa using congrArg Array.toList d1
  subst this
  exact r.inj r'
theorem Inv.tuple_inj (I : Inv X pins σ H s) (h : SqT X.K H a xs) (h' : SqT X.K H a ys) : xs = ys := by
  obtain ⟨its, r, ⟨o, e, _, n, d⟩, _⟩ := I.tuple h
  obtain ⟨its', r', ⟨o', e', _, n', d'⟩, _⟩ := I.tuple h'
  rw [e] at e'; cases e'
  rw [d] at d'
  injection d' with d1 _
  have : its = its' := by simpa using congrArg Array.toList d1
  subst this
  exact r.inj r'
end

/-! ### another wish about exceptions -/
abbrev Cx.wish (X : Cx) (E : Value → Shared → Prop) : Cx := { X with xe := E }
/-- no exception leaves -/
abbrev Cx.nox (X : Cx) : Cx := X.wish fun _ _ => False
theorem Cx.Ok.wish {X : Cx} (ok : X.Ok) (E : Value → Shared → Prop) : (X.wish E).Ok :=
  ⟨ok.mod, ok.kind, ok.glob, ok.blt, ok.above, ok.inj, ok.has, ok.cab, ok.hd, ok.frames, ok.stk, ok.exf, ok.bs, ok.bsz, ok.noex, ok.exfs, ok.funs, ok.frf⟩
theorem Cx.Ok.unwish {X : Cx} {E : Value → Shared → Prop} (ok : (X.wish E).Ok) : X.Ok :=
  ⟨ok.mod, ok.kind, ok.glob, ok.blt, ok.above, ok.inj, ok.has, ok.cab, ok.hd, ok.frames, ok.stk, ok.exf, ok.bs, ok.bsz, ok.noex, ok.exfs, ok.funs, ok.frf⟩
section
variable {X : Cx} {pins : List (Addr × Obj)} {σ : St} {H : Hp} {s : Shared} {E : Value → Shared → Prop}
theorem Inv.wish (I : Inv X pins σ H s) (E : Value → Shared → Prop) : Inv (X.wish E) pins σ H s := ⟨I.ok.wish E, I.os, I.bare, I.base, I.loc, I.cell, I.free, I.freeC, I.pin, I.hok, I.len⟩
theorem Inv.unwish (I : Inv (X.wish E) pins σ H s) : Inv X pins σ H s := ⟨I.ok.unwish, I.os, I.bare, I.base, I.loc, I.cell, I.free, I.freeC, I.pin, I.hok, I.len⟩
theorem SP.unwish {D : Ends} {f : Flow} {s' : Shared} (h : SP (X.wish E) pins D f s') : SP X pins D f s' := by
  cases f with
  | next => obtain ⟨σ', H', I, q⟩ := h; exact ⟨σ', H', I.unwish, q⟩
  | brk => obtain ⟨σ', H', I, q⟩ := h; exact ⟨σ', H', I.unwish, q⟩
  | cont => obtain ⟨σ', H', I, q⟩ := h; exact ⟨σ', H', I.unwish, q⟩
  | ret u => obtain ⟨v, σ', H', I, r, q⟩ := h; exact ⟨v, σ', H', I.unwish, r, q⟩
theorem PSs.nox {st : List Stmt} {t : TS} (h : PSs X.nox st t) : PSs X st t := fun pins s σ H D I hw =>
  wpAny_mono (h pins s σ H D (I.wish _) hw) (fun _ _ q => q.unwish) fun _ _ z => False.elim z
end

/-! ### blocks and small statements -/
section
variable {X : Cx} {st : Stmt} {rest : List Stmt} {t u : TS} {e : Expr} {te : TE} {pos : Pos}
def tNext : TS := fun D σ H => D.nx σ H
def tSeq (t u : TS) : TS := fun D σ H => t { D with nx := u D } σ H
theorem pss_nil : PSs X [] tNext := fun _ _ σ H _ I h => wpAny_execs_nil ⟨σ, H, I, h⟩
theorem pss_cons (h1 : PS X st t) (h2 : PSs X rest u) : PSs X (st :: rest) (tSeq t u) := by
  intro pins s σ H D I h
  refine wpAny_execs_cons (thn (h1 pins s σ H { D with nx := u D } I h) fun f s1 q => ?_)
  cases f with
  | next =>
    obtain ⟨σ', H', I', q⟩ := q
    exact h2 pins s1 σ' H' D I' q
  | ret v => exact q
  | brk => exact q
  | cont => exact q
theorem pss_one (h1 : PS X st t) : PSs X [st] t := by
  intro pins s σ H D I h
  refine wpAny_execs_cons (thn (h1 pins s σ H D I h) fun f s1 q => ?_)
  cases f with
  | next => exact wpAny_execs_nil q
  | ret v => exact q
  | brk => exact q
  | cont => exact q
def tBreak : TS := fun D σ H => D.bk σ H
def tCont : TS := fun D σ H => D.ct σ H
/-- in a def's body nothing is shown -/
theorem Inv.quiet {pins : List (Addr × Obj)} {σ : St} {H : Hp} {s : Shared} (I : Inv X pins σ H s) : interactive X.env = false := by simp [interactive, I.ok.kind]
/-- an expression whose value is dropped -/
def tDrop (te : TE) : TS := fun D σ H => te σ H fun _ H1 => D.nx σ H1
theorem ps_expr (he : PE X e te) (hs : swapsWith e none pos.line X.env = pure false := by rfl) : PS X (.Expr e pos) (tDrop te) := by
  intro pins s σ H D I h
  exact wpAny_Expr_any (thn (he pins s σ H _ I h) fun v s1 ⟨x, H1, I1, r1, q1⟩ => ⟨σ, H1, I1, q1⟩) I.quiet hs
def tRet (te : TE) : TS := fun D σ H => te σ H D.rt
theorem ps_ret (he : PE X e te) : PS X (.Return (some e) pos) (tRet te) := by
  intro pins s σ H D I h
  exact wpAny_Return_some (thn (he pins s σ H _ I h) fun v s1 ⟨x, H1, I1, r1, q1⟩ => ⟨x, σ, H1, I1, r1, q1⟩)
def tRetN : TS := fun D _ H => D.rt .non H
def tIfS (c : TT) (t u : TS) : TS := fun D σ H => c σ H fun b H1 => if b = true then t D σ H1 else u D σ H1
theorem ps_if {c : Expr} {a b : List Stmt} {tc : TT} (hc : PT X c tc) (ha : PSs X a t) (hb : PSs X b u) : PS X (.If c a b pos) (tIfS tc t u) := by
  intro pins s σ H D I h
  refine wpAny_If (thn (hc pins s σ H _ I h) fun d s1 ⟨H1, I1, q1⟩ => ?_)
  cases d with
  | true => exact ha pins s1 σ H1 D I1 q1
  | false => exact hb pins s1 σ H1 D I1 q1
/-- code that the proof never comes to -/
def tNever : TS := fun _ _ _ => False
end

/-! ### targets -/
abbrev TG := V → St → Hp → (St → Hp → Prop) → Prop
abbrev TGs := List V → St → Hp → (St → Hp → Prop) → Prop
def PG (X : Cx) (target : Expr) (t : TG) : Prop :=
  ∀ (pins : List (Addr × Obj)) (s : Shared) (σ : St) (H : Hp) (v : V) (u : Value) (Q : St → Hp → Prop), Inv X pins σ H s → RelV v u → t v σ H Q →
    wpAny (model X.prog X.w) X.A (assign target X.env u) (fun _ s' => ∃ σ' H', Inv X pins σ' H' s' ∧ Q σ' H') X.xe s
/-- several targets, one after another -/
def PGs (X : Cx) (ts : List Expr) (t : TGs) : Prop :=
  ∀ (pins : List (Addr × Obj)) (s : Shared) (σ : St) (H : Hp) (vs : List V) (us : List Value) (Q : St → Hp → Prop), Inv X pins σ H s → Vals vs us → t vs σ H Q →
    wpAny (model X.prog X.w) X.A (assignInOrder ((assignEach ts X.env).map (·.2)) us) (fun _ s' => ∃ σ' H', Inv X pins σ' H' s' ∧ Q σ' H') X.xe s
/-- o[i] = v, by values -/
abbrev TSet := V → V → V → Hp → (Hp → Prop) → Prop
def PSet (X : Cx) (t : TSet) : Prop :=
  ∀ (pins : List (Addr × Obj)) (s : Shared) (σ : St) (H : Hp) (o i v : V) (ov iv u : Value) (Q : Hp → Prop), Inv X pins σ H s → RelV o ov → RelV i iv → RelV v u → t o i v H Q →
    wpAny (model X.prog X.w) X.A (setItem ov iv u) (fun _ s' => ∃ H', Inv X pins σ H' s' ∧ Q H') X.xe s
/-- a op= b, by values -/
abbrev TIp := V → V → Hp → VK → Prop
def PIp (X : Cx) (op : Operator) (t : TIp) : Prop :=
  ∀ (pins : List (Addr × Obj)) (s : Shared) (σ : St) (H : Hp) (x y : V) (v u : Value) (Q : VK), Inv X pins σ H s → RelV x v → RelV y u → t x y H Q →
    wpAny (model X.prog X.w) X.A (inplaceOp op v u) (EP X pins σ Q) X.xe s
section
variable {X : Cx} {pos : Pos}
def gName (i : Nat) : TG := fun v σ H Q => Q (σ.set i (some v)) H
theorem pg_name {i : Nat} {x : Str} (hN : X.N.Nodup) (hi : X.N[i]? = some x) (hx : Loc X.env.scope x) (hf : X.fn x = true ∨ X.env.scope.names.lookup x = some .local := by first | exact .inl rfl | exact .inr rfl | assumption) : PG X (.Name x pos) (gName i) := by
  intro pins s σ H v u Q I r h
  exact wpAny_assign_Name (store_ok I hN hi hx r (fun s' I' => ⟨_, H, I', h⟩) hf)
def gNil : TGs := fun vs σ H Q => vs = [] ∧ Q σ H
def gCons (t : TG) (u : TGs) : TGs := fun vs σ H Q => ∃ v r, vs = v :: r ∧ t v σ H fun σ' H' => u r σ' H' Q
theorem pgs_nil : PGs X [] gNil := by
  intro pins s σ H vs us Q I r h
  obtain ⟨e, h⟩ := h
  subst e
  cases r
  exact assignInOrder_nil ⟨σ, H, I, h⟩
theorem pgs_cons {e : Expr} {es : List Expr} {t : TG} {u : TGs} (h1 : PG X e t) (h2 : PGs X es u)
    (hs : (assignEach (e :: es) X.env).map (·.2) = assign e X.env :: (assignEach es X.env).map (·.2) := by rfl) : PGs X (e :: es) (gCons t u) := by
  intro pins s σ H vs us Q I r h
  obtain ⟨v, vr, e1, h⟩ := h
  subst e1
  cases r with
  | cons r rr =>
    rw [hs]
    refine assignInOrder_cons (thn (h1 pins s σ H _ _ _ I r h) fun _ s1 ⟨σ1, H1, I1, q1⟩ => ?_)
    exact h2 pins s1 σ1 H1 _ _ Q I1 rr q1
/-- (a, b, ..) = a tuple of that length -/
def gTup (K : PySem.W.Frag) (n : Nat) (t : TGs) : TG := fun v σ H Q => ∃ a xs, v = .ref a ∧ SqT K H a xs ∧ xs.length = n ∧ t xs σ H Q
theorem pg_tup {es : List Expr} {k : Nat} {t : TGs} {n : Nat} (hc : X.calm = true) (h : PGs X es t)
    (hn : (assignEach es X.env).length = n := by rfl) (hst : (assignEach es X.env).findIdx? (·.1) = none := by rfl) : PG X (.Tuple es k pos) (gTup X.K n t) := by
  intro pins s σ H v u Q I r hw
  obtain ⟨a, xs, e1, hq, hl, hw⟩ := hw
  subst e1
  cases r
  obtain ⟨its, rv, ht, hz⟩ := I.tuple hq
  refine assign_Tuple_tuple (I.ok.hd hc) ht (by simp [hn, ← hl, rv.length]) hst fun h' hx => ?_
  have I1 : Inv X pins σ H { s with heap := h' } := I.kept (t' := s.toks) fun b o e => hx b o (Nat.ne_of_lt (Heap.lt_size e)) e
  exact h pins _ σ H xs _ Q I1 (by simpa using rv) hw
/-- o[i] = .. -/
def gSub (to ti : TE) (t : TSet) : TG := fun v σ H Q => to σ H fun o H1 => ti σ H1 fun i H2 => t o i v H2 fun H3 => Q σ H3
theorem pg_sub {o i : Expr} {to ti : TE} {t : TSet} (ho : PE X o to) (hi : PE X i ti) (hs : PSet X t)
    (ha : ∀ v, assign (.Subscript o i pos) X.env v = (do
      let ov ← holding [v] (eval o X.env)
      let iv ← holding [v, ov] (eval i X.env)
      standAt pos
      holding [v, ov, iv] (setItem ov iv v)
      release [v, ov, iv] []) := by intro _; rfl) : PG X (.Subscript o i pos) (gSub to ti t) := by
  intro pins s σ H v u Q I r h
  rw [ha]
  refine wpAny_bind (wpAny_holding (thn (ho pins s σ H _ I h) fun ov s1 ⟨x, H1, I1, r1, q1⟩ => ?_))
  refine wpAny_bind (wpAny_holding (thn (hi pins s1 σ H1 _ I1 q1) fun iv s2 ⟨y, H2, I2, r2, q2⟩ => ?_))
  refine wpAny_bind (wpAny_standAt (wpAny_bind (wpAny_holding (thn (hs pins s2 σ H2 x y v ov iv u _ I2 r1 r2 r q2) fun _ s3 ⟨H3, I3, q3⟩ => ?_))))
  exact wpAny_release ⟨σ, H3, I3, q3⟩
/-- target = value -/
def tAsg (te : TE) (g : TG) : TS := fun D σ H => te σ H fun x H1 => g x σ H1 D.nx
theorem ps_asg {tg e : Expr} {te : TE} {g : TG} (he : PE X e te) (hg : PG X tg g) (hs : swapsWithSole [tg] e pos.line X.env = pure false := by rfl) (hw : swappedStores [tg] e X.env = pure none := by rfl)
    (h1 : (assignEach [tg] X.env).map (·.2) = [assign tg X.env] := by rfl) : PS X (.Assign [tg] e pos) (tAsg te g) := by
  intro pins s σ H D I h
  refine wpAny_Assign_stores (thn (he pins s σ H _ I h) fun v s1 ⟨x, H1, I1, r1, q1⟩ => ?_) hs hw
  rw [h1]
  exact thn (hg pins s1 σ H1 x v _ I1 r1 q1) fun _ s2 q => q
/-- name = value -/
theorem ps_set {i : Nat} {x : Str} {e : Expr} {te : TE} {pos' : Pos} (hN : X.N.Nodup) (hi : X.N[i]? = some x) (hx : Loc X.env.scope x) (he : PE X e te) (hs : swapsWith e (some (.Name x pos')) pos.line X.env = pure false := by rfl) (hf : X.fn x = true ∨ X.env.scope.names.lookup x = some .local := by first | exact .inl rfl | exact .inr rfl | assumption) :
    PS X (.Assign [.Name x pos'] e pos) (tAsg te (gName i)) := by
  intro pins s σ H D I h
  refine wpAny_Assign_Name (thn (he pins s σ H _ I h) fun v s1 ⟨y, H1, I1, r1, q1⟩ => ?_) hs
  exact store_ok I1 hN hi hx r1 (fun s2 I2 => ⟨_, H1, I2, q1⟩) hf
/-- a, b = x, y with plain local names: stored from the right; the pair itself is not tracked (the opening rows as in PyProof/Rows/TupAssign.lean:23) -/
def tPar (i j : Nat) (ta : TA) : TS := fun D σ H => ta σ H fun vs H1 => ∃ v w, vs = [v, w] ∧ D.nx ((σ.set i (some v)).set j (some w)) H1
/-- name op= e -/
def tAug (i : Nat) (te : TE) (ti : TIp) : TS := fun D σ H => ∃ x, σ[i]? = some (some x) ∧ te σ H fun y H1 => ti x y H1 fun z H2 => D.nx (σ.set i (some z)) H2
/-- o[i] op= e -/
def tAugS (to ti te : TE) (tget : V → V → Hp → VK → Prop) (tip : TIp) (tset : TSet) : TS := fun D σ H => to σ H fun o H1 => ti σ H1 fun i H2 => tget o i H2 fun x H3 => te σ H3 fun y H4 => tip x y H4 fun z H5 => tset o i z H5 fun H6 => D.nx σ H6
/-- o[i], by values -/
def PGet (X : Cx) (t : V → V → Hp → VK → Prop) : Prop :=
  ∀ (pins : List (Addr × Obj)) (s : Shared) (σ : St) (H : Hp) (o i : V) (ov iv : Value) (Q : VK), Inv X pins σ H s → RelV o ov → RelV i iv → t o i H Q →
    wpAny (model X.prog X.w) X.A (getItem ov iv) (EP X pins σ Q) X.xe s
/-- ints -/
def ipI (f : Int → Int → Int) : TIp := fun x y H Q => ∃ i j, x = .int i ∧ y = .int j ∧ Q (.int (f i j)) H
end

/-! ### while -/
section
variable {X : Cx} {pos : Pos}
/-- the invariant W with its measure -/
def tWhile (c : TT) (tb : TS) : TS := fun D σ H => ∃ W : Nat → St → Hp → Prop, (∃ m, W m σ H) ∧ ∀ m σ H, W m σ H →
  c σ H fun b H1 => if b = true then ∃ N : St → Hp → Prop, (∀ σ' H', N σ' H' → ∃ m', m' < m ∧ W m' σ' H') ∧ tb { D with nx := N, ct := N, bk := D.nx } σ H1 else D.nx σ H1
end

/-! ### what a loop or a comprehension walks -/
/-- at turn i: it yields x (the heap may grow), or it stops -/
structure It where
  go : Nat → Hp → Prop
  yld : Nat → Hp → V → Hp → Prop
  stop : Nat → Hp → Prop
/-- the iterator's own objects may turn: they are not the frame's, not pinned, younger than the entry (or a comprehension's own) -/
def FpOk (X : Cx) (pins : List (Addr × Obj)) (H : Hp) (b : Addr) : Prop :=
  H b = none ∧ b ≠ X.env.locals ∧ b ∉ X.fs ∧ (b ∈ X.ex ∨ X.s₀.heap.objs.size ≤ b) ∧ (∀ x c, X.env.cells.lookup x = some c → c ≠ b) ∧ ∀ p ∈ X.pn ++ pins, p.1 ≠ b
theorem Inv.fpOk {X : Cx} {pins : List (Addr × Obj)} {σ : St} {H H' : Hp} {s : Shared} {b : Addr} (I : Inv X pins σ H s) (hb : s.heap.objs.size ≤ b) (hn : H' b = none) : FpOk X pins H' b := by
  refine ⟨hn, Nat.ne_of_gt (Nat.lt_of_lt_of_le I.lt hb), I.nofs hb, .inr (Nat.le_trans I.sz hb), fun x c e z => ?_, fun p hp z => ?_⟩
  · obtain ⟨v, q⟩ := I.cell x c e
    exact absurd (Nat.lt_of_lt_of_le q.lt (by rw [z]; exact hb)) (Nat.lt_irrefl _)
  · exact absurd (Nat.lt_of_lt_of_le (Heap.lt_size (I.pin p hp).1) (by rw [z]; exact hb)) (Nat.lt_irrefl _)
structure Turn (P : Program) (w : World) (K : PySem.W.Frag) (tg : Expr) (J : It) (fp : List Addr) (it : Addr) (tn : Nat → Heap → Prop) : Prop where
  mem : it ∈ fp
  obj : ∀ i h, tn i h → ∀ b ∈ fp, ∃ o, h.get? b = some o ∧ ∀ v, o.data ≠ .cell v
  keep : ∀ i h h', tn i h → (∀ b ∈ fp, ∀ o, h.get? b = some o → h'.get? b = some o) → tn i h'
  item : ∀ (X : Cx), X.prog = P → X.w = w → X.K = K → X.calm = true → ∀ (i : Nat) (pins : List (Addr × Obj)) (s : Shared) (σ : St) (H : Hp) (E : Value → Shared → Prop), Inv X pins σ H s → (∀ b ∈ fp, FpOk X pins H b) → tn i s.heap → J.go i H →
    wpAny (model P w) X.A (pyNext (.ref it)) (fun r s1 => ∃ u, r = some u ∧
      wpAny (model P w) X.A (letOwnedTupleGo tg (.ref it) u) (fun _ s2 => ∃ x H', Inv X pins σ H' s2 ∧ RelV x u ∧ J.yld i H x H' ∧ tn (i + 1) s2.heap ∧ ∀ b ∈ fp, H' b = none) E s1) E s
  done : ∀ (X : Cx), X.prog = P → X.w = w → X.K = K → X.calm = true → ∀ (i : Nat) (pins : List (Addr × Obj)) (s : Shared) (σ : St) (H : Hp) (E : Value → Shared → Prop), Inv X pins σ H s → (∀ b ∈ fp, FpOk X pins H b) → tn i s.heap → J.stop i H →
    wpAny (model P w) X.A (pyNext (.ref it)) (fun r s1 => r = none ∧ Inv X pins σ H s1) E s
  self : ∀ (A : Around) (i : Nat) (s : Shared) (Q : Value → Shared → Prop) (E : Value → Shared → Prop), tn i s.heap → Q (.ref it) s → wpAny (model P w) A (pyIter (.ref it)) Q E s
abbrev TI := St → Hp → (It → Hp → Prop) → Prop
/-- an iterator has come -/
def PIE (X : Cx) (pins : List (Addr × Obj)) (σ : St) (tg : Expr) (R : It → Hp → Prop) (itv : Value) (s2 : Shared) : Prop :=
  ∃ (it : Addr) (fp : List Addr) (tn : Nat → Heap → Prop) (J : It) (H' : Hp), itv = .ref it ∧ Inv X pins σ H' s2 ∧ Turn X.prog X.w X.K tg J fp it tn ∧ tn 0 s2.heap ∧ (∀ b ∈ fp, FpOk X pins H' b) ∧ R J H'
def PI (X : Cx) (tg iter : Expr) (wi : TI) : Prop :=
  ∀ (pins : List (Addr × Obj)) (s : Shared) (σ : St) (H : Hp) (R : It → Hp → Prop), Inv X pins σ H s → wi σ H R →
    wpAny (model X.prog X.w) X.A (eval iter X.env) (fun v s1 => wpAny (model X.prog X.w) X.A (pyIter v) (PIE X pins σ tg R) X.xe s1) X.xe s

/-- the step ahead of the store is nothing for an iterator that keeps no tuple -/
theorem go_of {M : Model} {A : Around} {E : Value → Shared → Prop} {s : Shared} {tg : Expr} {it : Addr} {u : Value} {o : Obj} {n : String} {vs : Array Value} {Q : Unit → Shared → Prop} (ho : s.heap.get? it = some o) (hc : o.cls = .type n) (hd : o.data = .fields vs)
    (hn : ["enumerate", "zip", "dict_itemiterator", "dict_reverseitemiterator", "odict_iterator", "itertools.zip_longest", "itertools.pairwise"].contains n = false) (hQ : Q () s) : wpAny M A (letOwnedTupleGo tg (.ref it) u) Q E s := by
  unfold letOwnedTupleGo
  cases tg <;> first
    | exact wpAny_pure hQ
    | (cases u <;> first
        | exact wpAny_pure hQ
        | (refine wpAny_bind (wpAny_load ho ?_)
           rw [hc, hd]
           show wpAny M A (if (["enumerate", "zip", "dict_itemiterator", "dict_reverseitemiterator", "odict_iterator", "itertools.zip_longest", "itertools.pairwise"].contains n && vs[0]? == some (rawInt _)) = true then _ else _) Q E s
           rw [if_neg (by intro h; rw [hn, Bool.false_and] at h; cases h)]
           exact wpAny_pure hQ))

/-- the list at a, as it stands at each turn (a loop may append to it) -/
def Itl (K : PySem.W.Frag) (a : Addr) : It :=
  ⟨fun i H => ∃ xs x, SqL K H a xs ∧ xs[i]? = some x, fun i H x H' => H' = H ∧ ∀ xs, SqL K H a xs → xs[i]? = some x, fun i H => ∃ xs, SqL K H a xs ∧ xs.length ≤ i⟩
def Itt (K : PySem.W.Frag) (a : Addr) : It :=
  ⟨fun i H => ∃ xs x, SqT K H a xs ∧ xs[i]? = some x, fun i H x H' => H' = H ∧ ∀ xs, SqT K H a xs → xs[i]? = some x, fun i H => ∃ xs, SqT K H a xs ∧ xs.length ≤ i⟩
/-- lo, lo + 1, .. (n of them) -/
def Itr (lo : Int) (n : Nat) : It := ⟨fun i _ => i < n, fun i H x H' => H' = H ∧ x = .int (lo + i), fun i _ => n ≤ i⟩
theorem turn_list {P : Program} {w : World} {K : PySem.W.Frag} {tg : Expr} (a it : Addr) : Turn P w K tg (Itl K a) [it] it (fun i h => h.IsListIter it a i) where
  mem := by simp
  obj := fun i h st b hb => by
    have e : b = it := by simpa using hb
    subst e
    obtain ⟨o, e, c, d⟩ := st
    exact ⟨o, e, fun v z => by rw [d] at z; cases z⟩
  keep := fun i h h' st k => st.at fun o e => k it (by simp) o e
  item := by
    intro X hP hw hK hc i pins s σ H E I hf st hg
    subst hP hw hK
    obtain ⟨xs, x, hq, hx⟩ := hg
    obtain ⟨its, rv, p, hz⟩ := I.list hq
    obtain ⟨u, hu, ru⟩ := rv.get hx
    obtain ⟨f0, f1, f2, f3, f4, f5⟩ := hf it (by simp)
    refine wpAny_pyNext_list_item st p.isList (x := u) (by simpa using hu) fun h' st' sb => ?_
    have I1 : Inv X pins σ H { s with heap := h' } := I.turned (t' := s.toks) (fun b o hb e => (sb.2 b hb).trans e) f0 f1 f3 f4 f5
    obtain ⟨o, e, c, d⟩ := id st'
    exact ⟨u, rfl, go_of (s := { s with heap := h' }) e c d (by decide) ⟨x, H, I1, ru, ⟨rfl, fun ys hy => by rw [I.list_inj hy hq]; exact hx⟩, st', fun b hb => (hf b hb).1⟩⟩
  done := by
    intro X hP hw hK hc i pins s σ H E I hf st hg
    subst hP hw hK
    obtain ⟨xs, hq, hx⟩ := hg
    obtain ⟨its, rv, p, hz⟩ := I.list hq
    obtain ⟨f0, f1, f2, f3, f4, f5⟩ := hf it (by simp)
    have hl := rv.length
    exact wpAny_pyNext_list_end (I.ok.hd hc) st p.isList (by simp; omega) fun h' eb => ⟨rfl, I.turned (t' := s.toks) (fun b o hb e => eb b o hb e) f0 f1 f3 f4 f5⟩
  self := fun _ _ _ _ _ st h => wpAny_pyIter_listiter st h
theorem turn_range {P : Program} {w : World} {K : PySem.W.Frag} {tg : Expr} (it : Addr) (lo : Int) (n : Nat) : Turn P w K tg (Itr lo n) [it] it (fun i h => IsRangeIter h it (lo + (i : Nat) * 1) ((n : Int) - (i : Nat)) 1) where
  mem := by simp
  obj := fun i h st b hb => by
    have e : b = it := by simpa using hb
    subst e
    exact ⟨_, st, fun v z => by
      have z' : Data.fields _ = Data.cell v := z
      cases z'⟩
  keep := fun i h h' st k => k it (by simp) _ st
  item := by
    intro X hP hw hK hc i pins s σ H E I hf st hg
    subst hP hw hK
    obtain ⟨f0, f1, f2, f3, f4, f5⟩ := hf it (by simp)
    have W := Walks.range (prog := X.prog) (w := X.w) (I.ok.hd hc) it lo 1 n
    refine W.item i s _ _ hg st fun v h' tk hv st' kk => ?_
    obtain ⟨t, rfl⟩ := hv
    have I1 : Inv X pins σ H { s with heap := h', toks := tk } := I.turned (fun b o hb e => kk b o (by simpa using hb) e) f0 f1 f3 f4 f5
    refine ⟨_, rfl, go_of (s := { s with heap := h', toks := tk }) (n := "range_iterator") st' rfl rfl (by decide) ⟨.int (lo + i), H, I1, ⟨t, ?_⟩, ⟨rfl, rfl⟩, st', fun b hb => (hf b hb).1⟩⟩
    rw [Int.mul_one]
  done := by
    intro X hP hw hK hc i pins s σ H E I hf st hg
    subst hP hw hK
    obtain ⟨f0, f1, f2, f3, f4, f5⟩ := hf it (by simp)
    exact wpAny_pyNext_range_end (I.ok.hd hc) st (by have : n ≤ i := hg; omega) fun h' eb => ⟨rfl, I.turned (t' := s.toks) (fun b o hb e => eb b o hb e) f0 f1 f3 f4 f5⟩
  self := fun _ _ _ _ _ st h => wpAny_pyIter_rangeiter st h
end L2

namespace L2
open PySem PySem.Spec PyProof.Rows
section
variable {X : Cx} {tg : Expr}
def iList (K : PySem.W.Frag) (tl : TE) : TI := fun σ H R => tl σ H fun x H1 => ∃ a, x = .ref a ∧ (∃ xs, SqL K H1 a xs) ∧ R (Itl K a) H1
def iTup (K : PySem.W.Frag) (tl : TE) : TI := fun σ H R => tl σ H fun x H1 => ∃ a, x = .ref a ∧ (∃ xs, SqT K H1 a xs) ∧ R (Itt K a) H1
theorem pi_list {l : Expr} {tl : TE} (hl : PE X l tl) : PI X tg l (iList X.K tl) := by
  intro pins s σ H R I h
  refine thn (hl pins s σ H _ I h) fun v s1 ⟨x, H1, I1, r1, q1⟩ => ?_
  obtain ⟨a, e, ⟨xs, hq⟩, q⟩ := q1
  subst e
  cases r1
  obtain ⟨its, rv, p, hz⟩ := I1.list hq
  refine wpAny_pyIter_list p.isList ?_
  refine ⟨s1.heap.objs.size, [s1.heap.objs.size], _, _, H1, rfl, I1.kept (t' := s1.toks) fun b o e => Heap.get?_push_of_some _ e, turn_list a _, ⟨_, Heap.get?_push_size _ rfl, rfl, rfl⟩, fun b hb => ?_, q⟩
  have e : b = s1.heap.objs.size := by simpa using hb
  subst e
  exact I1.fpOk (Nat.le_refl _) (I1.hok.fresh (Nat.le_refl _))
/-- a range object just made, walked -/
theorem range_it {pins : List (Addr × Obj)} {σ : St} {H : Hp} {s : Shared} {R : It → Hp → Prop} {E : Value → Shared → Prop} {lo hi : Int} {t u v : Tok} {tk : Nat} (I : Inv X pins σ H s) (h1 : -(2 ^ 62) ≤ lo) (h2 : lo < 2 ^ 62) (h3 : -(2 ^ 62) ≤ hi) (h4 : hi < 2 ^ 62)
    (q : R (Itr lo (hi - lo).toNat) H) : wpAny (model X.prog X.w) X.A (pyIter (.ref s.heap.objs.size)) (PIE X pins σ tg R) E { s with heap := s.heap.push { cls := .type "range", data := .fields #[.int lo t, .int hi u, .int 1 v] }, toks := tk } := by
  refine wpAny_pyIter_range (IsRange.new ..) (small_one h1 h2 h3 h4) ?_
  have I1 : Inv X pins σ H { s with heap := s.heap.push { cls := .type "range", data := .fields #[.int lo t, .int hi u, .int 1 v] }, toks := tk } := I.kept fun b o e => Heap.get?_push_of_some _ e
  refine ⟨(s.heap.push { cls := .type "range", data := .fields #[.int lo t, .int hi u, .int 1 v] }).objs.size, [(s.heap.push { cls := .type "range", data := .fields #[.int lo t, .int hi u, .int 1 v] }).objs.size], _, _, H, rfl,
    I1.kept (t' := tk) fun b o e => Heap.get?_push_of_some _ e, turn_range _ lo (hi - lo).toNat, ?_, fun b hb => ?_, q⟩
  · have e1 : lo + ((0 : Nat) : Int) * 1 = lo := by simp
    have e2 : (((hi - lo).toNat : Nat) : Int) - ((0 : Nat) : Int) = Builtin.Range.rangeSize lo hi 1 := by rw [rangeSize_one]; split <;> omega
    show IsRangeIter _ _ (lo + ((0 : Nat) : Int) * 1) ((((hi - lo).toNat : Nat) : Int) - ((0 : Nat) : Int)) 1
    rw [e1, e2]
    exact Heap.get?_push_size _ rfl
  · have e : b = (s.heap.push { cls := .type "range", data := .fields #[.int lo t, .int hi u, .int 1 v] }).objs.size := by simpa using hb
    subst e
    exact I1.fpOk (Nat.le_refl _) (I1.hok.fresh (Nat.le_refl _))
def iRng1 (ta : TA) : TI := fun σ H R => ta σ H fun vs H1 => ∃ j : Int, vs = [.int j] ∧ -(2 ^ 62) ≤ j ∧ j < 2 ^ 62 ∧ R (Itr 0 j.toNat) H1
def iRng2 (ta : TA) : TI := fun σ H R => ta σ H fun vs H1 => ∃ i j : Int, vs = [.int i, .int j] ∧ (-(2 ^ 62) ≤ i ∧ i < 2 ^ 62 ∧ -(2 ^ 62) ≤ j ∧ j < 2 ^ 62) ∧ R (Itr i (j - i).toNat) H1
theorem pi_range1 {a : Expr} {ta : TA} {p pos : Pos} (hg : Gl X "range") (hm : X.mg "range" = none) (ha : PA X [a] ta) (hs : starEach [a] X.env = [(false, eval a X.env)] := by rfl) : PI X tg (.Call (.Name "range" p) [a] [] pos) (iRng1 ta) := by
  intro pins s σ H R I h
  refine Call_ (ld_blt I hg hm boot_range (PyProof.Rows.callWith_type1 (thn (ha pos pins s σ H _ I h) fun us s1 ⟨vs, H1, I1, r1, q1⟩ => ?_) hs rfl))
  obtain ⟨j, e, q1, q2, q⟩ := q1
  subst e
  cases r1 with
  | cons r rr =>
    cases rr
    obtain ⟨t, rfl⟩ := r
    exact call_range_1 (range_it I1 (by omega) (by omega) q1 q2 (by simpa using q))
theorem pi_range2 {a b : Expr} {ta : TA} {p pos : Pos} (hg : Gl X "range") (hm : X.mg "range" = none) (ha : PA X [a, b] ta) (hs : starEach [a, b] X.env = [(false, eval a X.env), (false, eval b X.env)] := by rfl) (hs2 : starEach [b] X.env = [(false, eval b X.env)] := by rfl) :
    PI X tg (.Call (.Name "range" p) [a, b] [] pos) (iRng2 ta) := by
  intro pins s σ H R I h
  refine Call_ (ld_blt I hg hm boot_range (PyProof.Rows.callWith_type1 (thn (ha pos pins s σ H _ I h) fun us s1 ⟨vs, H1, I1, r1, q1⟩ => ?_) (by rw [hs, hs2]) (by rw [hs2]; rfl)))
  obtain ⟨i, j, e, ⟨q1, q2, q3, q4⟩, q⟩ := q1
  subst e
  cases r1 with
  | cons r rr =>
    cases rr with
    | cons r' rr =>
      cases rr
      obtain ⟨t, rfl⟩ := r
      obtain ⟨t', rfl⟩ := r'
      exact call_range_2 (range_it I1 q1 q2 q3 q4 q)

/-! ### for -/
/-- W: the invariant by the turn and a measure; N: what the body is to reach -/
def tFor (wi : TI) (g : TG) (tb : TS) : TS := fun D σ H => wi σ H fun J H1 => ∃ W : Nat → Nat → St → Hp → Prop, (∃ m, W 0 m σ H1) ∧ ∀ i m σ H, W i m σ H →
  (J.stop i H ∧ D.nx σ H) ∨ (J.go i H ∧ ∃ N : St → Hp → Prop, (∀ σ' H', N σ' H' → ∃ m', m' < m ∧ W (i + 1) m' σ' H') ∧ ∀ x H', J.yld i H x H' → g x σ H' fun σ2 H2 => tb { D with nx := N, ct := N, bk := D.nx } σ2 H2)
/-- the records at fp as they stand -/
def pinsAt (fp : List Addr) (h : Heap) : List (Addr × Obj) := fp.filterMap fun b => (h.get? b).map fun o => (b, o)
theorem mem_pinsAt {fp : List Addr} {h : Heap} {b : Addr} {o : Obj} (hb : b ∈ fp) (e : h.get? b = some o) : (b, o) ∈ pinsAt fp h := List.mem_filterMap.mpr ⟨b, hb, by rw [e]; rfl⟩
theorem of_pinsAt {fp : List Addr} {h : Heap} {p : Addr × Obj} (hp : p ∈ pinsAt fp h) : p.1 ∈ fp ∧ h.get? p.1 = some p.2 := by
  obtain ⟨b, hb, e⟩ := List.mem_filterMap.mp hp
  cases q : h.get? b with
  | none => rw [q] at e; cases e
  | some o =>
    rw [q] at e
    have e' : (b, o) = p := Option.some.inj e
    subst e'
    exact ⟨hb, q⟩
theorem Inv.pinned {pins : List (Addr × Obj)} {σ : St} {H : Hp} {s : Shared} {fp : List Addr} (I : Inv X pins σ H s) (hf : ∀ b ∈ fp, FpOk X pins H b) (ho : ∀ b ∈ fp, ∃ o, s.heap.get? b = some o ∧ ∀ v, o.data ≠ .cell v) : Inv X (pins ++ pinsAt fp s.heap) σ H s :=
  I.pins_of fun p hp => (List.mem_append.mp hp).elim (fun z => I.pin p (List.mem_append_right _ z)) fun z => by
    obtain ⟨hb, e⟩ := of_pinsAt z
    obtain ⟨f0, f1, f2, _⟩ := hf p.1 hb
    obtain ⟨o, e', d⟩ := ho p.1 hb
    rw [e] at e'; cases e'
    exact ⟨e, f0, f1, f2, d⟩
theorem Inv.unpinned {pins pl : List (Addr × Obj)} {σ : St} {H : Hp} {s : Shared} (I : Inv X (pins ++ pl) σ H s) : Inv X pins σ H s := I.pins_of fun p hp => I.pin p (List.mem_append_right _ (List.mem_append_left _ hp))
theorem ps_for {iter : Expr} {body : List Stmt} {wi : TI} {g : TG} {tb : TS} {pos : Pos} (hp : PassesOwn (model X.prog X.w) X.A X.env X.xe) (hc : X.calm = true) (hi : PI X tg iter wi) (hg : PG X tg g) (hb : PSs X body tb)
    (hs : ∀ x, foldedSetIterable iter X.env x = pure x := by intro _; rfl) : PS X (.For tg iter body [] pos) (tFor wi g tb) := by
  intro pins s σ H D I h
  refine wpAny_For (thn (hi pins s σ H _ I h) fun v s1 h1 => thn h1 fun itv s2 h2 => ?_) hs
  obtain ⟨it, fp, tn, J, H2, e, I2, T, st2, f2, W, ⟨m0, w0⟩, turn⟩ := h2
  subst e
  -- what stays true of the iterator's objects through the loop
  have stat : ∀ {H' : Hp}, (∀ b ∈ fp, H' b = none) → ∀ b ∈ fp, FpOk X pins H' b := fun hn b hb => ⟨hn b hb, (f2 b hb).2⟩
  refine codeAny_forLoop_any (fun n s' => ∃ i σ' H', Inv X pins σ' H' s' ∧ tn i s'.heap ∧ (∀ b ∈ fp, H' b = none) ∧ W i n σ' H') ?_ m0 ⟨0, σ, H2, I2, st2, fun b hb => (f2 b hb).1, w0⟩
  rintro n s3 ⟨i, σ3, H3, I3, st3, fr3, w3⟩
  rcases turn i n σ3 H3 w3 with ⟨stop, qn⟩ | ⟨go, N, hN, step⟩
  · refine wpAny_passesOwn hp (thn (T.done X rfl rfl rfl hc i pins s3 σ3 H3 X.xe I3 (stat fr3) st3 stop) fun r s4 ⟨hr, I4⟩ => ?_)
    subst hr
    exact wpAny_execs_nil ⟨σ3, H3, I4, qn⟩
  · refine wpAny_passesOwn hp (thn (T.item X rfl rfl rfl hc i pins s3 σ3 H3 X.xe I3 (stat fr3) st3 go) fun r s4 ⟨u, hr, h4⟩ => ?_)
    subst hr
    refine wpAny_passesOwn hp (thn h4 fun _ s5 ⟨x, H5, I5, r5, y5, st5, fr5⟩ => ?_)
    have I5' := I5.pinned (stat fr5) (T.obj _ _ st5)
    refine wpAny_passesOwn hp (thn (hg _ s5 σ3 H5 x u _ I5' r5 (step x H5 y5)) fun _ s6 ⟨σ6, H6, I6, q6⟩ => ?_)
    refine wpAny_passesOwn hp (thn (hb _ s6 σ6 H6 _ I6 q6) fun f s7 q7 => ?_)
    have again : ∀ {σ7 : St} {H7 : Hp}, Inv X (pins ++ pinsAt fp s5.heap) σ7 H7 s7 → N σ7 H7 → ∃ m, m < n ∧ ∃ i σ' H', Inv X pins σ' H' s7 ∧ tn i s7.heap ∧ (∀ b ∈ fp, H' b = none) ∧ W i m σ' H' := fun {σ7 H7} I7 n7 => by
      obtain ⟨m', hm, w7⟩ := hN σ7 H7 n7
      refine ⟨m', hm, i + 1, σ7, H7, I7.unpinned, T.keep _ _ _ st5 fun b hb o e => (I7.pin (b, o) (List.mem_append_right _ (List.mem_append_right _ (mem_pinsAt hb e)))).1, fun b hb => ?_, w7⟩
      obtain ⟨o, e, d⟩ := T.obj _ _ st5 b hb
      exact (I7.pin (b, o) (List.mem_append_right _ (List.mem_append_right _ (mem_pinsAt hb e)))).2.1
    cases f with
    | next => obtain ⟨σ7, H7, I7, n7⟩ := q7; exact again I7 n7
    | cont => obtain ⟨σ7, H7, I7, n7⟩ := q7; exact again I7 n7
    | brk => obtain ⟨σ7, H7, I7, q7⟩ := q7; exact ⟨σ7, H7, I7.unpinned, q7⟩
    | ret v => obtain ⟨x7, σ7, H7, I7, r7, q7⟩ := q7; exact ⟨x7, σ7, H7, I7.unpinned, r7, q7⟩
end

/-! ### the forms one uses -/
/-- over a list that the body leaves as it is -/
theorem for_list {K : PySem.W.Frag} {a : Addr} {xs : List V} {g : TG} {tb : TS} {D : Ends} {σ : St} {H : Hp} (Pv : Nat → St → Hp → Prop) (h0 : Pv 0 σ H) (hl : ∀ i σ H, i ≤ xs.length → Pv i σ H → SqL K H a xs)
    (hs : ∀ i x σ H, xs[i]? = some x → Pv i σ H → g x σ H fun σ2 H2 => tb { D with nx := Pv (i + 1), ct := Pv (i + 1), bk := D.nx } σ2 H2) (hd : ∀ σ H, Pv xs.length σ H → D.nx σ H) :
    ∃ W : Nat → Nat → St → Hp → Prop, (∃ m, W 0 m σ H) ∧ ∀ i m σ H, W i m σ H →
      ((Itl K a).stop i H ∧ D.nx σ H) ∨ ((Itl K a).go i H ∧ ∃ N : St → Hp → Prop, (∀ σ' H', N σ' H' → ∃ m', m' < m ∧ W (i + 1) m' σ' H') ∧ ∀ x H', (Itl K a).yld i H x H' → g x σ H' fun σ2 H2 => tb { D with nx := N, ct := N, bk := D.nx } σ2 H2) := by
  refine ⟨fun i m σ H => m = xs.length - i ∧ i ≤ xs.length ∧ Pv i σ H, ⟨xs.length, by simp, Nat.zero_le _, h0⟩, ?_⟩
  rintro i m σ H ⟨rfl, hi, p⟩
  have q := hl i σ H hi p
  by_cases hlt : i < xs.length
  · refine .inr ⟨⟨xs, xs[i], q, by simp [hlt]⟩, Pv (i + 1), fun σ' H' p' => ⟨xs.length - (i + 1), by omega, rfl, hlt, p'⟩, fun x H' y => ?_⟩
    obtain ⟨e, y⟩ := y
    subst e
    exact hs i x σ _ (y xs q) p
  · have e : i = xs.length := by omega
    subst e
    exact .inl ⟨⟨xs, q, Nat.le_refl _⟩, hd σ H p⟩
theorem for_range {lo : Int} {n : Nat} {g : TG} {tb : TS} {D : Ends} {σ : St} {H : Hp} (Pv : Nat → St → Hp → Prop) (h0 : Pv 0 σ H)
    (hs : ∀ i σ H, i < n → Pv i σ H → g (.int (lo + i)) σ H fun σ2 H2 => tb { D with nx := Pv (i + 1), ct := Pv (i + 1), bk := D.nx } σ2 H2) (hd : ∀ σ H, Pv n σ H → D.nx σ H) :
    ∃ W : Nat → Nat → St → Hp → Prop, (∃ m, W 0 m σ H) ∧ ∀ i m σ H, W i m σ H →
      ((Itr lo n).stop i H ∧ D.nx σ H) ∨ ((Itr lo n).go i H ∧ ∃ N : St → Hp → Prop, (∀ σ' H', N σ' H' → ∃ m', m' < m ∧ W (i + 1) m' σ' H') ∧ ∀ x H', (Itr lo n).yld i H x H' → g x σ H' fun σ2 H2 => tb { D with nx := N, ct := N, bk := D.nx } σ2 H2) := by
  refine ⟨fun i m σ H => m = n - i ∧ i ≤ n ∧ Pv i σ H, ⟨n, by simp, Nat.zero_le _, h0⟩, ?_⟩
  rintro i m σ H ⟨rfl, hi, p⟩
  by_cases hlt : i < n
  · refine .inr ⟨hlt, Pv (i + 1), fun σ' H' p' => ⟨n - (i + 1), by omega, rfl, hlt, p'⟩, fun x H' y => ?_⟩
    obtain ⟨e, y⟩ := y
    subst e y
    exact hs i σ _ hlt p
  · have e : i = n := by omega
    subst e
    exact .inl ⟨Nat.le_refl _, hd σ H p⟩
end L2

namespace L2
open PySem PySem.Spec PyProof.Rows

abbrev R2 := V → V → Hp → VK → Prop
/-- a two-place operation on values: f is binaryOp op, inplaceOp op or compareOp op -/
def OpR (X : Cx) (f : Value → Value → Sem Value) (r : R2) : Prop :=
  ∀ (pins : List (Addr × Obj)) (s : Shared) (σ : St) (H : Hp) (x y : V) (v u : Value) (Q : VK), Inv X pins σ H s → RelV x v → RelV y u → r x y H Q →
    wpAny (model X.prog X.w) X.A (f v u) (EP X pins σ Q) X.xe s
/-- a one-place operation -/
def UnR (X : Cx) (f : Value → Sem Value) (r : V → Hp → VK → Prop) : Prop :=
  ∀ (pins : List (Addr × Obj)) (s : Shared) (σ : St) (H : Hp) (x : V) (v : Value) (Q : VK), Inv X pins σ H s → RelV x v → r x H Q →
    wpAny (model X.prog X.w) X.A (f v) (EP X pins σ Q) X.xe s
/-- a call of a value that is known (a builtin, a type) with values -/
def CallR (X : Cx) (f : Value) (r : List V → Hp → VK → Prop) : Prop :=
  ∀ (pins : List (Addr × Obj)) (s : Shared) (σ : St) (H : Hp) (xs : List V) (us : List Value) (Q : VK), Inv X pins σ H s → Vals xs us → r xs H Q →
    wpAny (model X.prog X.w) X.A (call f us) (EP X pins σ Q) X.xe s
/-- a value's truth -/
def TruR (X : Cx) (r : V → Hp → (Bool → Hp → Prop) → Prop) : Prop :=
  ∀ (pins : List (Addr × Obj)) (s : Shared) (σ : St) (H : Hp) (x : V) (v : Value) (Q : Bool → Hp → Prop), Inv X pins σ H s → RelV x v → r x H Q →
    wpAny (model X.prog X.w) X.A (truthy v) (TP X pins σ Q) X.xe s

def tOp (r : R2) (ta tb : TE) : TE := fun σ H Q => ta σ H fun x H1 => tb σ H1 fun y H2 => r x y H2 Q
def tUn (r : V → Hp → VK → Prop) (ta : TE) : TE := fun σ H Q => ta σ H fun x H1 => r x H1 Q
/-- ints in, under C, and a value out -/
def rI (C : Int → Int → Prop) (g : Int → Int → V) : R2 := fun x y H Q => ∃ i j, x = .int i ∧ y = .int j ∧ C i j ∧ Q (g i j) H
def rI0 (g : Int → Int → V) : R2 := fun x y H Q => ∃ i j, x = .int i ∧ y = .int j ∧ Q (g i j) H
def rU (g : Int → V) : V → Hp → VK → Prop := fun x H Q => ∃ i, x = .int i ∧ Q (g i) H

section
variable {X : Cx} {a b c : Expr} {ta tb tc : TE} {pos : Pos}

theorem binT (ha : PE X a ta) (hb : PE X b tb) {pins : List (Addr × Obj)} {s : Shared} {σ : St} {H : Hp} {R : V → V → Hp → Prop} (I : Inv X pins σ H s)
    (h : ta σ H fun x H1 => tb σ H1 fun y H2 => R x y H2) {Q : Value → Shared → Prop} {f : Value → Value → Sem Value}
    (hf : ∀ v u s2 x y H2, Inv X pins σ H2 s2 → RelV x v → RelV y u → R x y H2 → wpAny (model X.prog X.w) X.A (f v u) Q X.xe s2) :
    wpAny (model X.prog X.w) X.A (eval a X.env) (fun v s₁ => wpAny (model X.prog X.w) X.A (eval b X.env) (fun u s₂ => wpAny (model X.prog X.w) X.A (f v u) Q X.xe s₂) X.xe s₁) X.xe s := by
  refine thn (ha pins s σ H _ I h) fun v s1 ⟨x, H1, I1, r1, q1⟩ => ?_
  refine thn (hb pins s1 σ H1 _ I1 q1) fun u s2 ⟨y, H2, I2, r2, q2⟩ => ?_
  exact hf v u s2 x y H2 I2 r1 r2 q2

theorem pe_op {op : Operator} {r : R2} (ho : OpR X (binaryOp op) r) (ha : PE X a ta) (hb : PE X b tb) : PE X (.BinOp a op b pos) (tOp r ta tb) := by
  intro pins s σ H Q I h
  exact wpAny_BinOp (binT ha hb I h fun v u s2 x y H2 I2 rx ry q => ho pins s2 σ H2 x y v u Q I2 rx ry q)

/-! ### ints -/
theorem opI {f : Value → Value → Sem Value} {C : Int → Int → Prop} {g : Int → Int → Int}
    (rule : ∀ (i j : Int) (t u : Tok) (s : Shared) (Q : Value → Shared → Prop) (E : Value → Shared → Prop), C i j → Q (.int (g i j) s.toks) { s with toks := s.toks + 1 } → wpAny (model X.prog X.w) X.A (f (.int i t) (.int j u)) Q E s) :
    OpR X f (rI C fun i j => .int (g i j)) := by
  intro pins s σ H x y v u Q I rx ry h
  obtain ⟨i, j, rfl, rfl, hc, q⟩ := h
  obtain ⟨t, rfl⟩ := rx
  obtain ⟨t', rfl⟩ := ry
  exact rule i j t t' s _ _ hc ⟨.int (g i j), H, I.tok _, ⟨_, rfl⟩, q⟩
theorem opI0 {f : Value → Value → Sem Value} {g : Int → Int → Int}
    (rule : ∀ (i j : Int) (t u : Tok) (s : Shared) (Q : Value → Shared → Prop) (E : Value → Shared → Prop), Q (.int (g i j) s.toks) { s with toks := s.toks + 1 } → wpAny (model X.prog X.w) X.A (f (.int i t) (.int j u)) Q E s) :
    OpR X f (rI0 fun i j => .int (g i j)) := by
  intro pins s σ H x y v u Q I rx ry h
  obtain ⟨i, j, rfl, rfl, q⟩ := h
  obtain ⟨t, rfl⟩ := rx
  obtain ⟨t', rfl⟩ := ry
  exact rule i j t t' s _ _ ⟨.int (g i j), H, I.tok _, ⟨_, rfl⟩, q⟩
theorem opB0 {f : Value → Value → Sem Value} {g : Int → Int → Bool}
    (rule : ∀ (i j : Int) (t u : Tok) (s : Shared) (Q : Value → Shared → Prop) (E : Value → Shared → Prop), Q (.bool (g i j)) s → wpAny (model X.prog X.w) X.A (f (.int i t) (.int j u)) Q E s) :
    OpR X f (rI0 fun i j => .bl (g i j)) := by
  intro pins s σ H x y v u Q I rx ry h
  obtain ⟨i, j, rfl, rfl, q⟩ := h
  obtain ⟨t, rfl⟩ := rx
  obtain ⟨t', rfl⟩ := ry
  exact rule i j t t' s _ _ ⟨.bl (g i j), H, I, rfl, q⟩

def CDiv (i j : Int) : Prop := 0 < j ∧ j < 1073741824
def CDivN (i j : Int) : Prop := j ≠ 0 ∧ j.natAbs < 1073741824
def CPow (i j : Int) : Prop := 0 ≤ j ∧ j ≤ 1000000 ∧ i.natAbs < 2 ^ 64
def CMul (i j : Int) : Prop := (-(2 ^ 64) < i ∧ i < 2 ^ 64) ∨ (-(2 ^ 64) < j ∧ j < 2 ^ 64)
theorem CMul.ok {i j : Int} (h : CMul i j) : IntMulOk i j := by
  rcases h with ⟨h1, h2⟩ | ⟨h1, h2⟩
  · exact .of_left (intBits_le_64 h1 h2)
  · exact .of_right (intBits_le_64 h1 h2)

theorem op_add : OpR X (binaryOp .Add) (rI0 fun i j => .int (i + j)) := opI0 fun _ _ _ _ _ _ _ q => add_int q
theorem op_sub : OpR X (binaryOp .Sub) (rI0 fun i j => .int (i - j)) := opI0 fun _ _ _ _ _ _ _ q => sub_int q
theorem op_mul : OpR X (binaryOp .Mult) (rI CMul fun i j => .int (i * j)) := opI fun _ _ _ _ _ _ _ hc q => mul_int q hc.ok
/-- // by a positive divisor -/
theorem op_fdiv : OpR X (binaryOp .FloorDiv) (rI CDiv fun i j => .int (i / j)) := opI fun i j _ _ _ _ _ hc q => by
  have h1 : (0 : Int) < j := hc.1
  have h2 : j < 1073741824 := hc.2
  exact floordiv_int (by omega) (by rw [Int.fdiv_eq_ediv_of_nonneg i (by omega)]; exact q) (.inl (PyProof.noPylong_small (by omega)))
/-- % by a positive divisor of any size -/
theorem op_mod : OpR X (binaryOp .Mod) (rI (fun _ j => 0 < j) fun i j => .int (i % j)) := opI fun i j _ _ _ _ _ hc q => by
  have h1 : (0 : Int) < j := hc
  exact mod_int' (by omega) (by rw [Int.fmod_eq_emod_of_nonneg i (by omega)]; exact q)
theorem op_pow : OpR X (binaryOp .Pow) (rI CPow fun i j => .int (i ^ j.toNat)) := opI fun _ _ _ _ _ _ _ hc q => pow_int_small hc.1 hc.2.1 hc.2.2 q



/-! ### bools among ints: n += (a < b) -/
end

/-! ### comparisons -/
/-- the scalars that == tells apart as data does -/
def scal : V → V → Bool
  | .non, .non => true | .non, .int _ => true | .int _, .non => true | .non, .bl _ => true | .bl _, .non => true | .non, .str _ => true | .str _, .non => true
  | .int _, .int _ => true | .bl _, .bl _ => true | .str _, .str _ => true | .byt _, .byt _ => true
  | .int _, .str _ => true | .str _, .int _ => true | .bl _, .str _ => true | .str _, .bl _ => true
  | _, _ => false
def rEq : R2 := fun x y H Q => scal x y = true ∧ Q (.bl (decide (x = y))) H
def rNe : R2 := fun x y H Q => scal x y = true ∧ Q (.bl (!decide (x = y))) H

theorem dec_int {i j : Int} : decide (V.int i = V.int j) = (i == j) := by
  rw [Bool.eq_iff_iff]
  simp
theorem dec_bl {i j : Bool} : decide (V.bl i = V.bl j) = (i == j) := by
  rw [Bool.eq_iff_iff]
  simp
theorem dec_str {i j : Str} : decide (V.str i = V.str j) = (i == j) := by
  rw [Bool.eq_iff_iff]
  simp
theorem dec_byt {i j : Array UInt8} : decide (V.byt i = V.byt j) = (i.toList == j.toList) := by
  rw [Bool.eq_iff_iff]
  cases i
  cases j
  simp

section
variable {X : Cx} {a b c : Expr} {ta tb tc : TE} {pos : Pos}
theorem fin_bl {pins : List (Addr × Obj)} {σ : St} {H : Hp} {s : Shared} {Q : VK} {k k' : Bool} (I : Inv X pins σ H s) (q : Q (.bl k) H) (e : k = k') : EP X pins σ Q (.bool k') s := by
  subst e
  exact ⟨.bl k, H, I, rfl, q⟩
theorem op_eq : OpR X (compareOp .Eq) rEq := by
  intro pins s σ H x y v u Q I rx ry h
  obtain ⟨hs, q⟩ := h
  cases x with
  | non =>
    cases rx
    cases y with
    | non => cases ry; exact PySem.EqNone.eq_none_none (fin_bl I q (by simp))
    | bl j => cases ry; exact PySem.EqNone.eq_none_bool (fin_bl I q (by simp))
    | int j => obtain ⟨t', rfl⟩ := ry; exact PySem.EqNone.eq_none_int (fin_bl I q (by simp))
    | str j => obtain ⟨t', rfl⟩ := ry; exact PySem.EqNone.eq_none_str (fin_bl I q (by simp))
    | _ => exact absurd (show false = true from hs) Bool.false_ne_true
  | bl i =>
    cases rx
    cases y with
    | non => cases ry; exact PySem.EqNone.eq_bool_none (fin_bl I q (by simp))
    | bl j => cases ry; exact eq_bool (fin_bl I q dec_bl)
    | str j => obtain ⟨t', rfl⟩ := ry; exact PySem.EqMixed.eq_bool_str (fin_bl I q (by simp))
    | _ => exact absurd (show false = true from hs) Bool.false_ne_true
  | int i =>
    obtain ⟨t, rfl⟩ := rx
    cases y with
    | non => cases ry; exact PySem.EqNone.eq_int_none (fin_bl I q (by simp))
    | int j => obtain ⟨t', rfl⟩ := ry; exact eq_int (fin_bl I q dec_int)
    | str j => obtain ⟨t', rfl⟩ := ry; exact PySem.EqMixed.eq_int_str (fin_bl I q (by simp))
    | _ => exact absurd (show false = true from hs) Bool.false_ne_true
  | str i =>
    obtain ⟨t, rfl⟩ := rx
    cases y with
    | non => cases ry; exact PySem.EqNone.eq_str_none (fin_bl I q (by simp))
    | bl j => cases ry; exact PySem.EqMixed.eq_str_bool (fin_bl I q (by simp))
    | int j => obtain ⟨t', rfl⟩ := ry; exact PySem.EqMixed.eq_str_int (fin_bl I q (by simp))
    | str j => obtain ⟨t', rfl⟩ := ry; exact eq_str (fin_bl I q dec_str)
    | _ => exact absurd (show false = true from hs) Bool.false_ne_true
  | byt i =>
    obtain ⟨t, rfl⟩ := rx
    cases y with
    | byt j => obtain ⟨t', rfl⟩ := ry; exact PySem.W.eq_bytes (fin_bl I q dec_byt)
    | _ => exact absurd (show false = true from hs) Bool.false_ne_true
  | _ => cases y <;> exact absurd (show false = true from hs) Bool.false_ne_true
theorem op_ne : OpR X (compareOp .NotEq) rNe := by
  intro pins s σ H x y v u Q I rx ry h
  obtain ⟨hs, q⟩ := h
  cases x with
  | non =>
    cases rx
    cases y with
    | non => cases ry; exact PySem.EqNone.ne_none_none (fin_bl I q (by simp))
    | bl j => cases ry; exact PySem.EqNone.ne_none_bool (fin_bl I q (by simp))
    | int j => obtain ⟨t', rfl⟩ := ry; exact PySem.EqNone.ne_none_int (fin_bl I q (by simp))
    | str j => obtain ⟨t', rfl⟩ := ry; exact PySem.EqNone.ne_none_str (fin_bl I q (by simp))
    | _ => exact absurd (show false = true from hs) Bool.false_ne_true
  | bl i =>
    cases rx
    cases y with
    | non => cases ry; exact PySem.EqNone.ne_bool_none (fin_bl I q (by simp))
    | bl j => cases ry; exact ne_bool (fin_bl I q (congrArg not dec_bl))
    | str j => obtain ⟨t', rfl⟩ := ry; exact PySem.EqMixed.ne_bool_str (fin_bl I q (by simp))
    | _ => exact absurd (show false = true from hs) Bool.false_ne_true
  | int i =>
    obtain ⟨t, rfl⟩ := rx
    cases y with
    | non => cases ry; exact PySem.EqNone.ne_int_none (fin_bl I q (by simp))
    | int j => obtain ⟨t', rfl⟩ := ry; exact ne_int (fin_bl I q (congrArg not dec_int))
    | str j => obtain ⟨t', rfl⟩ := ry; exact PySem.EqMixed.ne_int_str (fin_bl I q (by simp))
    | _ => exact absurd (show false = true from hs) Bool.false_ne_true
  | str i =>
    obtain ⟨t, rfl⟩ := rx
    cases y with
    | non => cases ry; exact PySem.EqNone.ne_str_none (fin_bl I q (by simp))
    | bl j => cases ry; exact PySem.EqMixed.ne_str_bool (fin_bl I q (by simp))
    | int j => obtain ⟨t', rfl⟩ := ry; exact PySem.EqMixed.ne_str_int (fin_bl I q (by simp))
    | str j => obtain ⟨t', rfl⟩ := ry; exact ne_str (fin_bl I q (congrArg not dec_str))
    | _ => exact absurd (show false = true from hs) Bool.false_ne_true
  | byt i =>
    obtain ⟨t, rfl⟩ := rx
    cases y with
    | byt j => obtain ⟨t', rfl⟩ := ry; exact PySem.W.ne_bytes (fin_bl I q (congrArg not dec_byt))
    | _ => exact absurd (show false = true from hs) Bool.false_ne_true
  | _ => cases y <;> exact absurd (show false = true from hs) Bool.false_ne_true

theorem op_lt : OpR X (compareOp .Lt) (rI0 fun i j => .bl (decide (i < j))) := opB0 fun _ _ _ _ _ _ _ q => lt_int q
theorem op_gt : OpR X (compareOp .Gt) (rI0 fun i j => .bl (decide (j < i))) := opB0 fun _ _ _ _ _ _ _ q => gt_int q


/-- is, is not of two objects that are tracked lists or instances -/
def isObj : HO → Bool
  | .lst _ => true
  | .ins _ _ _ => true
  | _ => false


theorem nomark (b : Expr) {op : CmpOp} (h : op ≠ .In := by decide) (h2 : op ≠ .NotIn := by decide) : behindInMarks op b = false := by
  have e1 : (op == CmpOp.In) = false := by cases op <;> first | rfl | exact absurd rfl h
  have e2 : (op == CmpOp.NotIn) = false := by cases op <;> first | rfl | exact absurd rfl h2
  cases b <;> simp [behindInMarks, e1, e2]
/-- a comparison as a value; hm: nomark b, or (for in, not in) by with_unfolding_all rfl -/
theorem pe_cmpR {op : CmpOp} {r : R2} (ho : OpR X (compareOp op) r) (ha : PE X a ta) (hb : PE X b tb) (hm : behindInMarks op b = false) : PE X (.Compare a [op] [b] pos) (tOp r ta tb) := by
  intro pins s σ H Q I h
  exact wpAny_Compare1 (binT ha hb I h fun v u s2 x y H2 I2 rx ry q => ho pins s2 σ H2 x y v u Q I2 rx ry q) hm
/-- a reading of a value as a test -/
def tTest (t : TE) : TT := fun σ H Q => t σ H fun x H' => ∃ k, x = .bl k ∧ Q k H'
theorem pt_cmpR {op : CmpOp} {r : R2} (ho : OpR X (compareOp op) r) (ha : PE X a ta) (hb : PE X b tb) (hm : behindInMarks op b = false) : PT X (.Compare a [op] [b] pos) (tTest (tOp r ta tb)) := by
  intro pins s σ H Q I h
  refine wpAny_isTrue_Compare1 (thn (ha pins s σ H _ I h) fun v s1 ⟨x, H1, I1, r1, q1⟩ => thn (hb pins s1 σ H1 _ I1 q1) fun u s2 ⟨y, H2, I2, r2, q2⟩ =>
    thn (ho pins s2 σ H2 x y v u _ I2 r1 r2 q2) fun c s3 ⟨z, H3, I3, r3, k, e, q3⟩ => ?_) hm
  subst e
  cases r3
  exact wpAny_truthy_bool ⟨H3, I3, q3⟩
/-- a op1 b op2 c -/
def tChain (r r' : R2) (ta tb tc : TE) : TE := fun σ H Q => ta σ H fun x H1 => tb σ H1 fun y H2 => r x y H2 fun z H3 => ∃ k, z = .bl k ∧
  (if k = true then tc σ H3 fun w' H4 => r' y w' H4 Q else Q (.bl false) H3)

/-! ### truth -/
/-- a value's truth by the abstract heap -/
def TruV (K : PySem.W.Frag) (x : V) (H : Hp) (k : Bool) : Prop :=
  match x with
  | .non => k = false
  | .bl b => k = b
  | .int i => k = (i != 0)
  | .str y => y.length ≤ sizeLine ∧ k = ((y.length : Int) != 0)
  | .byt y => y.size ≤ sizeLine ∧ k = ((y.size : Int) != 0)
  | .ref p => (∃ xs, SqL K H p xs ∧ k = !xs.isEmpty) ∨ (∃ xs, SqT K H p xs ∧ k = !xs.isEmpty) ∨ ∃ kvs, H p = some (.dK kvs) ∧ k = !kvs.isEmpty
  | _ => False
theorem line63 : (sizeLine : Nat) < 2 ^ 63 := by rw [sizeLine_eq]; decide

/-! ### strs and bytes -/
theorem op_add_str : OpR X (binaryOp .Add) (fun x y H Q => ∃ i j, x = .str i ∧ y = .str j ∧ i.length + j.length ≤ sizeLine ∧ Q (.str (i ++ j)) H) := by
  intro pins s σ H x y v u Q I rx ry h
  obtain ⟨i, j, rfl, rfl, hz, q⟩ := h
  obtain ⟨t, rfl⟩ := rx
  obtain ⟨t', rfl⟩ := ry
  exact add_str (fun t' tk => ⟨.str (i ++ j), H, I.tok _, ⟨_, rfl⟩, q⟩) hz

def PlainIxT (b : Expr) : Prop := ∀ o i, subscripted b false o i = operate [o, i] (getItem o i)

/-! ### scalar builtins, by CallR -/
theorem vals1 {x : V} {us : List Value} (r : Vals [x] us) : ∃ u, us = [u] ∧ RelV x u := by
  cases r with
  | cons r1 r2 => cases r2; exact ⟨_, rfl, r1⟩
theorem vals2 {x y : V} {us : List Value} (r : Vals [x, y] us) : ∃ u w', us = [u, w'] ∧ RelV x u ∧ RelV y w' := by
  cases r with
  | cons r1 r2 =>
    cases r2 with
    | cons r3 r4 => cases r4; exact ⟨_, _, rfl, r1, r3⟩
theorem call_max2 (hc : X.calm = true) : CallR X (.builtin "max") (fun xs H Q => ∃ i j, xs = [.int i, .int j] ∧ Q (.int (if j > i then j else i)) H) := by
  intro pins s σ H xs us Q I r h
  obtain ⟨i, j, rfl, q⟩ := h
  obtain ⟨u, w', rfl, ⟨t, rfl⟩, ⟨t', rfl⟩⟩ := vals2 r
  refine max_two_ints (I.ok.hd hc) fun h' tk k => ⟨_, H, I.kept k, ?_, q⟩
  by_cases hj : j > i
  · rw [if_pos hj, if_pos hj]; exact ⟨_, rfl⟩
  · rw [if_neg hj, if_neg hj]; exact ⟨_, rfl⟩
theorem call_int1 : CallR X (.type "int") (fun xs H Q => (∃ i, xs = [.int i] ∧ Q (.int i) H) ∨ ∃ k, xs = [.bl k] ∧ Q (.int (if k then 1 else 0)) H) := by
  intro pins s σ H xs us Q I r h
  rcases h with ⟨i, rfl, q⟩ | ⟨k, rfl, q⟩
  · obtain ⟨u, rfl, t, rfl⟩ := vals1 r
    exact call_int_int ⟨.int i, H, I, ⟨_, rfl⟩, q⟩
  · obtain ⟨u, rfl, r1⟩ := vals1 r
    cases r1
    exact call_int_bool ⟨.int (if k then 1 else 0), H, I.tok _, ⟨_, rfl⟩, q⟩
/-- len of a str, a bytes, a list, a tuple -/
def LenV (K : PySem.W.Frag) (x : V) (H : Hp) (n : Nat) : Prop :=
  match x with
  | .str y => y.length ≤ sizeLine ∧ n = y.length
  | .byt y => y.size ≤ sizeLine ∧ n = y.size
  | .ref p => (∃ xs, SqL K H p xs ∧ n = xs.length) ∨ ∃ xs, SqT K H p xs ∧ n = xs.length
  | _ => False
end
end L2

namespace L2
open PySem PySem.Spec PyProof.Rows

/-! ### an instance, its attributes a map -/
structure ObjM (h : Heap) (x dx C : Addr) (mA : Str → Option Value) : Prop where
  obj : h.get? x = some (PySem.W.instObj C dx)
  ns : h.Ns1 dx mA
  ne : dx ≠ x

theorem lookIn_ns {h : Heap} {dx : Addr} {mA : Str → Option Value} (n : h.Ns1 dx mA) : ∃ od, h.get? dx = some od ∧ ∀ name, PySem.W.lookIn name od = some (mA name) := by
  obtain ⟨o, es, ep, ho, hd, hk, _, hm⟩ := n
  refine ⟨o, ho, fun name => ?_⟩
  have e := hm name
  unfold nsFind findBy at e
  rw [← Array.find?_toList] at e
  unfold PySem.W.lookIn
  rw [hd]
  dsimp only
  split
  · rename_i y q
    rw [q] at e
    exact congrArg some e
  · rename_i q
    rw [q] at e
    have a : es.toList.any (·.refKey) = false := by
      rw [List.any_eq_false]
      intro y hy
      obtain ⟨z, t, hkey⟩ := hk y (Array.mem_toList_iff.mp hy)
      simp [DictEntry.refKey, hkey]
    have a' : ¬ es.toList.any (·.refKey) = true := by rw [a]; exact Bool.false_ne_true
    rw [if_neg a']
    exact congrArg some e

theorem ObjM.look {h : Heap} {x dx C : Addr} {mA : Str → Option Value} (I : ObjM h x dx C mA) : ∃ od, PySem.W.InstAt h x (PySem.W.instObj C dx) C (some od) ∧ ∀ name, PySem.W.lookIn name od = some (mA name) :=
  let ⟨od, ho, hl⟩ := lookIn_ns I.ns
  ⟨od, ⟨I.obj, rfl, rfl, ho⟩, hl⟩

section
variable {prog : Program} {w : World} {A : Around} {E : Value → Shared → Prop} {s : Shared} {K : PySem.W.Frag} {x dx C f : Addr} {mA : Str → Option Value} {name : Str} {v : Value}





end

/-! ### the attributes as a list of pairs -/
def putF (f : Str) (v : V) : List (Str × V) → List (Str × V)
  | [] => [(f, v)]
  | (g, x) :: r => if g = f then (g, v) :: r else (g, x) :: putF f v r


section
variable {P : Program} {w : World} {H H' : Hp} {h h' : Heap} {a C dx : Addr} {fs fs' : List (Str × V)}
theorem ins_get (hok : HOk P w H h) (e : H a = some (.ins C dx fs)) : ∃ mA, ObjM h a dx C mA ∧ (∀ f, RelO (fs.lookup f) (mA f)) ∧ PySem.Within mA (fs.map (·.1)) ∧ fs.length ≤ 1000 ∧ H dx = some (.own a) := by
  obtain ⟨d, z, ne, ob, mA, n, r, q⟩ := (show ObjOk P w H h a (.ins C dx fs) from hok a _ e)
  exact ⟨mA, ⟨ob, n, ne⟩, r, q, z, d⟩
end

/-! ### what of the text a class must have -/
structure Cls (K : PySem.W.Frag) (C : Addr) : Prop where
  pg : PySem.W.plainGet K C Str.empty = true
  hd : PySem.W.hasDictIn K C = true
  po : PySem.W.plainOver K C = true
  sa : PySem.W.findIn K (.ref C) "__setattr__" = some (some (.builtin "object.__setattr__"))
theorem Cls.get {K : PySem.W.Frag} {C : Addr} (c : Cls K C) (f : Str) : PySem.W.plainGet K C f = true := c.pg
/-- no class of it has the name -/
def NoAttr (K : PySem.W.Frag) (C : Addr) (f : Str) : Prop := PySem.W.findIn K (.ref C) f = some none
/-- a constant of the class -/
structure Con (K : PySem.W.Frag) (C : Addr) (f : Str) (v : V) (u : Value) : Prop where
  at_ : PySem.W.findIn K (.ref C) f = some (some u)
  rel : RelV v u
  get : PySem.W.specialIn K u "__get__" = some none
  cp : PySem.W.copiedNames.contains f = false
/-- a method: a plain def of the class or of one above it -/
structure Meth (K : PySem.W.Frag) (C : Addr) (m : Str) (f : Addr) : Prop where
  at_ : PySem.W.findIn K (.ref C) m = some (some (.ref f))
  fn : PySem.W.isFn K (.ref f) = true
  kp : PySem.W.keepIn K (.ref f) = true

section
variable {X : Cx} {pins : List (Addr × Obj)} {σ : St} {H : Hp} {s : Shared} {a C dx : Addr} {fs : List (Str × V)} {f : Str} {v : V} {A : Around} {E : Value → Shared → Prop}






end

/-! ### readings and rules -/
/-- e.f, an attribute of the instance -/
def tFld (K : PySem.W.Frag) (ta : TE) (f : Str) : TE := fun σ H Q => ta σ H fun x H1 => ∃ a C dx fs v, x = .ref a ∧ H1 a = some (.ins C dx fs) ∧ Cls K C ∧ NoAttr K C f ∧ fs.lookup f = some v ∧ Q v H1
/-- e.f, a constant of the class -/
def tCon (K : PySem.W.Frag) (ta : TE) (f : Str) : TE := fun σ H Q => ta σ H fun x H1 => ∃ a C dx fs v u, x = .ref a ∧ H1 a = some (.ins C dx fs) ∧ Cls K C ∧ Con K C f v u ∧ fs.lookup f = none ∧ Q v H1
/-- e.f = value -/
def sFld (K : PySem.W.Frag) (ta tv : TE) (f : Str) : TS := fun D σ H => tv σ H fun y H1 => ta σ H1 fun x H2 => ∃ a C dx fs, x = .ref a ∧ H2 a = some (.ins C dx fs) ∧ Cls K C ∧ NoAttr K C f ∧ fs.length < 1000 ∧
  D.nx σ (upd H2 a (.ins C dx (putF f y fs)))
/-- an augmented operator on two values -/
def InOp (X : Cx) (op : Operator) (rd : V → V → Hp → VK → Prop) : Prop :=
  ∀ (pins : List (Addr × Obj)) (s : Shared) (σ : St) (H : Hp) (x y : V) (u v : Value) (Q : VK), Inv X pins σ H s → RelV x u → RelV y v → rd x y H Q → wpAny (model X.prog X.w) X.A (inplaceOp op u v) (EP X pins σ Q) X.xe s
/-- e.f op= value -/
def sFldAug (K : PySem.W.Frag) (ta tv : TE) (rd : V → V → Hp → VK → Prop) (f : Str) : TS := fun D σ H => ta σ H fun x H1 => ∃ a C dx fs v, x = .ref a ∧ H1 a = some (.ins C dx fs) ∧ Cls K C ∧ NoAttr K C f ∧ fs.lookup f = some v ∧
  tv σ H1 fun y H2 => rd v y H2 fun z H3 => ∃ dx' fs', H3 a = some (.ins C dx' fs') ∧ fs'.length < 1000 ∧ D.nx σ (upd H3 a (.ins C dx' (putF f z fs')))

section
variable {X : Cx} {o e value : Expr} {f : Str} {pos pos' tpos : Pos} {ta tv : TE}
def rAdd : V → V → Hp → VK → Prop := fun x y H Q => ∃ i j, x = .int i ∧ y = .int j ∧ Q (.int (i + j)) H
def rSub : V → V → Hp → VK → Prop := fun x y H Q => ∃ i j, x = .int i ∧ y = .int j ∧ Q (.int (i - j)) H

end

/-! ### isinstance -/
section
variable {X : Cx} {pins : List (Addr × Obj)} {σ : St} {H : Hp} {s : Shared} {A : Around} {E : Value → Shared → Prop} {Q : Value → Shared → Prop} {c : Value} {b : Bool}
/-- the type of a value, as the fragment's deciders take it; for an instance its class -/
inductive TyOf (K : PySem.W.Frag) (H : Hp) : V → Value → Prop where
  | non : TyOf K H .non (.type "NoneType")
  | bl (x : Bool) : TyOf K H (.bl x) (.type "bool")
  | int (i : Int) : TyOf K H (.int i) (.type "int")
  | str (x : Str) : TyOf K H (.str x) (.type "str")
  | flt (x : UInt64) : TyOf K H (.flt x) (.type "float")
  | lst {a : Addr} {xs : List V} (e : H a = some (.lst xs)) : TyOf K H (.ref a) (.type "list")
  | frz {a : Addr} {o : Obj} {xs : List V} (e : H a = some (.frz o (.lst xs))) : TyOf K H (.ref a) (.type "list")
  | tup {a : Addr} {xs : List V} (e : H a = some (.tup xs)) : TyOf K H (.ref a) (.type "tuple")
  | dK {a : Addr} {kvs : List (Key × V)} (e : H a = some (.dK kvs)) : TyOf K H (.ref a) (.type "dict")
  | dT {a : Addr} {kvs : List (List Key × V)} (e : H a = some (.dT kvs)) : TyOf K H (.ref a) (.type "dict")
  | ins {a C dx : Addr} {fs : List (Str × V)} (e : H a = some (.ins C dx fs)) (cl : Cls K C) (ha : PySem.W.findIn K (.ref C) "__class__" = some (some (.builtin "object.__class__")))
      (hn : PySem.W.specialIn K (.builtin "object.__class__") "__get__" = some (some (.builtin "getset_descriptor.__get__"))) (htk : PySem.W.takesIn K (.builtin "object.__class__") = some true)
      (hm : PySem.W.mroIn K C (.type "object") = some true) : TyOf K H (.ref a) (.ref C)
/-- isinstance(x, c) for one class c, a built-in or an own one: kitOne's answer -/
theorem isinst_ok {x : V} {u t : Value} (I : Inv X pins σ H s) (rx : RelV x u) (ty : TyOf X.K H x t) (e : PySem.W.kitOne X.K t c = some b) (h : ∀ tk, Q (.bool b) { s with toks := tk }) :
    wpAny (model X.prog X.w) A (call (.builtin "isinstance") [u, c]) Q E s := by
  cases ty with
  | non => cases (show u = Value.none from rx); exact PySem.W.kia_one PySem.W.kitx_none I.kIn True.intro e (fun z => nomatch z) h
  | bl y => cases (show u = Value.bool y from rx); exact PySem.W.kia_one PySem.W.kitx_bool I.kIn True.intro e (fun z => nomatch z) h
  | int i => obtain ⟨t, q⟩ := (show ∃ t, u = Value.int i t from rx); cases q; exact PySem.W.kia_one PySem.W.kitx_int I.kIn True.intro e (fun z => nomatch z) h
  | str y => obtain ⟨t, q⟩ := (show ∃ t, u = Value.str y t from rx); cases q; exact PySem.W.kia_one PySem.W.kitx_str I.kIn True.intro e (fun z => nomatch z) h
  | flt y => obtain ⟨t, q⟩ := (show ∃ t, u = Value.float y t from rx); cases q; exact PySem.W.kia_one PySem.W.kitx_float I.kIn True.intro e (fun z => nomatch z) h
  | @lst a xs ea =>
    cases (show u = Value.ref a from rx)
    obtain ⟨_, _, n, _, h1⟩ := (show ObjOk X.prog X.w H s.heap a (.lst xs) from I.hok a _ ea)
    exact PySem.W.kia_one PySem.W.kitx_list I.kIn ⟨_, h1, rfl⟩ e (fun z => nomatch z) h
  | @frz a ob xs ea =>
    cases (show u = Value.ref a from rx)
    obtain ⟨_, _, _, n, _, h1⟩ := (show ObjOk X.prog X.w H s.heap a (.frz ob (.lst xs)) from I.hok a _ ea)
    exact PySem.W.kia_one PySem.W.kitx_list I.kIn ⟨_, h1, rfl⟩ e (fun z => nomatch z) h
  | @tup a xs ea =>
    cases (show u = Value.ref a from rx)
    obtain ⟨_, _, _, p⟩ := (show ObjOk X.prog X.w H s.heap a (.tup xs) from I.hok a _ ea)
    obtain ⟨o, h1, h2, _⟩ := p
    exact PySem.W.kia_one PySem.W.kitx_tuple I.kIn ⟨o, h1, h2⟩ e (fun z => nomatch z) h
  | @dK a kvs ea =>
    cases (show u = Value.ref a from rx)
    obtain ⟨_, _, vs, _, p⟩ := (show ObjOk X.prog X.w H s.heap a (.dK kvs) from I.hok a _ ea)
    obtain ⟨o, es, ep, h1, h2, _⟩ := p
    exact PySem.W.kia_one PySem.W.kitx_dict I.kIn ⟨o, h1, h2.1⟩ e (fun z => nomatch z) h
  | @dT a kvs ea =>
    cases (show u = Value.ref a from rx)
    obtain ⟨_, _, xs, _, o, es, ep, h1, h2, _⟩ := (show ObjOk X.prog X.w H s.heap a (.dT kvs) from I.hok a _ ea)
    exact PySem.W.kia_one PySem.W.kitx_dict I.kIn ⟨o, h1, h2.1⟩ e (fun z => nomatch z) h
  | @ins a C dx fs ea cl ha hn htk hm =>
    cases (show u = Value.ref a from rx)
    obtain ⟨mA, O, _⟩ := ins_get I.hok ea
    obtain ⟨od, J, _⟩ := O.look
    exact PySem.W.kia_one (PySem.W.kitx_own (cl.get _) cl.hd ha hn htk hm) I.kIn J e (fun z => nomatch z) h
end
end L2

namespace L2
open PySem PySem.Spec PyProof.Rows

/-! ### room -/
structure Room (k : Nat) (A : Around) : Prop where
  hd : A.handled = none
  dp : A.depth + 3 * k + 5 < recursionLimit
  un : A.units + 16 * k + 200 < cLine
theorem Room.mono {j k : Nat} {A : Around} (r : Room k A) (h : j ≤ k) : Room j A := ⟨r.hd, by have := r.dp; omega, by have := r.un; omega⟩
theorem Room.deeper {k : Nat} {A : Around} (r : Room (k + 1) A) (env : Env) : Room k (A.deeper env) :=
  ⟨r.hd, by have := r.dp; show A.depth + 1 + 3 * k + 5 < _; omega, by have := r.un; show A.units + 3 + 16 * k + 200 < _; omega⟩
theorem Room.depth {k : Nat} {A : Around} (r : Room k A) : A.depth < recursionLimit := by have := r.dp; omega
theorem Room.units {k : Nat} {A : Around} (r : Room k A) : A.units + 64 < cLine := by have := r.un; omega

/-! ### argument lists and displays -/
def tNil : TA := fun _ H Q => Q [] H
def tCons (ta : TE) (tr : TA) : TA := fun σ H Q => ta σ H fun x H1 => tr σ H1 fun xs H2 => Q (x :: xs) H2
section
variable {X : Cx} {e : Expr} {es : List Expr} {te : TE} {t : TA} {pos : Pos}
theorem pa_nil : PA X [] tNil := fun _ _ _ _ H Q I h => Calls.spliced_nil ⟨[], H, I, .nil, h⟩
theorem pa_cons (ha : PE X e te) (hr : PA X es t) (hs : starEach (e :: es) X.env = (false, eval e X.env) :: starEach es X.env := by rfl) : PA X (e :: es) (tCons te t) := by
  intro pos pins s σ H Q I h
  rw [hs]
  show wpAny _ _ (spliced ((false, eval e X.env) :: backTo pos (starEach es X.env))) _ _ s
  refine Calls.spliced_cons (thn (ha pins s σ H _ I h) fun u s1 ⟨x, H1, I1, r1, q1⟩ => ?_)
  exact thn (hr pos pins s1 σ H1 _ I1 q1) fun us s2 ⟨xs, H2, I2, r2, q2⟩ => ⟨x :: xs, H2, I2, .cons r1 r2, q2⟩

/-- a tuple, a list of written items -/
def tTup (t : TA) : TE := fun σ H Q => t σ H fun xs H1 => xs.length ≤ sizeLine ∧ ∀ p, H1 p = none → Q (.ref p) (upd H1 p (.tup xs))
def tLst (t : TA) : TE := fun σ H Q => t σ H fun xs H1 => xs.length ≤ sizeLine ∧ ∀ p, H1 p = none → Q (.ref p) (upd H1 p (.lst xs))
theorem pe_tup {x1} (h : PA X es t) : PE X (.Tuple es x1 pos) (tTup t) := by
  intro pins s σ H Q I hq
  refine wpAny_Tuple_spliced (thn (h pos pins s σ H _ I hq) fun us s1 ⟨xs, H1, I1, r, z, q⟩ => ⟨by rw [← r.length]; exact z, ?_⟩)
  have hf : H1 s1.heap.objs.size = none := I1.hok.fresh (Nat.le_refl _)
  refine ⟨.ref s1.heap.objs.size, upd H1 s1.heap.objs.size (.tup xs), I1.laid (t' := s1.toks) (fun b u e => Heap.get?_push_of_some _ e) (Nat.le_refl _) ?_, rfl, q _ hf⟩
  exact ⟨z, us, r, ⟨_, Heap.get?_push_size _ rfl, rfl, _, rfl⟩⟩
theorem pe_lst (h : PA X es t) : PE X (.List es pos) (tLst t) := by
  intro pins s σ H Q I hq
  refine wpAny_List_spliced (thn (h pos pins s σ H _ I hq) fun us s1 ⟨xs, H1, I1, r, z, q⟩ => ⟨by rw [← r.length]; exact z, ?_⟩)
  have hf : H1 s1.heap.objs.size = none := I1.hok.fresh (Nat.le_refl _)
  refine ⟨.ref s1.heap.objs.size, upd H1 s1.heap.objs.size (.lst xs), I1.laid (t' := s1.toks) (fun b u e => Heap.get?_push_of_some _ e) (Nat.le_refl _) ?_, rfl, q _ hf⟩
  exact ⟨z, us, 0, r, Heap.get?_push_size _ rfl⟩
end

/-! ### what a def promises -/
/-- a def's promise: the bound arguments in the parameters' order, the heap, the wanted end, the wanted exception -/
abbrev Sp := List V → Hp → VK → XK → Prop
/-- how an exception lies behind a call (file 08 gives it): the callers' frames, abstract heap and state ahead of the call, the wish, the exception, the state -/
abbrev CXT := List Env → Hp → Shared → XK → Value → Shared → Prop

/-- the state at a call -/
structure Env0 (P : Program) (w : World) (K : PySem.W.Frag) (mg : Str → Option Value) (base : Heap) (A : Around) (outer : List Env) (s : Shared) (H : Hp) : Prop where
  frames : A.frames = some outer
  mod : Mod K mg base
  bs : ∀ b o, base.get? b = some o → s.heap.get? b = some o ∧ H b = none
  bsz : base.objs.size ≤ s.heap.objs.size
  funs : s.heap.FunFrames base outer
  frf : ∀ b ∈ frs outer, H b = none
  hok : HOk P w H s.heap
  bare : AllBare s.gens
/-- a call's end -/
def CE (outer : List Env) (P : Program) (w : World) (H : Hp) (s : Shared) (Q : VK) (u : Value) (s' : Shared) : Prop :=
  ∃ v H', s'.os = s.os ∧ AllBare s'.gens ∧ Un (frs outer) [] H H' s.heap s'.heap ∧ HOk P w H' s'.heap ∧ RelV v u ∧ Q v H'
def CR (CX : CXT) (outer : List Env) (P : Program) (w : World) (H : Hp) (s : Shared) (Q : VK) (E : XK) (r : Result) (s' : Shared) : Prop :=
  match r with
  | .ok (.ret u) => CE outer P w H s Q u s'
  | .ok _ => False
  | .error e => CX outer H s E e s'
structure FnOk (P : Program) (w : World) (K : PySem.W.Frag) (mg : Str → Option Value) (base : Heap) (CX : CXT) (k : Nat) (f : Addr) (fd : FuncData) (ps : List Str) (sp : Sp) : Prop where
  len : ∀ vs H Q E, sp vs H Q E → vs.length = ps.length
  run : ∀ (A : Around) (outer : List Env) (s : Shared) (H : Hp) (args : Args) (us : List Value) (vs : List V) (Q : VK) (E : XK), Room k A → Env0 P w K mg base A outer s H → BindsTo s fd args (ps.zip us) → Vals vs us → sp vs H Q E →
    codeAny (model P w) A (.call (.ref f) args) (CR CX outer P w H s Q E) s


section
variable {X : Cx} {pins : List (Addr × Obj)} {σ : St} {H : Hp} {s s' : Shared}
/-- from a body: what a callee wants -/
theorem Inv.env0 (I : Inv X pins σ H s) : Env0 X.prog X.w X.K X.mg X.base X.A X.stack s H :=
  ⟨I.ok.frames, I.ok.mod, I.bs, Nat.le_trans I.ok.bsz I.sz, I.stack, I.stkFree, I.hok, I.bare⟩
/-- behind a call -/
theorem Inv.after {Q : VK} {u : Value} (I : Inv X pins σ H s) (h : CE X.stack X.prog X.w H s Q u s') : EP X pins σ Q u s' := by
  obtain ⟨v, H', os, bare, un, hok, r, q⟩ := h
  obtain ⟨hh, g, d, t, os'⟩ := s'
  obtain rfl : os' = s.os := os
  exact ⟨v, H', I.call (h' := hh) (g' := g) (d' := d) (t' := t) (ch := []) un hok bare (fun b z => absurd z (by simp)), r, q⟩
end

/-! ### calls -/
/-- f(..): the written arguments, then the defaults dvs; E: what is wanted of an exception -/
def tCall (sp : Sp) (dvs : List V) (E : XK) (t : TA) : TE := fun σ H Q => t σ H fun vs H1 => sp (vs ++ dvs) H1 Q E
/-- o.m(..) of an instance of the class at C -/
def tMeth (C : Addr) (m : Str) (sp : Sp) (dvs : List V) (E : XK) (ta : TE) (t : TA) : TE := fun σ H Q => ta σ H fun x H1 => ∃ a dx fs, x = .ref a ∧ H1 a = some (.ins C dx fs) ∧ fs.lookup m = none ∧
  t σ H1 fun vs H2 => sp (x :: (vs ++ dvs)) H2 Q E
/-- C(..): a new instance and its dict, then __init__ -/
def tMake (C : Addr) (sp : Sp) (dvs : List V) (E : XK) (t : TA) : TE := fun σ H Q => t σ H fun vs H1 => ∀ x dx, H1 x = none → H1 dx = none → dx ≠ x →
  sp (.ref x :: (vs ++ dvs)) (upd (upd H1 dx (.own x)) x (.ins C dx [])) (fun v H2 => v = .non ∧ Q (.ref x) H2) E

/-- how the parameters are bound: us the positional arguments, kw the keywords' values by name, ds the defaults that fill up -/
def Binds (K : PySem.W.Frag) (fd : FuncData) (ps : List Str) (ds : List Value) : Prop :=
  ∀ (s : Shared) (us : List Value), K.In s.heap → (us ++ ds).length = ps.length → BindsTo s fd ⟨us, []⟩ (ps.zip (us ++ ds))
/-- every parameter is given -/
theorem Binds.all {K : PySem.W.Frag} {fd : FuncData} {ps : List Str} (h : ∀ us : List Value, us.length = ps.length → bindArgs fd ⟨us, []⟩ = pure (ps.zip us)) : Binds K fd ps [] := fun s us _ hl => by
  rw [List.append_nil] at hl ⊢
  exact .of_eq (h us hl)

/-- an exception of a callee reaches what this body wants of exceptions -/
def Passes (CX : CXT) (X : Cx) (E : XK) : Prop := ∀ (pins : List (Addr × Obj)) (σ : St) (H : Hp) (s : Shared) (e : Value) (s' : Shared), Inv X pins σ H s → CX X.stack H s E e s' → X.xe e s'

section
variable {X : Cx} {CX : CXT} {k : Nat} {f C : Addr} {fd : FuncData} {ps : List Str} {sp : Sp} {dvs : List V} {ds : List Value} {E : XK} {x m : Str} {p pos apos : Pos} {e o : Expr} {es : List Expr} {ta : TE} {t : TA}

/-- the callee runs -/
theorem run_fn {pins : List (Addr × Obj)} {σ : St} {H : Hp} {s : Shared} {Q : VK} {us : List Value} {vs : List V} (F : FnOk X.prog X.w X.K X.mg X.base CX k f fd ps sp) (hr : Room k X.A) (hb : Binds X.K fd ps ds) (hd : Vals dvs ds) (hx : Passes CX X E)
    (I : Inv X pins σ H s) (r : Vals vs us) (h : sp (vs ++ dvs) H Q E) : wpAny (model X.prog X.w) X.A (call (.ref f) us) (EP X pins σ Q) X.xe s := by
  have r2 : Vals (vs ++ dvs) (us ++ ds) := r.append hd
  have hl : (us ++ ds).length = ps.length := by rw [← r2.length]; exact F.len _ _ _ _ h
  refine wpAny_call (codeAny_mono (F.run X.A X.stack s H ⟨us, []⟩ (us ++ ds) (vs ++ dvs) Q E hr I.env0 (hb s us I.kIn hl) r2 h) fun r s' hq => ?_)
  cases r with
  | error e => exact hx pins σ H s e s' I hq
  | ok fl =>
    cases fl with
    | ret u => exact I.after hq
    | next => exact False.elim hq
    | brk => exact False.elim hq
    | cont => exact False.elim hq

theorem pe_call (F : FnOk X.prog X.w X.K X.mg X.base CX k f fd ps sp) (hr : Room k X.A) (hg : Gl X x) (hm : X.mg x = some (.ref f)) (hk : PySem.W.keepIn X.K (.ref f) = true) (hb : Binds X.K fd ps ds) (hd : Vals dvs ds) (hx : Passes CX X E)
    (ha : PA X (e :: es) t) (hdb : (x == ("__debug__" : Str)) = false := by decide) (he : starEach (e :: es) X.env = (false, eval e X.env) :: starEach es X.env := by rfl) (hpl : (backTo pos (starEach es X.env)).any (·.1) = false := by rfl) :
    PE X (.Call (.Name x p) (e :: es) [] pos) (tCall sp dvs E t) := by
  intro pins s σ H Q I h
  refine wpAny_Call_Name_kw (ld_glob I hg hm ?_ hdb)
  refine PySem.W.callWith_K (h₀ := X.base) I.ok.mod.kin hk (thn (ha pos pins s σ H _ I h) fun us s1 ⟨vs, H1, I1, r, q⟩ => ⟨I1.kIn, ?_⟩) he hpl
  exact run_fn F hr hb hd hx I1 r q


/-- what a class must have to be made -/
structure Mk (K : PySem.W.Frag) (C f : Addr) : Prop where
  makes : PySem.W.makesIn K C = true
  init : PySem.W.findIn K (.ref C) "__init__" = some (some (.ref f))
  fn : PySem.W.isFn K (.ref f) = true
  kp : PySem.W.keepIn K (.ref C) = true

end

/-! ### keywords -/
/-- the values of the keywords, from the left -/
def PK (X : Cx) (kws : List Keyword) (t : TA) : Prop :=
  ∀ (pos : Pos) (pins : List (Addr × Obj)) (s : Shared) (σ : St) (H : Hp) (Q : List V → Hp → Prop), Inv X pins σ H s → t σ H Q → wpAny (model X.prog X.w) X.A (evalAll ((backToKw pos (keywordEach kws X.env)).map (·.2))) (AP X pins σ Q) X.xe s
section
variable {X : Cx} {CX : CXT} {k : Nat} {f C : Addr} {fd : FuncData} {ps ks : List Str} {sp : Sp} {E : XK} {x m : Str} {p pos apos kpos : Pos} {e o : Expr} {es : List Expr} {kws : List Keyword} {te ta : TE} {t tk : TA} {nm : Option Str}

/-- how a call with keywords binds: g puts the positional values us and the keywords' values ws (names ks) in the parameters' order, defaults among them -/
structure KBinds (K : PySem.W.Frag) (fd : FuncData) (ps ks : List Str) (g : List Value → List Value → List Value) (gV : List V → List V → List V) : Prop where
  to : ∀ (s : Shared) (us ws : List Value), K.In s.heap → (g us ws).length = ps.length → BindsTo s fd ⟨us, ks.zip ws⟩ (ps.zip (g us ws))
  rel : ∀ {vs : List V} {us : List Value} {zs : List V} {ws : List Value}, Vals vs us → Vals zs ws → Vals (gV vs zs) (g us ws)
def tCallK (sp : Sp) (gV : List V → List V → List V) (E : XK) (t tk : TA) : TE := fun σ H Q => t σ H fun vs H1 => tk σ H1 fun zs H2 => sp (gV vs zs) H2 Q E
variable {g : List Value → List Value → List Value} {gV : List V → List V → List V}
end

/-! ### a def's body keeps its promise -/
/-- names: the parameters first -/
structure FnScope (N P : List Str) (sc : Scope) : Prop where
  kind : sc.kind = .function
  co : sc.isCoroutine = false
  gen : sc.isGenerator = false
  nd : N.Nodup
  pre : N.take P.length = P
  par : ∀ x ∈ P, sc.names.lookup x = some .local ∨ sc.names.lookup x = some .cell
  nofree : ∀ y ∈ sc.names, y.2 ≠ .free

theorem bindL_out {kindOf : Str → Option NameKind} {x : Str} : ∀ {binds : List (Str × Value)} {m : Str → Option Value}, (∀ v, (x, v) ∉ binds) → bindL kindOf binds m x = m x
  | [], _, _ => rfl
  | (n, v) :: r, m, h => by
    unfold bindL
    rw [bindL_out fun w hw => h w (List.mem_cons_of_mem _ hw)]
    split
    · have : x ≠ n := by rintro rfl; exact h v List.mem_cons_self
      simp [this]
    · rfl
theorem bindC_out {kindOf : Str → Option NameKind} {x : Str} : ∀ {binds : List (Str × Value)} {m : Str → Option Value}, (∀ v, (x, v) ∉ binds) → bindC kindOf binds m x = m x
  | [], _, _ => rfl
  | (n, v) :: r, m, h => by
    unfold bindC
    rw [bindC_out fun w hw => h w (List.mem_cons_of_mem _ hw)]
    split
    · rfl
    · have : x ≠ n := by rintro rfl; exact h v List.mem_cons_self
      simp [this]
theorem bindL_get {kindOf : Str → Option NameKind} {x : Str} {v : Value} : ∀ {P : List Str} {vs : List Value} {i : Nat} {m : Str → Option Value}, P.Nodup → P[i]? = some x → vs[i]? = some v → kindOf x = some .local →
    bindL kindOf (P.zip vs) m x = some v
  | [], _, _, _, _, h, _, _ => by simp at h
  | _ :: _, [], _, _, _, _, h, _ => by simp at h
  | p :: P, w :: vs, 0, m, nd, h1, h2, hk => by
    simp at h1 h2; subst h1; subst h2
    show bindL kindOf ((p, w) :: P.zip vs) m p = _
    unfold bindL
    rw [bindL_out fun v hv => (List.nodup_cons.mp nd).1 (List.of_mem_zip hv).1, if_pos hk]
    simp
  | p :: P, w :: vs, i + 1, m, nd, h1, h2, hk => by
    show bindL kindOf ((p, w) :: P.zip vs) m x = _
    unfold bindL
    exact bindL_get (i := i) (List.nodup_cons.mp nd).2 (by simpa using h1) (by simpa using h2) hk
theorem bindC_get {kindOf : Str → Option NameKind} {x : Str} {v : Value} : ∀ {P : List Str} {vs : List Value} {i : Nat} {m : Str → Option Value}, P.Nodup → P[i]? = some x → vs[i]? = some v → kindOf x ≠ some .local →
    bindC kindOf (P.zip vs) m x = some v
  | [], _, _, _, _, h, _, _ => by simp at h
  | _ :: _, [], _, _, _, _, h, _ => by simp at h
  | p :: P, w :: vs, 0, m, nd, h1, h2, hk => by
    simp at h1 h2; subst h1; subst h2
    show bindC kindOf ((p, w) :: P.zip vs) m p = _
    unfold bindC
    rw [bindC_out fun v hv => (List.nodup_cons.mp nd).1 (List.of_mem_zip hv).1, if_neg hk]
    simp
  | p :: P, w :: vs, i + 1, m, nd, h1, h2, hk => by
    show bindC kindOf ((p, w) :: P.zip vs) m x = _
    unfold bindC
    exact bindC_get (i := i) (List.nodup_cons.mp nd).2 (by simpa using h1) (by simpa using h2) hk

/-- the names' values at the entry -/
def start (N : List Str) (vs : List V) : St := vs.map some ++ List.replicate (N.length - vs.length) none

/-- the context of a def's body, at its entry; an exception leaves the frame, then lies as CX says -/
def cxOf (CX : CXT) (P : Program) (w : World) (K : PySem.W.Frag) (mg : Str → Option Value) (base : Heap) (N : List Str) (qual : Str) (scope : Scope) (f : Addr) (cd : Value) (A : Around) (outer : List Env) (s : Shared) (H : Hp) (E : XK) : Cx where
  prog := P
  w := w
  K := K
  mg := mg
  base := base
  A := A.deeper (envOfC qual scope s.heap.objs.size f cd)
  N := N
  s₀ := s
  H₀ := H
  env := envOfC qual scope s.heap.objs.size f cd
  outer := outer
  stack := envOfC qual scope s.heap.objs.size f cd :: outer
  ex := []
  calm := true
  fn := fun _ => true
  pn := []
  xe := fun e s' => wpAny (model P w) (A.deeper (envOfC qual scope s.heap.objs.size f cd)) (leaving (envOfC qual scope s.heap.objs.size f cd) e) (fun _ s'' => CX outer H s E e s'') (fun e' s'' => CX outer H s E e' s'') s'

theorem cell_has {sc : Scope} {n : Nat} {x : Str} (h : sc.names.lookup x = some .cell) : ∃ c, (cellsFrom n sc.names []).lookup x = some c := by
  have q := PySem.W.cellsFrom_some sc.names n [] (.inl h)
  exact Option.isSome_iff_exists.mp q

theorem inv_start {CX : CXT} {P : Program} {w : World} {K : PySem.W.Frag} {mg : Str → Option Value} {base : Heap} {N ps : List Str} {qual : Str} {scope : Scope} {f : Addr} {cd : Value} {A : Around} {outer : List Env} {s s1 : Shared} {H : Hp} {E : XK} {us : List Value} {vs : List V}
    (S : FnScope N ps scope) (hd : A.handled = none) (e0 : Env0 P w K mg base A outer s H) (hl : vs.length = ps.length) (r : Vals vs us)
    (x : InCallC s s.heap.objs.size (bindL (envOfC qual scope s.heap.objs.size f cd).kindOf (ps.zip us) fun _ => none) (cellsFrom (s.heap.objs.size + 1) scope.names []) (bindC (envOfC qual scope s.heap.objs.size f cd).kindOf (ps.zip us) fun _ => none) s1) :
    Inv (cxOf CX P w K mg base N qual scope f cd A outer s H E) [] (start N vs) H s1 := by
  have hpl : ps.length ≤ N.length := by have := congrArg List.length S.pre; rw [List.length_take] at this; omega
  obtain ⟨h1, tk, rfl, hk⟩ := x.done
  have noA : ∀ b : Addr, b ∉ (cxOf CX P w K mg base N qual scope f cd A outer s H E).ex := fun b z => absurd (show b ∈ ([] : List Addr) from z) (by simp)
  refine ⟨⟨e0.mod, S.kind, rfl, rfl, Nat.le_refl _, fun y z c h1 h2 => ?_, fun y hy => ?_, fun y c _ h => ?_, fun _ => hd, Around.frames_deeper e0.frames, .inr ⟨rfl, rfl⟩, fun b z => absurd z (noA b), e0.bs, e0.bsz, fun b _ _ => noA b, fun b z => absurd z (noA b), e0.funs, e0.frf⟩,
    rfl, e0.bare, Un.kept hk, ⟨_, x.toInCall.ns, fun i y v h1 h2 h3 => ?_⟩, fun y c h => ⟨_, x.cell y c h⟩, e0.hok.fresh (Nat.le_refl _), fun y c h => ?_, fun p hp => absurd (show p ∈ ([] : List (Addr × Obj)) from hp) (by simp), e0.hok.kept hk, ?_⟩
  · exact name_of_addr x.apart (PySem.mem_of_lookup h1) (PySem.mem_of_lookup h2)
  · have hy : scope.names.lookup y = some .cell ∨ scope.names.lookup y = some .free := hy
    rcases hy with hy | hy
    · exact cell_has hy
    · exact absurd rfl (S.nofree _ (PySem.mem_of_lookup hy))
  · exact Nat.le_of_lt (x.above y c (PySem.mem_of_lookup h))
  · have hi : i < vs.length := by
      unfold start at h2
      by_cases hi : i < vs.length
      · exact hi
      · rw [List.getElem?_append_right (by simpa using hi)] at h2
        rw [List.getElem?_replicate] at h2
        split at h2 <;> cases h2
    have ha : vs[i]? = some v := by
      unfold start at h2
      rw [List.getElem?_append_left (by simpa using hi), List.getElem?_map] at h2
      cases e : vs[i]? with
      | none => rw [e] at h2; cases h2
      | some a => rw [e] at h2; cases h2; rfl
    obtain ⟨u, hu, rv⟩ := r.get ha
    have hp : ps[i]? = some y := by
      rw [← S.pre, List.getElem?_take_of_lt (by omega)]; exact h1
    have ndP : ps.Nodup := by rw [← S.pre]; exact S.nd.sublist (List.take_sublist _ _)
    refine ⟨u, rv, ?_⟩
    rcases S.par y (List.mem_of_getElem? hp) with k | k
    · exact .inl ⟨k, bindL_get ndP hp hu k⟩
    · obtain ⟨c, e⟩ := cell_has (n := s.heap.objs.size + 1) k
      refine .inr ⟨.inl k, c, e, ?_⟩
      have q := x.cell y c e
      rw [bindC_get ndP hp hu (by show scope.names.lookup y ≠ _; rw [k]; decide)] at q
      exact q
  · exact e0.hok.fresh (Nat.le_of_lt (x.above y c (PySem.mem_of_lookup h)))
  · unfold start
    show _ = N.length
    rw [List.length_append, List.length_map, List.length_replicate]
    omega

/-- THE RULE: a def (or a method) of the text, by its body. The body's reading t is chosen for each entry; it is run at the parameters' values -/
theorem fn_of {CX : CXT} {P : Program} {w : World} {K : PySem.W.Frag} {mg : Str → Option Value} {base : Heap} {k : Nat} {f : Addr} {name qual : Str} {params : Arguments} {body : List Stmt} {scope : Scope} {dV kV doc pm cdv ct oc : Value} {an od : Option Addr}
    {osl : Array (Option Value)} {N ps : List Str} {sp : Sp} (lk : K.lookup f = some ⟨oc, od, .func (PySem.W.fnOf name qual params body scope dV kV doc pm an cdv ct), osl⟩) (hcd : PySem.W.codeIn K cdv qual = true) (S : FnScope N ps scope)
    (len : ∀ vs H Q E, sp vs H Q E → vs.length = ps.length)
    (hbody : ∀ (A : Around) (outer : List Env) (s : Shared) (H : Hp) (vs : List V) (Q : VK) (E : XK), Room k (A.deeper (envOfC qual scope s.heap.objs.size f cdv)) → sp vs H Q E →
      ∃ t, PSs (cxOf CX P w K mg base N qual scope f cdv A outer s H E) body t ∧ t { nx := fun _ H' => Q .non H', rt := Q } (start N vs) H) :
    FnOk P w K mg base CX (k + 1) f (PySem.W.fnOf name qual params body scope dV kV doc pm an cdv ct) ps sp := by
  refine ⟨len, fun A outer s H args us vs Q E hr e0 hb r hsp => ?_⟩
  have hl := len _ _ _ _ hsp
  have KX : K.In s.heap := e0.mod.kin.keeps fun b o e => (e0.bs b o e).1
  have lim : s.heap.NoLimit := e0.mod.nolimit.keeps fun b o e => (e0.bs b o e).1
  have hkind : ∀ y ∈ ps.zip us, scope.names.lookup y.1 = some .local ∨ (scope.names.lookup y.1 = some .cell ∧ ((cellsFrom (s.heap.objs.size + 1) scope.names []).lookup y.1).isSome = true) := fun ⟨n, v⟩ hy => by
    rcases S.par n (List.of_mem_zip hy).1 with q | q
    · exact .inl q
    · exact .inr ⟨q, PySem.W.cellsFrom_some _ _ _ (.inl q)⟩
  refine codeAny_call_function hr.depth (KX _ _ lk) rfl S.co S.gen rfl (PySem.W.codeRec_of KX hcd) (hb _ _ _ _ ?_)
  refine wpAny_newFunctionEnv_cells S.kind hkind fun env he s1 x => ?_
  subst he
  refine ⟨lim.keeps x.toInCall.keep, codeAny_func ?_⟩
  obtain ⟨t, ht, hq⟩ := hbody A outer s H vs Q E (hr.deeper _) hsp
  have I : Inv (cxOf CX P w K mg base N qual scope f cdv A outer s H E) [] (start N vs) H s1 := inv_start S hr.hd e0 hl r x
  refine wpAny_mono (ht [] s1 (start N vs) H _ I hq) (fun fl s' hs => ?_) fun e s' hs => hs
  have fin : ∀ {σ' : St} {H' : Hp} {v : V} {u : Value}, Inv (cxOf CX P w K mg base N qual scope f cdv A outer s H E) [] σ' H' s' → RelV v u → Q v H' → CE outer P w H s Q u s' :=
    fun {σ' H' v u} J rv q => ⟨v, H', J.os, J.bare, J.base, J.hok, rv, q⟩
  cases fl with
  | ret u =>
    obtain ⟨v, σ', H', J, rv, q⟩ := hs
    exact fin J rv q
  | next =>
    obtain ⟨σ', H', J, q⟩ := hs
    exact fin (v := V.non) (u := Value.none) J rfl q
  | brk =>
    obtain ⟨_, _, _, q⟩ := hs
    exact False.elim q
  | cont =>
    obtain ⟨_, _, _, q⟩ := hs
    exact False.elim q
end L2

namespace L2
open PySem PySem.Spec PyProof.Rows
section
variable {X : Cx} {x : Str} {p pos : Pos} {e : Expr} {es : List Expr} {t : TA} {id T : String} {r : List V → Hp → VK → Prop}

def tCB (r : List V → Hp → VK → Prop) (t : TA) : TE := fun σ H Q => t σ H fun vs H1 => r vs H1 Q
/-- f(e, ..), f a built-in function -/
theorem pe_callB (hc : CallR X (.builtin id) r) (hg : Gl X x) (hm : X.mg x = none) (hv : bootBuiltins x = some (.builtin id)) (ha : PA X (e :: es) t) (hn : x ≠ "__name__" := by decide) (hdb : (x == ("__debug__" : Str)) = false := by decide)
    (he : starEach (e :: es) X.env = (false, eval e X.env) :: starEach es X.env := by rfl) (hpl : (backTo pos (starEach es X.env)).any (·.1) = false := by rfl) : PE X (.Call (.Name x p) (e :: es) [] pos) (tCB r t) := by
  intro pins s σ H Q I h
  refine wpAny_Call_Name_kw (ld_blt I hg hm hv ?_ hn hdb)
  exact PyProof.Rows.callWith_builtin1 (thn (ha pos pins s σ H _ I h) fun us s1 ⟨vs, H1, I1, r1, q1⟩ => hc pins s1 σ H1 vs us Q I1 r1 q1) he hpl
/-- T(e, ..), T a built-in type -/
theorem pe_callTy (hc : CallR X (.type T) r) (hg : Gl X x) (hm : X.mg x = none) (hv : bootBuiltins x = some (.type T)) (ha : PA X (e :: es) t) (hn : x ≠ "__name__" := by decide) (hdb : (x == ("__debug__" : Str)) = false := by decide)
    (he : starEach (e :: es) X.env = (false, eval e X.env) :: starEach es X.env := by rfl) (hpl : (backTo pos (starEach es X.env)).any (·.1) = false := by rfl) : PE X (.Call (.Name x p) (e :: es) [] pos) (tCB r t) := by
  intro pins s σ H Q I h
  refine wpAny_Call_Name_kw (ld_blt I hg hm hv ?_ hn hdb)
  exact PyProof.Rows.callWith_type1 (thn (ha pos pins s σ H _ I h) fun us s1 ⟨vs, H1, I1, r1, q1⟩ => hc pins s1 σ H1 vs us Q I1 r1 q1) he hpl
end
end L2

namespace HT
open PySem PyProof.Rows

/-- t < u of tuples of ints -/
def lexLt : List Int → List Int → Bool
  | [], [] => false
  | [], _ :: _ => true
  | _ :: _, [] => false
  | x :: xs, y :: ys => if x = y then lexLt xs ys else decide (x < y)


section
open PySem.SeqAt
open PySem.AutoSeq1 (wpAny_loadPart')
open PySem.MeetsSeq PySem.MeetsSeq2 PySem.MeetsSeq3

end

section
variable {prog : Program} {w : World} {A : Around} {E : Value → Shared → Prop} {s : Shared}



/-! ### t[a:b], not the whole -/
/-- a slice's bound as a place among n (d where it is left out) -/
def sIx (n d : Nat) : Option Int → Nat
  | none => d
  | some v => if v < 0 then (v + (n : Int)).toNat else min v.toNat n

end
end HT

namespace L2
open PySem PySem.Spec PyProof.Rows

/-! ### the parts of a slice -/
abbrev TO := St → Hp → (Option Int → Hp → Prop) → Prop
/-- a slice's part (left out, or an int) -/
def PO (X : Cx) (e : Option Expr) (t : TO) : Prop :=
  ∀ (pins : List (Addr × Obj)) (s : Shared) (σ : St) (H : Hp) (Q : Option Int → Hp → Prop), Inv X pins σ H s → t σ H Q →
    wpAny (model X.prog X.w) X.A (evalPart e X.env) (fun u s' => ∃ o H', Inv X pins σ H' s' ∧ IsPart u o ∧ Q o H') X.xe s
def tNoPart : TO := fun _ H Q => Q none H
def tPart (t : TE) : TO := fun σ H Q => t σ H fun x H1 => ∃ i, x = .int i ∧ Q (some i) H1


section
variable {X : Cx} {e : Expr} {te : TE} {lo hi : Option Expr} {tl th : TO} {pos p2 : Pos}


/-- what a slice of a value is, by values: the slice object stands at sl -/
def SlR (X : Cx) (r : V → Option Int → Option Int → Hp → VK → Prop) : Prop :=
  ∀ (pins : List (Addr × Obj)) (s : Shared) (σ : St) (H : Hp) (x : V) (v vl vu : Value) (lo hi : Option Int) (sl : Addr) (Q : VK), Inv X pins σ H s → RelV x v → s.heap.IsSliceOf sl vl vu .none → IsPart vl lo → IsPart vu hi → r x lo hi H Q →
    ∃ T id, typeLookup (.type T) "__getitem__" = pure (some (.builtin id)) ∧ s.TypeIs v T ∧ wpAny (model X.prog X.w) X.A (getItem v (.ref sl)) (EP X pins σ Q) X.xe s
def tSl (r : V → Option Int → Option Int → Hp → VK → Prop) (te : TE) (tl th : TO) : TE := fun σ H Q => te σ H fun x H1 => tl σ H1 fun l H2 => th σ H2 fun u H3 => r x l u H3 Q

/-- the items of xs[lo:hi] -/
def cutV (xs : List V) (lo hi : Option Int) : List V := (xs.drop (HT.sIx xs.length 0 lo)).take (HT.sIx xs.length xs.length hi - HT.sIx xs.length 0 lo)
/-- t[lo:hi], not the whole of it (the whole would be t itself) -/
def rSlT (K : PySem.W.Frag) : V → Option Int → Option Int → Hp → VK → Prop := fun x lo hi H Q => ∃ a xs, x = .ref a ∧ SqT K H a xs ∧
  ¬ (HT.sIx xs.length 0 lo = 0 ∧ HT.sIx xs.length xs.length hi = xs.length) ∧ ∀ p, H p = none → Q (.ref p) (upd H p (.tup (cutV xs lo hi)))

/-! ### t < u, t + u -/
def rLtT (K : PySem.W.Frag) : R2 := fun x y H Q => ∃ a b ns ms, x = .ref a ∧ y = .ref b ∧ SqT K H a (ns.map V.int) ∧ SqT K H b (ms.map V.int) ∧ Q (.bl (HT.lexLt ns ms)) H
/-- t + u, t not empty: u empty gives t itself -/
def rCatT (K : PySem.W.Frag) : R2 := fun x y H Q => ∃ a b xs ys, x = .ref a ∧ y = .ref b ∧ SqT K H a xs ∧ SqT K H b ys ∧ xs ≠ [] ∧ xs.length + ys.length ≤ sizeLine ∧
  (ys = [] → Q (.ref a) H) ∧ (ys ≠ [] → ∀ p, H p = none → Q (.ref p) (upd H p (.tup (xs ++ ys))))
end
end L2

namespace L2
open PySem PySem.Spec PyProof.Rows

/-! ### places -/
/-- the place that an index of any sign means -/
def ixN (n : Nat) (i : Int) : Option Nat := if 0 ≤ i then (if i < n then some i.toNat else none) else if -(n : Int) ≤ i then some (i + n).toNat else none
def atI {α : Type} (xs : List α) (i : Int) : Option α := (ixN xs.length i).bind fun j => xs[j]?
theorem ixN_seq {n : Nat} {i : Int} {j : Nat} (h : ixN n i = some j) : seqIndex? i n = some j ∧ j < n ∧ -(n : Int) ≤ i ∧ i < n := by
  unfold ixN at h
  by_cases h0 : 0 ≤ i
  · rw [if_pos h0] at h
    by_cases h1 : i < n
    · rw [if_pos h1] at h
      have e : i.toNat = j := Option.some.inj h
      exact ⟨by rw [seqIndex_of h0 h1, e], by omega, by omega, h1⟩
    · rw [if_neg h1] at h; cases h
  · rw [if_neg h0] at h
    by_cases h1 : -(n : Int) ≤ i
    · rw [if_pos h1] at h
      have e : (i + n).toNat = j := Option.some.inj h
      exact ⟨by rw [seqIndex_neg (by omega) h1, e], by omega, h1, by omega⟩
    · rw [if_neg h1] at h; cases h
theorem atI_get {α : Type} {xs : List α} {i : Int} {v : α} (h : atI xs i = some v) : ∃ j, seqIndex? i xs.length = some j ∧ xs[j]? = some v ∧ j < xs.length ∧ -(xs.length : Int) ≤ i ∧ i < xs.length := by
  unfold atI at h
  cases e : ixN xs.length i with
  | none => rw [e] at h; cases h
  | some j =>
    rw [e] at h
    obtain ⟨h1, h2, h3, h4⟩ := ixN_seq e
    exact ⟨j, h1, h, h2, h3, h4⟩
theorem atI_nat {α : Type} {xs : List α} {j : Nat} {v : α} (h : xs[j]? = some v) : atI xs (j : Int) = some v := by
  have hj : j < xs.length := (List.getElem?_eq_some_iff.mp h).1
  have e : ixN xs.length (j : Int) = some j := by
    unfold ixN
    rw [if_pos (by omega), if_pos (by omega)]; simp
  unfold atI; rw [e]; exact h

/-! ### what may be subscripted -/
/-- what stands as an index of a plain subscript -/
def PlainIx (b : Expr) : Prop := ∀ o i, subscripted b false o i = operate [o, i] (getItem o i)
/-- a subscript by values -/
def IxR (X : Cx) (r : R2) : Prop :=
  ∀ (value slice : Expr) (pins : List (Addr × Obj)) (s : Shared) (σ : St) (H : Hp) (x y : V) (v u : Value) (Q : VK), Inv X pins σ H s → RelV x v → RelV y u → r x y H Q →
    subscripted slice false v u = operate [v, u] (getItem v u) → wpAny (model X.prog X.w) X.A (subscriptTail value slice v u) (EP X pins σ Q) X.xe s
/-- a call of a builtin's method by values: the receiver, the arguments -/
def MtR (X : Cx) (id : String) (r : V → List V → Hp → VK → Prop) : Prop :=
  ∀ (pins : List (Addr × Obj)) (s : Shared) (σ : St) (H : Hp) (x : V) (xs : List V) (v : Value) (us : List Value) (Q : VK), Inv X pins σ H s → RelV x v → Vals xs us → r x xs H Q →
    wpAny (model X.prog X.w) X.A (call (.builtin id) (v :: us)) (EP X pins σ Q) X.xe s
section
variable {X : Cx} {a b : Expr} {ta tb : TE} {pos : Pos}
/-- a[b] -/
theorem pe_ix {r : R2} (hr : IxR X r) (ha : PE X a ta) (hb : PE X b tb) (hs : PlainIx b) : PE X (.Subscript a b pos) (tOp r ta tb) := by
  intro pins s σ H Q I h
  exact Subscript_ (binT ha hb I h fun v u s2 x y H2 I2 rx ry q => hr a b pins s2 σ H2 x y v u Q I2 rx ry q (hs _ _))

def rIxL (K : PySem.W.Frag) : R2 := fun x y H Q => ∃ p xs i v, x = .ref p ∧ y = .int i ∧ SqL K H p xs ∧ atI xs i = some v ∧ Q v H
def rIxT (K : PySem.W.Frag) : R2 := fun x y H Q => ∃ p xs i v, x = .ref p ∧ y = .int i ∧ SqT K H p xs ∧ atI xs i = some v ∧ Q v H
def rIxS : R2 := fun x y H Q => ∃ z i c, x = .str z ∧ y = .int i ∧ z.length ≤ sizeLine ∧ atI z.cps.toList i = some c ∧ Q (.str ⟨#[c]⟩) H
theorem ix_list : IxR X (rIxL X.K) := by
  intro value slice pins s σ H x y v u Q I rx ry h hs
  obtain ⟨p, xs, i, z, rfl, rfl, hq, he, q⟩ := h
  cases rx
  obtain ⟨t, rfl⟩ := ry
  obtain ⟨its, r, pl, hz⟩ := I.list hq
  obtain ⟨j, h1, h2, h3, h4, h5⟩ := atI_get he
  obtain ⟨w, ew, rw'⟩ := r.get h2
  have hl := r.length
  have hn := line63
  have fin : EP X pins σ Q w s := ⟨z, H, I, rw', q⟩
  by_cases h0 : 0 ≤ i
  · have hj : i.toNat = j := by
      rw [seqIndex_of h0 h5] at h1
      exact Option.some.inj h1
    exact item_listR pl.isList h0 (by omega) (by rw [hj]; simpa using ew) fin hs
  · have hj : (i + (its.toArray.size : Int)).toNat = j := by
      rw [seqIndex_neg (by omega) h4] at h1
      rw [List.size_toArray, ← hl]
      exact Option.some.inj h1
    exact subscriptTail_builtinR (x := w) pl.isList.typeIs slot_list_getitem.lookup
      (wpAny_getItem_list_neg (Q := fun r s' => r = w ∧ EP X pins σ Q r s') pl.isList (by omega) (by rw [List.size_toArray] <;> omega) (by omega) (by rw [hj]; simpa using ew) ⟨rfl, fin⟩) hs
theorem ix_tup : IxR X (rIxT X.K) := by
  intro value slice pins s σ H x y v u Q I rx ry h hs
  obtain ⟨p, xs, i, z, rfl, rfl, hq, he, q⟩ := h
  cases rx
  obtain ⟨t, rfl⟩ := ry
  obtain ⟨its, r, pl, hz⟩ := I.tuple hq
  obtain ⟨j, h1, h2, h3, h4, h5⟩ := atI_get he
  obtain ⟨w, ew, rw'⟩ := r.get h2
  have hl := r.length
  have hn := line63
  have fin : EP X pins σ Q w s := ⟨z, H, I, rw', q⟩
  exact subscriptTail_builtinR (x := w) pl.typeIs slot_tuple_getitem.lookup
    (getItem_tuple (j := j) (Q := fun r s' => r = w ∧ EP X pins σ Q r s') pl (by omega) (by omega) (by rw [List.size_toArray, ← hl]; exact h1) (by simpa using ew) ⟨rfl, fin⟩) hs
theorem ix_str : IxR X rIxS := by
  intro value slice pins s σ H x y v u Q I rx ry h hs
  obtain ⟨z, i, c, rfl, rfl, hz, he, q⟩ := h
  obtain ⟨t, rfl⟩ := rx
  obtain ⟨t', rfl⟩ := ry
  obtain ⟨j, h1, h2, h3, h4, h5⟩ := atI_get he
  have hl : z.cps.toList.length = z.length := by simp [Str.length]
  rw [hl] at h1 h4 h5
  have hn := line63
  exact tail_any (typeIs_str s z t) slot_str_getitem.lookup (getItem_str (c := c) (by
    have e1 : decide (i < -(2 ^ 63 : Int)) = false := decide_eq_false (by omega)
    have e2 : decide (i ≥ 2 ^ 63) = false := decide_eq_false (by omega)
    rw [e1, e2, Bool.or_false]) (by rw [h1]; simpa using h2) ⟨.str ⟨#[c]⟩, H, I.tok _, ⟨_, rfl⟩, q⟩) hs
/-- list, tuple or str -/
def rIx (K : PySem.W.Frag) : R2 := fun x y H Q => rIxL K x y H Q ∨ rIxT K x y H Q ∨ rIxS x y H Q

/-! ### xs[i] = v, any sign -/
/-- the list's object behind a store -/
theorem mapSeq_set (its : List Value) (n j : Nat) (u : Value) : Obj.mapSeq (·.setIfInBounds j u) { cls := .type "list", data := .seq its.toArray n } = { cls := .type "list", data := .seq (its.set j u).toArray n } := by
  simp [Obj.mapSeq]
theorem Inv.lst {pins : List (Addr × Obj)} {σ : St} {H : Hp} {s : Shared} {p : Addr} {xs : List V} (I : Inv X pins σ H s) (h : H p = some (.lst xs)) :
    ∃ (its : List Value) (n : Nat), Vals xs its ∧ s.heap.get? p = some { cls := .type "list", data := .seq its.toArray n } ∧ xs.length ≤ sizeLine := by
  obtain ⟨z, its, n, r, e⟩ := I.hok p _ h
  exact ⟨its, n, r, e, z⟩
/-- the list at p is written by an update of its object -/
theorem Inv.lstUpd {pins : List (Addr × Obj)} {σ : St} {H : Hp} {s : Shared} {p : Addr} {xs ys : List V} {its its' : List Value} {n n' : Nat} {f : Obj → Obj} (I : Inv X pins σ H s) (h : H p = some (.lst xs))
    (ho : s.heap.get? p = some { cls := .type "list", data := .seq its.toArray n }) (hf : f { cls := .type "list", data := .seq its.toArray n } = { cls := .type "list", data := .seq its'.toArray n' }) (r : Vals ys its') (hz : ys.length ≤ sizeLine) (t : Nat) :
    Inv X pins σ (upd H p (.lst ys)) { s with heap := s.heap.update p f, toks := t } := by
  have e : (s.heap.update p f).get? p = some { cls := .type "list", data := .seq its'.toArray n' } := by
    rw [Heap.get?_update_self f ho (by rw [hf] <;> rfl), hf]
  refine I.write (x := p) (e := p) (by rw [h]; trivial) (.inl rfl) (fun b u hb q => (Heap.get?_update_other _ _ (Ne.symm hb)).trans q) ⟨_, e⟩ ?_
  exact ⟨hz, its', n', r, e⟩
def rSetL : V → V → V → Hp → (Hp → Prop) → Prop := fun o i v H Q => ∃ p xs k j, o = .ref p ∧ i = .int k ∧ H p = some (.lst xs) ∧ ixN xs.length k = some j ∧ Q (upd H p (.lst (xs.set j v)))
theorem set_list : PSet X rSetL := by
  intro pins s σ H o i v ov iv u Q I ro ri rv h
  obtain ⟨p, xs, k, j, rfl, rfl, hp, hj, q⟩ := h
  cases ro
  obtain ⟨t, rfl⟩ := ri
  obtain ⟨its, n, r, ho, hz⟩ := I.lst hp
  obtain ⟨h1, h2, h3, h4⟩ := ixN_seq hj
  have hl := r.length
  have hn := line63
  have I' : Inv X pins σ (upd H p (.lst (xs.set j v))) { s with heap := s.heap.update p (Obj.mapSeq (·.setIfInBounds j u)) } :=
    I.lstUpd hp ho (mapSeq_set its n j u) (r.set rv j) (by rw [List.length_set]; exact hz) s.toks
  by_cases h0 : 0 ≤ k
  · have hk : k.toNat = j := by
      rw [seqIndex_of h0 h4] at h1
      exact Option.some.inj h1
    exact PySem.W.ki_setAt ho h0 (by omega) (by rw [List.size_toArray, ← hl]; exact h4) (by rw [hk]; exact ⟨_, I', q⟩)
  · have hk : (k + (its.toArray.size : Int)).toNat = j := by
      rw [seqIndex_neg (by omega) h3] at h1
      rw [List.size_toArray, ← hl]
      exact Option.some.inj h1
    exact PySem.W.ki_setBack ho (by omega) (by rw [List.size_toArray, ← hl]; exact h3) (by omega) (by rw [hk]; exact ⟨_, I', q⟩)

/-! ### slices -/
/-- xs[lo:hi] of a list: a new list -/
def rSlL (K : PySem.W.Frag) : V → Option Int → Option Int → Hp → VK → Prop := fun x lo hi H Q => ∃ a xs, x = .ref a ∧ SqL K H a xs ∧ ∀ p, H p = none → Q (.ref p) (upd H p (.lst (cutV xs lo hi)))

/-! ### in, not in: flat items -/
def flatV : V → Bool
  | .non => true
  | .bl _ => true
  | .int _ => true
  | .str _ => true
  | _ => false
/-- == of flat values -/
def eqV : V → V → Bool
  | .non, .non => true
  | .bl a, .bl b => a == b
  | .bl a, .int b => (if a then 1 else 0) == b
  | .int a, .bl b => a == (if b then 1 else 0)
  | .int a, .int b => a == b
  | .str a, .str b => a == b
  | _, _ => false
theorem eqAt_V {A : Around} {s : Shared} {y x : V} {u v : Value} (ry : RelV y u) (rx : RelV x v) (fy : flatV y = true) (fx : flatV x = true) : SeqAt.EqAt A s u v (eqV y x) := by
  cases y with
  | non =>
    cases ry
    cases x with
    | non => cases rx; exact SeqAt.EqAt.same _
    | bl b => cases rx; exact SeqAt.EqAt.none_bool b
    | int b => obtain ⟨t, rfl⟩ := rx; exact SeqAt.EqAt.none_int b t
    | str b => obtain ⟨t, rfl⟩ := rx; exact SeqAt.EqAt.none_str b t
    | _ => exact absurd (show false = true from fx) Bool.false_ne_true
  | bl a =>
    cases ry
    cases x with
    | non => cases rx; exact SeqAt.EqAt.bool_none a
    | bl b => cases rx; exact SeqAt.EqAt.bool_bool a b
    | int b => obtain ⟨t, rfl⟩ := rx; exact SeqAt.EqAt.bool_int a b t
    | str b => obtain ⟨t, rfl⟩ := rx; exact SeqAt.EqAt.bool_str a b t
    | _ => exact absurd (show false = true from fx) Bool.false_ne_true
  | int a =>
    obtain ⟨t', rfl⟩ := ry
    cases x with
    | non => cases rx; exact SeqAt.EqAt.int_none a t'
    | bl b => cases rx; exact SeqAt.EqAt.int_bool a t' b
    | int b => obtain ⟨t, rfl⟩ := rx; exact SeqAt.EqAt.int_int a t' b t
    | str b => obtain ⟨t, rfl⟩ := rx; exact SeqAt.EqAt.int_str a t' b t
    | _ => exact absurd (show false = true from fx) Bool.false_ne_true
  | str a =>
    obtain ⟨t', rfl⟩ := ry
    cases x with
    | non => cases rx; exact SeqAt.EqAt.str_none a t'
    | bl b => cases rx; exact SeqAt.EqAt.str_bool a t' b
    | int b => obtain ⟨t, rfl⟩ := rx; exact SeqAt.EqAt.str_int a t' b t
    | str b => obtain ⟨t, rfl⟩ := rx; exact SeqAt.EqAt.str_str a t' b t
    | _ => exact absurd (show false = true from fx) Bool.false_ne_true
  | _ => exact absurd (show false = true from fy) Bool.false_ne_true
/-- the items' answers, read off the values (a value's own answer does not lean on its token) -/
def eqU (x : V) (u : Value) : Bool := match u with
  | .none => eqV .non x
  | .bool b => eqV (.bl b) x
  | .int i _ => eqV (.int i) x
  | .str z _ => eqV (.str z) x
  | _ => false
def inV (x : V) (xs : List V) : Bool := xs.any fun y => eqV y x
/-- x in a list or tuple of flat items -/
def rIn (K : PySem.W.Frag) (neg : Bool) : R2 := fun x y H Q => ∃ p xs, y = .ref p ∧ (SqL K H p xs ∨ SqT K H p xs) ∧ flatV x = true ∧ xs.all flatV = true ∧ Q (.bl (if neg then !inV x xs else inV x xs)) H

/-! ### len, list(x), tuple(x) of any list or tuple that is read -/
theorem call_len_seq : CallR X (.builtin "len") (fun xs H Q => ∃ p ys, xs = [.ref p] ∧ (SqL X.K H p ys ∨ SqT X.K H p ys) ∧ Q (.int ys.length) H) := by
  intro pins s σ H xs us Q I r h
  obtain ⟨p, ys, rfl, hq, q⟩ := h
  obtain ⟨u, rfl, rx⟩ := vals1 r
  cases rx
  have hn := line63
  rcases hq with hq | hq
  · obtain ⟨its, r', pl, hz⟩ := I.list hq
    have hlen := r'.length
    exact Calls.call_len_list pl.isList (by simp only [List.size_toArray] <;> omega) ⟨.int ys.length, H, I.tok _, ⟨s.toks + 1, by rw [List.size_toArray, hlen]⟩, q⟩
  · obtain ⟨its, r', pl, hz⟩ := I.tuple hq
    have hlen := r'.length
    exact len_tuple pl (by simp only [List.size_toArray] <;> omega) ⟨.int ys.length, H, I.tok _, ⟨s.toks + 1, by rw [List.size_toArray, hlen]⟩, q⟩
theorem call_list_of : CallR X (.type "list") (fun xs H Q => ∃ p ys, xs = [.ref p] ∧ (SqL X.K H p ys ∨ SqT X.K H p ys) ∧ ∀ l, H l = none → Q (.ref l) (upd H l (.lst ys))) := by
  intro pins s σ H xs us Q I r h
  obtain ⟨p, ys, rfl, hq, q⟩ := h
  obtain ⟨u, rfl, rx⟩ := vals1 r
  cases rx
  have fin : ∀ (its : List Value), Vals ys its → ys.length ≤ sizeLine → ∀ (h' : Heap) (c' : Nat), (∀ b o', s.heap.get? b = some o' → h'.get? b = some o') →
      h'.get? s.heap.objs.size = some { cls := .type "list", dict := none, data := .seq its.toArray c', slots := #[] } → EP X pins σ Q (.ref s.heap.objs.size) { s with heap := h' } := fun its r' hz h' c' kp e =>
    ⟨.ref s.heap.objs.size, _, I.laid (t' := s.toks) kp (Nat.le_refl _) (show ObjOk X.prog X.w _ h' _ (.lst ys) from ⟨hz, its, c', r', e⟩), rfl, q _ (I.hok.fresh (Nat.le_refl _))⟩
  rcases hq with hq | hq
  · obtain ⟨its, r', pl, hz⟩ := I.list hq
    have hlen := r'.length
    obtain ⟨o, ho, hc, n, hd⟩ := pl.isList
    exact call_list_seq p (.inl rfl) ho hc hd (fun h' c' kp e => fin its r' hz h' c' kp e) (by simp only [List.size_toArray] <;> omega)
  · obtain ⟨its, r', pl, hz⟩ := I.tuple hq
    have hlen := r'.length
    obtain ⟨o, ho, hc, n, hd⟩ := pl
    exact call_list_seq p (.inr rfl) ho hc hd (fun h' c' kp e => fin its r' hz h' c' kp e) (by simp only [List.size_toArray] <;> omega)

/-! ### the call of a builtin's method: o.m(..) -/
/-- the value is of that builtin type -/
def tyV (K : PySem.W.Frag) (T : String) (x : V) (H : Hp) : Prop := match x with
  | .str _ => T = "str"
  | .int _ => T = "int"
  | .ref p => (T = "list" ∧ ∃ xs, SqL K H p xs) ∨ (T = "tuple" ∧ ∃ o, K.lookup p = some o ∧ o.cls = .type "tuple" ∧ o.dict = none) ∨
      (T = "dict" ∧ ((∃ kvs, H p = some (.dK kvs)) ∨ ∃ kvs, H p = some (.dT kvs))) ∨ (T = "set" ∧ ∃ S n, H p = some (.set S n))
  | _ => False
theorem tyV_is {pins : List (Addr × Obj)} {σ : St} {H : Hp} {s : Shared} {T : String} {x : V} {v : Value} (I : Inv X pins σ H s) (r : RelV x v) (ty : tyV X.K T x H) :
    s.TypeIs v T ∧ ∀ a, v = .ref a → ∃ ob, s.heap.get? a = some ob ∧ ob.dict = none := by
  cases x with
  | str z =>
    obtain ⟨t, rfl⟩ := r
    cases (show T = "str" from ty)
    exact ⟨typeIs_str s z t, fun _ e => nomatch e⟩
  | int i =>
    obtain ⟨t, rfl⟩ := r
    cases (show T = "int" from ty)
    exact ⟨typeIs_int s i t, fun _ e => nomatch e⟩
  | ref p =>
    cases r
    rcases ty with ⟨rfl, xs, hq⟩ | ⟨rfl, o, hk, hc, hd⟩ | ⟨rfl, hk⟩ | ⟨rfl, S, n, hk⟩
    · obtain ⟨its, _, pl, _⟩ := I.list hq
      refine ⟨pl.isList.typeIs, fun a e => ?_⟩
      cases e
      obtain ⟨o, n, e, c, hd, _⟩ := pl
      exact ⟨o, e, hd⟩
    · refine ⟨⟨o, I.kIn p o hk, hc⟩, fun a e => ?_⟩
      cases e
      exact ⟨o, I.kIn _ o hk, hd⟩
    · have z : ∃ o, s.heap.get? p = some o ∧ o.ExactDict := by
        rcases hk with ⟨kvs, hk⟩ | ⟨kvs, hk⟩
        · obtain ⟨_, _, _, _, o, _, _, e, ex, _⟩ := I.hok p _ hk
          exact ⟨o, e, ex⟩
        · obtain ⟨_, _, _, _, o, _, _, e, ex, _⟩ := I.hok p _ hk
          exact ⟨o, e, ex⟩
      obtain ⟨o, e, ex⟩ := z
      refine ⟨⟨o, e, ex.1⟩, fun a e2 => ?_⟩
      cases e2
      exact ⟨o, e, ex.2.1⟩
    · obtain ⟨o, _, _, _, e, ex, _⟩ := I.hok p _ hk
      refine ⟨⟨o, e, ex.1⟩, fun a e2 => ?_⟩
      cases e2
      exact ⟨o, e, ex.2.1⟩
  | _ => exact False.elim ty
def tBM0 (K : PySem.W.Frag) (T : String) (r : V → List V → Hp → VK → Prop) (to : TE) : TE := fun σ H Q => to σ H fun x H1 => tyV K T x H1 ∧ r x [] H1 Q
def tBM (K : PySem.W.Frag) (T : String) (r : V → List V → Hp → VK → Prop) (to : TE) (t : TA) : TE := fun σ H Q => to σ H fun x H1 => tyV K T x H1 ∧ t σ H1 fun xs H2 => r x xs H2 Q
variable {o e : Expr} {es : List Expr} {to : TE} {t : TA} {name : Str} {apos cpos : Pos} {T id : String} {r : V → List V → Hp → VK → Prop}
theorem pe_bm0 (pa : PlainAttrs T) (slot : Slot T name id) (hty : typeOf (.builtin id) = pure (.type "method_descriptor")) (hm : MtR X id r) (ho : PE X o to)
    (hbase : attributeBase o name X.env (eval o X.env) = eval o X.env := by rfl) (hline : (apos.endLine == cpos.line) = true := by rfl) : PE X (.Call (.Attribute o name apos) [] [] cpos) (tBM0 X.K T r to) := by
  intro pins s σ H Q I h
  refine wpAny_Call_method0_late hbase hline (thn (ho pins s σ H _ I h) fun v s1 ⟨x, H1, I1, r1, ty, q1⟩ => ?_)
  obtain ⟨h1, h2⟩ := tyV_is I1 r1 ty
  exact ⟨T, id, pa, slot, hty, h1, h2, Calls.callWith_builtin rfl (PySem.evalArgs_none (hm pins s1 σ H1 x [] v [] Q I1 r1 .nil q1))⟩
theorem pe_bm (pa : PlainAttrs T) (slot : Slot T name id) (hty : typeOf (.builtin id) = pure (.type "method_descriptor")) (hm : MtR X id r) (ho : PE X o to) (ha : PA X (e :: es) t)
    (hbase : attributeBase o name X.env (eval o X.env) = eval o X.env := by rfl)
    (hfew : ((backTo cpos (starEach (e :: es) X.env)).all (fun x => !x.1) && (backToKw cpos (keywordEach [] X.env)).all (fun x => x.1.isSome)
      && decide ((e :: es).length + ([] : List Keyword).length + (if ([] : List Keyword).isEmpty then 0 else 1) < 30)) = true := by rfl)
    (hline : (apos.endLine == cpos.line) = true := by rfl) (hs : starEach (e :: es) X.env = (false, eval e X.env) :: starEach es X.env := by rfl) (hplain : (backTo cpos (starEach es X.env)).any (·.1) = false := by rfl) :
    PE X (.Call (.Attribute o name apos) (e :: es) [] cpos) (tBM X.K T r to t) := by
  intro pins s σ H Q I h
  refine wpAny_Call_method_late hbase hfew hline rfl (thn (ho pins s σ H _ I h) fun v s1 ⟨x, H1, I1, r1, ty, q1⟩ => ?_)
  obtain ⟨h1, h2⟩ := tyV_is I1 r1 ty
  refine ⟨T, id, pa, slot, hty, h1, h2, ?_⟩
  have hA := ha cpos pins s1 σ H1 _ I1 q1
  rw [hs] at hA ⊢
  refine Calls.callWith_builtin (by show (false || (backTo cpos (starEach es X.env)).any (·.1)) = false; rw [hplain] <;> rfl) (Calls.evalArgs_plain ?_)
  exact thn hA fun us s2 ⟨vs, H2, I2, r2, q2⟩ => hm pins s2 σ H2 x vs v us Q I2 r1 r2 q2
/- xs.append(e), list.index on a module's tuple .. are MtR facts of 06m -/
end
end L2

namespace L2
open PySem PySem.Spec PyProof.Rows

def MtM (X : Cx) (id : String) (r : V → List V → Hp → VK → Prop) : Prop :=
  ∀ (pins : List (Addr × Obj)) (s : Shared) (σ : St) (H : Hp) (x : V) (xs : List V) (v : Value) (us : List Value) (Q : VK), Inv X pins σ H s → RelV x v → Vals xs us → r x xs H Q →
    wpAny (model X.prog X.w) X.A (call (.builtin id) (v :: us)) (EP X pins σ Q) X.xe s

/-! ### lists of values -/
theorem Vals.one : ∀ {x : V} {us : List Value}, Vals [x] us → ∃ u, us = [u] ∧ RelV x u
  | _, _, .cons r .nil => ⟨_, rfl, r⟩
theorem Vals.zero : ∀ {us : List Value}, Vals [] us → us = []
  | _, .nil => rfl
theorem Vals.rep {xs : List V} {us : List Value} (h : Vals xs us) : ∀ k : Nat, Vals (List.replicate k xs).flatten (List.replicate k us).flatten
  | 0 => .nil
  | k + 1 => by
    rw [List.replicate_succ, List.replicate_succ, List.flatten_cons, List.flatten_cons]
    exact Vals.append h (Vals.rep h k)
theorem foldl_rep (its : List Value) : ∀ (k : Nat) (acc : List Value),
    List.foldl (fun x1 x2 => x1 ++ x2) acc.toArray (List.replicate k its.toArray) = (acc ++ (List.replicate k its).flatten).toArray
  | 0, acc => by simp
  | k + 1, acc => by
    have e : acc.toArray ++ its.toArray = (acc ++ its).toArray := by simp
    have e2 : (acc ++ its) ++ (List.replicate k its).flatten = acc ++ (List.replicate (k + 1) its).flatten := by
      rw [List.replicate_succ, List.flatten_cons, List.append_assoc]
    rw [← e2, ← foldl_rep its k (acc ++ its), ← e, List.replicate_succ, List.foldl_cons]

section
variable {X : Cx} {pins : List (Addr × Obj)} {σ : St} {H : Hp} {s : Shared} {l b : Addr} {xs ys zs : List V}

/-! ### the two steps: a tracked list is rewritten, a new list is laid -/
theorem Inv.lset {its its' : List Value} {n : Nat} {f : Array Value → Array Value} {t' : Nat} (I : Inv X pins σ H s) (hH : H l = some (.lst xs))
    (e : s.heap.get? l = some { cls := .type "list", data := .seq its.toArray n }) (hf : f its.toArray = its'.toArray) (hv : Vals ys its') (hz : ys.length ≤ sizeLine) :
    Inv X pins σ (upd H l (.lst ys)) { s with heap := s.heap.update l (Obj.mapSeq f), toks := t' } := by
  have q := PySem.IsL.update e f
  rw [hf] at q
  refine I.write (x := l) (e := l) (by rw [hH]; exact trivial) (.inl rfl) (fun b' u hb hu => (Heap.get?_update_other s.heap (Obj.mapSeq f) (Ne.symm hb)).trans hu) ⟨_, q⟩ ?_
  exact ⟨hz, its', _, hv, q⟩
theorem Inv.lnew {its : List Value} {t' : Nat} (I : Inv X pins σ H s) (hv : Vals ys its) (hz : ys.length ≤ sizeLine) :
    Inv X pins σ (upd H s.heap.objs.size (.lst ys)) { s with heap := s.heap.push { cls := .type "list", data := .seq its.toArray }, toks := t' } :=
  I.laid (fun _ _ q => Heap.get?_push_of_some _ q) (Nat.le_refl _) ⟨hz, its, 0, hv, Heap.get?_push_size _ rfl⟩
theorem Inv.fresh (I : Inv X pins σ H s) : H s.heap.objs.size = none := I.hok.fresh (Nat.le_refl _)
theorem Inv.lstM (I : Inv X pins σ H s) (hH : H l = some (.lst xs)) : xs.length ≤ sizeLine ∧ ∃ (its : List Value) (n : Nat), Vals xs its ∧ xs.length = its.length ∧ s.heap.get? l = some { cls := .type "list", data := .seq its.toArray n } := by
  obtain ⟨z, its, n, r, e⟩ := I.hok l _ hH
  exact ⟨z, its, n, r, r.length, e⟩

theorem notLongL {n : Nat} (h : n ≤ sizeLine) : Builtin.List.listTooLong n = false := by
  unfold Builtin.List.listTooLong
  exact decide_eq_false (by omega)
end

section
variable {X : Cx}

/-! ### methods -/
def rAppend : V → List V → Hp → VK → Prop := fun x vs H Q => ∃ l xs y, x = .ref l ∧ vs = [y] ∧ H l = some (.lst xs) ∧ xs.length < sizeLine ∧ Q .non (upd H l (.lst (xs ++ [y])))
theorem mt_append : MtM X "list.append" rAppend := by
  intro pins s σ H x vs v us Q I rx rv h
  obtain ⟨l, xs, y, rfl, rfl, hH, hz, q⟩ := h
  cases rx
  obtain ⟨u, rfl, ru⟩ := rv.one
  obtain ⟨z, its, n, r, hl, e⟩ := I.lstM hH
  refine call_meets F.slot_list_append ⟨_, e, rfl⟩ F.entry_list_append (F.args_list_append_2 _ _) (PySem.list_append l its.toArray n u (by rw [List.size_toArray]; omega)) ⟨e, ?_⟩
  refine ⟨.non, _, I.lset (its' := its ++ [u]) hH e (by simp) (r.append (.cons ru .nil)) ?_, rfl, q⟩
  rw [List.length_append, List.length_singleton]
  omega

def rExtend : V → List V → Hp → VK → Prop := fun x vs H Q => ∃ l b xs zs, x = .ref l ∧ vs = [.ref b] ∧ H l = some (.lst xs) ∧ H b = some (.lst zs) ∧ xs.length + zs.length ≤ sizeLine ∧ Q .non (upd H l (.lst (xs ++ zs)))
theorem mt_extend : MtM X "list.extend" rExtend := by
  intro pins s σ H x vs v us Q I rx rv h
  obtain ⟨l, b, xs, zs, rfl, rfl, hH, hB, hz, q⟩ := h
  cases rx
  obtain ⟨u, rfl, ru⟩ := rv.one
  cases ru
  obtain ⟨z, its, n, r, hl, e⟩ := I.lstM hH
  obtain ⟨z2, its2, n2, r2, hl2, e2⟩ := I.lstM hB
  have hsz : its.toArray.size + its2.toArray.size ≤ sizeLine := by rw [List.size_toArray, List.size_toArray]; omega
  have hlong : ¬ (!its.toArray.isEmpty && Builtin.List.listTooLong (its.toArray.size + its2.toArray.size)) = true := by
    rw [notLongL hsz, Bool.and_false]
    exact Bool.false_ne_true
  refine call_meets F.slot_list_extend ⟨_, e, rfl⟩ F.entry_list_extend (F.args_list_extend_2 _ _)
    (AutoSeq1.list_extend_list_list_0 l its.toArray n b its2.toArray n2 hlong (by rw [List.size_toArray]; omega) (by omega)) ⟨e, e2, ?_⟩
  refine ⟨.non, _, I.lset (its' := its ++ its2) hH e (by simp) (r.append r2) ?_, rfl, q⟩
  rw [List.length_append]
  omega

def rPop : V → List V → Hp → VK → Prop := fun x vs H Q => ∃ l xs y, x = .ref l ∧ vs = [] ∧ H l = some (.lst xs) ∧ xs[xs.length - 1]? = some y ∧ Q y (upd H l (.lst xs.dropLast))

def rPopAt : V → List V → Hp → VK → Prop := fun x vs H Q => ∃ l xs i k y, x = .ref l ∧ vs = [.int i] ∧ H l = some (.lst xs) ∧ -(2 ^ 63) ≤ i ∧ i < 2 ^ 63 ∧ seqIndex? i xs.length = some k ∧ xs[k]? = some y ∧ Q y (upd H l (.lst (xs.eraseIdx k)))

def rReverse : V → List V → Hp → VK → Prop := fun x vs H Q => ∃ l xs, x = .ref l ∧ vs = [] ∧ H l = some (.lst xs) ∧ Q .non (upd H l (.lst xs.reverse))

def rClear : V → List V → Hp → VK → Prop := fun x vs H Q => ∃ l xs, x = .ref l ∧ vs = [] ∧ H l = some (.lst xs) ∧ Q .non (upd H l (.lst []))
theorem mt_clear : MtM X "list.clear" rClear := by
  intro pins s σ H x vs v us Q I rx rv h
  obtain ⟨l, xs, rfl, rfl, hH, q⟩ := h
  cases rx
  have hus := rv.zero
  subst hus
  obtain ⟨z, its, n, r, hl, e⟩ := I.lstM hH
  refine call_meets F.slot_list_clear ⟨_, e, rfl⟩ F.entry_list_clear (F.args_list_clear_1 _) (AutoSeq1.list_clear_list_0 l its.toArray n (by rw [List.size_toArray]; omega)) ⟨e, ?_⟩
  exact ⟨.non, _, I.lset (its' := []) (ys := []) hH e rfl .nil (Nat.zero_le _), rfl, q⟩

/-! ### list + list, list += list, list * int -/
def rCat : R2 := fun x y H Q => ∃ l b xs zs, x = .ref l ∧ y = .ref b ∧ H l = some (.lst xs) ∧ H b = some (.lst zs) ∧ xs.length + zs.length ≤ sizeLine ∧ ∀ p, H p = none → Q (.ref p) (upd H p (.lst (xs ++ zs)))
theorem op_cat : OpR X (binaryOp .Add) rCat := by
  intro pins s σ H x y v u Q I rx ry h
  obtain ⟨l, b, xs, zs, rfl, rfl, hH, hB, hz, q⟩ := h
  cases rx
  cases ry
  obtain ⟨z, its, n, r, hl, e⟩ := I.lstM hH
  obtain ⟨z2, its2, n2, r2, hl2, e2⟩ := I.lstM hB
  refine PySem.P.add_list e e2 ?_ (by rw [List.size_toArray, List.size_toArray]; omega)
  have ea : its.toArray ++ its2.toArray = (its ++ its2).toArray := by simp
  rw [ea]
  exact ⟨.ref _, _, I.lnew (t' := s.toks) (r.append r2) (by rw [List.length_append]; omega), rfl, q _ I.fresh⟩
/-- a list times an int (a negative one is nothing) -/
def rRep : R2 := fun x y H Q => ∃ l k xs, x = .ref l ∧ y = .int k ∧ H l = some (.lst xs) ∧ -(2 ^ 63) ≤ k ∧ k < 2 ^ 63 ∧ xs.length * k.toNat ≤ sizeLine ∧
  ∀ p, H p = none → Q (.ref p) (upd H p (.lst (List.replicate k.toNat xs).flatten))
theorem len_rep {α : Type} (xs : List α) (k : Nat) : (List.replicate k xs).flatten.length = k * xs.length := by
  induction k with
  | zero => simp
  | succ k ih => rw [List.replicate_succ, List.flatten_cons, List.length_append, ih, Nat.succ_mul, Nat.add_comm]
theorem op_rep : OpR X (binaryOp .Mult) rRep := by
  intro pins s σ H x y v u Q I rx ry h
  obtain ⟨l, k, xs, rfl, rfl, hH, h1, h2, hz, q⟩ := h
  cases rx
  obtain ⟨t, rfl⟩ := ry
  obtain ⟨z, its, n, r, hl, e⟩ := I.lstM hH
  have hlen : its.toArray.size * k.toNat ≤ sizeLine := by rw [List.size_toArray, ← hl]; exact hz
  have hcap : ¬ its.toArray.size * k.toNat > (2 ^ 63 - 1) / 8 := by
    have : (sizeLine : Nat) ≤ (2 ^ 63 - 1) / 8 := by decide
    omega
  have hfit : ¬ (!Builtin.List.listFitsIndex k) = true := by
    rw [fitsIndex_both h1 h2]
    exact Bool.false_ne_true
  have hlong : ¬ Builtin.List.listTooLong (its.toArray.size * k.toNat) = true := by
    rw [notLongL hlen]
    exact Bool.false_ne_true
  have hnew : List.foldl (fun x1 x2 => x1 ++ x2) #[] (List.replicate (if its.toArray.isEmpty = true then 0 else k.toNat) its.toArray) = (List.replicate k.toNat its).flatten.toArray := by
    have f0 : ∀ m : Nat, List.foldl (fun x1 x2 => x1 ++ x2) #[] (List.replicate m its.toArray) = (List.replicate m its).flatten.toArray := fun m => by
      have := foldl_rep its m []
      rw [List.nil_append] at this
      exact this
    rw [f0]
    cases its with
    | nil => simp
    | cons a r' => rw [if_neg (by simp)]
  refine wpAny_binaryOp_repeat_ref (T := "list") (U := "int") (by decide) ⟨_, e, rfl⟩ (fun s' => typeIs_int s' k t) noFill_list_mul F.fills_int_mul F.slot_int_rmul repeat_list F.slot_int_index.lookup
    (call_meets F.slot_int_rmul (typeIs_int s k t) F.entry_int_rmul (F.args_int_rmul_2 _ _) (int___rmul___int_list k t l its.toArray n)
      ⟨e, rfl, ⟨_, e, rfl⟩, call_meets F.slot_list_mul ⟨_, e, rfl⟩ F.entry_list_mul (F.args_list_mul_2 _ _) (AutoListH.list___mul___list_int_3 l its.toArray n k t hfit hcap hlong) ⟨e, ?_⟩⟩)
  rw [hnew]
  exact ⟨.ref _, _, I.lnew (t' := s.toks) (r.rep k.toNat) (by rw [len_rep, Nat.mul_comm]; exact hz), rfl, q _ I.fresh⟩

/-! ### del xs[i] -/
end

/-! ### xs[a:b] = ys -/
section
variable {prog : Program} {w : World} {A : Around} {E : Value → Shared → Prop} {s : Shared}
set_option maxRecDepth 100000 in
end

section
variable {X : Cx}
end
end L2

namespace Att
open PySem PySem.W PySem.Calls PyProof.Rows

/-! ### the script -/
theorem ints_of_wellAll {P : Params} {h : Heap} : ∀ (ns : List Int) (vs : List Value), WellAll P h vs (ns.map WData.int) → IntsAre vs ns := by
  intro ns
  induction ns with
  | nil =>
    intro vs w
    rw [List.map_nil] at w
    cases w
    exact .nil
  | cons n ns ih =>
    intro vs w
    rw [List.map_cons] at w
    cases w with
    | cons a b =>
      cases a
      exact .cons _ _ (ih _ b)

theorem script_of {l : OpenLaw} {n : Nat} (hn : l.most = some n) {P : Params} {h : Heap} {args : List WData} {vals : List Value}
    (hpre : l.row.toRowW.claim.pre args = true) (hwl : WellAll P h vals args) :
    ∃ a vs ns, vals = [Value.ref a] ∧ args = [WData.list (ns.map WData.int)] ∧ h.get? a = some { cls := .type "list", data := .seq vs.toArray } ∧ IntsAre vs ns ∧ ns.length ≤ n := by
  have hsh : WShape.hasAll [] args [.list .int] = true := (pre_splitW hpre).1
  have hc : l.pre.holds [] { args := args } = true := (pre_splitW hpre).2
  obtain ⟨d, r, rfl, h1, h2⟩ := hasAllW_cons hsh
  obtain rfl := hasAllW_nil h2
  obtain ⟨xs, rfl, h3⟩ := hasW_list h1
  obtain ⟨ns, rfl⟩ := items_int h3
  have hlen : ns.length ≤ n := by
    unfold OpenLaw.pre at hc
    have h4 : (WTm.not (.lt (.lit (.int (n : Int))) (.len (.arg 0)))).holds [] { args := [.list (ns.map .int)] } = true := by
      have h4 := (holds_andW hc).1
      rw [hn] at h4
      exact h4
    have h5 := condW_of h4 (w_not (w_lt w_lit (w_len_list (w_arg rfl))))
    rw [List.length_map] at h5
    refine Nat.le_of_not_lt fun q => ?_
    have q' : (n : Int) < ((ns.length : Nat) : Int) := by omega
    first
      | (rw [decide_eq_true q'] at h5; exact absurd h5 (by decide))
      | (simp at h5; omega)
  cases hwl with
  | cons w1 w2 =>
    cases w2
    cases w1 with
    | list ho hall => exact ⟨_, _, ns, rfl, rfl, ho, ints_of_wellAll ns _ hall, hlen⟩

theorem post_true (l : OpenLaw) (args : List WData) : l.row.toRowW.claim.post args (.bool true) args = true :=
  postW_of (r := l.row.toRowW) (X := (true == true))
    (show WShape.has [] (.bool true) .bool = true by first | rfl | decide | simp [WShape.has, WShape.arms, WShape.armsAll])
    (show (WTm.eq .res (.lit (.bool true))).value [] { args := args, res := some (.bool true), after := args } = some (.bool (true == true)) from w_eq_bool (w_res rfl) w_lit) rfl

/-! ### the attachment: holds_open's last premise (the goal 'hc' behind k_head) from a wpAny of the law's body -/

/-- the same from a codeAny of the CALL (for a layer whose function contracts speak of calls) -/
theorem attach_call {l : OpenLaw} {n : Nat} {q : Program} {loose : List Str} {XP : (Str → Option Value) → Heap → Prop} {YP : World → Heap → Prop} {d : DefRec}
    (hn : l.most = some n) (hdf : d.params.defaults = [])
    (call : ∀ (w : World) (s₀ s₁ : Shared) (mg mb : Str → Option Value) (fa : Addr) (o : Obj) (pm cd doc : Value) (a : Addr) (vs : List Value) (ns : List Int),
      Ground q loose [] XP w s₀ mg mb s₁.heap → YP w s₁.heap →
      s₁.heap.get? fa = some o → o.data = .func (docDef d.name d.params d.body d.scope pm cd doc) → s₁.heap.CodeRec cd d.name → mg d.name = some (.ref fa) →
      s₁.heap.get? a = some { cls := .type "list", data := .seq vs.toArray } → IntsAre vs ns → ns.length ≤ n → s₁.gens = #[] →
      codeAny (model l.prog w) callerA (.call (.ref fa) ⟨[.ref a], []⟩) (fun r s' => r = .ok (.ret (.bool true)) ∧ OldK s₁.heap s'.heap ∧ s'.os = s₁.os ∧ AllBare s'.gens) s₁) :
    WalkO q loose XP YP l.row.toRowW d [] (fun f vs => PySem.call f vs) := by
  intro w s₀ s₁ mg mb G Y fa o pm cd doc dV kV ho hd hcd hD hmg hg args vals as hpre hlay hrd hwl hlo
  obtain rfl : dV = .none := Dflts.none hD hdf
  obtain rfl : kV = .none := Dflts.noKw hD
  obtain ⟨a, vs, ns, rfl, rfl, hobj, hints, hlen⟩ := script_of hn hpre hwl
  refine enter_call (codeAny_mono (call w s₀ s₁ mg mb fa o pm cd doc a vs ns G Y ho (fd_plain hd) hcd hmg hobj hints hlen hg) fun r s' hq => ?_)
  obtain ⟨rfl, h2, h3, h4⟩ := hq
  exact ⟨.inl ⟨.bool true, .bool true, [], rfl, fun _ => rfl, .bool true, post_true l _, fun _ => ⟨List.Pairwise.nil, fun _ hm => (nomatch hm)⟩⟩, h2, h3, h4⟩


/-! ### rules over ANY heap (no ledger) from facts about the written part K: the library's own take a ledger (News) for what they write -/
section
variable {prog : Program} {w : World} {A : Around} {E : Value → Shared → Prop} {s : Shared} {K : Frag}





/-! the whole heap as the ledger: makes every rule that writes through a ledger a rule over any heap -/
def noObjs (h : Heap) : Heap := { h with objs := #[] }
def ledger (h : Heap) (L d : Addr) : List (Addr × Obj) := (List.range h.objs.size).filterMap fun a => if a = L ∨ a = d then none else (h.get? a).map fun o => (a, o)

end
end Att

namespace L2
open PySem PySem.Spec PyProof.Rows

theorem vals_ints : ∀ {vs : List Value} {ns : List Int}, IntsAre vs ns → Vals (ns.map V.int) vs
  | _, _, .nil => .nil
  | _, _, .cons n t h => .cons ⟨t, rfl⟩ (vals_ints h)

/-- nothing is tracked but the script, known to the object (or it is an object of the module) -/
def Only (H : Hp) : Prop := ∀ b, H b = none ∨ ∃ o xs, H b = some (.frz o (.lst xs))

/-- THE HEAD: the law's promise, at the heap behind the top. F, the promise of the law's def, may use that base is part of the heap (so K.In base, base.Ns mainGlobals mg stand in Mod) -/
theorem law_call {P : Program} {w : World} {K : PySem.W.Frag} {mg mb : Str → Option Value} {CX : CXT} {k : Nat} {fa a : Addr} {fd : FuncData} {x : Str} {sp : Sp} {s₁ : Shared} {vs : List Value} {ns : List Int}
    (KX : K.In s₁.heap) (hns : s₁.heap.Ns mainGlobals mg) (hb : s₁.heap.Ns builtinsNs mb) (hbb : ∀ x : Str, x ≠ "__name__" → mb x = bootBuiltins x) (hlim : s₁.heap.NoLimit) (hg : s₁.gens = #[])
    (ha : s₁.heap.get? a = some { cls := .type "list", data := .seq vs.toArray }) (hi : IntsAre vs ns) (hl : ns.length ≤ sizeLine) (hr : Room k callerA)
    (F : ∀ base : Heap, K.In base → base.Ns mainGlobals mg → FnOk P w K mg base CX k fa fd [x] sp) (hbind : ∀ (s : Shared) (u : Value), BindsTo s fd ⟨[u], []⟩ [(x, u)])
    (hsp : ∀ H : Hp, Only H → SqL K H a (ns.map V.int) → sp [.ref a] H (fun v _ => v = .bl true) fun _ _ _ => False)
    (hCX : ∀ H e s', CX [] H s₁ (fun _ _ _ => False) e s' → False) :
    codeAny (model P w) callerA (.call (.ref fa) ⟨[.ref a], []⟩) (fun r s' => r = .ok (.ret (.bool true)) ∧ OldK s₁.heap s'.heap ∧ s'.os = s₁.os ∧ AllBare s'.gens) s₁ := by
  have rv := vals_ints hi
  have lenV := hi.length
  -- from an abstract heap in which nothing but the script may be tracked
  have core : ∀ H : Hp, Only H → SqL K H a (ns.map V.int) → HOk P w H s₁.heap → (∀ b, H b ≠ none → b = a) → (H a ≠ none → K.lookup a = none) →
      codeAny (model P w) callerA (.call (.ref fa) ⟨[.ref a], []⟩) (fun r s' => r = .ok (.ret (.bool true)) ∧ OldK s₁.heap s'.heap ∧ s'.os = s₁.os ∧ AllBare s'.gens) s₁ := by
    intro H hO hS hok hA hK
    have base_of : ∀ {b : Addr} {o : Obj}, s₁.heap.get? b = some o → H b = none → (hidT s₁.heap H).get? b = some o := fun e n => hidT_get e n
    have noA : ∀ {b : Addr} {o : Obj} {es : Array DictEntry} {ep : Nat}, s₁.heap.get? b = some o → o.data = .dict es ep → H b = none := fun {b o es ep} e d => by
      cases q : H b with
      | none => rfl
      | some u =>
        have e' : b = a := hA b (by rw [q]; simp)
        subst e'
        rw [ha] at e; cases e
        have d' : Data.seq vs.toArray _ = Data.dict es ep := d
        cases d'
    have nsK : ∀ {b : Addr} {m : Str → Option Value}, s₁.heap.Ns b m → (hidT s₁.heap H).Ns b m := fun {b m} ⟨o, es, ep, e, d, r⟩ => ⟨o, es, ep, base_of e (noA e d), d, r⟩
    have hKb : K.In (hidT s₁.heap H) := fun b o e => base_of (KX b o e) (by
      cases q : H b with
      | none => rfl
      | some u =>
        have e' : b = a := hA b (by rw [q]; simp)
        subst e'
        rw [hK (by rw [q]; simp)] at e; cases e)
    have hM : Mod K mg (hidT s₁.heap H) := ⟨hKb, nsK hns, ⟨mb, nsK hb, hbb⟩, let ⟨mc, h1, h2⟩ := hlim; ⟨mc, nsK h1, h2⟩⟩
    have e0 : Env0 P w K mg (hidT s₁.heap H) callerA [] s₁ H := ⟨rfl, hM, fun b o e => of_hidT e, Nat.le_of_eq (hidT_size _ _), trivial, fun b hb => absurd (show b ∈ ([] : List Addr) from hb) (by simp), hok, .of_eq hg⟩
    refine codeAny_mono ((F _ hKb (nsK hns)).run callerA [] s₁ H ⟨[.ref a], []⟩ [.ref a] [.ref a] _ _ hr e0 (hbind s₁ (.ref a)) (.cons rfl .nil) (hsp H hO hS)) fun r s' h => ?_
    cases r with
    | error e => exact (hCX H e s' h).elim
    | ok fl =>
      cases fl with
      | next => exact False.elim h
      | brk => exact False.elim h
      | cont => exact False.elim h
      | ret u =>
        obtain ⟨v, H', os, bare, un, hok', r', q⟩ := h
        have q' : v = .bl true := q
        subst q'
        obtain rfl : u = Value.bool true := r'
        refine ⟨rfl, OldK.of_keep fun b o e => ?_, os, bare⟩
        cases q : H b with
        | none => exact un.keep b o e q (by intro z; exact absurd (show b ∈ ([] : List Addr) from z) (by simp)) (by simp)
        | some u =>
          rcases hO b with z | ⟨ob, xs, z⟩
          · rw [q] at z; cases z
          · have z2 := un.frzs b ob _ z
            obtain ⟨e1, _⟩ := hok b _ z
            obtain ⟨e2, _⟩ := hok' b _ z2
            rw [e] at e1; cases e1
            exact e2
  cases hk : K.lookup a with
  | some o =>
    -- the script is one of the module's own objects
    have e := KX a o hk
    rw [ha] at e
    cases e
    refine core (fun _ => none) (fun _ => .inl rfl) (.inr ⟨_, vs.toArray, _, hk, rfl, rfl, rfl, by rw [List.size_toArray, lenV]; exact hl, by simpa using rv⟩) (fun b u z => by have z' : (none : Option HO) = some u := z; cases z') (fun b z => absurd rfl z) fun z => absurd rfl z
  | none =>
    refine core (fun b => if b = a then some (.frz { cls := .type "list", data := .seq vs.toArray } (.lst (ns.map V.int))) else none) (fun b => ?_) (.inl (.inr ⟨{ cls := .type "list", data := .seq vs.toArray }, if_pos rfl⟩)) (fun b u z => ?_) (fun b z => ?_) fun _ => hk
    · by_cases hb : b = a
      · exact .inr ⟨_, _, if_pos hb⟩
      · exact .inl (if_neg hb)
    · by_cases hb : b = a
      · have z' := (if_pos hb).symm.trans z
        cases z'
        subst hb
        exact ⟨ha, by rw [List.length_map]; exact hl, vs, _, rv, ha⟩
      · have z' := (if_neg hb).symm.trans z
        cases z'
    · by_cases hb : b = a
      · exact hb
      · exact absurd (if_neg hb) z
end L2

namespace L2
open PySem PySem.Spec PyProof.Rows

abbrev KOf {K : PySem.W.Frag} {h : Heap} (_ : K.In h) : PySem.W.Frag := K

/-- the goal that k_head leaves (case hc), from the law's promise. F gives the function object fd (K's own) once, then the promise over every base -/
theorem walk_of {l : PySem.W.OpenLaw} {n k : Nat} {q : Program} {loose : List Str} {XP : (Str → Option Value) → Heap → Prop} {YP : World → Heap → Prop} {d : DefRec} {K : Params → PySem.W.Frag} {CX : World → CXT} {sp : World → Sp} {x : Str}
    (hn : l.most = some n) (hn2 : n ≤ sizeLine) (hdf : d.params.defaults = []) (hr : Room k callerA)
    (hY : ∀ (w : World) (h : Heap), YP w h → (K w.params).In h)
    (F : ∀ (w : World) (mg : Str → Option Value) (fa : Addr) (h : Heap), (K w.params).In h → h.Ns mainGlobals mg → mg d.name = some (.ref fa) →
      ∃ fd : FuncData, (∀ (s : Shared) (u : Value), BindsTo s fd ⟨[u], []⟩ [(x, u)]) ∧
        ∀ base : Heap, (K w.params).In base → base.Ns mainGlobals mg → FnOk l.prog w (K w.params) mg base (CX w) k fa fd [x] (sp w))
    (hsp : ∀ (w : World) (H : Hp) (a : Addr) (ns : List Int), ns.length ≤ n → Only H → SqL (K w.params) H a (ns.map V.int) → sp w [.ref a] H (fun v _ => v = .bl true) fun _ _ _ => False)
    (hCX : ∀ (w : World) (H : Hp) (s : Shared) (e : Value) (s' : Shared), CX w [] H s (fun _ _ _ => False) e s' → False) :
    PySem.W.WalkO q loose XP YP l.row.toRowW d [] (fun f vs => PySem.call f vs) := by
  refine Att.attach_call hn hdf fun w s₀ s₁ mg mb fa o pm cd doc a vs ns G Y ho hd hcd hmg hobj hints hlen hg => ?_
  have KX := hY w _ Y
  obtain ⟨fd, hb, hF⟩ := F w mg fa _ KX G.T.g hmg
  exact law_call KX G.T.g G.T.b G.T.builtins G.T.nolimit hg hobj hints (Nat.le_trans hlen hn2) hr hF hb (fun H hO hS => hsp w H a ns hlen hO hS) fun H e s' => hCX w H s₁ e s'
end L2

/- THE LAST THEOREM (shape; LID, My.* are yours):
   My.Adr: a structure of the addresses that your layer names (classes, functions); My.Txt K t: a structure (Prop) of the equations over K;
   My.txt_mk : {K} {implicit addresses ..} (e1 : nsIn K mainGlobals "law" = some (some (.ref f))) (e2 : K.lookup f = some ⟨oc, od, .func (fnOf "law" "law" params body scope dV kV doc pm an cdv ct), sl⟩) (e3 : codeIn K cdv "law" = true) .. : ∃ t, My.Txt K t

set_option maxRecDepth 100000 in
set_option maxHeartbeats 0 in
theorem PySem.Challenge.cw_LID_holds : PySem.Challenge.rw_LID.Holds := by
  w_on; o_law; k_head; (case hw => w_witness2)
  k_fill
  refine L2.walk_of (l := PySem.Challenge.rw_LID) (n := 63) (k := 40) (x := "script") (CX := fun w => ..) (sp := fun _ => My.sp_law) rfl (by decide) rfl ⟨rfl, by decide, by decide⟩ (fun w h Y => PySem.W.kIn_of Y) ?F ?S ?C
  case F =>
    intro w mg fa h KX G hmg
    have T : ∃ t, My.Txt (L2.KOf KX) t := by
      dsimp only [L2.KOf]                          -- K must stand as «<heap const> w.params» for k_is
      refine' My.txt_mk ?e1 ?e2 ?e3 ..
      (case e1 => PySem.W.k_is)                    -- in the order: a name -> its address -> its object -> its parts
      (case e2 => PySem.W.k_is)
      ..
    obtain ⟨t, T⟩ := T
    have e0 := hmg.symm.trans (PySem.W.mg_of KX G T.law)
    cases e0                                       -- fa is the law's own address
    exact ⟨_, fun s u => .of_eq rfl, fun base kb nb => My.law_fn T kb nb⟩     -- if «.of_eq rfl» comes too early: refine' ⟨_, ?b, fun base kb nb => My.law_fn T kb nb⟩; exact fun s u => .of_eq rfl
  case S => exact fun w H a ns hl hO hS => ..
  case C => exact ..
(the tactic k_is has no namespace: write k_is) -/

/-! SHORT WORDS over the layer: a def of the text, its body, what a loop and a test want. -/
namespace L2
open PySem PySem.Spec PyProof.Rows

/-! ### the text by places -/
/-- the j-th statement of a class's body -/
def inClass (s : Stmt) (j : Nat) : Stmt := match s with
  | .ClassDef _ _ _ body _ _ _ _ _ _ _ => body.getD j (.Pass ⟨0, 0, 0, 0⟩)
  | _ => .Pass ⟨0, 0, 0, 0⟩
def defArgs (s : Stmt) : Arguments := match s with
  | .FunctionDef _ a _ _ _ _ _ _ _ _ => a
  | _ => { posonlyargs := [], args := [], vararg := none, kwonlyargs := [], kw_defaults := [], kwarg := none, defaults := [] }
def defBody (s : Stmt) : List Stmt := match s with
  | .FunctionDef _ _ b _ _ _ _ _ _ _ => b
  | _ => []
def defScope (s : Stmt) : Scope := match s with
  | .FunctionDef _ _ _ _ _ _ sc _ _ _ => sc
  | _ => { kind := .function, names := [], isGenerator := false, isCoroutine := false }

/-! ### no exception leaves a def -/
abbrev CX0 : CXT := fun _ _ _ _ _ _ => False
abbrev E0 : XK := fun _ _ _ => False
theorem pass0 {X : Cx} : Passes CX0 X E0 := fun _ _ _ _ _ _ _ h => h.elim

/-! ### a def (or method) of the text as it stands behind the top -/
structure Fun (K : PySem.W.Frag) (x qual : Str) (st : Stmt) (f : Addr) (fd : FuncData) : Prop where
  ex : ∃ (oc : Value) (od : Option Addr) (kV doc pm : Value) (an : Option Addr) (cdv ct : Value) (osl : Array (Option Value)),
    fd = PySem.W.fnOf x qual (defArgs st) (defBody st) (defScope st) .none kV doc pm an cdv ct ∧ K.lookup f = some ⟨oc, od, .func fd, osl⟩ ∧ PySem.W.codeIn K cdv qual = true
  kp : PySem.W.keepIn K (.ref f) = true
section
variable {P : Program} {w : World} {K : PySem.W.Frag} {mg : Str → Option Value} {base : Heap}
/-- THE RULE for a def: its body as a term of rules, and the reading of that term -/
theorem Fun.ok {x qual : Str} {st : Stmt} {f : Addr} {fd : FuncData} {N ps : List Str} {k : Nat} {sp : Sp} (F : Fun K x qual st f fd) (S : FnScope N ps (defScope st)) (len : ∀ vs H Q E, sp vs H Q E → vs.length = ps.length)
    (hbody : ∀ (cdv : Value) (A : Around) (outer : List Env) (s : Shared) (H : Hp) (vs : List V) (Q : VK) (E : XK), Room k (A.deeper (envOfC qual (defScope st) s.heap.objs.size f cdv)) → sp vs H Q E →
      ∃ t, PSs (cxOf CX0 P w K mg base N qual (defScope st) f cdv A outer s H E).nox (defBody st) t ∧ t { nx := fun _ H' => Q .non H', rt := Q } (start N vs) H) : FnOk P w K mg base CX0 (k + 1) f fd ps sp := by
  obtain ⟨oc, od, kV, doc, pm, an, cdv, ct, osl, rfl, lk, hcd⟩ := F.ex
  refine fn_of lk hcd S len fun A outer s H vs Q E hr hsp => ?_
  obtain ⟨t, h, q⟩ := hbody cdv A outer s H vs Q E hr hsp
  exact ⟨t, h.nox, q⟩
/-- how its arguments bind (no defaults): h is «fun _ _ _ _ _ _ us hl => match us, hl with | [_, _], _ => rfl», one _ a parameter -/
theorem Fun.binds {x qual : Str} {st : Stmt} {f : Addr} {fd : FuncData} {ps : List Str} (F : Fun K x qual st f fd)
    (h : ∀ (kV doc pm : Value) (an : Option Addr) (cdv ct : Value) (us : List Value), us.length = ps.length → bindArgs (PySem.W.fnOf x qual (defArgs st) (defBody st) (defScope st) .none kV doc pm an cdv ct) ⟨us, []⟩ = pure (ps.zip us)) : Binds K fd ps [] := by
  obtain ⟨oc, od, kV, doc, pm, an, cdv, ct, osl, rfl, lk, hcd⟩ := F.ex
  exact .all (h kV doc pm an cdv ct)
theorem fun_mk {x qual : Str} {st : Stmt} {f : Addr} {oc : Value} {od an : Option Addr} {osl : Array (Option Value)} {kV doc pm cdv ct : Value} (l : K.lookup f = some ⟨oc, od, .func (PySem.W.fnOf x qual (defArgs st) (defBody st) (defScope st) .none kV doc pm an cdv ct), osl⟩)
    (c : PySem.W.codeIn K cdv qual = true) (k : PySem.W.keepIn K (.ref f) = true) : Fun K x qual st f (PySem.W.fnOf x qual (defArgs st) (defBody st) (defScope st) .none kV doc pm an cdv ct) := ⟨⟨oc, od, kV, doc, pm, an, cdv, ct, osl, rfl, l, c⟩, k⟩
end
theorem small1000 {n : Nat} (h : n ≤ 1000) : n < sizeLine := Nat.lt_of_le_of_lt h (by decide)

/-! ### expressions in short: the name that stands in the i-th slot -/
section
variable {X : Cx}
theorem pv (i : Nat) {x : Str} {pos : Pos} (hN : X.N[i]? = some x := by rfl) (hv : Vis X.env.scope x := by first | exact Or.inl rfl | exact Or.inr (Or.inl rfl) | exact Or.inr (Or.inr rfl)) (hd : (x == ("__debug__" : Str)) = false := by decide)
    (hcd : (x == ("__classdict__" : Str)) = false := by decide) : PE X (.Name x pos) (tVar i) := pe_var hN hv hd hcd
end

/-! ### tests -/
theorem iteF {A B : Prop} (h : B) : if false = true then A else B := by
  rw [if_neg Bool.false_ne_true]
  exact h
theorem iteT {A B : Prop} (h : A) : if true = true then A else B := by
  rw [if_pos rfl]
  exact h
theorem ite2 {c A B : Prop} [Decidable c] (h1 : c → A) (h2 : ¬ c → B) : if c then A else B := by
  by_cases h : c
  · rw [if_pos h]
    exact h1 h
  · rw [if_neg h]
    exact h2 h

/-! ### heaps -/
/-- all that was tracked is as it was -/
def Same (H H' : Hp) : Prop := ∀ b o, H b = some o → H' b = some o
theorem Same.trans {H H1 H2 : Hp} (a : Same H H1) (b : Same H1 H2) : Same H H2 := fun c o h => b c o (a c o h)
theorem Same.free {H H' : Hp} (e : Same H H') {l : Addr} (h : H' l = Option.none) : H l = Option.none := by
  cases q : H l with
  | none => rfl
  | some o =>
    rw [e l o q] at h
    cases h
theorem Same.seq {K : PySem.W.Frag} {H H' : Hp} {a : Addr} {xs : List V} (e : Same H H') (h : SqL K H a xs) : SqL K H' a xs := by
  rcases h with (h | ⟨o, h⟩) | h
  · exact .inl (.inl (e _ _ h))
  · exact .inl (.inr ⟨o, e _ _ h⟩)
  · exact .inr h

end L2

set_option Elab.async false
set_option linter.all false
set_option maxRecDepth 100000
namespace L2
open PySem PySem.Spec PyProof.Rows

/-! ### lists of pairs as tables -/
section
variable {κ : Type} [DecidableEq κ]
def valV (kvs : List (κ × V)) (k : κ) : Option V := (kvs.find? fun kv => decide (kv.1 = k)).map (·.2)
/-- in its place, or at the end -/
def putK (kvs : List (κ × V)) (k : κ) (v : V) : List (κ × V) :=
  if (kvs.any fun kv => decide (kv.1 = k)) = true then kvs.map (fun kv => if kv.1 = k then (kv.1, v) else kv) else kvs ++ [(k, v)]
def dropK (kvs : List (κ × V)) (k : κ) : List (κ × V) := kvs.filter fun kv => decide (kv.1 ≠ k)



end


/-! ### a tracked dict, its keys ints and texts or tuples of these -/

/-- raw entries of a dict with tuple keys -/
abbrev KT (H : Hp) : List (List Key × V) → List (List Key × Addr × Value) → Prop := Paired fun p q => p.1 = q.1 ∧ H q.2.1 = some (.tup (p.1.map kV)) ∧ RelV p.2 q.2.2

section
variable {P : Program} {w : World} {H : Hp} {h : Heap} {a : Addr}
end

/-- what the dict at a holds at the key y -/
def DGet (H : Hp) (a : Addr) (y : V) (r : Option V) : Prop :=
  (∃ kvs k, Rd H a (.dK kvs) ∧ y = kV k ∧ r = valV kvs k) ∨ ∃ kvs k b, Rd H a (.dT kvs) ∧ y = .ref b ∧ H b = some (.tup (k.map kV)) ∧ r = valV kvs k
/-- the heap behind a[y] = v -/
def DPut (H : Hp) (a : Addr) (y v : V) (H' : Hp) : Prop :=
  (∃ kvs k, H a = some (.dK kvs) ∧ y = kV k ∧ kvs.length < sizeLine ∧ H' = upd H a (.dK (putK kvs k v))) ∨
  ∃ kvs k b, H a = some (.dT kvs) ∧ y = .ref b ∧ H b = some (.tup (k.map kV)) ∧ kvs.length < sizeLine ∧ H' = upd H a (.dT (putK kvs k v))


section
variable {X : Cx} {pins : List (Addr × Obj)} {σ : St} {H : Hp} {s : Shared} {a : Addr} {y v : V} {u r : Value} {o : Option V} {A : Around} {E : Value → Shared → Prop}


end

section
variable {X : Cx} {pins : List (Addr × Obj)} {σ : St} {H : Hp} {s : Shared} {a : Addr} {kvs : List (Key × V)} {k : Key} {u : Value} {A : Around} {E : Value → Shared → Prop}
end


/-! ### readings and rules -/
/-- the element of a subscription, not a slice -/
def NoSl (i : Expr) : Prop := ∀ ov iv, subscripted i false ov iv = operate [ov, iv] (getItem ov iv)


/-- d[y] -/
def tDGet (td ty : TE) : TE := fun σ H Q => td σ H fun x H1 => ty σ H1 fun y H2 => ∃ a v, x = .ref a ∧ DGet H2 a y (some v) ∧ Q v H2
/-- y in d, y not in d -/
def tDIn (ty td : TE) : TE := fun σ H Q => ty σ H fun y H1 => td σ H1 fun x H2 => ∃ a o, x = .ref a ∧ DGet H2 a y o ∧ Q (.bl o.isSome) H2
def tDNotIn (ty td : TE) : TE := fun σ H Q => ty σ H fun y H1 => td σ H1 fun x H2 => ∃ a o, x = .ref a ∧ DGet H2 a y o ∧ Q (.bl (!o.isSome)) H2
/-- d[y] = v -/
def sDPut (td ty tv : TE) : TS := fun D σ H => tv σ H fun v H1 => td σ H1 fun x H2 => ty σ H2 fun y H3 => ∃ a H4, x = .ref a ∧ DPut H3 a y v H4 ∧ D.nx σ H4
/-- d[y] op= v -/
def sDAug (td ty tv : TE) (rd : V → V → Hp → VK → Prop) : TS := fun D σ H => td σ H fun x H1 => ty σ H1 fun y H2 => ∃ a v, x = .ref a ∧ DGet H2 a y (some v) ∧
  tv σ H2 fun y2 H3 => rd v y2 H3 fun z H4 => ∃ H5, DPut H4 a y z H5 ∧ D.nx σ H5
/-- del d[y] -/
def sDDel (td ty : TE) : TS := fun D σ H => td σ H fun x H1 => ty σ H1 fun y H2 => ∃ a kvs k, x = .ref a ∧ H2 a = some (.dK kvs) ∧ y = kV k ∧ (valV kvs k).isSome = true ∧ D.nx σ (upd H2 a (.dK (dropK kvs k)))

section
variable {X : Cx} {o i e value : Expr} {pos pos' tpos : Pos} {td ty tv : TE}
end


/-! ### displays -/
/-- {}, to be a dict of the kind that is wanted -/
def tDNewK : TE := fun _ H Q => ∀ p, H p = none → Q (.ref p) (upd H p (.dK []))
def tDNewT : TE := fun _ H Q => ∀ p, H p = none → Q (.ref p) (upd H p (.dT []))
section
variable {X : Cx} {pos : Pos}
end

/-- the pairs of a display, from the left -/
def tPairs : List (TE × TE) → St → Hp → (List (V × V) → Hp → Prop) → Prop
  | [], _, H, Q => Q [] H
  | (tk, tv) :: r, σ, H, Q => tk σ H fun x H1 => tv σ H1 fun y H2 => tPairs r σ H2 fun ps H3 => Q ((x, y) :: ps) H3
abbrev VV : List (V × V) → List (Value × Value) → Prop := Paired fun p q => RelV p.1 q.1 ∧ RelV p.2 q.2
def PPs (X : Cx) (pos : Pos) (keys : List (Option Expr)) (values : List Expr) (trs : List (TE × TE)) : Prop :=
  ∀ (pins : List (Addr × Obj)) (s : Shared) (σ : St) (H : Hp) (Q : List (V × V) → Hp → Prop), Inv X pins σ H s → tPairs trs σ H Q →
    wpAny (model X.prog X.w) X.A (evalPairs (pairTrees keys values X.env pos)) (fun vs s' => ∃ ps H', Inv X pins σ H' s' ∧ VV ps vs ∧ Q ps H') X.xe s

def mergeK (kvs more : List (Key × V)) : List (Key × V) := more.foldl (fun acc kv => putK acc kv.1 kv.2) kvs
/-- {k: v, ..} with keys ints and texts; the new dict stands empty while the pairs are made -/
def tDisp (trs : List (TE × TE)) : TE := fun σ H Q => ∀ p, H p = none → tPairs trs σ (upd H p (.dK [])) fun ps H2 => H2 p = some (.dK []) ∧ ∃ kvs : List (Key × V), ps = kvs.map (fun kv => (kV kv.1, kv.2)) ∧ kvs.length ≤ 15 ∧ Q (.ref p) (upd H2 p (.dK (mergeK [] kvs)))


/-! ### methods -/
/-- a method call o.m(e) of a built-in, with one argument: what must be seen of the text -/
structure M1 (X : Cx) (o : Expr) (m : Str) (apos : Pos) (e : Expr) (cpos : Pos) : Prop where
  base : attributeBase o m X.env (eval o X.env) = eval o X.env
  few : ((backTo cpos (starEach [e] X.env)).all (fun x => !x.1) && (backToKw cpos (keywordEach [] X.env)).all (fun x => x.1.isSome)
    && decide (([e] : List Expr).length + ([] : List Keyword).length + (if ([] : List Keyword).isEmpty then 0 else 1) < 30)) = true
  line : (apos.endLine == cpos.line) = true
  trees : backTo cpos (starEach [e] X.env) = [(false, eval e X.env)]
structure M2 (X : Cx) (o : Expr) (m : Str) (apos : Pos) (e f : Expr) (cpos : Pos) : Prop where
  base : attributeBase o m X.env (eval o X.env) = eval o X.env
  few : ((backTo cpos (starEach [e, f] X.env)).all (fun x => !x.1) && (backToKw cpos (keywordEach [] X.env)).all (fun x => x.1.isSome)
    && decide (([e, f] : List Expr).length + ([] : List Keyword).length + (if ([] : List Keyword).isEmpty then 0 else 1) < 30)) = true
  line : (apos.endLine == cpos.line) = true
  trees : backTo cpos (starEach [e, f] X.env) = [(false, eval e X.env), (false, eval f X.env)]

/-- a is a dict, whatever its keys -/
def IsD (H : Hp) (a : Addr) : Prop := (∃ kvs, Rd H a (.dK kvs)) ∨ ∃ kvs, Rd H a (.dT kvs)

section
variable {X : Cx} {pins : List (Addr × Obj)} {σ : St} {H : Hp} {s : Shared} {a : Addr} {y d : V} {u r : Value} {o : Option V} {A : Around} {E : Value → Shared → Prop}
end

def tDGet1 (td ty : TE) : TE := fun σ H Q => td σ H fun x H1 => ∃ a, x = .ref a ∧ IsD H1 a ∧ ty σ H1 fun y H2 => ∃ o, DGet H2 a y o ∧ Q (o.getD .non) H2
def tDGet2 (td ty tx : TE) : TE := fun σ H Q => td σ H fun x H1 => ∃ a, x = .ref a ∧ IsD H1 a ∧ ty σ H1 fun y H2 => tx σ H2 fun z H3 => ∃ o, DGet H3 a y o ∧ Q (o.getD z) H3
/-- d.pop(k): there; d.pop(k, x): there or not -/
def tDPop1 (td ty : TE) : TE := fun σ H Q => td σ H fun x H1 => ∃ a, x = .ref a ∧ IsD H1 a ∧ ty σ H1 fun y H2 => ∃ kvs k v, H2 a = some (.dK kvs) ∧ y = kV k ∧ valV kvs k = some v ∧ Q v (upd H2 a (.dK (dropK kvs k)))
def tDPop2 (td ty tx : TE) : TE := fun σ H Q => td σ H fun x H1 => ∃ a, x = .ref a ∧ IsD H1 a ∧ ty σ H1 fun y H2 => tx σ H2 fun z H3 => ∃ kvs k, H3 a = some (.dK kvs) ∧ y = kV k ∧
  (∀ v, valV kvs k = some v → Q v (upd H3 a (.dK (dropK kvs k)))) ∧ (valV kvs k = none → Q z H3)
section
variable {X : Cx} {o e f : Expr} {apos cpos : Pos} {td ty tx : TE}
end

/-! ### dict(d): a copy -/
section
variable {X : Cx} {pins : List (Addr × Obj)} {σ : St} {H : Hp} {s : Shared} {a : Addr} {kvs : List (Key × V)} {A : Around} {E : Value → Shared → Prop}
end


section
variable {X : Cx} {pins : List (Addr × Obj)} {σ : St} {H : Hp} {s : Shared} {a : Addr} {y : V} {u : Value} {A : Around} {E : Value → Shared → Prop}
end
end L2
namespace L2
open PySem PySem.Spec PyProof.Rows
section
variable {X : Cx}
end
/-! ### a dict's pairs: keys that differ -/
section
variable {κ : Type} [DecidableEq κ]
end
end L2

set_option Elab.async false
set_option linter.all false
set_option maxRecDepth 100000
set_option maxHeartbeats 4000000
/-! Comprehensions over the hand layer. -/
namespace L2
open PySem PySem.Spec PyProof.Rows

/-- the block of a comprehension as a context of its own -/
def cxComp (X : Cx) (N : List Str) (scope : Scope) (cl : List (Str × Addr)) (C : Addr) (s : Shared) (H : Hp) (ex : List Addr) : Cx where
  prog := X.prog
  w := X.w
  K := X.K
  mg := X.mg
  base := X.base
  A := X.A
  N := N
  s₀ := s
  H₀ := H
  env := compEnvC scope cl C X.env
  outer := X.stack
  stack := X.stack
  ex := ex
  fn := fun _ => false
  calm := X.calm
  pn := []
  xe := fun _ _ => False


/-- the closure of a block: a cell for each free name -/
theorem closure_of {env : Env} : ∀ (names : List (Str × NameKind)) (acc : List (Str × Addr)), (∀ y ∈ names, y.2 = .free → ∃ c, env.cells.lookup y.1 = some c) →
    ∃ cl, (forIn names acc (fun x cs => match x with | (name, kind) => if (kind == NameKind.free) = true then (do let a ← cellOf env name; pure (ForInStep.yield ((name, a) :: cs))) else pure (ForInStep.yield cs)) : Sem (List (Str × Addr))) = pure cl ∧
      (∀ p ∈ cl, p ∈ acc ∨ env.cells.lookup p.1 = some p.2) ∧ (∀ y ∈ names, y.2 = .free → ∃ c, (y.1, c) ∈ cl) ∧ ∀ p ∈ acc, p ∈ cl
  | [], acc, _ => ⟨acc, by rw [List.forIn_nil], fun p hp => .inl hp, fun _ h => (nomatch h), fun _ h => h⟩
  | (n, k) :: r, acc, h => by
    rw [List.forIn_cons]
    by_cases hk : k = .free
    · subst hk
      obtain ⟨c, hc⟩ := h (n, .free) List.mem_cons_self rfl
      obtain ⟨cl, e, h1, h2, h3⟩ := closure_of r ((n, c) :: acc) fun y hy => h y (List.mem_cons_of_mem _ hy)
      have ec : cellOf env n = pure c := by unfold cellOf; rw [hc]
      refine ⟨cl, ?_, fun p hp => ?_, fun y hy hf => ?_, fun p hp => h3 p (List.mem_cons_of_mem _ hp)⟩
      · simp only [beq_self_eq_true, if_true, ec, pure_bind]
        exact e
      · rcases h1 p hp with q | q
        · rcases List.mem_cons.mp q with rfl | q
          · exact .inr hc
          · exact .inl q
        · exact .inr q
      · rcases List.mem_cons.mp hy with rfl | hy
        · exact ⟨c, h3 _ List.mem_cons_self⟩
        · exact h2 y hy hf
    · obtain ⟨cl, e, h1, h2, h3⟩ := closure_of r acc fun y hy => h y (List.mem_cons_of_mem _ hy)
      have hb : (k == NameKind.free) = false := by simpa using hk
      refine ⟨cl, ?_, h1, fun y hy hf => ?_, h3⟩
      · simp only [hb, Bool.false_eq_true, if_false, pure_bind]
        exact e
      · rcases List.mem_cons.mp hy with rfl | hy
        · exact absurd hf hk
        · exact h2 y hy hf

theorem mem_lookup_some {α : Type} : ∀ {l : List (Str × α)} {x : Str} {c : α}, (x, c) ∈ l → ∃ d, l.lookup x = some d
  | (y, e) :: r, x, c, h => by
    rw [List.lookup_cons]
    cases hb : x == y with
    | true => exact ⟨e, rfl⟩
    | false =>
      rcases List.mem_cons.mp h with q | q
      · cases q; simp at hb
      · exact mem_lookup_some q
theorem closureFor_of {scope : Scope} {env : Env} (h : ∀ y ∈ scope.names, y.2 = .free → ∃ c, env.cells.lookup y.1 = some c) :
    ∃ cl, closureFor scope env = pure cl ∧ (∀ x c, cl.lookup x = some c → env.cells.lookup x = some c) ∧ ∀ y ∈ scope.names, y.2 = .free → ∃ c, cl.lookup y.1 = some c := by
  obtain ⟨cl, e, h1, h2, _⟩ := closure_of (env := env) scope.names [] h
  refine ⟨cl, ?_, fun x c q => ?_, fun y hy hf => ?_⟩
  · simp only [closureFor]
    rw [e]
    rfl
  · rcases h1 _ (PySem.mem_of_lookup q) with z | z
    · cases z
    · exact z
  · obtain ⟨c, hc⟩ := h2 y hy hf
    exact mem_lookup_some hc

section
variable {prog : Program} {w : World} {A : Around} {R : Result → Shared → Prop} {s : Shared}
theorem comp_loop {elt target iter : Expr} {ifs : List Expr} {scope : Scope} {pos : Pos} {it acc : Value} {env : Env} (I : Nat → Shared → Prop)
    (turn : ∀ n s, I n s → wpAny (model prog w) A (pyNext it) (fun r s₁ => match r with
      | none => R (.ok .next) s₁
      | some v => wpAny (model prog w) A (letOwnedTupleGo target it v) (fun _ s₁' => wpAny (model prog w) A (assign target env v) (fun _ s₂ =>
          wpAny (model prog w) A (forIn ifs true fun c r => if r = true then do let ok ← isTrue c env (eval c env); pure (ForInStep.yield ok) else pure (ForInStep.yield r)) (fun ok s₃ =>
            if ok = true then wpAny (model prog w) A (eval elt env) (fun x s₄ =>
              wpAny (model prog w) A (call (.builtin "list.append") [acc, x]) (fun _ s₅ => ∃ m, m < n ∧ I m s₅) (fun _ _ => False) s₄) (fun _ _ => False) s₃
            else ∃ m, m < n ∧ I m s₃) (fun _ _ => False) s₂) (fun _ _ => False) s₁') (fun _ _ => False) s₁) (fun _ _ => False) s)
    (n : Nat) (h : I n s) : codeAny (model prog w) A (.compLoop (.ListComp elt [⟨target, iter, ifs, 0⟩] scope pos) 0 it acc env) R s := by
  refine codeAny_loop rfl I (fun n s hI => ?_) n h
  show wpAny _ A ((compTurn (.ListComp elt [⟨target, iter, ifs, 0⟩] scope pos) 0 it acc env).onRaise (fun x => do noteFrame x env; theTreesLotGoes x)) _ _ s
  refine wpAny_noted ?_
  rw [compTurn_list]
  refine wpAny_bind (wpAny_standAt (wpAny_bind (wpAny_mono (turn n s hI) (fun r s₁ h₁ => ?_) fun _ _ f => f.elim)))
  cases r with
  | none => exact wpAny_pure h₁
  | some v =>
    refine wpAny_bind (wpAny_mono h₁ (fun _ s₁' h₁' => ?_) fun _ _ f => f.elim)
    refine wpAny_bind (wpAny_mono h₁' (fun _ s₂ h₂ => wpAny_bind (wpAny_mono h₂ (fun ok s₃ h₃ => ?_) fun _ _ f => f.elim)) fun _ _ f => f.elim)
    cases ok with
    | false => exact wpAny_pure ⟨rfl, h₃⟩
    | true =>
      exact wpAny_bind (wpAny_bind (wpAny_mono h₃ (fun x s₄ h₄ => wpAny_bind (wpAny_mono h₄ (fun _ s₅ h₅ => wpAny_pure (wpAny_pure ⟨rfl, h₅⟩)) fun _ _ f => f.elim)) fun _ _ f => f.elim))
end

/-- the free names' values, as the frame around has them -/
def cst (k : Nat) (fr : List Nat) (σ : St) : St := List.replicate k none ++ fr.map fun j => (σ[j]?).join

/-- what is asked of a block's scope: k own names first, then the free ones, which stand in the frame around at fr -/
structure CompScope (X : Cx) (loc free : List Str) (fr : List Nat) (scope : Scope) : Prop where
  kind : scope.kind = .function
  cell : ∀ y ∈ scope.names, y.2 ≠ .cell
  names : ∀ y ∈ scope.names, y.2 = .local → scope.names.lookup y.1 = some .local
  frees : ∀ y ∈ scope.names, y.2 = .free → X.env.kindOf y.1 = some .cell ∨ X.env.kindOf y.1 = some .free
  at_ : ∀ (i j : Nat) (x : Str), fr[i]? = some j → free[i]? = some x → X.N[j]? = some x ∧ scope.names.lookup x = some .free
  len : fr.length = free.length

theorem lookup_relabel_free {env : Env} : ∀ {names : List (Str × NameKind)} {x : Str}, (∀ y ∈ names, y.2 ≠ .cell) →
    ((names.map fun (n, k) => if (k == NameKind.free && env.scope.kind == .function && env.kindOf n == some .cell) then (n, NameKind.cell) else (n, k)).lookup x = some .cell ∨
     (names.map fun (n, k) => if (k == NameKind.free && env.scope.kind == .function && env.kindOf n == some .cell) then (n, NameKind.cell) else (n, k)).lookup x = some .free) → names.lookup x = some .free
  | [], _, _, h => by simp at h
  | (n, k) :: r, x, hc, h => by
    have ih := @lookup_relabel_free env r x fun y hy => hc y (List.mem_cons_of_mem _ hy)
    rw [List.map_cons] at h
    rw [List.lookup_cons]
    cases hx : x == n with
    | true =>
      have hk : k ≠ .cell := hc (n, k) List.mem_cons_self
      dsimp only at h ⊢
      by_cases hb : (k == NameKind.free && env.scope.kind == .function && env.kindOf n == some .cell) = true
      · have : k = .free := by
          rw [Bool.and_eq_true, Bool.and_eq_true] at hb
          simpa using hb.1.1
        rw [this]
      · rw [if_neg hb, List.lookup_cons, hx] at h
        rcases h with h | h
        · have : k = .cell := Option.some.inj h
          exact absurd this hk
        · exact h
    | false =>
      dsimp only at h ⊢
      refine ih ?_
      by_cases hb : (k == NameKind.free && env.scope.kind == .function && env.kindOf n == some .cell) = true
      · rw [if_pos hb, List.lookup_cons, hx] at h; exact h
      · rw [if_neg hb, List.lookup_cons, hx] at h; exact h
theorem lookup_relabel_back {env : Env} : ∀ {names : List (Str × NameKind)} {x : Str}, names.lookup x = some .free →
    ((names.map fun (n, k) => if (k == NameKind.free && env.scope.kind == .function && env.kindOf n == some .cell) then (n, NameKind.cell) else (n, k)).lookup x = some .cell ∨
     (names.map fun (n, k) => if (k == NameKind.free && env.scope.kind == .function && env.kindOf n == some .cell) then (n, NameKind.cell) else (n, k)).lookup x = some .free)
  | [], _, h => by simp at h
  | (n, k) :: r, x, h => by
    have ih := @lookup_relabel_back env r x
    rw [List.map_cons]
    rw [List.lookup_cons] at h
    cases hx : x == n with
    | true =>
      rw [hx] at h
      have hk : k = .free := Option.some.inj h
      subst hk
      dsimp only
      by_cases hb : (NameKind.free == NameKind.free && env.scope.kind == .function && env.kindOf n == some .cell) = true
      · rw [if_pos hb, List.lookup_cons, hx]; exact .inl rfl
      · rw [if_neg hb, List.lookup_cons, hx]; exact .inr rfl
    | false =>
      rw [hx] at h
      have := ih h
      dsimp only
      by_cases hb : (k == NameKind.free && env.scope.kind == .function && env.kindOf n == some .cell) = true
      · rw [if_pos hb, List.lookup_cons, hx]; exact this
      · rw [if_neg hb, List.lookup_cons, hx]; exact this

section
variable {X : Cx} {pins : List (Addr × Obj)} {σ : St} {H : Hp} {s : Shared}
/-- at the block's entry -/
theorem inv_comp {loc free : List Str} {fr : List Nat} {scope : Scope} {cl : List (Str × Addr)} {h1 : Heap} {t1 : Nat} {fp : List Addr} (S : CompScope X loc free fr scope) (I : Inv X pins σ H s)
    (hc1 : ∀ x c, cl.lookup x = some c → X.env.cells.lookup x = some c) (hc2 : ∀ y ∈ scope.names, y.2 = .free → ∃ c, cl.lookup y.1 = some c)
    (hns : h1.Ns s.heap.objs.size (fun _ => none)) (hk : ∀ b o, s.heap.get? b = some o → h1.get? b = some o)
    (hfp : ∀ b ∈ fp, FpOk X pins H b) (hfo : ∀ b ∈ fp, ∃ o, s.heap.get? b = some o) :
    Inv (cxComp X (loc ++ free) scope cl s.heap.objs.size s H fp) [] (cst loc.length fr σ) H { s with heap := h1, toks := t1 } := by
  have fpb : ∀ b ∈ fp, b < s.heap.objs.size := fun b hb => let ⟨o, e⟩ := hfo b hb; Heap.lt_size e
  refine ⟨⟨I.ok.mod, S.kind, I.ok.glob, I.ok.blt, Nat.le_refl _, fun x y c e1 e2 => I.ok.inj x y c (hc1 _ _ e1) (hc1 _ _ e2), fun x hx => ?_, fun x c f => (nomatch f), I.ok.hd, I.ok.frames, .inl rfl, fun b hb => ?_, I.bs, Nat.le_trans I.ok.bsz I.sz, fun b o e hb => ?_, fun b hb z => ?_, I.stack, I.stkFree⟩,
    rfl, I.bare, Un.kept hk, ⟨_, hns, fun i x v e1 e2 e3 => ?_⟩, fun x c e => ?_, I.hok.fresh (Nat.le_refl _), fun x c e => I.freeC x c (hc1 x c e), fun p hp => absurd (show p ∈ ([] : List (Addr × Obj)) from hp) (by simp), I.hok.kept hk, ?_⟩
  · have q : scope.names.lookup x = some .free := lookup_relabel_free S.cell hx
    exact hc2 (x, .free) (PySem.mem_of_lookup q) rfl
  · exact ⟨Nat.ne_of_lt (fpb b hb), fun x c e => (hfp b hb).2.2.2.2.1 x c (hc1 x c e)⟩
  · rcases (hfp b hb).2.2.2.1 with z | z
    · exact I.ok.noex b o e z
    · exact absurd (Nat.lt_of_lt_of_le (Heap.lt_size e) (Nat.le_trans I.ok.bsz z)) (Nat.lt_irrefl _)
  · rcases List.mem_cons.mp (I.stkSub b z) with e | e
    · exact (hfp b hb).2.1 e
    · exact (hfp b hb).2.2.1 e
  · have e1' : (loc ++ free)[i]? = some x := e1
    unfold cst at e2
    by_cases hi : i < loc.length
    · rw [List.getElem?_append_left (by simpa using hi), List.getElem?_replicate] at e2
      rw [if_pos hi] at e2
      cases e2
    · have hi' : loc.length ≤ i := Nat.le_of_not_lt hi
      rw [List.getElem?_append_right (by simpa using hi'), List.length_replicate, List.getElem?_map] at e2
      rw [List.getElem?_append_right hi'] at e1'
      cases hj : fr[i - loc.length]? with
      | none => rw [hj] at e2; cases e2
      | some j =>
        rw [hj] at e2
        have e2' : (σ[j]?).join = some v := Option.some.inj e2
        obtain ⟨n1, n2⟩ := S.at_ _ j x hj e1'
        have e4 : σ[j]? = some (some v) := by
          cases q : σ[j]? with
          | none => rw [q] at e2'; cases e2'
          | some z => rw [q] at e2'; exact congrArg some e2'
        have kf := S.frees (x, .free) (PySem.mem_of_lookup n2) rfl
        obtain ⟨m, hn, hl⟩ := I.loc
        obtain ⟨u, r, l⟩ := hl j x v n1 e4 (kf.elim (fun z => .inr (.inl z)) fun z => .inr (.inr z))
        refine ⟨u, r, .inr ⟨lookup_relabel_back n2, ?_⟩⟩
        obtain ⟨c, hc⟩ := hc2 (x, .free) (PySem.mem_of_lookup n2) rfl
        have hcx := hc1 x c hc
        rcases l with ⟨hk', _⟩ | ⟨_, c', hc', hcell⟩
        · rcases kf with z | z <;> (rw [hk'] at z; cases z)
        · rw [hcx] at hc'
          cases hc'
          obtain ⟨o, ho, hd⟩ := hcell
          exact ⟨c, hc, o, hk _ _ ho, hd⟩
  · obtain ⟨v, o, ho, hd⟩ := I.cell x c (hc1 x c e)
    exact ⟨v, o, hk _ _ ho, hd⟩
  · show (cst loc.length fr σ).length = (loc ++ free).length
    unfold cst
    rw [List.length_append, List.length_replicate, List.length_map, List.length_append, S.len]

/-- what tComp asks behind the new list, over J -/
abbrev CompW (J : It) (g : TG) (tc : TT) (te : TE) (σ0 : St) (H : Hp) (Q : VK) (D : Addr) : Prop :=
  ∃ W : Nat → Nat → List V → St → Hp → Prop, (∃ m, W 0 m [] σ0 (upd H D (.lst []))) ∧ ∀ i m acc σ' H', W i m acc σ' H' → H' D = some (.lst acc) ∧
    ((J.stop i H' ∧ Q (.ref D) H') ∨ (J.go i H' ∧ ∃ N : List V → St → Hp → Prop, (∀ acc' σ3 H5, N acc' σ3 H5 → ∃ m', m' < m ∧ W (i + 1) m' acc' σ3 H5) ∧ ∀ x H2, J.yld i H' x H2 → g x σ' H2 fun σ3 H3 => tc σ3 H3 fun b H4 =>
      if b = true then te σ3 H4 fun v H5 => H5 D = some (.lst acc) ∧ acc.length < sizeLine ∧ N (acc ++ [v]) σ3 (upd H5 D (.lst (acc ++ [v])))
      else N acc σ3 H4))
def tComp (wi : TI) (k : Nat) (fr : List Nat) (g : TG) (tc : TT) (te : TE) : TE := fun σ H Q => wi σ H fun J H1 => ∀ D, H1 D = none → CompW J g tc te (cst k fr σ) H1 Q D
def tTrue : TT := fun _ H Q => Q true H

/-- the tests of a comprehension's clause -/
def PTs (X : Cx) (ifs : List Expr) (t : TT) : Prop :=
  ∀ (pins : List (Addr × Obj)) (s : Shared) (σ : St) (H : Hp) (Q : Bool → Hp → Prop), Inv X pins σ H s → t σ H Q →
    wpAny (model X.prog X.w) X.A (forIn ifs true fun c r => if r = true then do let ok ← isTrue c X.env (eval c X.env); pure (ForInStep.yield ok) else pure (ForInStep.yield r)) (TP X pins σ Q) X.xe s
theorem pts_nil : PTs X [] tTrue := fun pins s σ H Q I h => wpAny_tests_nil ⟨H, I, h⟩

/-- what stands where the block has come to its end -/
structure CompEnd (X : Cx) (pins : List (Addr × Obj)) (σ : St) (Q : VK) (D C : Addr) (s6 : Shared) : Prop where
  inv : ∃ H5, Inv X pins σ H5 s6 ∧ H5 C = none ∧ Q (.ref D) H5
  ns : ∃ m, s6.heap.Ns C m
  neL : C ≠ X.env.locals
  nfs : C ∉ X.fs
  new : X.s₀.heap.objs.size ≤ C
  cel : ∀ x c, X.env.cells.lookup x = some c → c ≠ C
  pin : ∀ p ∈ X.pn ++ pins, p.1 ≠ C

theorem comp_run {elt tg iter : Expr} {ifs : List Expr} {loc free : List Str} {fr : List Nat} {scope : Scope} {pos : Pos} {wi : TI} {g : TG} {tc : TT} {te : TE} (hc : X.calm = true) (S : CompScope X loc free fr scope) (hi : PI X tg iter wi)
    (hg : ∀ cl C s H ex, PG (cxComp X (loc ++ free) scope cl C s H ex) tg g) (ht : ∀ cl C s H ex, PTs (cxComp X (loc ++ free) scope cl C s H ex) ifs tc) (he : ∀ cl C s H ex, PE (cxComp X (loc ++ free) scope cl C s H ex) elt te)
    (I : Inv X pins σ H s) {Q : VK} (h : tComp wi loc.length fr g tc te σ H Q) {cl : List (Str × Addr)} (hc1 : ∀ x c, cl.lookup x = some c → X.env.cells.lookup x = some c) (hc2 : ∀ y ∈ scope.names, y.2 = .free → ∃ c, cl.lookup y.1 = some c)
    {RR : Value → Addr → Result → Shared → Prop} (hRR : ∀ D C s6, CompEnd X pins σ Q D C s6 → RR (.ref D) C (.ok .next) s6) :
    wpAny (model X.prog X.w) X.A (eval iter X.env) (fun x s1 => wpAny (model X.prog X.w) X.A (pyIter x) (fun it s2 => wpAny (model X.prog X.w) X.A (newList []) (fun acc s3 =>
      wpAny (model X.prog X.w) X.A (newFunctionEnv scope X.env.globals cl [] X.env.qual none .none (some X.env)) (fun cenv s4 =>
        codeAny (model X.prog X.w) X.A (.compStart (.ListComp elt [⟨tg, iter, ifs, 0⟩] scope pos) 0 it acc { cenv with scope := relabel scope X.env }) (RR acc cenv.locals) s4) X.xe s3) X.xe s2) X.xe s1) X.xe s := by
  refine thn (hi pins s σ H _ I h) fun v s1 h1 => thn h1 fun itv s2 h2 => ?_
  obtain ⟨it, fp, tn, J, H2, e, I2, T, st2, f2, q2⟩ := h2
  subst e
  have hD : H2 s2.heap.objs.size = none := I2.hok.fresh (Nat.le_refl _)
  obtain ⟨W, ⟨m0, w0⟩, turn⟩ := q2 s2.heap.objs.size hD
  refine wpAny_newObj_type ?_
  generalize hs3 : ({ s2 with heap := s2.heap.push { cls := .type "list", dict := none, data := .seq ([] : List Value).toArray } } : Shared) = s3
  have I3 : Inv X pins σ (upd H2 s2.heap.objs.size (.lst [])) s3 := by
    rw [← hs3]
    exact I2.lnew (its := []) (t' := s2.toks) .nil (Nat.zero_le _)
  have k23 : ∀ b o, s2.heap.get? b = some o → s3.heap.get? b = some o := fun b o q => by rw [← hs3]; exact Heap.get?_push_of_some _ q
  have f3 : ∀ b ∈ fp, FpOk X pins (upd H2 s2.heap.objs.size (.lst [])) b := fun b hb => by
    obtain ⟨o, e, _⟩ := T.obj _ _ st2 b hb
    exact ⟨by rw [upd_ne (Nat.ne_of_lt (Heap.lt_size e))]; exact (f2 b hb).1, (f2 b hb).2⟩
  have o3 : ∀ b ∈ fp, ∃ o, s3.heap.get? b = some o := fun b hb => let ⟨o, e, _⟩ := T.obj _ _ st2 b hb; ⟨o, k23 b o e⟩
  have st3 : tn 0 s3.heap := T.keep _ _ _ st2 fun b _ o e => k23 b o e
  refine wpAny_newFunctionEnv S.cell (by intro y hy; simp at hy) (fun h4 hns hsb => ?_) S.kind
  try dsimp only at hns hsb ⊢
  have k34 : ∀ b o, s3.heap.get? b = some o → h4.get? b = some o := fun b o q => hsb.extBut b o (Nat.ne_of_lt (Heap.lt_size q)) (Heap.get?_push_of_some _ q)
  have I4 := inv_comp (t1 := s3.toks + ([] : List (Str × Value)).length) S I3 hc1 hc2 hns k34 f3 o3
  have hgC := hg cl s3.heap.objs.size s3 (upd H2 s2.heap.objs.size (.lst [])) fp
  have htC := ht cl s3.heap.objs.size s3 (upd H2 s2.heap.objs.size (.lst [])) fp
  have heC := he cl s3.heap.objs.size s3 (upd H2 s2.heap.objs.size (.lst [])) fp
  have st4 : tn 0 h4 := T.keep _ _ _ st3 fun b _ o e => k34 b o e
  generalize hY : cxComp X (loc ++ free) scope cl s3.heap.objs.size s3 (upd H2 s2.heap.objs.size (.lst [])) fp = Y at I4 hgC htC heC
  have fY : ∀ {H' : Hp}, (∀ b ∈ fp, H' b = none) → ∀ b ∈ fp, FpOk Y [] H' b := fun hn b hb => by
    subst hY
    refine ⟨hn b hb, ?_, fun z => ?_, .inl hb, fun x c e => (f3 b hb).2.2.2.2.1 x c (hc1 x c e), fun p hp => absurd (show p ∈ ([] : List (Addr × Obj)) from hp) (by simp)⟩
    · obtain ⟨o, e⟩ := o3 b hb
      exact Nat.ne_of_lt (Heap.lt_size e)
    · rcases List.mem_cons.mp (I3.stkSub b z) with e | e
      · exact (f3 b hb).2.1 e
      · exact (f3 b hb).2.2.1 e
  have hYp : Y.prog = X.prog := by rw [← hY]; rfl
  have hYw : Y.w = X.w := by rw [← hY]; rfl
  have hYK : Y.K = X.K := by rw [← hY]; rfl
  have hYA : Y.A = X.A := by rw [← hY]; rfl
  have hYe : Y.env = compEnvC scope cl s3.heap.objs.size X.env := by rw [← hY]; rfl
  have hYx : Y.xe = fun _ _ => False := by rw [← hY]; rfl
  have hYc : Y.calm = true := by rw [← hY]; exact hc
  have loop : codeAny (model X.prog X.w) X.A (.compLoop (.ListComp elt [⟨tg, iter, ifs, 0⟩] scope pos) 0 (.ref it) (.ref s2.heap.objs.size) (compEnvC scope cl s3.heap.objs.size X.env))
      (RR (.ref s2.heap.objs.size) s3.heap.objs.size) { s3 with heap := h4, toks := s3.toks + ([] : List (Str × Value)).length } := by
    refine comp_loop (fun n s' => ∃ i acc σ' H', Inv Y [] σ' H' s' ∧ tn i s'.heap ∧ (∀ b ∈ fp, H' b = none) ∧ W i n acc σ' H') ?_ m0 ⟨0, [], _, _, I4, st4, fun b hb => (f3 b hb).1, w0⟩
    rintro n s5 ⟨i, acc, σ5, H5, I5, st5, fr5, w5⟩
    obtain ⟨hacc, turn5⟩ := turn i n acc σ5 H5 w5
    rcases turn5 with ⟨stop, qn⟩ | ⟨go, N, hN, step⟩
    · have d := T.done Y hYp hYw hYK hYc i [] s5 σ5 H5 (fun _ _ => False) I5 (fY fr5) st5 stop
      rw [hYA] at d
      refine thn d fun r s6 ⟨hr, I6⟩ => ?_
      subst hr
      -- the block is left
      obtain ⟨m, hn, _⟩ := id I6.loc
      rw [hYe] at hn
      have fC : H5 s3.heap.objs.size = none := by
        have := I6.free
        rw [hYe] at this
        exact this
      have hok6 : HOk X.prog X.w H5 s6.heap := by
        have := I6.hok
        rw [hYp, hYw] at this
        exact this
      have un6 : Un (frs X.stack) fp (upd H2 s2.heap.objs.size (.lst [])) H5 s3.heap s6.heap := by
        have := I6.base
        subst hY
        exact this
      have os6 : s6.os = s3.os := by
        have := I6.os
        subst hY
        exact this
      have IX : Inv X pins σ H5 s6 := I3.call' (ch := fp) os6 un6 hok6 I6.bare fun b hb => ⟨(f3 b hb).2.2.2.1, (f3 b hb).2.1, (f3 b hb).2.2.2.2.1, (f3 b hb).2.2.2.2.2⟩
      refine hRR _ _ s6 ⟨⟨H5, IX, fC, qn⟩, ⟨m, hn⟩, Nat.ne_of_gt I3.lt, I3.nofs (Nat.le_refl _), I3.sz, fun x c e z => ?_, fun p hp z => ?_⟩
      · obtain ⟨v, q⟩ := I3.cell x c e
        exact absurd q.lt (by rw [z]; exact Nat.lt_irrefl _)
      · exact absurd (Heap.lt_size (I3.pin p hp).1) (by rw [z]; exact Nat.lt_irrefl _)
    · have d := T.item Y hYp hYw hYK hYc i [] s5 σ5 H5 (fun _ _ => False) I5 (fY fr5) st5 go
      rw [hYA] at d
      refine thn d fun r s6 ⟨u, hr, h6⟩ => ?_
      subst hr
      refine thn h6 fun _ s7 ⟨x, H7, I7, r7, y7, st7, fr7⟩ => ?_
      have I7' := I7.pinned (fY fr7) (T.obj _ _ st7)
      have g7 := hgC _ s7 σ5 H7 x u _ I7' r7 (step x H7 y7)
      rw [hYp, hYw, hYA, hYe, hYx] at g7
      refine thn g7 fun _ s8 ⟨σ8, H8, I8, q8⟩ => ?_
      have t8 := htC _ s8 σ8 H8 _ I8 q8
      rw [hYp, hYw, hYA, hYe, hYx] at t8
      have back : ∀ {σ9 : St} {H9 : Hp} {s9 : Shared} {acc' : List V}, Inv Y ([] ++ pinsAt fp s7.heap) σ9 H9 s9 → N acc' σ9 H9 → ∃ m, m < n ∧ ∃ i acc σ' H', Inv Y [] σ' H' s9 ∧ tn i s9.heap ∧ (∀ b ∈ fp, H' b = none) ∧ W i m acc σ' H' := fun {σ9 H9 s9 acc'} I9 w9 => by
        obtain ⟨m', hm, w9⟩ := hN _ _ _ w9
        refine ⟨m', hm, i + 1, acc', σ9, H9, I9.unpinned, T.keep _ _ _ st7 fun b hb o e => (I9.pin (b, o) (List.mem_append_right _ (List.mem_append_right _ (mem_pinsAt hb e)))).1, fun b hb => ?_, w9⟩
        obtain ⟨o, e, d⟩ := T.obj _ _ st7 b hb
        exact (I9.pin (b, o) (List.mem_append_right _ (List.mem_append_right _ (mem_pinsAt hb e)))).2.1
      refine thn t8 fun ok s9 ⟨H9, I9, q9⟩ => ?_
      cases ok with
      | false =>
        rw [if_neg (by simp)] at q9 ⊢
        exact back I9 q9
      | true =>
        rw [if_pos rfl] at q9 ⊢
        have e9 := heC _ s9 σ8 H9 _ I9 q9
        rw [hYp, hYw, hYA, hYe, hYx] at e9
        refine thn e9 fun y s10 ⟨z, H10, I10, r10, hacc10, hlen, w10⟩ => ?_
        have a10 := mt_append (X := Y) _ s10 σ8 H10 (.ref s2.heap.objs.size) [z] (.ref s2.heap.objs.size) [y] (fun _ H' => N (acc ++ [z]) σ8 H') I10 rfl (.cons r10 .nil) ⟨_, _, z, rfl, rfl, hacc10, hlen, w10⟩
        rw [hYp, hYw, hYA, hYx] at a10
        exact thn a10 fun _ s11 ⟨_, H11, I11, _, w11⟩ => back I11 w11
  exact codeAny_compStart_list loop (T.self X.A 0 _ _ _ st4 loop)

theorem pe_comp {elt tg iter : Expr} {ifs : List Expr} {loc free : List Str} {fr : List Nat} {scope : Scope} {pos : Pos} {wi : TI} {g : TG} {tc : TT} {te : TE} (hc : X.calm = true) (S : CompScope X loc free fr scope) (hi : PI X tg iter wi)
    (hg : ∀ cl C s H ex, PG (cxComp X (loc ++ free) scope cl C s H ex) tg g) (ht : ∀ cl C s H ex, PTs (cxComp X (loc ++ free) scope cl C s H ex) ifs tc) (he : ∀ cl C s H ex, PE (cxComp X (loc ++ free) scope cl C s H ex) elt te)
    (hs : ∀ x, foldedSetIterable iter X.env x = pure x := by intro _; rfl) : PE X (.ListComp elt [⟨tg, iter, ifs, 0⟩] scope pos) (tComp wi loc.length fr g tc te) := by
  intro pins s σ H Q I h
  rw [eval_ListComp]
  obtain ⟨cl, hcl, hc1, hc2⟩ := closureFor_of (scope := scope) (env := X.env) fun y hy hf => I.ok.has y.1 (S.frees y hy hf)
  refine wpAny_comprehension_free (use := none) rfl hs hcl S.kind S.names ?_
  refine comp_run (RR := fun acc C => compPost (model X.prog X.w) X.A X.xe none (EP X pins σ Q) acc C) hc S hi hg ht he I h hc1 hc2 fun D C s6 ce => ?_
  obtain ⟨H5, IX, fC, q⟩ := ce.inv
  obtain ⟨m, hn⟩ := ce.ns
  exact ⟨m, hn, fun h7 hs7 => ⟨.ref D, H5, IX.turned (t' := s6.toks) (fun b o hb e => hs7.extBut b o hb e) fC ce.neL (.inr ce.new) ce.cel ce.pin, rfl, q⟩⟩
/-- name = [.. for ..]: the name is stored ahead of the block's end -/
theorem ps_setComp {i : Nat} {y : Str} {py : Pos} {spos : Pos} {elt tg iter : Expr} {ifs : List Expr} {loc free : List Str} {fr : List Nat} {scope : Scope} {pos : Pos} {wi : TI} {g : TG} {tc : TT} {te : TE} (hN : X.N.Nodup) (hi' : X.N[i]? = some y) (hx : X.env.scope.names.lookup y = some .local)
    (hc : X.calm = true) (S : CompScope X loc free fr scope) (hi : PI X tg iter wi)
    (hg : ∀ cl C s H ex, PG (cxComp X (loc ++ free) scope cl C s H ex) tg g) (ht : ∀ cl C s H ex, PTs (cxComp X (loc ++ free) scope cl C s H ex) ifs tc) (he : ∀ cl C s H ex, PE (cxComp X (loc ++ free) scope cl C s H ex) elt te)
    (hs : ∀ x, foldedSetIterable iter X.env x = pure x := by intro _; rfl)
    (hsw : swapsWith (.ListComp elt [⟨tg, iter, ifs, 0⟩] scope pos) (some (.Name y py)) spos.line X.env = pure true := by rfl) :
    PS X (.Assign [.Name y py] (.ListComp elt [⟨tg, iter, ifs, 0⟩] scope pos) spos) (tAsg (tComp wi loc.length fr g tc te) (gName i)) := by
  intro pins s σ H D I h
  obtain ⟨cl, hcl, hc1, hc2⟩ := closureFor_of (scope := scope) (env := X.env) fun y hy hf => I.ok.has y.1 (S.frees y hy hf)
  rw [exec_Assign_Name_used _ _ _ _ hsw]
  refine wpAny_bind (wpAny_standAt (wpAny_bind ?_))
  show wpAny _ X.A (do let _ ← comprehension (.ListComp elt [⟨tg, iter, ifs, 0⟩] scope pos) scope X.env _ (newList []) false (eval iter X.env) (some (assign (.Name y py) X.env))) _ _ s
  refine wpAny_bind (wpAny_mono (wpAny_comprehension_free (use := some (assign (.Name y py) X.env)) (Q := fun _ s' => SP X pins D .next s') rfl hs hcl S.kind S.names ?_) (fun _ s' hq => wpAny_pure (wpAny_pure hq)) fun _ _ e => e)
  refine comp_run (RR := fun acc C => compPost (model X.prog X.w) X.A X.xe (some (assign (.Name y py) X.env)) (fun _ s' => SP X pins D .next s') acc C) hc S hi hg ht he I h hc1 hc2 fun L C s6 ce => ?_
  obtain ⟨H5, IX, fC, q⟩ := ce.inv
  obtain ⟨m, oC, es, ep, ho, hd, hk⟩ := ce.ns
  show wpAny _ X.A (assign (.Name y py) X.env (.ref L)) _ _ s6
  have IP : Inv X (pins ++ [(C, oC)]) σ H5 s6 := IX.pins_of fun p hp => (List.mem_append.mp hp).elim (fun z => IX.pin p (List.mem_append_right _ z)) fun z => by
    rw [List.mem_singleton.mp z]
    exact ⟨ho, fC, ce.neL, ce.nfs, fun v e => by rw [hd] at e; cases e⟩
  refine wpAny_assign_Name (store_ok IP hN hi' (.inl hx) (v := .ref L) rfl (fun s' I' => ?_) (.inr hx))
  have pc := I'.pin (C, oC) (List.mem_append_right _ (List.mem_append_right _ List.mem_cons_self))
  refine ⟨m, ⟨oC, es, ep, pc.1, hd, hk⟩, fun h7 hs7 => ?_⟩
  exact ⟨_, H5, I'.unpinned.turned (t' := s'.toks) (fun b o hb e => hs7.extBut b o hb e) fC ce.neL (.inr ce.new) ce.cel ce.pin, q⟩
end

/-! ### the forms one uses -/
section
variable {g : TG} {tc : TT} {te : TE} {k : Nat} {fr : List Nat} {σ : St} {H : Hp} {Q : VK} {D : Addr}
theorem comp_list {K : PySem.W.Frag} {a : Addr} {xs : List V} {σ0 : St} (Pv : Nat → List V → St → Hp → Prop) (h0 : Pv 0 [] σ0 (upd H D (.lst [])))
    (hD : ∀ i acc σ H, Pv i acc σ H → H D = some (.lst acc)) (hl : ∀ i acc σ H, i ≤ xs.length → Pv i acc σ H → SqL K H a xs)
    (hs : ∀ i x acc σ H, xs[i]? = some x → Pv i acc σ H → g x σ H fun σ3 H3 => tc σ3 H3 fun b H4 => if b = true then te σ3 H4 fun v H5 => H5 D = some (.lst acc) ∧ acc.length < sizeLine ∧ Pv (i + 1) (acc ++ [v]) σ3 (upd H5 D (.lst (acc ++ [v]))) else Pv (i + 1) acc σ3 H4)
    (hd : ∀ acc σ H, Pv xs.length acc σ H → Q (.ref D) H) : CompW (Itl K a) g tc te σ0 H Q D := by
  refine ⟨fun i m acc σ H => m = xs.length - i ∧ i ≤ xs.length ∧ Pv i acc σ H, ⟨xs.length, by simp, Nat.zero_le _, h0⟩, ?_⟩
  rintro i m acc σ H ⟨rfl, hi, p⟩
  refine ⟨hD i acc σ H p, ?_⟩
  have q := hl i acc σ H hi p
  by_cases hlt : i < xs.length
  · refine .inr ⟨⟨xs, xs[i], q, by simp [hlt]⟩, Pv (i + 1), fun acc' σ' H' p' => ⟨xs.length - (i + 1), by omega, rfl, hlt, p'⟩, fun x H' y => ?_⟩
    obtain ⟨e, y⟩ := y
    subst e
    exact hs i x acc σ _ (y xs q) p
  · have e : i = xs.length := by omega
    subst e
    exact .inl ⟨⟨xs, q, Nat.le_refl _⟩, hd acc σ H p⟩
theorem comp_range {lo : Int} {n : Nat} {σ0 : St} (Pv : Nat → List V → St → Hp → Prop) (h0 : Pv 0 [] σ0 (upd H D (.lst [])))
    (hD : ∀ i acc σ H, Pv i acc σ H → H D = some (.lst acc))
    (hs : ∀ i acc σ H, i < n → Pv i acc σ H → g (.int (lo + i)) σ H fun σ3 H3 => tc σ3 H3 fun b H4 => if b = true then te σ3 H4 fun v H5 => H5 D = some (.lst acc) ∧ acc.length < sizeLine ∧ Pv (i + 1) (acc ++ [v]) σ3 (upd H5 D (.lst (acc ++ [v]))) else Pv (i + 1) acc σ3 H4)
    (hd : ∀ acc σ H, Pv n acc σ H → Q (.ref D) H) : CompW (Itr lo n) g tc te σ0 H Q D := by
  refine ⟨fun i m acc σ H => m = n - i ∧ i ≤ n ∧ Pv i acc σ H, ⟨n, by simp, Nat.zero_le _, h0⟩, ?_⟩
  rintro i m acc σ H ⟨rfl, hi, p⟩
  refine ⟨hD i acc σ H p, ?_⟩
  by_cases hlt : i < n
  · refine .inr ⟨hlt, Pv (i + 1), fun acc' σ' H' p' => ⟨n - (i + 1), by omega, rfl, hlt, p'⟩, fun x H' y => ?_⟩
    obtain ⟨e, y⟩ := y
    subst e y
    exact hs i acc σ _ hlt p
  · have e : i = n := by omega
    subst e
    exact .inl ⟨Nat.le_refl _, hd acc σ H p⟩
end
end L2

set_option Elab.async false
set_option linter.all false
set_option maxRecDepth 100000
set_option maxHeartbeats 4000000
/-! The sort of fewer than 64 items, by an order: sorted, and a permutation. -/
namespace Srt
open PySem PySem.W PyProof.Rows

def Spec {α : Type} (lt : Nat → Nat → Bool) (n : Nat) : KasT α → (α → Prop) → Prop
  | .ret a, Q => Q a
  | .ask i j k, Q => i < n ∧ j < n ∧ Spec lt n (k (lt i j)) Q


/-- what is asked of the order -/
structure Ord {κ : Type} (lt : κ → κ → Bool) : Prop where
  trans : ∀ a b c, lt b a = false → lt c b = false → lt c a = false
  asym : ∀ a b, lt a b = true → lt b a = false

section
variable {κ : Type} {lt : κ → κ → Bool} (O : Ord lt) (f : Nat → κ) {n : Nat}
/-- the key of the item at place i of p -/
abbrev ky (p : Array Nat) (i : Nat) : κ := f (p.getD i 0)
def Le (lt : κ → κ → Bool) (a b : κ) : Prop := lt b a = false
def Up (lt : κ → κ → Bool) (f : Nat → κ) (p : Array Nat) (m : Nat) : Prop := ∀ i j, i ≤ j → j < m → lt (ky f p j) (ky f p i) = false
def Dn (lt : κ → κ → Bool) (f : Nat → κ) (p : Array Nat) (m : Nat) : Prop := ∀ i j, i ≤ j → j < m → lt (ky f p i) (ky f p j) = false
/-- p holds the numbers below n, each once -/
structure Pm (n : Nat) (p : Array Nat) : Prop where
  perm : p.toList.Perm (List.range n)
theorem Pm.size {p : Array Nat} (h : Pm n p) : p.size = n := by
  have := h.perm.length_eq
  simpa using this

include O
theorem irr (a : κ) : lt a a = false := by
  cases h : lt a a with
  | false => rfl
  | true => have := O.asym a a h; rw [h] at this; exact this

/-- all of a stretch are alike -/
def Alike (lt : κ → κ → Bool) (f : Nat → κ) (p : Array Nat) (a b : Nat) : Prop := ∀ i j, a ≤ i → i < b → a ≤ j → j < b → lt (ky f p i) (ky f p j) = false

end
end Srt

set_option Elab.async false
set_option linter.all false
set_option maxRecDepth 100000
set_option maxHeartbeats 4000000
/-! Built-in calls over the hand layer: isinstance, all, any, sum, sorted of rows, zip, == of lists. -/
namespace L2
open PySem PySem.Spec PyProof.Rows

/-! ### records of ours have turned, and perhaps a new object is tracked -/
section
variable {X : Cx} {pins : List (Addr × Obj)} {σ : St} {H : Hp} {s : Shared} {h' : Heap}
theorem Inv.turnLay {ch : List Addr} {a : Addr} {o : HO} {t' : Nat} (I : Inv X pins σ H s) (k : ∀ b u, b ∉ ch → s.heap.get? b = some u → h'.get? b = some u) (hch : ∀ b ∈ ch, FpOk X pins H b)
    (hp : s.heap.objs.size ≤ a) (new : ObjOk X.prog X.w (upd H a o) h' a o) : Inv X pins σ (upd H a o) { s with heap := h', toks := t' } := by
  have hn : H a = none := I.hok.fresh hp
  have ne : ∀ b u, s.heap.get? b = some u → b ≠ a := fun b u e => Nat.ne_of_lt (Nat.lt_of_lt_of_le (Heap.lt_size e) hp)
  have nc : ∀ b u, H b = some u → b ∉ ch := fun b u e hb => by have := (hch b hb).1; rw [e] at this; cases this
  refine I.step (g' := s.gens) (d' := s.drawn) (ch := ch) (fun b hb => ⟨(hch b hb).2.2.2.1, (hch b hb).2.1, (hch b hb).2.2.2.2.1, (hch b hb).2.2.2.2.2⟩) (fun b u _ _ hc e _ => k b u hc e) (fun b u _ _ hc e _ => ⟨u.slots, k b u hc e⟩)
    (fun b u _ e n => by rw [upd_ne (ne b u e)]; exact n) (fun b u hc e => ⟨u, k b u hc e⟩) (fun b xs e => by rw [upd_ne (ne_of_none e hn)]; exact e) (fun b u v e => by rw [upd_ne (ne_of_none e hn)]; exact e)
    (fun b ps e => ⟨#[], by rw [upd_ne (ne_of_none e hn)]; rw [e]; simp⟩) (fun m hm => ?_) (fun b u e => ?_) I.bare
  · obtain ⟨ob, es, ep, ho, r⟩ := hm
    refine ⟨ob, es, ep, k _ ob (fun hb => (hch _ hb).2.1 rfl) ho, r⟩
  · by_cases hb : b = a
    · subst hb; rw [upd_same] at e; cases e; exact new
    · rw [upd_ne hb] at e
      refine (I.hok b u e).stay (fun c v hc q => k c v ?_ q) (fun c q => by rw [upd_ne (ne_of_none q hn)]; exact q) fun c xs q => by rw [upd_ne (ne_of_none q hn)]; exact q
      rcases hc with z | z
      · rw [z]; exact nc b u e
      · exact nc c _ z
theorem Inv.turnedL {ch : List Addr} {t' : Nat} (I : Inv X pins σ H s) (k : ∀ b u, b ∉ ch → s.heap.get? b = some u → h'.get? b = some u) (hch : ∀ b ∈ ch, FpOk X pins H b) : Inv X pins σ H { s with heap := h', toks := t' } := by
  have nc : ∀ b u, H b = some u → b ∉ ch := fun b u e hb => by have := (hch b hb).1; rw [e] at this; cases this
  refine I.step (g' := s.gens) (d' := s.drawn) (ch := ch) (fun b hb => ⟨(hch b hb).2.2.2.1, (hch b hb).2.1, (hch b hb).2.2.2.2.1, (hch b hb).2.2.2.2.2⟩) (fun b u _ _ hc e _ => k b u hc e) (fun b u _ _ hc e _ => ⟨u.slots, k b u hc e⟩)
    (fun b u _ e n => n) (fun b u hc e => ⟨u, k b u hc e⟩) (fun b xs e => e) (fun b u v e => e) (fun b ps e => ⟨#[], by rw [e]; simp⟩) (fun m hm => ?_) (fun b u e => ?_) I.bare
  · obtain ⟨ob, es, ep, ho, r⟩ := hm
    refine ⟨ob, es, ep, k _ ob (fun hb => (hch _ hb).2.1 rfl) ho, r⟩
  · refine (I.hok b u e).stay (fun c v hc q => k c v ?_ q) (fun c q => q) fun c xs q => q
    rcases hc with z | z
    · rw [z]; exact nc b u e
    · exact nc c _ z
end

/-! ### isinstance -/
section
variable {X : Cx}
theorem call_isinst : CallR X (.builtin "isinstance") (fun xs H Q => ∃ x T t b, xs = [x, .ty T] ∧ TyOf X.K H x t ∧ PySem.W.kitOne X.K t (.type T) = some b ∧ Q (.bl b) H) := by
  intro pins s σ H xs us Q I r h
  obtain ⟨x, T, t, b, rfl, ty, e, q⟩ := h
  obtain ⟨u, v, rfl, rx, ry⟩ := vals2 r
  cases ry
  exact isinst_ok I rx ty e fun tk => ⟨.bl b, H, I.tok tk, rfl, q⟩

/-! ### all, any, sum of a list -/
theorem calm_in1 {A : Around} (h : A.handled = none) : A.in1.handled = none := h
theorem preSum_eq (ns : List Int) : ∀ k, k ≤ ns.length → preSum (fun i => ns.getD i 0) k = (ns.take k).sum
  | 0, _ => by simp [preSum]
  | k + 1, h => by
    have hk : k < ns.length := h
    have e : ns.take (k + 1) = ns.take k ++ [ns[k]] := by rw [List.take_add_one]; simp [hk]
    rw [preSum, preSum_eq ns k (by omega), e, List.sum_append]
    simp [hk]
/-- all partial sums stay within the long -/
def SumOk (ns : List Int) : Prop := ∀ j, j < ns.length → InLong (ns.getD j 0) ∧ InLong ((ns.take (j + 1)).sum)
theorem call_sum (hc : X.calm = true) : CallR X (.builtin "sum") (fun xs H Q => ∃ (p : Addr) (ns : List Int), xs = [.ref p] ∧ SqL X.K H p (ns.map V.int) ∧ SumOk ns ∧ Q (.int ns.sum) H) := by
  intro pins s σ H xs us Q I r h
  obtain ⟨p, ns, rfl, hq, ok, q⟩ := h
  obtain ⟨u, rfl, rx⟩ := vals1 r
  cases rx
  obtain ⟨its, rv, pl, hz⟩ := I.list hq
  refine call_sum_walk (wpAny_pyIter_list pl.isList ?_)
  have hp : p < s.heap.objs.size := by obtain ⟨o, n, e, _⟩ := pl; exact Heap.lt_size e
  have hlen : its.length = ns.length := by rw [← rv.length, List.length_map]
  refine ⟨s.heap.objs.size, _, _, _, _, _, fun i => ns.getD i 0, rfl, Walks.list (calm_in1 (I.ok.hd hc)) _ p (Nat.ne_of_lt hp) its.toArray, ⟨⟨_, Heap.get?_push_size _ rfl, rfl, rfl⟩, pl.isList.push _⟩, ?_, ?_, ?_, fun h' tk t' k => ?_⟩
  · intro b hb
    have hs : (s.heap.push { cls := .type "list_iterator", data := .fields #[.ref p, .int 0 0] }).objs.size = s.heap.objs.size + 1 := Heap.size_push ..
    show b < (s.heap.push { cls := .type "list_iterator", data := .fields #[.ref p, .int 0 0] }).objs.size
    rw [hs]
    rcases List.mem_cons.mp hb with rfl | hb
    · exact Nat.lt_succ_self _
    · have : b = p := by simpa using hb
      subst this; exact Nat.lt_succ_of_lt hp
  · intro i v hv
    have hv' : its[i]? = some v := by simpa using hv
    have hi : i < ns.length := by rw [← hlen]; exact (List.getElem?_eq_some_iff.mp hv').1
    obtain ⟨u, hu, ru⟩ := rv.get (i := i) (x := .int ns[i]) (by simp [hi])
    rw [hv'] at hu; cases hu
    obtain ⟨t, e⟩ := ru
    exact ⟨t, by rw [e]; simp [hi]⟩
  · intro j hj
    have hj' : j < ns.length := by rw [← hlen]; simpa using hj
    rw [preSum_eq ns (j + 1) hj']
    exact ok j hj'
  · refine ⟨.int _, H, I.kept (t' := tk) (fun b o e => k b o (by simpa using Nat.ne_of_lt (Heap.lt_size e)) (Heap.get?_push_of_some _ e)), ⟨t', ?_⟩, q⟩
    show Value.int _ _ = Value.int _ _
    congr 1
    rw [List.size_toArray, hlen, preSum_eq ns _ (Nat.le_refl _), List.take_length]

/-! ### == and != of two lists, by what their items are worth -/
/-- items that compare as their data -/
def EqR (X : Cx) {α : Type} [DecidableEq α] (R : Hp → V → α → Prop) : Prop :=
  ∀ (pins : List (Addr × Obj)) (s : Shared) (σ : St) (H : Hp) (x y : V) (v u : Value) (a b : α) (A : Around), Inv X pins σ H s → RelV x v → RelV y u → R H x a → R H y b → A.units < cLine → SeqAt.EqAt A s v u (decide (a = b))
theorem range_all_decide {α : Type} [DecidableEq α] {as bs : List α} {n : Nat} (d : α) (hl : as.length = n) (hb : bs.length = n) : (List.range n).all (fun j => decide (as.getD j d = bs.getD j d)) = decide (as = bs) := by
  rw [Bool.eq_iff_iff, List.all_eq_true, decide_eq_true_iff]
  constructor
  · intro h
    apply List.ext_getElem (by omega)
    intro i h1 h2
    have := h i (List.mem_range.mpr (by omega))
    simpa [h1, h2] using this
  · intro h i _
    simp [h]
theorem Paired.getL {α β : Type} {F : α → β → Prop} : ∀ {l₁ : List α} {l₂ : List β} {i : Nat} {a : α}, Paired F l₁ l₂ → l₁[i]? = some a → ∃ b, l₂[i]? = some b ∧ F a b
  | _, _, _, _, .nil, e => by simp at e
  | _, _, 0, _, .cons r _, e => by simp at e; subst e; exact ⟨_, rfl, r⟩
  | _, _, i + 1, a, .cons _ t, e => by
    obtain ⟨u, h1, h2⟩ := Paired.getL (i := i) (a := a) t (by simpa using e)
    exact ⟨u, by simpa using h1, h2⟩
def rEqL {α : Type} [DecidableEq α] (K : PySem.W.Frag) (R : Hp → V → α → Prop) (neg : Bool) : R2 := fun x y H Q => ∃ (p q : Addr) (xs ys : List V) (as bs : List α), x = .ref p ∧ y = .ref q ∧ SqL K H p xs ∧ SqL K H q ys ∧ Paired (R H) xs as ∧ Paired (R H) ys bs ∧ Q (.bl (if neg then !decide (as = bs) else decide (as = bs))) H
/-- ints, bools, texts -/
def IsI (H : Hp) (x : V) (i : Int) : Prop := x = .int i
def IsB (H : Hp) (x : V) (b : Bool) : Prop := x = .bl b
def IsS (H : Hp) (x : V) (z : Str) : Prop := x = .str z
/-- flat values of ints and texts -/
def plainV : V → Bool
  | .int _ => true
  | .str _ => true
  | _ => false
theorem eqAt_plain {A : Around} {s : Shared} {x y : V} {v u : Value} (rx : RelV x v) (ry : RelV y u) (hx : plainV x = true) (hy : plainV y = true) : SeqAt.EqAt A s v u (decide (x = y)) := by
  have fx : flatV x = true := by cases x <;> first | rfl | cases hx
  have fy : flatV y = true := by cases y <;> first | rfl | cases hy
  have := eqAt_V (A := A) (s := s) rx ry fx fy
  have e : eqV x y = decide (x = y) := by
    cases x <;> first | cases hx | skip
    all_goals cases y <;> first | cases hy | skip
    all_goals first
      | (simp [eqV]; done)
      | (show (_ == _) = _; rw [Bool.eq_iff_iff]; simp)
  rw [e] at this
  exact this
/-- a tuple of plain values -/
def IsTp (K : PySem.W.Frag) (H : Hp) (x : V) (r : List V) : Prop := ∃ t, x = .ref t ∧ SqT K H t r ∧ r.all plainV = true
theorem eqR_tup : EqR X (IsTp X.K) := by
  intro pins s σ H x y v u a b A I rv ru ra rb hun
  obtain ⟨t, rfl, ht, pa⟩ := ra
  obtain ⟨t', rfl, ht', pb⟩ := rb
  cases rv; cases ru
  by_cases e : t = t'
  · subst e
    have := I.tuple_inj ht ht'
    subst this
    rw [decide_eq_true rfl]
    exact SeqAt.EqAt.same _
  · refine SeqAt.EqAt.of_refs e ?_
    obtain ⟨vs, r1, p1, _⟩ := I.tuple ht
    obtain ⟨us, r2, p2, _⟩ := I.tuple ht'
    have l1 := r1.length
    have l2 := r2.length
    have key := SeqAt.RcAt.tuples (A := A) (s := s) (e := fun j => decide (a.getD j .non = b.getD j .non)) (show s.heap.IsTuple t vs.toArray from p1) (show s.heap.IsTuple t' us.toArray from p2) hun fun j h1 h2 => ?_
    · have e2 : ((List.range (min vs.toArray.size us.toArray.size)).all (fun j => decide (a.getD j .non = b.getD j .non)) && vs.toArray.size == us.toArray.size) = decide (a = b) := by
        by_cases hl : a.length = b.length
        · rw [List.size_toArray, List.size_toArray, ← l1, ← l2, hl, Nat.min_self, range_all_decide .non hl rfl]
          simp
        · rw [decide_eq_false (fun z => hl (by rw [z]))]
          rw [List.size_toArray, List.size_toArray, ← l1, ← l2]
          have : (a.length == b.length) = false := by simpa using hl
          rw [this, Bool.and_false]
      rw [e2] at key
      exact key
    · have h1' : j < a.length := by rw [l1]; simpa using h1
      have h2' : j < b.length := by rw [l2]; simpa using h2
      obtain ⟨v, ev, rv⟩ := r1.get (i := j) (x := a[j]) (by simp [h1'])
      obtain ⟨u, eu, ru⟩ := r2.get (i := j) (x := b[j]) (by simp [h2'])
      have e1 : vs.toArray[j] = v := by
        have := (List.getElem?_eq_some_iff.mp ev).2
        simpa using this
      have e2 : us.toArray[j] = u := by
        have := (List.getElem?_eq_some_iff.mp eu).2
        simpa using this
      have e3 : a.getD j .non = a[j] := by simp [h1']
      have e4 : b.getD j .non = b[j] := by simp [h2']
      rw [e1, e2, e3, e4]
      exact eqAt_plain rv ru (List.all_eq_true.mp pa _ (List.getElem_mem h1')) (List.all_eq_true.mp pb _ (List.getElem_mem h2'))
end
end L2

set_option Elab.async false
set_option linter.all false
set_option maxRecDepth 100000
set_option maxHeartbeats 4000000
/-! sorted of rows of ints; zip in a for -/
namespace L2
open PySem PySem.W PySem.Spec PyProof.Rows

section
variable {prog : Program} {w : World} {A : Around} {E : Value → Shared → Prop} {s : Shared}



/-! ### rows of ints -/

end

/-- a row of ints -/
def IsR (K : PySem.W.Frag) (H : Hp) (x : V) (r : List Int) : Prop := ∃ t, x = .ref t ∧ SqT K H t (r.map V.int)
theorem map_getD_range {α : Type} (l : List α) (d : α) : (List.range l.length).map (fun i => l.getD i d) = l := by
  apply List.ext_getElem
  · simp
  · intro i h1 h2
    simp [h2]
section
variable {X : Cx}
theorem Paired.mapL {α β γ : Type} {F : α → β → Prop} {f : γ → α} {g : γ → β} : ∀ {l : List γ}, (∀ c ∈ l, F (f c) (g c)) → Paired F (l.map f) (l.map g)
  | [], _ => .nil
  | c :: l, h => .cons (h c List.mem_cons_self) (Paired.mapL fun d hd => h d (List.mem_cons_of_mem _ hd))
end

/-! ### zip -/
def Itz (K : PySem.W.Frag) (a b : Addr) : It :=
  ⟨fun i H => ∃ (xs ys : List V) (x y : V), SqL K H a xs ∧ SqL K H b ys ∧ xs[i]? = some x ∧ ys[i]? = some y,
   fun i H v H' => ∃ (T : Addr) (x y : V), v = .ref T ∧ H T = none ∧ H' = upd H T (.tup [x, y]) ∧ (∀ xs, SqL K H a xs → xs[i]? = some x) ∧ ∀ ys, SqL K H b ys → ys[i]? = some y,
   fun i H => ∃ xs ys, SqL K H a xs ∧ SqL K H b ys ∧ (xs.length ≤ i ∨ ys.length ≤ i)⟩
/-- what stands of the zip object at turn i -/
def ZipSt (z TI TO i1 i2 a b : Addr) (i : Nat) (h : Heap) : Prop :=
  IsZip h z TI TO .none ∧ IsPair h TI (.ref i1) (.ref i2) ∧ (∃ u v, IsPair h TO u v) ∧ h.IsListIter i1 a i ∧ h.IsListIter i2 b i
theorem turn_zip {P : Program} {w : World} {K : PySem.W.Frag} {elts : List Expr} {x1} {tp : Pos} {z TI TO i1 i2 a b : Addr} (D : ZipApart z TI TO i1 i2 a b) :
    Turn P w K (.Tuple elts x1 tp) (Itz K a b) [z, TI, TO, i1, i2] z (ZipSt z TI TO i1 i2 a b) where
  mem := by simp
  obj := fun i h st c hc => by
    obtain ⟨hz, hTI, ⟨u, v, hTO⟩, ⟨o1, e1, _, d1⟩, ⟨o2, e2, _, d2⟩⟩ := st
    simp only [List.mem_cons, List.not_mem_nil, or_false] at hc
    rcases hc with rfl | rfl | rfl | rfl | rfl
    · exact ⟨_, hz, fun v e => by cases e⟩
    · exact ⟨_, hTI, fun v e => by cases e⟩
    · exact ⟨_, hTO, fun v e => by cases e⟩
    · exact ⟨_, e1, fun v e => by rw [d1] at e; cases e⟩
    · exact ⟨_, e2, fun v e => by rw [d2] at e; cases e⟩
  keep := fun i h h' st k => by
    obtain ⟨hz, hTI, ⟨u, v, hTO⟩, h1, h2⟩ := st
    exact ⟨k z (by simp) _ hz, k TI (by simp) _ hTI, ⟨u, v, k TO (by simp) _ hTO⟩, h1.at fun o e => k i1 (by simp) o e, h2.at fun o e => k i2 (by simp) o e⟩
  item := fun X hp hw hK hc i pins s σ H E I fp st go => by
    subst hp hw hK
    obtain ⟨hz, hTI, ⟨u, v, hTO⟩, h1, h2⟩ := st
    obtain ⟨xs, ys, x, y, qa, qb, ex, ey⟩ := go
    obtain ⟨vs, rv, pv, _⟩ := I.list qa
    obtain ⟨us, ru, pu, _⟩ := I.list qb
    obtain ⟨vx, evx, rvx⟩ := rv.get ex
    obtain ⟨uy, euy, ruy⟩ := ru.get ey
    refine wpAny_pyNext_zip_item D hz hTI hTO h1 h2 pv.isList pu.isList (x := vx) (y := uy) (by simpa using evx) (by simpa using euy) fun h' a1 a2 a3 a4 a5 a6 hk => ?_
    refine ⟨_, rfl, wpAny_letOwnedTupleGo_zip a1 fun h'' b1 b2 => ?_⟩
    have nz : s.heap.objs.size ≠ z := Nat.ne_of_gt (Heap.lt_size hz)
    have k2 : ∀ c o, c ∉ [z, TO, i1, i2] → s.heap.get? c = some o → h''.get? c = some o := fun c o hcn e => by
      simp only [List.mem_cons, List.not_mem_nil, or_false, not_or] at hcn
      exact b2.extBut _ _ hcn.1 (hk c o hcn.1 hcn.2.1 hcn.2.2.1 hcn.2.2.2 e)
    have I' : Inv X pins σ (upd H s.heap.objs.size (.tup [x, y])) { s with heap := h'', toks := s.toks } :=
      I.turnLay (ch := [z, TO, i1, i2]) k2 (fun c hcn => fp c (by simp only [List.mem_cons, List.not_mem_nil, or_false] at hcn ⊢; rcases hcn with h | h | h | h <;> simp [h])) (Nat.le_refl _)
        ⟨by show 2 ≤ sizeLine; decide, [vx, uy], .cons rvx (.cons ruy .nil), ⟨_, b2.extBut _ _ nz a5, rfl, _, rfl⟩⟩
    have nf : H s.heap.objs.size = none := I.hok.fresh (Nat.le_refl _)
    refine ⟨.ref s.heap.objs.size, _, I', rfl, ⟨_, x, y, rfl, nf, rfl, fun xs' q => ?_, fun ys' q => ?_⟩, ⟨b1, b2.extBut _ _ D.TIz (hk _ _ D.TIz D.TITO D.TIi1 D.TIi2 hTI), ⟨_, _, b2.extBut _ _ D.TOz a2⟩, a3.extBut b2.extBut D.i1z, a4.extBut b2.extBut D.i2z⟩, fun c hcn => ?_⟩
    · rw [I.list_inj q qa]; exact ex
    · rw [I.list_inj q qb]; exact ey
    · have hc1 := fp c hcn
      have : c ≠ s.heap.objs.size := by
        have hlt : c < s.heap.objs.size := by
          simp only [List.mem_cons, List.not_mem_nil, or_false] at hcn
          rcases hcn with rfl | rfl | rfl | rfl | rfl
          · exact Heap.lt_size hz
          · exact Heap.lt_size hTI
          · exact Heap.lt_size hTO
          · obtain ⟨_, e, _⟩ := h1; exact Heap.lt_size e
          · obtain ⟨_, e, _⟩ := h2; exact Heap.lt_size e
        exact Nat.ne_of_lt hlt
      rw [upd_ne this]
      exact hc1.1
  done := fun X hp hw hK hc i pins s σ H E I fp st stop => by
    subst hp hw hK
    obtain ⟨hz, hTI, ⟨u, v, hTO⟩, h1, h2⟩ := st
    obtain ⟨xs, ys, qa, qb, hend⟩ := stop
    obtain ⟨vs, rv, pv, _⟩ := I.list qa
    obtain ⟨us, ru, pu, _⟩ := I.list qb
    have l1 := rv.length
    have l2 := ru.length
    refine wpAny_pyNext_zip_end (I.ok.hd hc) D hz hTI hTO h1 h2 pv.isList pu.isList ?_ fun h' hk => ⟨rfl, ?_⟩
    · rcases hend with h | h
      · exact .inl (by rw [Array.getElem?_eq_none_iff, List.size_toArray]; omega)
      · exact .inr (by rw [Array.getElem?_eq_none_iff, List.size_toArray]; omega)
    · refine I.turnedL (ch := [z, TO, i1, i2]) (t' := s.toks) (fun c o hcn e => ?_) (fun c hcn => fp c (by simp only [List.mem_cons, List.not_mem_nil, or_false] at hcn ⊢; rcases hcn with h | h | h | h <;> simp [h]))
      simp only [List.mem_cons, List.not_mem_nil, or_false, not_or] at hcn
      exact hk c o hcn.1 hcn.2.1 hcn.2.2.1 hcn.2.2.2 e
  self := fun A i s Q E st h => wpAny_pyIter_zip st.1 h

def iZip (K : PySem.W.Frag) (ta : TA) : TI := fun σ H R => ta σ H fun vs H1 => ∃ (a b : Addr) (xs ys : List V), vs = [.ref a, .ref b] ∧ SqL K H1 a xs ∧ SqL K H1 b ys ∧ R (Itz K a b) H1
theorem pi_zip {X : Cx} {elts : List Expr} {x1} {tp : Pos} {e1 e2 : Expr} {ta : TA} {p pos : Pos} (hg : Gl X "zip") (hm : X.mg "zip" = none) (ha : PA X [e1, e2] ta) (hs : starEach [e1, e2] X.env = [(false, eval e1 X.env), (false, eval e2 X.env)] := by rfl) (hs2 : starEach [e2] X.env = [(false, eval e2 X.env)] := by rfl) :
    PI X (.Tuple elts x1 tp) (.Call (.Name "zip" p) [e1, e2] [] pos) (iZip X.K ta) := by
  intro pins s σ H R I h
  refine Call_ (ld_blt I hg hm (by rfl) (PyProof.Rows.callWith_type1 (thn (ha pos pins s σ H _ I h) fun us s1 ⟨vs, H1, I1, r1, q1⟩ => ?_) (by rw [hs, hs2]) (by rw [hs2]; rfl)))
  obtain ⟨a, b, xs, ys, rfl, qa, qb, q⟩ := q1
  obtain ⟨u, v, rfl, ru, rv⟩ := vals2 r1
  cases ru
  cases rv
  obtain ⟨vs, rva, pa, _⟩ := I1.list qa
  obtain ⟨us, rvb, pb, _⟩ := I1.list qb
  have la : a < s1.heap.objs.size := by obtain ⟨o, n, e, _⟩ := pa; exact Heap.lt_size e
  have lb : b < s1.heap.objs.size := by obtain ⟨o, n, e, _⟩ := pb; exact Heap.lt_size e
  refine call_zip_2 pa.isList pb.isList fun h' hz hTI hTO hi1 hi2 hsz hk => ?_
  refine wpAny_pyIter_zip hz ?_
  have I2 : Inv X pins σ H1 { s1 with heap := h' } := I1.kept (t' := s1.toks) hk
  refine ⟨_, [s1.heap.objs.size + 4, s1.heap.objs.size + 2, s1.heap.objs.size + 3, s1.heap.objs.size, s1.heap.objs.size + 1], _, _, H1, rfl, I2, turn_zip (zipApart_new la lb), ⟨hz, hTI, ⟨_, _, hTO⟩, hi1, hi2⟩, fun c hc => ?_, q⟩
  have hge : s1.heap.objs.size ≤ c := by
    simp only [List.mem_cons, List.not_mem_nil, or_false] at hc
    rcases hc with rfl | rfl | rfl | rfl | rfl
    all_goals first | exact Nat.le_refl _ | exact Nat.le_add_right _ _
  exact I1.fpOk hge (I1.hok.fresh hge)

/-! ### scopes of blocks, by computation -/
def compOk (sc : Scope) (N loc free : List Str) (fr : List Nat) (scope : Scope) : Bool :=
  decide (scope.kind = .function) && scope.names.all (fun y => decide (y.2 ≠ .cell)) && scope.names.all (fun y => decide (y.2 ≠ .local) || decide (scope.names.lookup y.1 = some .local)) &&
  scope.names.all (fun y => decide (y.2 ≠ .free) || (decide (sc.names.lookup y.1 = some .cell) || decide (sc.names.lookup y.1 = some .free))) && decide (fr.length = free.length) &&
  (List.range fr.length).all fun i => match fr[i]?, free[i]? with
    | some j, some x => decide (N[j]? = some x) && decide (scope.names.lookup x = some .free)
    | _, _ => true
theorem compScope_of {X : Cx} {sc : Scope} {N loc free : List Str} {fr : List Nat} {scope : Scope} (e1 : X.env.scope = sc) (e2 : X.N = N) (h : compOk sc N loc free fr scope = true) : CompScope X loc free fr scope := by
  unfold compOk at h
  simp only [Bool.and_eq_true, List.all_eq_true, Bool.or_eq_true, decide_eq_true_eq] at h
  obtain ⟨⟨⟨⟨⟨h1, h2⟩, h3⟩, h4⟩, h5⟩, h6⟩ := h
  refine ⟨h1, fun y hy => h2 y hy, fun y hy hl => (h3 y hy).elim (fun z => absurd hl z) id, fun y hy hf => ?_, fun i j x a b => ?_, h5⟩
  · show X.env.scope.names.lookup y.1 = some .cell ∨ X.env.scope.names.lookup y.1 = some .free
    rw [e1]
    exact (h4 y hy).elim (fun z => absurd hf z) id
  · have hi : i < fr.length := (List.getElem?_eq_some_iff.mp a).1
    have := h6 i (List.mem_range.mpr hi)
    rw [a, b] at this
    simp only [Bool.and_eq_true, decide_eq_true_eq] at this
    rw [e2]
    exact this
theorem pgc {X : Cx} {x : Str} {pos : Pos} (i : Nat) (N : List Str) (nd : N.Nodup) (eN : X.N = N) (hi : N[i]? = some x) (hx : Loc X.env.scope x) (hl : X.env.scope.names.lookup x = some .local) : PG X (.Name x pos) (gName i) :=
  pg_name (eN ▸ nd) (by rw [eN]; exact hi) hx (.inr hl)
/-- a def as it stands behind the top -/
structure Dfn (K : PySem.W.Frag) (mg : Str → Option Value) (x : Str) (st : Stmt) (ps : List Str) (f : Addr) (fd : FuncData) : Prop where
  F : Fun K x x st f fd
  b : Binds K fd ps []
  g : mg x = some (.ref f)

/-- a method -/
structure DfnM (K : PySem.W.Frag) (x qual : Str) (st : Stmt) (ps : List Str) (f : Addr) (fd : FuncData) : Prop where
  F : Fun K x qual st f fd
  b : Binds K fd ps []

/-! ### rows of ints, tracked -/
def Row (H : Hp) (x : V) (r : List Int) : Prop := ∃ t, x = .ref t ∧ H t = some (.tup (r.map V.int))
abbrev pr2 (rows : List (Int × Int)) : List (List Int) := rows.map fun p => [p.1, p.2]
def Rows (H : Hp) (xs : List V) (rows : List (Int × Int)) : Prop := Paired (Row H) xs (pr2 rows)
theorem Paired.append' {α β : Type} {F : α → β → Prop} : ∀ {a : List α} {b : List β} {c : List α} {d : List β}, Paired F a b → Paired F c d → Paired F (a ++ c) (b ++ d)
  | _, _, _, _, .nil, h => h
  | _, _, _, _, .cons r t, h => .cons r (Paired.append' t h)
theorem same_upd {H : Hp} {a : Addr} {o : HO} (h : H a = none) : Same H (upd H a o) := fun b u e => by rw [upd_ne (ne_of_none e h)]; exact e
/-- all that stood is as it was, but for a -/
theorem same_set {H0 H : Hp} {a : Addr} {o : HO} (s : Same H0 H) (h : H0 a = none) : Same H0 (upd H a o) := fun b u e => by rw [upd_ne (ne_of_none e h)]; exact s b u e

/-! ### the rules with the fragment by its name (for blocks) -/
section
variable {X : Cx} {K : PySem.W.Frag}
theorem pgT {pos : Pos} {es : List Expr} {k : Nat} {t : TGs} (n : Nat) (hK : X.K = K) (hc : X.calm = true) (h : PGs X es t) (hn : (assignEach es X.env).length = n := by rfl) (hst : (assignEach es X.env).findIdx? (·.1) = none := by rfl) : PG X (.Tuple es k pos) (gTup K n t) := by
  subst hK; exact pg_tup hc h hn hst
theorem ix_listK (hK : X.K = K) : IxR X (rIxL K) := by subst hK; exact ix_list
end

theorem for_zip {K : PySem.W.Frag} {a b : Addr} {xs ys : List V} {g : TG} {tb : TS} {D : Ends} {σ : St} {H : Hp} (Pv : Nat → St → Hp → Prop) (hlen : xs.length = ys.length) (h0 : Pv 0 σ H) (hl : ∀ i σ H, i ≤ xs.length → Pv i σ H → SqL K H a xs ∧ SqL K H b ys)
    (hs : ∀ i x y σ H T, xs[i]? = some x → ys[i]? = some y → Pv i σ H → H T = none → g (.ref T) σ (upd H T (.tup [x, y])) fun σ2 H2 => tb { D with nx := Pv (i + 1), ct := Pv (i + 1), bk := D.nx } σ2 H2) (hd : ∀ σ H, Pv xs.length σ H → D.nx σ H) :
    ∃ W : Nat → Nat → St → Hp → Prop, (∃ m, W 0 m σ H) ∧ ∀ i m σ H, W i m σ H →
      ((Itz K a b).stop i H ∧ D.nx σ H) ∨ ((Itz K a b).go i H ∧ ∃ N : St → Hp → Prop, (∀ σ' H', N σ' H' → ∃ m', m' < m ∧ W (i + 1) m' σ' H') ∧ ∀ x H', (Itz K a b).yld i H x H' → g x σ H' fun σ2 H2 => tb { D with nx := N, ct := N, bk := D.nx } σ2 H2) := by
  refine ⟨fun i m σ H => m = xs.length - i ∧ i ≤ xs.length ∧ Pv i σ H, ⟨xs.length, by simp, Nat.zero_le _, h0⟩, ?_⟩
  rintro i m σ H ⟨rfl, hi, p⟩
  obtain ⟨q1, q2⟩ := hl i σ H hi p
  by_cases hlt : i < xs.length
  · refine .inr ⟨⟨xs, ys, xs[i], ys[i], q1, q2, by simp [hlt], by simp [show i < ys.length by omega]⟩, Pv (i + 1), fun σ' H' p' => ⟨xs.length - (i + 1), by omega, rfl, hlt, p'⟩, fun x H' y => ?_⟩
    obtain ⟨T, x1, y1, rfl, hT, rfl, hx, hy⟩ := y
    exact hs i x1 y1 σ H T (hx xs q1) (hy ys q2) p hT
  · have e : i = xs.length := by omega
    subst e
    exact .inl ⟨⟨xs, ys, q1, q2, .inl (Nat.le_refl _)⟩, hd σ H p⟩
end L2

set_option Elab.async false
set_option linter.all false
namespace L2
open PySem PySem.Spec PyProof.Rows
section
variable {X : Cx} {pos : Pos}
/-- a, b = a list of that length -/
def gLst (K : PySem.W.Frag) (n : Nat) (t : TGs) : TG := fun v σ H Q => ∃ a xs, v = .ref a ∧ SqL K H a xs ∧ xs.length = n ∧ t xs σ H Q
end
end L2

set_option Elab.async false
set_option linter.all false
set_option maxRecDepth 100000
/-! ### texts: their signs one by one, slices, comparison -/
namespace L2
open PySem PySem.Spec PyProof.Rows

/-- the signs of a text -/
def Its (z : Str) : It := ⟨fun i _ => i < z.length, fun i H x H' => H' = H ∧ ∃ c, z.cps[i]? = some c ∧ x = .str ⟨#[c]⟩, fun i _ => z.length ≤ i⟩

section
variable {X : Cx} {tg : Expr}
def iStr (tl : TE) : TI := fun σ H R => tl σ H fun x H1 => ∃ z, x = .str z ∧ R (Its z) H1
/-- z[lo:hi] of a text -/
def rSlS : V → Option Int → Option Int → Hp → VK → Prop := fun x lo hi H Q => ∃ z, x = .str z ∧ z.length ≤ sizeLine ∧ Q (.str (Txt.slice z lo hi)) H
end

section
variable {g : TG} {tc : TT} {te : TE} {k : Nat} {fr : List Nat} {σ : St} {H : Hp} {Q : VK} {D : Addr}
end

end L2

set_option Elab.async false
set_option linter.all false
set_option maxRecDepth 100000
set_option maxHeartbeats 4000000
/-! The sort of any number of items: galloping. -/
namespace Ts
open PySem PySem.W PyProof.Rows
def gallopP : Bool → Keyed → Array Keyed → Nat → Nat → Nat → StateT SortSt Sem (Option Nat) := sortPriv% PySem.Builtin.gallop
/-- is the i-th behind -/
def bey (lf : Bool) (ke : Keyed) (xs : Array Keyed) (st0 i : Nat) : StateT SortSt Sem (Option Bool) := do
  let x ← elem' xs (st0 + i)
  if lf then lt' x ke
  else
    let r ← lt' ke x
    return r.map (!·)
theorem gallopP_eq (lf : Bool) (ke : Keyed) (xs : Array Keyed) (st0 n hi0 : Nat) : gallopP lf ke xs st0 n hi0 = (do
    let mut la := 0
    let mut of := 1
    let mut l := 0
    let mut h := 0
    let some ri ← bey lf ke xs st0 hi0
      | return none
    if ri then
      let mx := n - hi0
      for _ in [0:n] do
        if of ≥ mx then break
        let some mo ← bey lf ke xs st0 (hi0 + of)
          | return none
        if !mo then break
        la := of
        of := 2 * of + 1
      l := hi0 + la + 1
      h := hi0 + min of mx
    else
      let mx := hi0 + 1
      for _ in [0:n] do
        if of ≥ mx then break
        let some fo ← bey lf ke xs st0 (hi0 - of)
          | return none
        if fo then break
        la := of
        of := 2 * of + 1
      l := hi0 + 1 - min of mx
      h := hi0 - la
    for _ in [0:n] do
      if l ≥ h then break
      let m := l + (h - l) / 2
      let some mo ← bey lf ke xs st0 m
        | return none
      if mo then l := m + 1 else h := m
    return some h) := rfl
section
variable {prog : Program} {w : World} {A : Around} {E : Value → Shared → Prop} {s : Shared} {κt : Type} {lt : κt → κt → Bool} {kf : Keyed → κt} {κ0 : SortKind} {it : Array Keyed}
/-- what is asked of the comparison -/
def Cmp (prog : Program) (w : World) (A : Around) (E : Value → Shared → Prop) (s : Shared) (lt : κt → κt → Bool) (kf : Keyed → κt) (κ0 : SortKind) (it : Array Keyed) : Prop :=
  ∀ (x y : Keyed) (st : SortSt) (Q : Option Bool → SortSt → Prop), x ∈ it.toList → y ∈ it.toList → kindOf st = κ0 → Q (some (lt (kf x) (kf y))) st → wpS (model prog w) A E s (lt' x y) Q st
theorem wpS_elem {xs : Array Keyed} {i : Nat} {x : Keyed} {Q : Keyed → SortSt → Prop} {st : SortSt} (h : xs[i]? = some x) (q : Q x st) : wpS (model prog w) A E s (elem' xs i) Q st := by
  rw [elem'_eq, h]; exact wpS_pure q
/-- by keys: the i-th is behind -/
def beh (lt : κt → κt → Bool) (lf : Bool) (k : κt) (x : κt) : Bool := if lf then lt x k else !lt k x
theorem wpS_bey (hc : Cmp prog w A E s lt kf κ0 it) {lf : Bool} {ke : Keyed} {xs : Array Keyed} {st0 i : Nat} {x : Keyed} {Q : Option Bool → SortSt → Prop} {st : SortSt} (hk : kindOf st = κ0) (hke : ke ∈ it.toList) (h : xs[st0 + i]? = some x) (hx : x ∈ it.toList)
    (q : Q (some (beh lt lf (kf ke) (kf x))) st) : wpS (model prog w) A E s (bey lf ke xs st0 i) Q st := by
  unfold bey
  refine wpS_bind (wpS_elem h ?_)
  unfold beh at q
  cases lf with
  | true => rw [if_pos rfl]; exact hc x ke st Q hx hke hk q
  | false =>
    rw [if_neg (by simp)]
    exact wpS_bind (hc ke x st _ hke hx hk (wpS_pure q))
theorem wpS_gallop (hc : Cmp prog w A E s lt kf κ0 it) {lf : Bool} {ke : Keyed} {xs : Array Keyed} {st0 n hi0 : Nat} {Q : Option Nat → SortSt → Prop} {st : SortSt} (hk : kindOf st = κ0) (hke : ke ∈ it.toList) (hh : hi0 < n)
    (hx : ∀ i, i < n → ∃ x, xs[st0 + i]? = some x ∧ x ∈ it.toList) (B : Nat → Bool) (hB : ∀ i x, i < n → xs[st0 + i]? = some x → B i = beh lt lf (kf ke) (kf x)) (hm : ∀ i j, i ≤ j → j < n → B j = true → B i = true)
    (q : ∀ k, k ≤ n → (∀ i, i < k → B i = true) → (∀ i, k ≤ i → i < n → B i = false) → Q (some k) st) : wpS (model prog w) A E s (gallopP lf ke xs st0 n hi0) Q st := by
  have ask : ∀ (i : Nat) (Q' : Option Bool → SortSt → Prop), i < n → Q' (some (B i)) st → wpS (model prog w) A E s (bey lf ke xs st0 i) Q' st := fun i Q' hi h => by
    obtain ⟨x, ex, mx⟩ := hx i hi
    rw [hB i x hi ex] at h
    exact wpS_bey hc hk hke ex mx h
  have hmf : ∀ i j, i ≤ j → j < n → B i = false → B j = false := fun i j hij hj hf => by
    cases e : B j with
    | false => rfl
    | true => rw [hm i j hij hj e] at hf; cases hf
  rw [gallopP_eq]
  refine wpS_bind (ask hi0 _ hh ?_)
  cases e0 : B hi0 with
  | true =>
    dsimp only
    rw [if_pos rfl]
    refine wpS_bind (wpS_mono (wpS_forRange (I := fun x c st' => st = st' ∧ ∃ la of, c = (none, la, of) ∧ la < of ∧ x + 1 ≤ of ∧ (hi0 + la < n) ∧ B (hi0 + la) = true)
      (Q := fun c st' => st = st' ∧ ∃ la of, c = (none, la, of) ∧ la < of ∧ hi0 + la < n ∧ B (hi0 + la) = true ∧ (of ≥ n - hi0 ∨ B (hi0 + of) = false)) ?_ ?_ ?_) ?_)
    · rintro x c st' _ hxn ⟨rfl, la, of, rfl, h1, h2, h3, h4⟩
      dsimp only
      by_cases hge : of ≥ n - hi0
      · rw [if_pos hge]
        exact wpS_pure ⟨rfl, la, of, rfl, h1, h3, h4, .inl hge⟩
      · rw [if_neg hge]
        refine wpS_bind (ask _ _ (by omega) ?_)
        cases e : B (hi0 + of) with
        | true =>
          dsimp only
          exact wpS_pure ⟨rfl, _, _, rfl, by omega, by omega, by omega, e⟩
        | false =>
          dsimp only
          exact wpS_pure ⟨rfl, la, of, rfl, h1, h3, h4, .inr e⟩
    · rintro c st' ⟨rfl, la, of, rfl, h1, h2, h3, h4⟩
      exact ⟨rfl, la, of, rfl, h1, h3, h4, .inl (by omega)⟩
    · exact ⟨rfl, 0, 1, rfl, by omega, by omega, by omega, e0⟩
    · rintro c st' ⟨rfl, la, of, rfl, h1, h3, h4, h5⟩
      dsimp only
      refine wpS_bind (wpS_mono (wpS_forRange (I := fun x c st' => st = st' ∧ ∃ l h, c = (none, l, h) ∧ l ≤ h ∧ h ≤ n ∧ h - l ≤ n - x ∧ (∀ i, i < l → B i = true) ∧ (∀ i, h ≤ i → i < n → B i = false))
        (Q := fun c st' => st = st' ∧ ∃ k, c = (none, k, k) ∧ k ≤ n ∧ (∀ i, i < k → B i = true) ∧ (∀ i, k ≤ i → i < n → B i = false)) ?_ ?_ ?_) ?_)
      · rintro x c st' _ hxn ⟨rfl, l, h, rfl, hl, hn, hm', hlo, hhi⟩
        dsimp only
        by_cases hge : l ≥ h
        · rw [if_pos hge]
          have : l = h := by omega
          subst this
          exact wpS_pure ⟨rfl, l, rfl, hn, hlo, hhi⟩
        · rw [if_neg hge]
          refine wpS_bind (ask _ _ (by omega) ?_)
          cases e : B (l + (h - l) / 2) with
          | true =>
            dsimp only
            rw [if_pos rfl]
            exact wpS_pure ⟨rfl, _, _, rfl, by omega, hn, by omega, fun i hi => hm i (l + (h - l) / 2) (by omega) (by omega) e, hhi⟩
          | false =>
            dsimp only
            rw [if_neg (by simp)]
            exact wpS_pure ⟨rfl, _, _, rfl, by omega, by omega, by omega, hlo, fun i hi hin => hmf _ i hi hin e⟩
      · rintro c st' ⟨rfl, l, h, rfl, hl, hn, hm', hlo, hhi⟩
        have : l = h := by omega
        subst this
        exact ⟨rfl, l, rfl, hn, hlo, hhi⟩
      rotate_left
      · rintro c st' ⟨rfl, k, rfl, hk', hlo, hhi⟩
        exact wpS_pure (q k hk' hlo hhi)
      refine ⟨rfl, hi0 + la + 1, hi0 + min of (n - hi0), rfl, by omega, by omega, by omega, (fun i hi => hm i (hi0 + la) (by omega) h3 h4), (fun i hi hin => ?_)⟩
      rcases h5 with h5 | h5
      · omega
      · exact hmf (hi0 + of) i (by omega) hin h5
  | false =>
    dsimp only
    rw [if_neg (by simp)]
    refine wpS_bind (wpS_mono (wpS_forRange (I := fun x c st' => st = st' ∧ ∃ la of, c = (none, la, of) ∧ la < of ∧ x + 1 ≤ of ∧ la ≤ hi0 ∧ B (hi0 - la) = false)
      (Q := fun c st' => st = st' ∧ ∃ la of, c = (none, la, of) ∧ la < of ∧ la ≤ hi0 ∧ B (hi0 - la) = false ∧ (of ≥ hi0 + 1 ∨ (of ≤ hi0 ∧ B (hi0 - of) = true))) ?_ ?_ ?_) ?_)
    · rintro x c st' _ hxn ⟨rfl, la, of, rfl, h1, h2, h3, h4⟩
      dsimp only
      by_cases hge : of ≥ hi0 + 1
      · rw [if_pos hge]
        exact wpS_pure ⟨rfl, la, of, rfl, h1, h3, h4, .inl hge⟩
      · rw [if_neg hge]
        refine wpS_bind (ask _ _ (by omega) ?_)
        cases e : B (hi0 - of) with
        | true =>
          dsimp only
          rw [if_pos rfl]
          exact wpS_pure ⟨rfl, la, of, rfl, h1, h3, h4, .inr ⟨by omega, e⟩⟩
        | false =>
          dsimp only
          rw [if_neg (by simp)]
          exact wpS_pure ⟨rfl, _, _, rfl, by omega, by omega, by omega, e⟩
    · rintro c st' ⟨rfl, la, of, rfl, h1, h2, h3, h4⟩
      exact ⟨rfl, la, of, rfl, h1, h3, h4, .inl (by omega)⟩
    · exact ⟨rfl, 0, 1, rfl, by omega, by omega, by omega, e0⟩
    · rintro c st' ⟨rfl, la, of, rfl, h1, h3, h4, h5⟩
      dsimp only
      refine wpS_bind (wpS_mono (wpS_forRange (I := fun x c st' => st = st' ∧ ∃ l h, c = (none, l, h) ∧ l ≤ h ∧ h ≤ n ∧ h - l ≤ n - x ∧ (∀ i, i < l → B i = true) ∧ (∀ i, h ≤ i → i < n → B i = false))
        (Q := fun c st' => st = st' ∧ ∃ k, c = (none, k, k) ∧ k ≤ n ∧ (∀ i, i < k → B i = true) ∧ (∀ i, k ≤ i → i < n → B i = false)) ?_ ?_ ?_) ?_)
      · rintro x c st' _ hxn ⟨rfl, l, h, rfl, hl, hn, hm', hlo, hhi⟩
        dsimp only
        by_cases hge : l ≥ h
        · rw [if_pos hge]
          have : l = h := by omega
          subst this
          exact wpS_pure ⟨rfl, l, rfl, hn, hlo, hhi⟩
        · rw [if_neg hge]
          refine wpS_bind (ask _ _ (by omega) ?_)
          cases e : B (l + (h - l) / 2) with
          | true =>
            dsimp only
            rw [if_pos rfl]
            exact wpS_pure ⟨rfl, _, _, rfl, by omega, hn, by omega, fun i hi => hm i (l + (h - l) / 2) (by omega) (by omega) e, hhi⟩
          | false =>
            dsimp only
            rw [if_neg (by simp)]
            exact wpS_pure ⟨rfl, _, _, rfl, by omega, by omega, by omega, hlo, fun i hi hin => hmf _ i hi hin e⟩
      · rintro c st' ⟨rfl, l, h, rfl, hl, hn, hm', hlo, hhi⟩
        have : l = h := by omega
        subst this
        exact ⟨rfl, l, rfl, hn, hlo, hhi⟩
      rotate_left
      · rintro c st' ⟨rfl, k, rfl, hk', hlo, hhi⟩
        exact wpS_pure (q k hk' hlo hhi)
      refine ⟨rfl, hi0 + 1 - min of (hi0 + 1), hi0 - la, rfl, by omega, by omega, by omega, (fun i hi => ?_), (fun i hi hin => hmf (hi0 - la) i hi hin h4)⟩
      rcases h5 with h5 | h5
      · omega
      · exact hm i (hi0 - of) (by omega) (by omega) h5.2
end
end Ts

set_option Elab.async false
set_option linter.all false
set_option maxRecDepth 100000
set_option maxHeartbeats 4000000
namespace Ts
open PySem PySem.W PyProof.Rows
def mloP : Array Keyed → Array Keyed → StateT SortSt Sem (Array Keyed) := sortPriv% PySem.Builtin.mergeLo
abbrev setG (st : SortSt) (g : Nat) : SortSt := SortSt.mk' (kindOf st) (arrOf st) (pendingOf st) g (failedOf st)
def sgP : Nat → StateT SortSt Sem Unit := sortPriv% PySem.Builtin.setMinGallop
theorem sgP_eq (g : Nat) : sgP g = modify fun st => setG st g := rfl
theorem mloP_eq (a b : Array Keyed) : mloP a b = (do
    rule "list.sort.merge-lo"
    let tot := a.size + b.size
    let dn (o : Array Keyed) (x y : Nat) := o ++ a.extract x a.size ++ b.extract y b.size
    let la (o : Array Keyed) (x y : Nat) := o ++ b.extract y b.size ++ a.extract x a.size
    let mut o : Array Keyed := #[← elem' b 0]
    let mut x := 0
    let mut y := 1
    if y == b.size then
      return dn o x y
    if x + 1 == a.size then
      return la o x y
    let mut g := gallopOf (← get)
    for _ in [0:tot] do
      let mut ca := 0
      let mut cb := 0
      for _ in [0:tot] do
        let some bw ← lt' (← elem' b y) (← elem' a x)
          | return dn o x y
        if bw then
          o := o.push (← elem' b y)
          y := y + 1
          cb := cb + 1
          ca := 0
          if y == b.size then
            return dn o x y
          if cb ≥ g then break
        else
          o := o.push (← elem' a x)
          x := x + 1
          ca := ca + 1
          cb := 0
          if x + 1 == a.size then
            return la o x y
          if ca ≥ g then break
      rule "list.sort.gallop"
      g := g + 1
      for _ in [0:tot] do
        if g > 1 then g := g - 1
        sgP g
        let some k ← gallopP false (← elem' b y) a x (a.size - x) 0
          | return dn o x y
        ca := k
        if k > 0 then
          o := o ++ a.extract x (x + k)
          x := x + k
          if x + 1 == a.size then
            return la o x y
          if x == a.size then
            return dn o x y
        o := o.push (← elem' b y)
        y := y + 1
        if y == b.size then
          return dn o x y
        let some k ← gallopP true (← elem' a x) b y (b.size - y) 0
          | return dn o x y
        cb := k
        if k > 0 then
          o := o ++ b.extract y (y + k)
          y := y + k
          if y == b.size then
            return dn o x y
        o := o.push (← elem' a x)
        x := x + 1
        if x + 1 == a.size then
          return la o x y
        if ca < 7 && cb < 7 then break
      g := g + 1
      sgP g
    unsupported "internal:list.sort.merge-bound") := rfl
section
variable {κt : Type} {lt : κt → κt → Bool} {kf : Keyed → κt}
def le (lt : κt → κt → Bool) (kf : Keyed → κt) (u v : Keyed) : Prop := lt (kf v) (kf u) = false
theorem le_trans (O : Srt.Ord lt) {u v x : Keyed} (h1 : le lt kf u v) (h2 : le lt kf v x) : le lt kf u x := O.trans _ _ _ h1 h2
theorem le_of (O : Srt.Ord lt) {u v : Keyed} (h : lt (kf u) (kf v) = true) : le lt kf u v := O.asym _ _ h
theorem le_refl (O : Srt.Ord lt) (u : Keyed) : le lt kf u u := Srt.irr O _
abbrev Sd (lt : κt → κt → Bool) (kf : Keyed → κt) (l : List Keyed) : Prop := l.Pairwise (le lt kf)
theorem Sd.at (O : Srt.Ord lt) {l : List Keyed} (h : Sd lt kf l) {i j : Nat} {u v : Keyed} (hij : i ≤ j) (hi : l[i]? = some u) (hj : l[j]? = some v) : le lt kf u v := by
  by_cases e : i = j
  · subst e; rw [hi] at hj; cases hj; exact le_refl O u
  · obtain ⟨h1, e1⟩ := List.getElem?_eq_some_iff.mp hi
    obtain ⟨h2, e2⟩ := List.getElem?_eq_some_iff.mp hj
    have := List.pairwise_iff_getElem.mp h i j h1 h2 (by omega)
    rw [e1, e2] at this; exact this
theorem Sd.drop (O : Srt.Ord lt) {l : List Keyed} (h : Sd lt kf l) {i : Nat} {u v : Keyed} (hi : l[i]? = some u) (hv : v ∈ l.drop i) : le lt kf u v := by
  obtain ⟨j, hj⟩ := List.mem_iff_getElem?.mp hv
  rw [List.getElem?_drop] at hj
  exact h.at O (by omega) hi hj
/-- what is merged so far -/
structure Mi (lt : κt → κt → Bool) (kf : Keyed → κt) (a b o : Array Keyed) (x y : Nat) : Prop where
  perm : o.toList.Perm (a.toList.take x ++ b.toList.take y)
  sort : Sd lt kf o.toList
  ua : ∀ u ∈ o.toList, ∀ v ∈ a.toList.drop x, le lt kf u v
  ub : ∀ u ∈ o.toList, ∀ v ∈ b.toList.drop y, le lt kf u v
theorem Mi.swap {a b o : Array Keyed} {x y : Nat} (h : Mi lt kf a b o x y) : Mi lt kf b a o y x := ⟨h.perm.trans List.perm_append_comm, h.sort, h.ub, h.ua⟩
theorem drop_at {l : List Keyed} {i : Nat} {u : Keyed} (h : l[i]? = some u) : l.drop i = u :: l.drop (i + 1) := by
  obtain ⟨h1, e1⟩ := List.getElem?_eq_some_iff.mp h
  rw [List.drop_eq_getElem_cons h1, e1]
theorem mem_drop_at {l : List Keyed} {i : Nat} {u : Keyed} (h : l[i]? = some u) : u ∈ l.drop i := by rw [drop_at h]; exact List.mem_cons_self
theorem Mi.a (O : Srt.Ord lt) {a b o : Array Keyed} {x y : Nat} {e : Keyed} (h : Mi lt kf a b o x y) (sa : Sd lt kf a.toList) (hx : a.toList[x]? = some e) (hb : ∀ v ∈ b.toList.drop y, le lt kf e v) : Mi lt kf a b (o.push e) (x + 1) y := by
  have ed := drop_at hx
  refine ⟨?_, ?_, fun u hu v hv => ?_, fun u hu v hv => ?_⟩
  · rw [Array.toList_push, List.take_add_one, hx]
    refine (h.perm.append_right [e]).trans ?_
    rw [List.append_assoc, List.append_assoc]
    exact (List.perm_append_comm).append_left _
  · rw [Array.toList_push]
    refine List.pairwise_append.mpr ⟨h.sort, List.pairwise_singleton _ _, fun u hu v hv => ?_⟩
    rw [List.mem_singleton.mp hv]
    exact h.ua u hu e (mem_drop_at hx)
  · rw [Array.toList_push] at hu
    rcases List.mem_append.mp hu with hu | hu
    · exact h.ua u hu v (by rw [ed]; exact List.mem_cons_of_mem _ hv)
    · rw [List.mem_singleton.mp hu]
      exact sa.drop O hx (by rw [ed]; exact List.mem_cons_of_mem _ hv)
  · rw [Array.toList_push] at hu
    rcases List.mem_append.mp hu with hu | hu
    · exact h.ub u hu v hv
    · rw [List.mem_singleton.mp hu]; exact hb v hv
theorem Mi.b (O : Srt.Ord lt) {a b o : Array Keyed} {x y : Nat} {e : Keyed} (h : Mi lt kf a b o x y) (sb : Sd lt kf b.toList) (hy : b.toList[y]? = some e) (ha : ∀ v ∈ a.toList.drop x, le lt kf e v) : Mi lt kf a b (o.push e) x (y + 1) := (h.swap.a O sb hy ha).swap
theorem ext_succ {a o : Array Keyed} {x k : Nat} {e : Keyed} (h : a.toList[x + k]? = some e) : o ++ a.extract x (x + (k + 1)) = (o ++ a.extract x (x + k)).push e := by
  apply Array.ext'
  rw [Array.toList_push, Array.toList_append, Array.toList_append, Array.toList_extract, Array.toList_extract, List.append_assoc]
  congr 1
  rw [List.extract_eq_take_drop, List.extract_eq_take_drop, show x + (k + 1) - x = k + 1 by omega, show x + k - x = k by omega, List.take_add_one, List.getElem?_drop, h]; rfl
theorem Mi.as (O : Srt.Ord lt) {a b o : Array Keyed} {x y : Nat} (h : Mi lt kf a b o x y) (sa : Sd lt kf a.toList) : ∀ k, x + k ≤ a.size → (∀ i e, i < k → a.toList[x + i]? = some e → ∀ v ∈ b.toList.drop y, le lt kf e v) → Mi lt kf a b (o ++ a.extract x (x + k)) (x + k) y
  | 0, _, _ => by
    have e : o ++ a.extract x (x + 0) = o := by
      apply Array.ext'
      rw [Array.toList_append, Array.toList_extract, List.extract_eq_take_drop, show x + 0 - x = 0 by omega, List.take_zero, List.append_nil]
    rw [e]; exact h
  | k + 1, hk, hb => by
    have ih := h.as O sa k (by omega) fun i e hi => hb i e (by omega)
    have hl : x + k < a.toList.length := by rw [Array.length_toList]; omega
    have he : a.toList[x + k]? = some (a.toList[x + k]) := List.getElem?_eq_getElem hl
    rw [ext_succ he]
    exact ih.a O sa he (hb k _ (by omega) he)
theorem Mi.bs (O : Srt.Ord lt) {a b o : Array Keyed} {x y : Nat} (h : Mi lt kf a b o x y) (sb : Sd lt kf b.toList) (k : Nat) (hk : y + k ≤ b.size) (ha : ∀ i e, i < k → b.toList[y + i]? = some e → ∀ v ∈ a.toList.drop x, le lt kf e v) : Mi lt kf a b (o ++ b.extract y (y + k)) x (y + k) := (h.swap.as O sb k hk ha).swap
/-- what is to come out -/
def Rs (lt : κt → κt → Bool) (kf : Keyed → κt) (a b r : Array Keyed) : Prop := r.toList.Perm (a.toList ++ b.toList) ∧ Sd lt kf r.toList
theorem ext_all (a : Array Keyed) (x : Nat) : (a.extract x a.size).toList = a.toList.drop x := by
  rw [Array.toList_extract, List.extract_eq_take_drop, List.take_of_length_le (by rw [List.length_drop, Array.length_toList]; exact Nat.le_refl _)]
theorem Mi.done {a b o : Array Keyed} {x y : Nat} (h : Mi lt kf a b o x y) (sa : Sd lt kf a.toList) (sb : Sd lt kf b.toList) (hz : x = a.size ∨ y = b.size) : Rs lt kf a b (o ++ a.extract x a.size ++ b.extract y b.size) := by
  unfold Rs
  rw [Array.toList_append, Array.toList_append, ext_all, ext_all]
  constructor
  · refine ((h.perm.append_right _).append_right _).trans ?_
    have e1 := List.take_append_drop x a.toList
    have e2 := List.take_append_drop y b.toList
    rw [List.append_assoc (a.toList.take x)]
    refine ((List.perm_append_comm.append_left (a.toList.take x)).append_right _).trans ?_
    rw [← List.append_assoc, e1, List.append_assoc, e2]
  · refine List.pairwise_append.mpr ⟨List.pairwise_append.mpr ⟨h.sort, List.Pairwise.drop sa, fun u hu v hv => h.ua u hu v hv⟩, List.Pairwise.drop sb, fun u hu v hv => ?_⟩
    rcases List.mem_append.mp hu with hu | hu
    · exact h.ub u hu v hv
    · rcases hz with hz | hz
      · rw [hz, ← Array.length_toList, List.drop_length] at hu; cases hu
      · rw [hz, ← Array.length_toList, List.drop_length] at hv; cases hv
theorem Rs.swap {a b r : Array Keyed} (h : Rs lt kf b a r) : Rs lt kf a b r := ⟨h.1.trans List.perm_append_comm, h.2⟩
theorem Mi.last {a b o : Array Keyed} {x y : Nat} (h : Mi lt kf a b o x y) (sa : Sd lt kf a.toList) (sb : Sd lt kf b.toList) (hl : ∀ v ∈ b.toList.drop y, ∀ e ∈ a.toList.drop x, le lt kf v e) : Rs lt kf a b (o ++ b.extract y b.size ++ a.extract x a.size) := by
  unfold Rs
  rw [Array.toList_append, Array.toList_append, ext_all, ext_all]
  constructor
  · refine ((h.perm.append_right _).append_right _).trans ?_
    have e1 := List.take_append_drop x a.toList
    have e2 := List.take_append_drop y b.toList
    rw [List.append_assoc (a.toList.take x), e2, List.append_assoc]
    refine (List.perm_append_comm.append_left _).trans ?_
    rw [← List.append_assoc, e1]
  · refine List.pairwise_append.mpr ⟨List.pairwise_append.mpr ⟨h.sort, List.Pairwise.drop sb, fun u hu v hv => h.ub u hu v hv⟩, List.Pairwise.drop sa, fun u hu v hv => ?_⟩
    rcases List.mem_append.mp hu with hu | hu
    · exact h.ua u hu v hv
    · exact hl u hu v hv
end
end Ts

set_option Elab.async false
set_option linter.all false
set_option maxRecDepth 100000
set_option maxHeartbeats 4000000
namespace Ts
open PySem PySem.W PyProof.Rows
section
variable {prog : Program} {w : World} {A : Around} {E : Value → Shared → Prop} {s : Shared} {κt : Type} {lt : κt → κt → Bool} {kf : Keyed → κt} {κ0 : SortKind} {it : Array Keyed}
theorem wpS_rule {x : String} {Q : Unit → SortSt → Prop} {st : SortSt} (q : Q () st) : wpS (model prog w) A E s (liftM (rule x) : StateT SortSt Sem Unit) Q st := wpS_lift (wpAny_rule ⟨rfl, q⟩)
theorem at_some {a : Array Keyed} {i : Nat} (h : i < a.size) : ∃ e, a[i]? = some e ∧ a.toList[i]? = some e ∧ e ∈ a.toList := by
  refine ⟨a[i], by simp [h], by simp [h], ?_⟩
  exact Array.getElem_mem_toList h
/-- galloping right: how many of a from x on are not above the key -/
theorem wpS_galR (O : Srt.Ord lt) (hc : Cmp prog w A E s lt kf κ0 it) {ke : Keyed} {a : Array Keyed} {x hi0 n : Nat} {Q : Option Nat → SortSt → Prop} {st : SortSt} (hk : kindOf st = κ0) (hke : ke ∈ it.toList) (ha : ∀ u ∈ a.toList, u ∈ it.toList) (hn : x + n ≤ a.size) (hh : hi0 < n)
    (sa : ∀ i j u v, i ≤ j → j < n → a.toList[x + i]? = some u → a.toList[x + j]? = some v → le lt kf u v)
    (q : ∀ k, k ≤ n → (∀ i e, i < k → a.toList[x + i]? = some e → le lt kf e ke) → (∀ i e, k ≤ i → i < n → a.toList[x + i]? = some e → lt (kf ke) (kf e) = true) → Q (some k) st) : wpS (model prog w) A E s (gallopP false ke a x n hi0) Q st := by
  refine wpS_gallop hc hk hke hh (fun i hi => ?_) (fun i => match a[x + i]? with | some e => !lt (kf ke) (kf e) | none => false) (fun i e hi he => ?_) (fun i j hij hj hB => ?_) fun k hkn h1 h2 => ?_
  · obtain ⟨e, h1, h2, h3⟩ := at_some (a := a) (i := x + i) (by omega)
    exact ⟨e, h1, ha e h3⟩
  · (try dsimp only); rw [he]; rfl
  · obtain ⟨u, u1, u2, u3⟩ := at_some (a := a) (i := x + i) (by omega)
    obtain ⟨v, v1, v2, v3⟩ := at_some (a := a) (i := x + j) (by omega)
    try dsimp only at hB ⊢
    rw [v1] at hB
    rw [u1]
    try dsimp only at hB ⊢
    have hv : le lt kf v ke := by unfold le; simpa using hB
    have := le_trans O (sa i j u v hij hj u2 v2) hv
    unfold le at this
    rw [this]; rfl
  · refine q k hkn (fun i e hi he => ?_) fun i e hi hin he => ?_
    · have := h1 i hi
      try dsimp only at this
      rw [← Array.getElem?_toList, he] at this
      unfold le; simpa using this
    · have := h2 i hi hin
      try dsimp only at this
      rw [← Array.getElem?_toList, he] at this
      simpa using this
/-- galloping left: how many of a from x on are below the key -/
theorem wpS_galL (O : Srt.Ord lt) (hc : Cmp prog w A E s lt kf κ0 it) {ke : Keyed} {a : Array Keyed} {x hi0 n : Nat} {Q : Option Nat → SortSt → Prop} {st : SortSt} (hk : kindOf st = κ0) (hke : ke ∈ it.toList) (ha : ∀ u ∈ a.toList, u ∈ it.toList) (hn : x + n ≤ a.size) (hh : hi0 < n)
    (sa : ∀ i j u v, i ≤ j → j < n → a.toList[x + i]? = some u → a.toList[x + j]? = some v → le lt kf u v)
    (q : ∀ k, k ≤ n → (∀ i e, i < k → a.toList[x + i]? = some e → lt (kf e) (kf ke) = true) → (∀ i e, k ≤ i → i < n → a.toList[x + i]? = some e → le lt kf ke e) → Q (some k) st) : wpS (model prog w) A E s (gallopP true ke a x n hi0) Q st := by
  refine wpS_gallop hc hk hke hh (fun i hi => ?_) (fun i => match a[x + i]? with | some e => lt (kf e) (kf ke) | none => false) (fun i e hi he => ?_) (fun i j hij hj hB => ?_) fun k hkn h1 h2 => ?_
  · obtain ⟨e, h1, h2, h3⟩ := at_some (a := a) (i := x + i) (by omega)
    exact ⟨e, h1, ha e h3⟩
  · (try dsimp only); rw [he]; rfl
  · obtain ⟨u, u1, u2, u3⟩ := at_some (a := a) (i := x + i) (by omega)
    obtain ⟨v, v1, v2, v3⟩ := at_some (a := a) (i := x + j) (by omega)
    try dsimp only at hB ⊢
    rw [v1] at hB
    rw [u1]
    try dsimp only at hB ⊢
    cases e : lt (kf u) (kf ke) with
    | true => rfl
    | false =>
      -- ke ≤ u ≤ v, so v is not below ke
      have h1 : le lt kf ke u := e
      have := le_trans O h1 (sa i j u v hij hj u2 v2)
      unfold le at this
      rw [this] at hB; cases hB
  · refine q k hkn (fun i e hi he => ?_) fun i e hi hin he => ?_
    · have := h1 i hi
      try dsimp only at this
      rw [← Array.getElem?_toList, he] at this
      exact this
    · have := h2 i hi hin
      try dsimp only at this
      rw [← Array.getElem?_toList, he] at this
      exact this
theorem sd_from (O : Srt.Ord lt) {a : Array Keyed} (sa : Sd lt kf a.toList) (x : Nat) : ∀ i j u v, i ≤ j → j < a.size - x → a.toList[x + i]? = some u → a.toList[x + j]? = some v → le lt kf u v := fun i j u v hij _ h1 h2 => sa.at O (by omega) h1 h2
theorem mem_drop_ix {l : List Keyed} {x k n : Nat} {z : Keyed} (hl : l.length ≤ x + n) (hz : z ∈ l.drop (x + k)) : ∃ i, k ≤ i ∧ i < n ∧ l[x + i]? = some z := by
  obtain ⟨j, hj⟩ := List.mem_iff_getElem?.mp hz
  rw [List.getElem?_drop] at hj
  have := (List.getElem?_eq_some_iff.mp hj).1
  exact ⟨k + j, by omega, by omega, by rw [← hj]; congr 1; omega⟩
theorem wpS_mlo (O : Srt.Ord lt) (hc : Cmp prog w A E s lt kf κ0 it) {a b : Array Keyed} {Q : Array Keyed → SortSt → Prop} {st : SortSt} (hk : kindOf st = κ0) (ha : ∀ u ∈ a.toList, u ∈ it.toList) (hb : ∀ u ∈ b.toList, u ∈ it.toList) (sa : Sd lt kf a.toList) (sb : Sd lt kf b.toList)
    (a1 : 1 ≤ a.size) (b1 : 1 ≤ b.size) (hf : ∀ e, b.toList[0]? = some e → ∀ v ∈ a.toList, le lt kf e v) (hl : ∀ v ∈ b.toList, ∀ e, a.toList[a.size - 1]? = some e → le lt kf v e)
    (q : ∀ r g, Rs lt kf a b r → Q r (setG st g)) : wpS (model prog w) A E s (mloP a b) Q st := by
  have last : ∀ {o : Array Keyed} {x y : Nat}, Mi lt kf a b o x y → x + 1 = a.size → Rs lt kf a b (o ++ b.extract y b.size ++ a.extract x a.size) := fun {o x y} h hx => h.last sa sb fun v hv e he => by
    obtain ⟨e', h1, h2, h3⟩ := at_some (a := a) (i := x) (by omega)
    have ed := drop_at h2
    rw [ed, List.drop_eq_nil_of_le (by rw [Array.length_toList]; omega)] at he
    rw [List.mem_singleton.mp he]
    exact hl v (List.mem_of_mem_drop hv) e' (by rw [show a.size - 1 = x by omega]; exact h2)
  obtain ⟨f0, f1, f2, f3⟩ := at_some (a := b) (i := 0) (by omega)
  have m0 : Mi lt kf a b #[f0] 0 1 := by
    refine ⟨?_, List.pairwise_singleton _ _, fun u hu v hv => ?_, fun u hu v hv => ?_⟩
    · rw [List.take_zero, List.nil_append, List.take_add_one, f2, List.take_zero]; exact List.Perm.refl _
    · rw [List.mem_singleton.mp hu]; exact hf f0 f2 v (by rw [List.drop_zero] at hv; exact hv)
    · rw [List.mem_singleton.mp hu]
      exact sb.drop O (i := 0) f2 (by rw [List.drop_zero]; exact List.mem_of_mem_drop hv)
  rw [mloP_eq]
  refine wpS_bind (wpS_rule ?_)
  dsimp only
  refine wpS_bind (wpS_elem f1 ?_)
  have q0 : ∀ r, Rs lt kf a b r → Q r st := fun r hr => q r (gallopOf st) hr
  by_cases hb1 : (1 == b.size) = true
  · rw [if_pos hb1]
    exact wpS_pure (q0 _ (m0.done sa sb (.inr (beq_iff_eq.mp hb1))))
  rw [if_neg hb1]
  have hb1' : ¬ 1 = b.size := fun z => hb1 (beq_iff_eq.mpr z)
  by_cases ha1 : (0 + 1 == a.size) = true
  · rw [if_pos ha1]
    exact wpS_pure (q0 _ (last m0 (beq_iff_eq.mp ha1)))
  rw [if_neg ha1]
  have ha1' : ¬ 0 + 1 = a.size := fun z => ha1 (beq_iff_eq.mpr z)
  refine wpS_bind (wpS_get ?_)
  refine wpS_bind (wpS_mono (wpS_forRange (I := fun i c st' => ∃ o x y g, c = (none, o, x, y, g) ∧ (∃ g', st' = setG st g') ∧ Mi lt kf a b o x y ∧ x + 1 < a.size ∧ y < b.size ∧ i + 1 ≤ x + y)
    (Q := fun c st' => ∃ r d g', c = (some r, d) ∧ st' = setG st g' ∧ Rs lt kf a b r) ?step ?fin ?init) ?post)
  case init => exact ⟨_, _, _, _, rfl, ⟨gallopOf st, rfl⟩, m0, by omega, by omega, by omega⟩
  case fin =>
    rintro c st' ⟨o, x, y, g, rfl, _, _, h1, h2, h3⟩
    omega
  case post =>
    rintro c st' ⟨r, d, g', rfl, rfl, hr⟩
    exact wpS_pure (q r g' hr)
  case step =>
    rintro i c st' _ hi ⟨o, x, y, g, rfl, ⟨g0, rfl⟩, hM, hx, hy, hxy⟩
    dsimp only
    refine wpS_bind (wpS_mono (wpS_forRange (I := fun j c st' => ∃ o' x' y' ca cb, c = (none, o', x', y', ca, cb) ∧ st' = setG st g0 ∧ Mi lt kf a b o' x' y' ∧ x' + 1 < a.size ∧ y' < b.size ∧ x + y + j ≤ x' + y')
      (Q := fun c st' => st' = setG st g0 ∧ ((∃ r d, c = (some r, d) ∧ Rs lt kf a b r) ∨ ∃ o' x' y' ca cb, c = (none, o', x', y', ca, cb) ∧ Mi lt kf a b o' x' y' ∧ x' + 1 < a.size ∧ y' < b.size ∧ x + y + 1 ≤ x' + y')) ?_ ?_ ?_) ?_)
    · rintro j c st' _ hj ⟨o', x', y', ca, cb, rfl, rfl, hM', hx', hy', hxy'⟩
      obtain ⟨u, u1, u2, u3⟩ := at_some (a := a) (i := x') (by omega)
      obtain ⟨v, v1, v2, v3⟩ := at_some (a := b) (i := y') (by omega)
      dsimp only
      refine wpS_bind (wpS_elem v1 (wpS_bind (wpS_elem u1 (wpS_bind (hc v u _ _ (hb v v3) (ha u u3) hk ?_)))))
      cases e : lt (kf v) (kf u) with
      | true =>
        dsimp only
        rw [if_pos rfl]
        refine wpS_bind (wpS_elem v1 ?_)
        have hN := hM'.b O sb v2 fun z hz => le_trans O (le_of O e) (sa.drop O u2 hz)
        by_cases ey : (y' + 1 == b.size) = true
        · rw [if_pos ey]
          exact wpS_pure ⟨rfl, .inl ⟨_, _, rfl, hN.done sa sb (.inr (beq_iff_eq.mp ey))⟩⟩
        · rw [if_neg ey]
          have ey' : ¬ y' + 1 = b.size := fun z => ey (beq_iff_eq.mpr z)
          by_cases eg : cb + 1 ≥ g
          · rw [if_pos eg]
            exact wpS_pure ⟨rfl, .inr ⟨_, _, _, _, _, rfl, hN, hx', by omega, by omega⟩⟩
          · rw [if_neg eg]
            exact wpS_pure ⟨_, _, _, _, _, rfl, rfl, hN, hx', by omega, by omega⟩
      | false =>
        dsimp only
        rw [if_neg (by simp)]
        refine wpS_bind (wpS_elem u1 ?_)
        have hN := hM'.a O sa u2 fun z hz => le_trans O (show le lt kf u v from e) (sb.drop O v2 hz)
        by_cases ex : (x' + 1 + 1 == a.size) = true
        · rw [if_pos ex]
          exact wpS_pure ⟨rfl, .inl ⟨_, _, rfl, last hN (beq_iff_eq.mp ex)⟩⟩
        · rw [if_neg ex]
          have ex' : ¬ x' + 1 + 1 = a.size := fun z => ex (beq_iff_eq.mpr z)
          by_cases eg : ca + 1 ≥ g
          · rw [if_pos eg]
            exact wpS_pure ⟨rfl, .inr ⟨_, _, _, _, _, rfl, hN, by omega, hy', by omega⟩⟩
          · rw [if_neg eg]
            exact wpS_pure ⟨_, _, _, _, _, rfl, rfl, hN, by omega, hy', by omega⟩
    · rintro c st' ⟨o', x', y', ca, cb, rfl, rfl, hM', hx', hy', hxy'⟩
      omega
    · exact ⟨_, _, _, _, _, rfl, rfl, hM, hx, hy, by omega⟩
    · rintro c st' ⟨rfl, ⟨r, d, rfl, hr⟩ | ⟨o', x', y', ca, cb, rfl, hM', hx', hy', hxy'⟩⟩
      · dsimp only
        exact wpS_pure ⟨r, _, g0, rfl, rfl, hr⟩
      · dsimp only
        refine wpS_bind (wpS_rule ?_)
        refine wpS_bind (wpS_mono (wpS_forRange (I := fun j c st' => ∃ o' x' y' g1 ca cb, c = (none, o', x', y', g1, ca, cb) ∧ (∃ g', st' = setG st g') ∧ Mi lt kf a b o' x' y' ∧ x' + 1 < a.size ∧ y' < b.size ∧ x + y + 1 ≤ x' + y')
          (Q := fun c st' => (∃ g', st' = setG st g') ∧ ((∃ r d, c = (some r, d) ∧ Rs lt kf a b r) ∨ ∃ o' x' y' g1 ca cb, c = (none, o', x', y', g1, ca, cb) ∧ Mi lt kf a b o' x' y' ∧ x' + 1 < a.size ∧ y' < b.size ∧ x + y + 1 ≤ x' + y')) ?_ ?_ ?_) ?_)
        · rintro j c st' _ hj ⟨o', x', y', g1, ca, cb, rfl, ⟨g', rfl⟩, hM', hx', hy', hxy'⟩
          obtain ⟨v, v1, v2, v3⟩ := at_some (a := b) (i := y') (by omega)
          dsimp only
          by_cases hg : g1 > 1
          case' pos => rw [if_pos hg]
          case' neg => rw [if_neg hg]
          all_goals
            refine wpS_bind ?_
            rw [sgP_eq]
            refine wpS_modify ?_
            refine wpS_bind (wpS_elem v1 (wpS_bind (wpS_galR O hc hk (hb v v3) ha (by omega) (by omega) (sd_from O sa x') fun k hkn k1 k2 => ?_)))
            dsimp only
            have hN : Mi lt kf a b (o' ++ a.extract x' (x' + k)) (x' + k) y' := hM'.as O sa k (by omega) fun i e hi he z hz => le_trans O (k1 i e hi he) (sb.drop O v2 hz)
            have hv : ∀ z ∈ a.toList.drop (x' + k), le lt kf v z := fun z hz => by
              obtain ⟨i, i1, i2, i3⟩ := mem_drop_ix (n := a.size - x') (by rw [Array.length_toList]; omega) hz
              exact le_of O (k2 i z i1 i2 i3)
            by_cases hk0 : k > 0
            case' pos =>
              rw [if_pos hk0]
              by_cases ex : (x' + k + 1 == a.size) = true
              case' pos =>
                rw [if_pos ex]
                refine wpS_pure ⟨⟨_, rfl⟩, .inl ⟨_, _, rfl, last hN (beq_iff_eq.mp ex)⟩⟩
              case' neg =>
                rw [if_neg ex]
                by_cases ex2 : (x' + k == a.size) = true
                case' pos =>
                  rw [if_pos ex2]
                  refine wpS_pure ⟨⟨_, rfl⟩, .inl ⟨_, _, rfl, hN.done sa sb (.inl (beq_iff_eq.mp ex2))⟩⟩
                case' neg =>
                  rw [if_neg ex2]
                  have hxx : x' + k + 1 < a.size := by
                    have n1 : ¬ x' + k + 1 = a.size := fun z => ex (beq_iff_eq.mpr z)
                    have n2 : ¬ x' + k = a.size := fun z => ex2 (beq_iff_eq.mpr z)
                    omega
            case' neg =>
              rw [if_neg hk0]
              have hk0' : k = 0 := by omega
              rw [hk0', Nat.add_zero] at hv
              have hN := hM'
              have hxx : x' + 1 < a.size := hx'
            all_goals
              refine wpS_bind (wpS_elem v1 ?_)
              have hP := hN.b O sb v2 hv
              by_cases ey : (y' + 1 == b.size) = true
              · rw [if_pos ey]
                exact wpS_pure ⟨⟨_, rfl⟩, .inl ⟨_, _, rfl, hP.done sa sb (.inr (beq_iff_eq.mp ey))⟩⟩
              rw [if_neg ey]
              have ey' : ¬ y' + 1 = b.size := fun z => ey (beq_iff_eq.mpr z)
              obtain ⟨u, u1, u2, u3⟩ := at_some (Nat.lt_of_succ_lt hxx)
              refine wpS_bind (wpS_elem u1 (wpS_bind (wpS_galL O hc hk (ha u u3) hb (by omega) (by omega) (sd_from O sb _) fun m hmn m1 m2 => ?_)))
              dsimp only
              have hR := hP.bs O sb m (by omega) fun i e hi he z hz => le_trans O (le_of O (m1 i e hi he)) (sa.drop O u2 hz)
              have hu : ∀ z ∈ b.toList.drop (y' + 1 + m), le lt kf u z := fun z hz => by
                obtain ⟨i, i1, i2, i3⟩ := mem_drop_ix (n := b.size - (y' + 1)) (by rw [Array.length_toList]; omega) hz
                exact m2 i z i1 i2 i3
              by_cases hm0 : m > 0
              case' pos =>
                rw [if_pos hm0]
                by_cases ey2 : (y' + 1 + m == b.size) = true
                case' pos =>
                  rw [if_pos ey2]
                  refine wpS_pure ⟨⟨_, rfl⟩, .inl ⟨_, _, rfl, hR.done sa sb (.inr (beq_iff_eq.mp ey2))⟩⟩
                case' neg =>
                  rw [if_neg ey2]
                  have hyy : y' + 1 + m < b.size := by
                    have n1 : ¬ y' + 1 + m = b.size := fun z => ey2 (beq_iff_eq.mpr z)
                    omega
              case' neg =>
                rw [if_neg hm0]
                have hm0' : m = 0 := by omega
                rw [hm0', Nat.add_zero] at hu
                have hR := hP
                have hyy : y' + 1 < b.size := by omega
              all_goals
                refine wpS_bind (wpS_elem u1 ?_)
                have hT := hR.a O sa u2 hu
                split
                · rename_i ex3
                  exact wpS_pure ⟨⟨_, rfl⟩, .inl ⟨_, _, rfl, last hT (beq_iff_eq.mp ex3)⟩⟩
                · rename_i ex3
                  have n3 : ¬ (_ = _) := fun z => ex3 (beq_iff_eq.mpr z)
                  split
                  · exact wpS_pure ⟨⟨_, rfl⟩, .inr ⟨_, _, _, _, _, _, rfl, hT, by omega, hyy, by omega⟩⟩
                  · exact wpS_pure ⟨_, _, _, _, _, _, rfl, ⟨_, rfl⟩, hT, by omega, hyy, by omega⟩
        · rintro c st' ⟨o', x', y', g1, ca, cb, rfl, hst, hM', hx', hy', hxy'⟩
          exact ⟨hst, .inr ⟨_, _, _, _, _, _, rfl, hM', hx', hy', hxy'⟩⟩
        · exact ⟨_, _, _, _, _, _, rfl, ⟨g0, rfl⟩, hM', hx', hy', hxy'⟩
        · rintro c st' ⟨⟨g', rfl⟩, ⟨r, d, rfl, hr⟩ | ⟨o', x', y', g1, ca, cb, rfl, hM', hx', hy', hxy'⟩⟩
          · dsimp only
            exact wpS_pure ⟨r, _, g', rfl, rfl, hr⟩
          · dsimp only
            refine wpS_bind ?_
            rw [sgP_eq]
            refine wpS_modify (wpS_pure ⟨_, _, _, _, rfl, ⟨_, rfl⟩, hM', hx', hy', by omega⟩)
end
end Ts

set_option Elab.async false
set_option linter.all false
set_option maxRecDepth 100000
set_option maxHeartbeats 4000000
namespace Ts
open PySem PySem.W PyProof.Rows
def mhiP : Array Keyed → Array Keyed → StateT SortSt Sem (Array Keyed) := sortPriv% PySem.Builtin.mergeHi
theorem mhiP_eq (a b : Array Keyed) : mhiP a b = (do
    rule "list.sort.merge-hi"
    let tot := a.size + b.size
    let dn (o : Array Keyed) (x y : Nat) := a.extract 0 x ++ b.extract 0 y ++ o.reverse
    let fb (o : Array Keyed) (x y : Nat) := b.extract 0 y ++ a.extract 0 x ++ o.reverse
    let mut x := a.size - 1
    let mut y := b.size
    let mut o : Array Keyed := #[← elem' a x]
    if x == 0 then
      return dn o x y
    if y == 1 then
      return fb o x y
    let mut g := gallopOf (← get)
    for _ in [0:tot] do
      let mut ca := 0
      let mut cb := 0
      for _ in [0:tot] do
        let some aw ← lt' (← elem' b (y - 1)) (← elem' a (x - 1))
          | return dn o x y
        if aw then
          x := x - 1
          o := o.push (← elem' a x)
          ca := ca + 1
          cb := 0
          if x == 0 then
            return dn o x y
          if ca ≥ g then break
        else
          y := y - 1
          o := o.push (← elem' b y)
          cb := cb + 1
          ca := 0
          if y == 1 then
            return fb o x y
          if cb ≥ g then break
      rule "list.sort.gallop"
      g := g + 1
      for _ in [0:tot] do
        if g > 1 then g := g - 1
        sgP g
        let some p ← gallopP false (← elem' b (y - 1)) a 0 x (x - 1)
          | return dn o x y
        let k := x - p
        ca := k
        if k > 0 then
          o := o ++ (a.extract p x).reverse
          x := p
          if x == 0 then
            return dn o x y
        y := y - 1
        o := o.push (← elem' b y)
        if y == 1 then
          return fb o x y
        let some p ← gallopP true (← elem' a (x - 1)) b 0 y (y - 1)
          | return dn o x y
        let k := y - p
        cb := k
        if k > 0 then
          o := o ++ (b.extract p y).reverse
          y := p
          if y == 1 then
            return fb o x y
          if y == 0 then
            return dn o x y
        x := x - 1
        o := o.push (← elem' a x)
        if x == 0 then
          return dn o x y
        if ca < 7 && cb < 7 then break
      g := g + 1
      sgP g
    unsupported "internal:list.sort.merge-bound") := rfl
section
variable {κt : Type} {lt : κt → κt → Bool} {kf : Keyed → κt}
theorem Sd.take (O : Srt.Ord lt) {l : List Keyed} (h : Sd lt kf l) {i : Nat} {u v : Keyed} (hi : l[i]? = some u) (hv : v ∈ l.take (i + 1)) : le lt kf v u := by
  obtain ⟨j, hj⟩ := List.mem_iff_getElem?.mp hv
  have hjl : j < i + 1 := by
    have := (List.getElem?_eq_some_iff.mp hj).1
    rw [List.length_take] at this; omega
  rw [List.getElem?_take_of_lt hjl] at hj
  exact h.at O (by omega) hj hi
theorem take_at {l : List Keyed} {i : Nat} {u : Keyed} (h : l[i]? = some u) : l.take (i + 1) = l.take i ++ [u] := by rw [List.take_add_one, h]; rfl
/-- what is merged so far, from the end -/
structure Mh (lt : κt → κt → Bool) (kf : Keyed → κt) (a b o : Array Keyed) (x y : Nat) : Prop where
  perm : o.toList.reverse.Perm (a.toList.drop x ++ b.toList.drop y)
  sort : Sd lt kf o.toList.reverse
  ua : ∀ u ∈ o.toList, ∀ v ∈ a.toList.take x, le lt kf v u
  ub : ∀ u ∈ o.toList, ∀ v ∈ b.toList.take y, le lt kf v u
theorem Mh.swap {a b o : Array Keyed} {x y : Nat} (h : Mh lt kf a b o x y) : Mh lt kf b a o y x := ⟨h.perm.trans List.perm_append_comm, h.sort, h.ub, h.ua⟩
theorem Mh.a (O : Srt.Ord lt) {a b o : Array Keyed} {x y : Nat} {e : Keyed} (h : Mh lt kf a b o (x + 1) y) (sa : Sd lt kf a.toList) (hx : a.toList[x]? = some e) (hb : ∀ v ∈ b.toList.take y, le lt kf v e) : Mh lt kf a b (o.push e) x y := by
  have et := take_at hx
  refine ⟨?_, ?_, fun u hu v hv => ?_, fun u hu v hv => ?_⟩
  · rw [Array.toList_push, List.reverse_append, drop_at hx]
    exact h.perm.cons e
  · rw [Array.toList_push, List.reverse_append]
    refine List.pairwise_cons.mpr ⟨fun v hv => ?_, h.sort⟩
    exact h.ua v (List.mem_reverse.mp hv) e (by rw [et]; exact List.mem_append_right _ (List.mem_singleton.mpr rfl))
  · rw [Array.toList_push] at hu
    rcases List.mem_append.mp hu with hu | hu
    · exact h.ua u hu v (by rw [et]; exact List.mem_append_left _ hv)
    · rw [List.mem_singleton.mp hu]
      exact sa.take O hx (by rw [et]; exact List.mem_append_left _ hv)
  · rw [Array.toList_push] at hu
    rcases List.mem_append.mp hu with hu | hu
    · exact h.ub u hu v hv
    · rw [List.mem_singleton.mp hu]; exact hb v hv
theorem Mh.b (O : Srt.Ord lt) {a b o : Array Keyed} {x y : Nat} {e : Keyed} (h : Mh lt kf a b o x (y + 1)) (sb : Sd lt kf b.toList) (hy : b.toList[y]? = some e) (ha : ∀ v ∈ a.toList.take x, le lt kf v e) : Mh lt kf a b (o.push e) x y := (h.swap.a O sb hy ha).swap
theorem ext_rev {a o : Array Keyed} {x k : Nat} {e : Keyed} (h : a.toList[x + k]? = some e) : o ++ (a.extract x (x + (k + 1))).reverse = o.push e ++ (a.extract x (x + k)).reverse := by
  apply Array.ext'
  rw [Array.toList_append, Array.toList_append, Array.toList_push, Array.toList_reverse, Array.toList_reverse, Array.toList_extract, Array.toList_extract, List.append_assoc]
  congr 1
  rw [List.extract_eq_take_drop, List.extract_eq_take_drop, show x + (k + 1) - x = k + 1 by omega, show x + k - x = k by omega, List.take_add_one, List.getElem?_drop, h, List.reverse_append]; rfl
theorem Mh.asK (O : Srt.Ord lt) {a b : Array Keyed} {x y : Nat} (sa : Sd lt kf a.toList) : ∀ (k : Nat) {o : Array Keyed}, Mh lt kf a b o (x + k) y → x + k ≤ a.size → (∀ i e, x ≤ i → i < x + k → a.toList[i]? = some e → ∀ v ∈ b.toList.take y, le lt kf v e) → Mh lt kf a b (o ++ (a.extract x (x + k)).reverse) x y
  | 0, o, h, _, _ => by
    have e : o ++ (a.extract x (x + 0)).reverse = o := by
      apply Array.ext'
      rw [Array.toList_append, Array.toList_reverse, Array.toList_extract, List.extract_eq_take_drop, show x + 0 - x = 0 by omega, List.take_zero, List.reverse_nil, List.append_nil]
    rw [e]; exact h
  | k + 1, o, h, hk, hb => by
    have hl : x + k < a.toList.length := by rw [Array.length_toList]; omega
    have he : a.toList[x + k]? = some (a.toList[x + k]) := List.getElem?_eq_getElem hl
    rw [ext_rev he]
    exact Mh.asK O sa k (Mh.a O h sa he (hb (x + k) _ (by omega) (by omega) he)) (by omega) fun i e h1 h2 => hb i e h1 (by omega)
theorem Mh.as (O : Srt.Ord lt) {a b o : Array Keyed} {x n y : Nat} (h : Mh lt kf a b o n y) (sa : Sd lt kf a.toList) (hx : x ≤ n) (hn : n ≤ a.size) (hb : ∀ i e, x ≤ i → i < n → a.toList[i]? = some e → ∀ v ∈ b.toList.take y, le lt kf v e) : Mh lt kf a b (o ++ (a.extract x n).reverse) x y := by
  obtain ⟨k, rfl⟩ : ∃ k, n = x + k := ⟨n - x, by omega⟩
  exact Mh.asK O sa k h hn hb
theorem Mh.bs (O : Srt.Ord lt) {a b o : Array Keyed} {x n y : Nat} (h : Mh lt kf a b o x n) (sb : Sd lt kf b.toList) (hy : y ≤ n) (hn : n ≤ b.size) (ha : ∀ i e, y ≤ i → i < n → b.toList[i]? = some e → ∀ v ∈ a.toList.take x, le lt kf v e) : Mh lt kf a b (o ++ (b.extract y n).reverse) x y := (h.swap.as O sb hy hn ha).swap
theorem ext_to (a : Array Keyed) (x : Nat) : (a.extract 0 x).toList = a.toList.take x := by
  rw [Array.toList_extract, List.extract_eq_take_drop, List.drop_zero, Nat.sub_zero]
theorem Mh.fin {a b o : Array Keyed} {x y : Nat} (h : Mh lt kf a b o x y) (sa : Sd lt kf a.toList) (sb : Sd lt kf b.toList) (hz : ∀ v ∈ a.toList.take x, ∀ u ∈ b.toList.take y, le lt kf v u) : Rs lt kf a b (a.extract 0 x ++ b.extract 0 y ++ o.reverse) := by
  unfold Rs
  rw [Array.toList_append, Array.toList_append, ext_to, ext_to, Array.toList_reverse]
  constructor
  · refine (h.perm.append_left _).trans ?_
    have e1 := List.take_append_drop x a.toList
    have e2 := List.take_append_drop y b.toList
    rw [List.append_assoc, ← List.append_assoc (b.toList.take y)]
    refine ((List.perm_append_comm.append_right (b.toList.drop y)).append_left (a.toList.take x)).trans ?_
    rw [List.append_assoc, ← List.append_assoc, e1, e2]
  · refine List.pairwise_append.mpr ⟨List.pairwise_append.mpr ⟨List.Pairwise.take sa, List.Pairwise.take sb, fun u hu v hv => hz u hu v hv⟩, h.sort, fun u hu v hv => ?_⟩
    rcases List.mem_append.mp hu with hu | hu
    · exact h.ua v (List.mem_reverse.mp hv) u hu
    · exact h.ub v (List.mem_reverse.mp hv) u hu
theorem Mh.done {a b o : Array Keyed} {x y : Nat} (h : Mh lt kf a b o x y) (sa : Sd lt kf a.toList) (sb : Sd lt kf b.toList) (hz : x = 0 ∨ y = 0) : Rs lt kf a b (a.extract 0 x ++ b.extract 0 y ++ o.reverse) := h.fin sa sb fun v hv u hu => by
  rcases hz with rfl | rfl
  · rw [List.take_zero] at hv; cases hv
  · rw [List.take_zero] at hu; cases hu
end
section
variable {prog : Program} {w : World} {A : Around} {E : Value → Shared → Prop} {s : Shared} {κt : Type} {lt : κt → κt → Bool} {kf : Keyed → κt} {κ0 : SortKind} {it : Array Keyed}
theorem sd_from0 (O : Srt.Ord lt) {a : Array Keyed} (sa : Sd lt kf a.toList) (n : Nat) : ∀ i j u v, i ≤ j → j < n → a.toList[0 + i]? = some u → a.toList[0 + j]? = some v → le lt kf u v := fun i j u v hij _ h1 h2 => sa.at O (by omega) h1 h2
theorem mem_take_ix {l : List Keyed} {n : Nat} {z : Keyed} (hz : z ∈ l.take n) : ∃ i, i < n ∧ l[0 + i]? = some z := by
  obtain ⟨j, hj⟩ := List.mem_iff_getElem?.mp hz
  have hjl : j < n := by
    have := (List.getElem?_eq_some_iff.mp hj).1
    rw [List.length_take] at this; omega
  rw [List.getElem?_take_of_lt hjl] at hj
  exact ⟨j, hjl, by rw [Nat.zero_add]; exact hj⟩
theorem wpS_mhi (O : Srt.Ord lt) (hc : Cmp prog w A E s lt kf κ0 it) {a b : Array Keyed} {Q : Array Keyed → SortSt → Prop} {st : SortSt} (hk : kindOf st = κ0) (ha : ∀ u ∈ a.toList, u ∈ it.toList) (hb : ∀ u ∈ b.toList, u ∈ it.toList) (sa : Sd lt kf a.toList) (sb : Sd lt kf b.toList)
    (a1 : 1 ≤ a.size) (b1 : 1 ≤ b.size) (hf : ∀ e, b.toList[0]? = some e → ∀ v ∈ a.toList, le lt kf e v) (hl : ∀ v ∈ b.toList, ∀ e, a.toList[a.size - 1]? = some e → le lt kf v e)
    (q : ∀ r g, Rs lt kf a b r → Q r (setG st g)) : wpS (model prog w) A E s (mhiP a b) Q st := by
  have first : ∀ {o : Array Keyed} {x y : Nat}, Mh lt kf a b o x y → y = 1 → Rs lt kf a b (b.extract 0 y ++ a.extract 0 x ++ o.reverse) := fun {o x y} h hy => (h.swap.fin sb sa fun v hv u hu => by
    subst hy
    obtain ⟨i, hi, he⟩ := mem_take_ix hv
    have : i = 0 := by omega
    subst this
    exact hf v he u (List.mem_of_mem_take hu)).swap
  obtain ⟨f0, f1, f2, f3⟩ := at_some (a := a) (i := a.size - 1) (by omega)
  have m0 : Mh lt kf a b #[f0] (a.size - 1) b.size := by
    refine ⟨?_, List.pairwise_singleton _ _, fun u hu v hv => ?_, fun u hu v hv => ?_⟩
    · rw [drop_at f2, List.drop_eq_nil_of_le (by rw [Array.length_toList]; omega), List.drop_eq_nil_of_le (by rw [Array.length_toList]; omega)]; exact List.Perm.refl _
    · rw [List.mem_singleton.mp hu]
      exact sa.take O f2 (by rw [take_at f2]; exact List.mem_append_left _ hv)
    · rw [List.mem_singleton.mp hu]; exact hl v (List.mem_of_mem_take hv) f0 f2
  rw [mhiP_eq]
  refine wpS_bind (wpS_rule ?_)
  dsimp only
  refine wpS_bind (wpS_elem f1 ?_)
  have q0 : ∀ r, Rs lt kf a b r → Q r st := fun r hr => q r (gallopOf st) hr
  by_cases hb1 : (a.size - 1 == 0) = true
  · rw [if_pos hb1]
    exact wpS_pure (q0 _ (m0.done sa sb (.inl (beq_iff_eq.mp hb1))))
  rw [if_neg hb1]
  have hb1' : ¬ a.size - 1 = 0 := fun z => hb1 (beq_iff_eq.mpr z)
  by_cases ha1 : (b.size == 1) = true
  · rw [if_pos ha1]
    exact wpS_pure (q0 _ (first m0 (beq_iff_eq.mp ha1)))
  rw [if_neg ha1]
  have ha1' : ¬ b.size = 1 := fun z => ha1 (beq_iff_eq.mpr z)
  refine wpS_bind (wpS_get ?_)
  refine wpS_bind (wpS_mono (wpS_forRange (I := fun i c st' => ∃ o x y g, c = (none, x, y, o, g) ∧ (∃ g', st' = setG st g') ∧ Mh lt kf a b o x y ∧ 1 ≤ x ∧ 2 ≤ y ∧ x ≤ a.size ∧ y ≤ b.size ∧ i + 1 + (x + y) ≤ a.size + b.size)
    (Q := fun c st' => ∃ r d g', c = (some r, d) ∧ st' = setG st g' ∧ Rs lt kf a b r) ?step ?fin ?init) ?post)
  case init => exact ⟨_, _, _, _, rfl, ⟨gallopOf st, rfl⟩, m0, by omega, by omega, by omega, by omega, by omega⟩
  case fin =>
    rintro c st' ⟨o, x, y, g, rfl, _, _, h1, h2, h3, h4, h5⟩
    omega
  case post =>
    rintro c st' ⟨r, d, g', rfl, rfl, hr⟩
    exact wpS_pure (q r g' hr)
  case step =>
    rintro i c st' _ hi ⟨o, x, y, g, rfl, ⟨g0, rfl⟩, hM, hx, hy, hxa, hyb, hxy⟩
    dsimp only
    refine wpS_bind (wpS_mono (wpS_forRange (I := fun j c st' => ∃ o' x' y' ca cb, c = (none, x', y', o', ca, cb) ∧ st' = setG st g0 ∧ Mh lt kf a b o' x' y' ∧ 1 ≤ x' ∧ 2 ≤ y' ∧ x' ≤ a.size ∧ y' ≤ b.size ∧ x' + y' + j ≤ x + y)
      (Q := fun c st' => st' = setG st g0 ∧ ((∃ r d, c = (some r, d) ∧ Rs lt kf a b r) ∨ ∃ o' x' y' ca cb, c = (none, x', y', o', ca, cb) ∧ Mh lt kf a b o' x' y' ∧ 1 ≤ x' ∧ 2 ≤ y' ∧ x' ≤ a.size ∧ y' ≤ b.size ∧ x' + y' + 1 ≤ x + y)) ?_ ?_ ?_) ?_)
    · rintro j c st' _ hj ⟨o', x', y', ca, cb, rfl, rfl, hM', hx', hy', hxa', hyb', hxy'⟩
      obtain ⟨u, u1, u2, u3⟩ := at_some (a := a) (i := x' - 1) (by omega)
      obtain ⟨v, v1, v2, v3⟩ := at_some (a := b) (i := y' - 1) (by omega)
      dsimp only
      refine wpS_bind (wpS_elem v1 (wpS_bind (wpS_elem u1 (wpS_bind (hc v u _ _ (hb v v3) (ha u u3) hk ?_)))))
      cases e : lt (kf v) (kf u) with
      | true =>
        dsimp only
        rw [if_pos rfl]
        refine wpS_bind (wpS_elem u1 ?_)
        have hN := Mh.a O (x := x' - 1) (by rw [show x' - 1 + 1 = x' by omega]; exact hM') sa u2 fun z hz => le_trans O (sb.take O v2 (by rw [show y' - 1 + 1 = y' by omega]; exact hz)) (le_of O e)
        by_cases ey : (x' - 1 == 0) = true
        · rw [if_pos ey]
          exact wpS_pure ⟨rfl, .inl ⟨_, _, rfl, hN.done sa sb (.inl (beq_iff_eq.mp ey))⟩⟩
        · rw [if_neg ey]
          have ey' : ¬ x' - 1 = 0 := fun z => ey (beq_iff_eq.mpr z)
          by_cases eg : ca + 1 ≥ g
          · rw [if_pos eg]
            exact wpS_pure ⟨rfl, .inr ⟨_, _, _, _, _, rfl, hN, by omega, hy', by omega, hyb', by omega⟩⟩
          · rw [if_neg eg]
            exact wpS_pure ⟨_, _, _, _, _, rfl, rfl, hN, by omega, hy', by omega, hyb', by omega⟩
      | false =>
        dsimp only
        rw [if_neg (by simp)]
        refine wpS_bind (wpS_elem v1 ?_)
        have hN := Mh.b O (y := y' - 1) (by rw [show y' - 1 + 1 = y' by omega]; exact hM') sb v2 fun z hz => le_trans O (sa.take O u2 (by rw [show x' - 1 + 1 = x' by omega]; exact hz)) (show le lt kf u v from e)
        by_cases ex : (y' - 1 == 1) = true
        · rw [if_pos ex]
          exact wpS_pure ⟨rfl, .inl ⟨_, _, rfl, first hN (beq_iff_eq.mp ex)⟩⟩
        · rw [if_neg ex]
          have ex' : ¬ y' - 1 = 1 := fun z => ex (beq_iff_eq.mpr z)
          by_cases eg : cb + 1 ≥ g
          · rw [if_pos eg]
            exact wpS_pure ⟨rfl, .inr ⟨_, _, _, _, _, rfl, hN, hx', by omega, hxa', by omega, by omega⟩⟩
          · rw [if_neg eg]
            exact wpS_pure ⟨_, _, _, _, _, rfl, rfl, hN, hx', by omega, hxa', by omega, by omega⟩
    · rintro c st' ⟨o', x', y', ca, cb, rfl, rfl, hM', hx', hy', hxa', hyb', hxy'⟩
      omega
    · exact ⟨_, _, _, _, _, rfl, rfl, hM, hx, hy, hxa, hyb, by omega⟩
    · rintro c st' ⟨rfl, ⟨r, d, rfl, hr⟩ | ⟨o', x', y', ca, cb, rfl, hM', hx', hy', hxa', hyb', hxy'⟩⟩
      · dsimp only
        exact wpS_pure ⟨r, _, g0, rfl, rfl, hr⟩
      · dsimp only
        refine wpS_bind (wpS_rule ?_)
        refine wpS_bind (wpS_mono (wpS_forRange (I := fun j c st' => ∃ o' x' y' g1 ca cb, c = (none, x', y', o', g1, ca, cb) ∧ (∃ g', st' = setG st g') ∧ Mh lt kf a b o' x' y' ∧ 1 ≤ x' ∧ 2 ≤ y' ∧ x' ≤ a.size ∧ y' ≤ b.size ∧ x' + y' + 1 ≤ x + y)
          (Q := fun c st' => (∃ g', st' = setG st g') ∧ ((∃ r d, c = (some r, d) ∧ Rs lt kf a b r) ∨ ∃ o' x' y' g1 ca cb, c = (none, x', y', o', g1, ca, cb) ∧ Mh lt kf a b o' x' y' ∧ 1 ≤ x' ∧ 2 ≤ y' ∧ x' ≤ a.size ∧ y' ≤ b.size ∧ x' + y' + 1 ≤ x + y)) ?_ ?_ ?_) ?_)
        · rintro j c st' _ hj ⟨o', x', y', g1, ca, cb, rfl, ⟨g', rfl⟩, hM', hx', hy', hxa', hyb', hxy'⟩
          obtain ⟨v, v1, v2, v3⟩ := at_some (a := b) (i := y' - 1) (by omega)
          dsimp only
          by_cases hg : g1 > 1
          case' pos => rw [if_pos hg]
          case' neg => rw [if_neg hg]
          all_goals
            refine wpS_bind ?_
            rw [sgP_eq]
            refine wpS_modify ?_
            refine wpS_bind (wpS_elem v1 (wpS_bind (wpS_galR O hc hk (hb v v3) ha (by omega) (by omega) (sd_from0 O sa x') fun p hpn k1 k2 => ?_)))
            dsimp only
            have hN : Mh lt kf a b (o' ++ (a.extract p x').reverse) p y' := hM'.as O sa hpn hxa' fun i e i1 i2 he z hz => le_trans O (sb.take O v2 (by rw [show y' - 1 + 1 = y' by omega]; exact hz)) (le_of O (k2 i e i1 i2 (by rw [Nat.zero_add]; exact he)))
            have hv : ∀ z ∈ a.toList.take p, le lt kf z v := fun z hz => by
              obtain ⟨i, i1, i3⟩ := mem_take_ix hz
              exact k1 i z i1 i3
            by_cases hk0 : x' - p > 0
            case' pos =>
              rw [if_pos hk0]
              by_cases ex : (p == 0) = true
              case' pos =>
                rw [if_pos ex]
                refine wpS_pure ⟨⟨_, rfl⟩, .inl ⟨_, _, rfl, hN.done sa sb (.inl (beq_iff_eq.mp ex))⟩⟩
              case' neg =>
                rw [if_neg ex]
                have hxx : 1 ≤ p := by
                  have n1 : ¬ p = 0 := fun z => ex (beq_iff_eq.mpr z)
                  omega
                have hxs : p ≤ a.size := by omega
                have hxt : p ≤ x' := hpn
            case' neg =>
              rw [if_neg hk0]
              have hp0 : p = x' := by omega
              rw [hp0] at hv
              have hN := hM'
              have hxx : 1 ≤ x' := hx'
              have hxs : x' ≤ a.size := hxa'
              have hxt : x' ≤ x' := Nat.le_refl _
            all_goals
              refine wpS_bind (wpS_elem v1 ?_)
              have hP := Mh.b O (y := y' - 1) (by rw [show y' - 1 + 1 = y' by omega]; exact hN) sb v2 hv
              by_cases ey : (y' - 1 == 1) = true
              · rw [if_pos ey]
                exact wpS_pure ⟨⟨_, rfl⟩, .inl ⟨_, _, rfl, first hP (beq_iff_eq.mp ey)⟩⟩
              rw [if_neg ey]
              have ey' : ¬ y' - 1 = 1 := fun z => ey (beq_iff_eq.mpr z)
              obtain ⟨u, u1, u2, u3⟩ := at_some (Nat.lt_of_lt_of_le (Nat.sub_lt hxx Nat.one_pos) hxs)
              refine wpS_bind (wpS_elem u1 (wpS_bind (wpS_galL O hc hk (ha u u3) hb (by omega) (by omega) (sd_from0 O sb (y' - 1)) fun m hmn m1 m2 => ?_)))
              dsimp only
              have hR := hP.bs O sb hmn (by omega) fun i e i1 i2 he z hz => le_trans O (sa.take O u2 (by rw [Nat.sub_add_cancel hxx]; exact hz)) (m2 i e i1 i2 (by rw [Nat.zero_add]; exact he))
              have hu : ∀ z ∈ b.toList.take m, le lt kf z u := fun z hz => by
                obtain ⟨i, i1, i3⟩ := mem_take_ix hz
                exact le_of O (m1 i z i1 i3)
              by_cases hm0 : y' - 1 - m > 0
              case' pos =>
                rw [if_pos hm0]
                by_cases ey2 : (m == 1) = true
                case' pos =>
                  rw [if_pos ey2]
                  refine wpS_pure ⟨⟨_, rfl⟩, .inl ⟨_, _, rfl, first hR (beq_iff_eq.mp ey2)⟩⟩
                case' neg =>
                  rw [if_neg ey2]
                  by_cases ey3 : (m == 0) = true
                  case' pos =>
                    rw [if_pos ey3]
                    refine wpS_pure ⟨⟨_, rfl⟩, .inl ⟨_, _, rfl, hR.done sa sb (.inr (beq_iff_eq.mp ey3))⟩⟩
                  case' neg =>
                    rw [if_neg ey3]
                    have hyy : 2 ≤ m := by
                      have n1 : ¬ m = 1 := fun z => ey2 (beq_iff_eq.mpr z)
                      have n2 : ¬ m = 0 := fun z => ey3 (beq_iff_eq.mpr z)
                      omega
                    have hyt : m ≤ y' - 1 := hmn
              case' neg =>
                rw [if_neg hm0]
                have hm0' : m = y' - 1 := by omega
                rw [hm0'] at hu
                have hR := hP
                have hyy : 2 ≤ y' - 1 := by omega
                have hyt : y' - 1 ≤ y' - 1 := Nat.le_refl _
              all_goals
                refine wpS_bind (wpS_elem u1 ?_)
                have hT := Mh.a O (by rw [Nat.sub_add_cancel hxx]; exact hR) sa u2 hu
                split
                · rename_i ex3
                  exact wpS_pure ⟨⟨_, rfl⟩, .inl ⟨_, _, rfl, hT.done sa sb (.inl (beq_iff_eq.mp ex3))⟩⟩
                · rename_i ex3
                  have n3 : ¬ (_ = _) := fun z => ex3 (beq_iff_eq.mpr z)
                  split
                  · exact wpS_pure ⟨⟨_, rfl⟩, .inr ⟨_, _, _, _, _, _, rfl, hT, by omega, hyy, by omega, by omega, by omega⟩⟩
                  · exact wpS_pure ⟨_, _, _, _, _, _, rfl, ⟨_, rfl⟩, hT, by omega, hyy, by omega, by omega, by omega⟩
        · rintro c st' ⟨o', x', y', g1, ca, cb, rfl, hst, hr⟩
          exact ⟨hst, .inr ⟨_, _, _, _, _, _, rfl, hr⟩⟩
        · exact ⟨_, _, _, _, _, _, rfl, ⟨g0, rfl⟩, hM', hx', hy', hxa', hyb', hxy'⟩
        · rintro c st' ⟨⟨g', rfl⟩, ⟨r, d, rfl, hr⟩ | ⟨o', x', y', g1, ca, cb, rfl, hM', hx', hy', hxa', hyb', hxy'⟩⟩
          · dsimp only
            exact wpS_pure ⟨r, _, g', rfl, rfl, hr⟩
          · dsimp only
            refine wpS_bind ?_
            rw [sgP_eq]
            refine wpS_modify (wpS_pure ⟨_, _, _, _, rfl, ⟨_, rfl⟩, hM', hx', hy', hxa', hyb', by omega⟩)
end
end Ts

set_option Elab.async false
set_option linter.all false
set_option maxRecDepth 100000
set_option maxHeartbeats 4000000
namespace Ts
open PySem PySem.W PyProof.Rows
/-- r is written from off on -/
def wr (xs : Array Keyed) (off : Nat) (r : Array Keyed) : Array Keyed := r.toList.zipIdx.foldl (fun a p => a.setIfInBounds (off + p.2) p.1) xs
theorem matP_eq (i : Nat) : mergeAt' i = (do
    let st ← get
    let (some (x, n, pw), some (y, m, _)) := ((pendingOf st)[i]?, (pendingOf st)[i + 1]?)
      | unsupported "internal:list.sort.pending"
    set (setPending st (((pendingOf st).setIfInBounds i (x, n + m, pw)).eraseIdxIfInBounds (i + 1)))
    let some k ← gallopP false (← elem' (arrOf st) y) (arrOf st) x n 0
      | return false
    let (x, n) := (x + k, n - k)
    if n == 0 then
      return true
    let some m ← gallopP true (← elem' (arrOf st) (x + n - 1)) (arrOf st) y m (m - 1)
      | return false
    if m == 0 then
      return true
    let u := (arrOf st).extract x y
    let v := (arrOf st).extract y (y + m)
    let z ← if n ≤ m then mloP u v else mhiP u v
    modify fun st => setArr st (wr (arrOf st) x z)
    return (failedOf (← get)).isNone) := rfl
theorem wr_list : ∀ (r : List Keyed) (xs : Array Keyed) (off j : Nat), off + j + r.length ≤ xs.size → ((r.zipIdx j).foldl (fun a p => a.setIfInBounds (off + p.2) p.1) xs).toList = xs.toList.take (off + j) ++ r ++ xs.toList.drop (off + j + r.length)
  | [], xs, off, j, h => by
    show xs.toList = xs.toList.take (off + j) ++ [] ++ xs.toList.drop (off + j + 0)
    rw [List.append_nil, Nat.add_zero, List.take_append_drop]
  | e :: r, xs, off, j, h => by
    rw [List.length_cons] at h
    rw [List.zipIdx_cons, List.foldl_cons]
    have ih := wr_list r (xs.setIfInBounds (off + j) e) off (j + 1) (by rw [Array.size_setIfInBounds]; omega)
    rw [ih, Array.toList_setIfInBounds]
    have hl : off + j < xs.toList.length := by rw [Array.length_toList]; omega
    rw [show off + (j + 1) = off + j + 1 by omega, List.take_set, List.drop_set_of_lt (by omega), List.take_add_one, List.getElem?_eq_getElem hl, List.length_cons]
    rw [show off + j + 1 + r.length = off + j + (r.length + 1) by omega]
    congr 1
    rw [List.set_append_right _ _ (by rw [List.length_take]; omega), show off + j - (xs.toList.take (off + j)).length = 0 by rw [List.length_take]; omega]
    simp
theorem wr_toList {xs r : Array Keyed} {off : Nat} (h : off + r.size ≤ xs.size) : (wr xs off r).toList = xs.toList.take off ++ r.toList ++ xs.toList.drop (off + r.size) := by
  unfold wr
  have := wr_list r.toList xs off 0 (by rw [Array.length_toList]; omega)
  rw [Nat.add_zero, Array.length_toList] at this
  exact this
section
variable {prog : Program} {w : World} {A : Around} {E : Value → Shared → Prop} {s : Shared} {κt : Type} {lt : κt → κt → Bool} {kf : Keyed → κt} {κ0 : SortKind} {it : Array Keyed}
/-- the runs that stand, and their places -/
def Pend (lt : κt → κt → Bool) (kf : Keyed → κt) : Nat → List (List Keyed) → List (Nat × Nat × Nat) → Prop
  | _, [], [] => True
  | off, L :: Ls, p :: ps => p.1 = off ∧ p.2.1 = L.length ∧ 1 ≤ L.length ∧ Sd lt kf L ∧ Pend lt kf (off + L.length) Ls ps
  | _, _, _ => False
theorem Pend.len {off : Nat} : ∀ {Ls : List (List Keyed)} {ps : List (Nat × Nat × Nat)} {off : Nat}, Pend lt kf off Ls ps → Ls.length = ps.length
  | [], [], _, _ => rfl
  | L :: Ls, p :: ps, _, h => by rw [List.length_cons, List.length_cons, Pend.len (off := 0) h.2.2.2.2]
  | [], _ :: _, _, h => h.elim
  | _ :: _, [], _, h => h.elim
/-- two neighbours at place i, and what comes of them -/
theorem Pend.pair : ∀ {i : Nat} {Ls : List (List Keyed)} {ps : List (Nat × Nat × Nat)} {off : Nat}, Pend lt kf off Ls ps → i + 1 < Ls.length → ∃ (X Y : List (List Keyed)) (L M : List Keyed) (p q : Nat × Nat × Nat), Ls = X ++ L :: M :: Y ∧ X.length = i ∧ ps[i]? = some p ∧ ps[i + 1]? = some q ∧
    p.1 = off + X.flatten.length ∧ p.2.1 = L.length ∧ q.1 = off + X.flatten.length + L.length ∧ q.2.1 = M.length ∧ 1 ≤ L.length ∧ 1 ≤ M.length ∧ Sd lt kf L ∧ Sd lt kf M ∧
    ∀ (N : List Keyed) (pw : Nat), N.length = L.length + M.length → Sd lt kf N → Pend lt kf off (X ++ N :: Y) ((ps.set i (p.1, p.2.1 + q.2.1, pw)).eraseIdx (i + 1))
  | 0, L :: M :: Ls, p :: q :: ps, off, h, hi => by
    obtain ⟨p1, p2, p3, p4, q1, q2, q3, q4, r⟩ := h
    refine ⟨[], Ls, L, M, p, q, rfl, rfl, rfl, rfl, ?_, p2, ?_, q2, p3, q3, p4, q4, fun N pw hN sN => ?_⟩
    · simpa using p1
    · simpa using q1
    · show Pend lt kf off (N :: Ls) (((p.1, p.2.1 + q.2.1, pw) :: q :: ps).eraseIdx 1)
      refine ⟨p1, ?_, by omega, sN, ?_⟩
      · show p.2.1 + q.2.1 = _; omega
      · rw [hN]
        show Pend lt kf (off + (L.length + M.length)) Ls ps
        rw [← Nat.add_assoc]; exact r
  | i + 1, L :: Ls, p :: ps, off, h, hi => by
    obtain ⟨p1, p2, p3, p4, r⟩ := h
    obtain ⟨X, Y, L', M, p', q', e, hX, h1, h2, h3, h4, h5, h6, h7, h8, h9, h10, h11⟩ := Pend.pair (i := i) r (by rw [List.length_cons] at hi; omega)
    refine ⟨L :: X, Y, L', M, p', q', by rw [e]; rfl, by rw [List.length_cons, hX], h1, h2, ?_, h4, ?_, h6, h7, h8, h9, h10, fun N pw hN sN => ?_⟩
    · rw [h3, List.flatten_cons, List.length_append]; omega
    · rw [h5, List.flatten_cons, List.length_append]; omega
    · exact ⟨p1, p2, p3, p4, h11 N pw hN sN⟩
  | _, [], _, _, _, hi => by simp at hi
  | 0, [L], _, _, _, hi => by simp at hi
  | _, _ :: _, [], _, h, _ => h.elim
  | 0, _ :: _ :: _, [_], _, h, _ => h.2.2.2.2.elim
/-- the state between -/
structure Ok (lt : κt → κt → Bool) (kf : Keyed → κt) (κ0 : SortKind) (st : SortSt) (Ls : List (List Keyed)) (rest : List Keyed) : Prop where
  kind : kindOf st = κ0
  fail : failedOf st = none
  arr : (arrOf st).toList = Ls.flatten ++ rest
  pend : Pend lt kf 0 Ls (pendingOf st).toList
theorem seg {l P T R : List Keyed} (e : l = P ++ T ++ R) {i : Nat} (hi : i < T.length) : l[P.length + i]? = T[i]? := by
  rw [e, List.append_assoc, List.getElem?_append_right (by omega), Nat.add_sub_cancel_left, List.getElem?_append_left hi]
theorem wpS_set {st st' : SortSt} {Q : PUnit → SortSt → Prop} (h : Q ⟨⟩ st') : wpS (model prog w) A E s (set st' : StateT SortSt Sem PUnit) Q st := by
  unfold wpS; rw [StateT.run_set]; exact wpAny_pure ⟨rfl, h⟩
theorem ext_seg {xs : Array Keyed} {P T R : List Keyed} (e : xs.toList = P ++ T ++ R) (a b : Nat) (hb : b ≤ T.length) : (xs.extract (P.length + a) (P.length + b)).toList = (T.drop a).take (b - a) := by
  rw [Array.toList_extract, List.extract_eq_take_drop, e, show P.length + b - (P.length + a) = b - a by omega, List.append_assoc, List.drop_append, List.drop_eq_nil_of_le (by omega), List.nil_append, Nat.add_sub_cancel_left]
  by_cases h : a ≤ T.length
  · rw [List.drop_append_of_le_length h, List.take_append_of_le_length (by rw [List.length_drop]; omega)]
  · rw [show b - a = 0 by omega, List.take_zero, List.take_zero]
theorem wpS_mat (O : Srt.Ord lt) (hc : Cmp prog w A E s lt kf κ0 it) {i : Nat} {Q : Bool → SortSt → Prop} {st : SortSt} {Ls : List (List Keyed)} {rest : List Keyed} (h : Ok lt kf κ0 st Ls rest) (hi : i + 1 < Ls.length) (hm : ∀ u ∈ (arrOf st).toList, u ∈ it.toList)
    (q : ∀ st' Ls', Ok lt kf κ0 st' Ls' rest → Ls'.length + 1 = Ls.length → Ls'.flatten.Perm Ls.flatten → Q true st') : wpS (model prog w) A E s (mergeAt' i) Q st := by
  obtain ⟨X, Y, L, M, p, r, e, hX, h1, h2, h3, h4, h5, h6, h7, h8, sL, sM, hP⟩ := h.pend.pair hi
  rw [Nat.zero_add] at h3 h5
  obtain ⟨px, pn, pw⟩ := p
  obtain ⟨rx, rn, rw'⟩ := r
  dsimp only at h3 h4 h5 h6 hP
  subst h3 h4 h5 h6
  have harr : (arrOf st).toList = X.flatten ++ (L ++ M) ++ (Y.flatten ++ rest) := by
    rw [h.arr, e]; simp [List.append_assoc]
  have hsz : (arrOf st).size = X.flatten.length + (L.length + M.length) + (Y.flatten ++ rest).length := by
    rw [← Array.length_toList, harr, List.length_append, List.length_append, List.length_append]
  have hL : ∀ j, j < L.length → (arrOf st).toList[X.flatten.length + j]? = L[j]? := fun j hj => by
    rw [seg harr (by rw [List.length_append]; omega), List.getElem?_append_left hj]
  have hM : ∀ j, j < M.length → (arrOf st).toList[X.flatten.length + L.length + j]? = M[j]? := fun j hj => by
    rw [Nat.add_assoc, seg harr (by rw [List.length_append]; omega), List.getElem?_append_right (by omega), Nat.add_sub_cancel_left]
  have fin : ∀ (N : List Keyed) (st' : SortSt), kindOf st' = κ0 → failedOf st' = none → (arrOf st').toList = X.flatten ++ N ++ (Y.flatten ++ rest) → N.Perm (L ++ M) → Sd lt kf N →
      (pendingOf st') = ((pendingOf st).setIfInBounds i (X.flatten.length, L.length + M.length, pw)).eraseIdxIfInBounds (i + 1) → Q true st' := fun N st' k1 k2 k3 k4 k5 k6 => by
    refine q st' (X ++ N :: Y) ⟨k1, k2, by rw [k3]; simp [List.append_assoc], ?_⟩ ?_ ?_
    · have hN : N.length = L.length + M.length := by rw [k4.length_eq, List.length_append]
      have := hP N pw hN k5
      rw [k6]
      have el : i + 1 < ((pendingOf st).setIfInBounds i (X.flatten.length, L.length + M.length, pw)).size := by
        rw [Array.size_setIfInBounds, ← Array.length_toList, ← h.pend.len (off := 0)]; exact hi
      rw [Array.eraseIdxIfInBounds, dif_pos el, Array.toList_eraseIdx, Array.toList_setIfInBounds]
      exact this
    · rw [e, List.length_append, List.length_append, List.length_cons, List.length_cons, List.length_cons]; omega
    · rw [e]
      simp only [List.flatten_append, List.flatten_cons]
      rw [← List.append_assoc L]
      exact (k4.append_right _).append_left _
  have toA : ∀ {j : Nat} {u : Keyed}, (arrOf st).toList[j]? = some u → (arrOf st)[j]? = some u ∧ u ∈ it.toList := fun {j u} hu => ⟨by rw [← Array.getElem?_toList]; exact hu, hm u (List.mem_of_getElem? hu)⟩
  obtain ⟨b0, hb0⟩ : ∃ b0, M[0]? = some b0 := ⟨M[0], List.getElem?_eq_getElem (by omega)⟩
  obtain ⟨al, hal⟩ : ∃ al, L[L.length - 1]? = some al := ⟨L[L.length - 1], List.getElem?_eq_getElem (by omega)⟩
  have hb0' := toA (j := X.flatten.length + L.length) (u := b0) (by have := hM 0 (by omega); rw [Nat.add_zero] at this; rw [this]; exact hb0)
  have hal' := toA (j := X.flatten.length + (L.length - 1)) (u := al) (by rw [hL _ (by omega)]; exact hal)
  rw [matP_eq]
  refine wpS_bind (wpS_get ?_)
  rw [show (pendingOf st)[i]? = some (X.flatten.length, L.length, pw) by rw [← Array.getElem?_toList]; exact h1, show (pendingOf st)[i + 1]? = some (X.flatten.length + L.length, M.length, rw') by rw [← Array.getElem?_toList]; exact h2]
  dsimp only
  refine wpS_bind (wpS_set ?_)
  have sorL : ∀ i j u v, i ≤ j → j < L.length → (arrOf st).toList[X.flatten.length + i]? = some u → (arrOf st).toList[X.flatten.length + j]? = some v → le lt kf u v := fun i j u v hij hj hu hv => by
    rw [hL i (by omega)] at hu
    rw [hL j hj] at hv
    exact sL.at O hij hu hv
  have sorM : ∀ i j u v, i ≤ j → j < M.length → (arrOf st).toList[X.flatten.length + L.length + i]? = some u → (arrOf st).toList[X.flatten.length + L.length + j]? = some v → le lt kf u v := fun i j u v hij hj hu hv => by
    rw [hM i (by omega)] at hu
    rw [hM j hj] at hv
    exact sM.at O hij hu hv
  have toal : ∀ u ∈ L, le lt kf u al := fun u hu => by
    obtain ⟨j, hj⟩ := List.mem_iff_getElem?.mp hu
    have := (List.getElem?_eq_some_iff.mp hj).1
    exact sL.at O (by omega) hj hal
  have fromb : ∀ u ∈ M, le lt kf b0 u := fun u hu => by
    obtain ⟨j, hj⟩ := List.mem_iff_getElem?.mp hu
    exact sM.at O (Nat.zero_le _) hb0 hj
  have both : (∀ u ∈ L, ∀ v ∈ M, le lt kf u v) → Sd lt kf (L ++ M) := fun hz => List.pairwise_append.mpr ⟨sL, sM, hz⟩
  refine wpS_bind (wpS_elem hb0'.1 (wpS_bind (wpS_galR O hc (x := X.flatten.length) (n := L.length) h.kind hb0'.2 hm (by omega) (by omega) sorL fun k hkn k1 k2 => ?_)))
  have k1' : ∀ u ∈ L.take k, le lt kf u b0 := fun u hu => by
    obtain ⟨j, hj, hu'⟩ := mem_take_ix hu
    rw [Nat.zero_add] at hu'
    exact k1 j u hj (by rw [hL j (by omega)]; exact hu')
  have k2' : ∀ u ∈ L.drop k, le lt kf b0 u := fun u hu => by
    obtain ⟨j, j1, j2, j3⟩ := mem_drop_ix (l := L) (x := 0) (k := k) (n := L.length) (by omega) (by rw [Nat.zero_add]; exact hu)
    rw [Nat.zero_add] at j3
    exact le_of O (k2 j u j1 j2 (by rw [hL j j2]; exact j3))
  dsimp only
  by_cases n0 : (L.length - k == 0) = true
  · rw [if_pos n0]
    have n0' : L.length - k = 0 := beq_iff_eq.mp n0
    rw [List.take_of_length_le (by omega)] at k1'
    exact wpS_pure (fin (L ++ M) _ h.kind h.fail harr (List.Perm.refl _) (both fun u hu v hv => le_trans O (k1' u hu) (fromb v hv)) rfl)
  rw [if_neg n0]
  have n0' : ¬ L.length - k = 0 := fun z => n0 (beq_iff_eq.mpr z)
  rw [show X.flatten.length + k + (L.length - k) - 1 = X.flatten.length + (L.length - 1) by omega]
  refine wpS_bind (wpS_elem hal'.1 (wpS_bind (wpS_galL O hc (x := X.flatten.length + L.length) (n := M.length) h.kind hal'.2 hm (by omega) (by omega) sorM fun m hmn m1 m2 => ?_)))
  have m1' : ∀ u ∈ M.take m, le lt kf u al := fun u hu => by
    obtain ⟨j, hj, hu'⟩ := mem_take_ix hu
    rw [Nat.zero_add] at hu'
    exact le_of O (m1 j u hj (by rw [hM j (by omega)]; exact hu'))
  have m2' : ∀ u ∈ M.drop m, le lt kf al u := fun u hu => by
    obtain ⟨j, j1, j2, j3⟩ := mem_drop_ix (l := M) (x := 0) (k := m) (n := M.length) (by omega) (by rw [Nat.zero_add]; exact hu)
    rw [Nat.zero_add] at j3
    exact m2 j u j1 j2 (by rw [hM j j2]; exact j3)
  dsimp only
  by_cases e0 : (m == 0) = true
  · rw [if_pos e0]
    have e0' : m = 0 := beq_iff_eq.mp e0
    rw [e0', List.drop_zero] at m2'
    exact wpS_pure (fin (L ++ M) _ h.kind h.fail harr (List.Perm.refl _) (both fun u hu v hv => le_trans O (toal u hu) (m2' v hv)) rfl)
  rw [if_neg e0]
  have e0' : ¬ m = 0 := fun z => e0 (beq_iff_eq.mpr z)
  have eU : ((arrOf st).extract (X.flatten.length + k) (X.flatten.length + L.length)).toList = L.drop k := by
    rw [ext_seg harr k L.length (by rw [List.length_append]; omega), List.drop_append_of_le_length hkn, List.take_append_of_le_length (by rw [List.length_drop]; omega), List.take_of_length_le (by rw [List.length_drop]; omega)]
  have eV : ((arrOf st).extract (X.flatten.length + L.length) (X.flatten.length + L.length + m)).toList = M.take m := by
    rw [Nat.add_assoc X.flatten.length L.length m, ext_seg harr L.length (L.length + m) (by rw [List.length_append]; omega), List.drop_left, Nat.add_sub_cancel_left]
  have sU : ((arrOf st).extract (X.flatten.length + k) (X.flatten.length + L.length)).size = L.length - k := by rw [← Array.length_toList, eU, List.length_drop]
  have sV : ((arrOf st).extract (X.flatten.length + L.length) (X.flatten.length + L.length + m)).size = m := by rw [← Array.length_toList, eV, List.length_take]; omega
  generalize (arrOf st).extract (X.flatten.length + k) (X.flatten.length + L.length) = U at eU sU ⊢
  generalize (arrOf st).extract (X.flatten.length + L.length) (X.flatten.length + L.length + m) = W at eV sV ⊢
  have inL : ∀ u ∈ L, u ∈ it.toList := fun u hu => hm u (by rw [harr]; exact List.mem_append_left _ (List.mem_append_right _ (List.mem_append_left _ hu)))
  have inM : ∀ u ∈ M, u ∈ it.toList := fun u hu => hm u (by rw [harr]; exact List.mem_append_left _ (List.mem_append_right _ (List.mem_append_right _ hu)))
  have pre : (∀ u ∈ U.toList, u ∈ it.toList) ∧ (∀ u ∈ W.toList, u ∈ it.toList) ∧ Sd lt kf U.toList ∧ Sd lt kf W.toList ∧ 1 ≤ U.size ∧ 1 ≤ W.size ∧ (∀ e, W.toList[0]? = some e → ∀ v ∈ U.toList, le lt kf e v) ∧ (∀ v ∈ W.toList, ∀ e, U.toList[U.size - 1]? = some e → le lt kf v e) := by
    rw [eU, eV, sU, sV]
    refine ⟨fun u hu => inL u (List.mem_of_mem_drop hu), fun u hu => inM u (List.mem_of_mem_take hu), List.Pairwise.drop sL, List.Pairwise.take sM, by omega, by omega, fun e he v hv => ?_, fun v hv e he => ?_⟩
    · rw [List.getElem?_take_of_lt (by omega), hb0] at he
      cases he
      exact k2' v hv
    · rw [List.getElem?_drop, show k + (L.length - k - 1) = L.length - 1 by omega, hal] at he
      cases he
      exact m1' v hv
  obtain ⟨c1, c2, c3, c4, c5, c6, c7, c8⟩ := pre
  have post : ∀ (r : Array Keyed) (g : Nat) (st1 : SortSt), kindOf st1 = κ0 → failedOf st1 = none → arrOf st1 = arrOf st → pendingOf st1 = ((pendingOf st).setIfInBounds i (X.flatten.length, L.length + M.length, pw)).eraseIdxIfInBounds (i + 1) → Rs lt kf U W r → Q true (setArr (setG st1 g) (wr (arrOf (setG st1 g)) (X.flatten.length + k) r)) := fun r g st1 a1 a2 a3 a4 hr => by
    obtain ⟨hr1, hr2⟩ := hr
    rw [eU, eV] at hr1
    have hrs : r.size = L.length - k + m := by
      rw [← Array.length_toList, hr1.length_eq, List.length_append, List.length_drop, List.length_take]; omega
    refine fin (L.take k ++ r.toList ++ M.drop m) _ a1 a2 ?_ ?_ ?_ a4
    · show (wr (arrOf st1) (X.flatten.length + k) r).toList = _
      rw [a3, wr_toList (by rw [hrs]; omega), harr, hrs]
      have t1 : (X.flatten ++ (L ++ M) ++ (Y.flatten ++ rest)).take (X.flatten.length + k) = X.flatten ++ L.take k := by
        rw [List.append_assoc, List.take_length_add_append, List.append_assoc, List.take_append_of_le_length hkn]
      have t2 : (X.flatten ++ (L ++ M) ++ (Y.flatten ++ rest)).drop (X.flatten.length + k + (L.length - k + m)) = M.drop m ++ (Y.flatten ++ rest) := by
        rw [show X.flatten.length + k + (L.length - k + m) = X.flatten.length + (L.length + m) by omega, List.append_assoc, List.drop_length_add_append, List.append_assoc, List.drop_length_add_append, List.drop_append_of_le_length hmn]
      rw [t1, t2]
      simp only [List.append_assoc]
    · have w1 := List.take_append_drop k L
      have w2 := List.take_append_drop m M
      refine ((hr1.append_left (L.take k)).append_right (M.drop m)).trans ?_
      rw [← List.append_assoc, w1, List.append_assoc, w2]
    · have rin : ∀ u ∈ r.toList, u ∈ L.drop k ∨ u ∈ M.take m := fun u hu => List.mem_append.mp (hr1.mem_iff.mp hu)
      refine List.pairwise_append.mpr ⟨List.pairwise_append.mpr ⟨List.Pairwise.take sL, hr2, fun u hu v hv => ?_⟩, List.Pairwise.drop sM, fun u hu v hv => ?_⟩
      · rcases rin v hv with z | z
        · exact le_trans O (k1' u hu) (k2' v z)
        · exact le_trans O (k1' u hu) (fromb v (List.mem_of_mem_take z))
      · rcases List.mem_append.mp hu with z | z
        · exact le_trans O (toal u (List.mem_of_mem_take z)) (m2' v hv)
        · rcases rin u z with z | z
          · exact le_trans O (toal u (List.mem_of_mem_drop z)) (m2' v hv)
          · exact le_trans O (m1' u z) (m2' v hv)
  have fin2 : ∀ (r : Array Keyed) (g : Nat), Rs lt kf U W r → Q (failedOf st).isNone (setArr (setG (setPending st (((pendingOf st).setIfInBounds i (X.flatten.length, L.length + M.length, pw)).eraseIdxIfInBounds (i + 1))) g) (wr (arrOf st) (X.flatten.length + k) r)) := fun r g hr => by
    have := post r g (setPending st (((pendingOf st).setIfInBounds i (X.flatten.length, L.length + M.length, pw)).eraseIdxIfInBounds (i + 1))) h.kind h.fail rfl rfl hr
    rw [h.fail]
    exact this
  split
  · exact wpS_bind (wpS_mlo O hc h.kind c1 c2 c3 c4 c5 c6 c7 c8 fun r g hr => wpS_bind (wpS_modify (wpS_bind (wpS_get (wpS_pure (fin2 r g hr))))))
  · exact wpS_bind (wpS_mhi O hc h.kind c1 c2 c3 c4 c5 c6 c7 c8 fun r g hr => wpS_bind (wpS_modify (wpS_bind (wpS_get (wpS_pure (fin2 r g hr))))))
end
end Ts

set_option Elab.async false
set_option linter.all false
set_option maxRecDepth 100000
set_option maxHeartbeats 4000000
namespace Ts
open PySem PySem.W PyProof.Rows
section
variable {κt : Type} {lt : κt → κt → Bool} {kf : Keyed → κt}
abbrev nil2 : Keyed := (Value.none, Value.none)
abbrev ky (kf : Keyed → κt) (xs : Array Keyed) (i : Nat) : κt := kf (xs.getD i nil2)
def Asc (lt : κt → κt → Bool) (kf : Keyed → κt) (xs : Array Keyed) (lo n : Nat) : Prop := ∀ i j, i ≤ j → j < n → lt (ky kf xs (lo + j)) (ky kf xs (lo + i)) = false
def Dsc (lt : κt → κt → Bool) (kf : Keyed → κt) (xs : Array Keyed) (lo n : Nat) : Prop := ∀ i j, i ≤ j → j < n → lt (ky kf xs (lo + i)) (ky kf xs (lo + j)) = false
def Alk (lt : κt → κt → Bool) (kf : Keyed → κt) (xs : Array Keyed) (lo a b : Nat) : Prop := ∀ i j, a ≤ i → i < b → a ≤ j → j < b → lt (ky kf xs (lo + i)) (ky kf xs (lo + j)) = false
/-- the same items, and those ahead of lo in their places -/
structure Pr (ys : Array Keyed) (lo : Nat) (xs : Array Keyed) : Prop where
  perm : xs.Perm ys
  pre : ∀ i, i < lo → xs[i]? = ys[i]?
theorem Pr.size {ys xs : Array Keyed} {lo : Nat} (h : Pr ys lo xs) : xs.size = ys.size := h.perm.size_eq
abbrev rv (xs : Array Keyed) (i j : Nat) : Array Keyed := mirror xs i j ((j - i) / 2)
theorem ky_congr {xs ys : Array Keyed} {i j : Nat} (h : xs[i]? = ys[j]?) : ky kf xs i = ky kf ys j := by
  unfold ky
  rw [Array.getD_eq_getD_getElem?, Array.getD_eq_getD_getElem?, h]
theorem ky_rv {xs : Array Keyed} {i j : Nat} (hj : j ≤ xs.size) (k : Nat) : ky kf (rv xs i j) k = if i ≤ k ∧ k < j then ky kf xs (i + j - 1 - k) else ky kf xs k := by
  have e := getElem?_mirror_all (xs := xs) (i := i) hj k
  by_cases h : i ≤ k ∧ k < j
  · rw [if_pos h] at e ⊢; exact ky_congr e
  · rw [if_neg h] at e ⊢; exact ky_congr e
theorem Pr.rv {ys xs : Array Keyed} {lo i j : Nat} (h : Pr ys lo xs) (hi : lo ≤ i) (hj : j ≤ xs.size) : Pr ys lo (rv xs i j) :=
  ⟨(mirror_perm _ _ _ _).trans h.perm, fun k hk => by
    rw [getElem?_mirror_all (xs := xs) (i := i) hj k, if_neg (by omega)]; exact h.pre k hk⟩
theorem Asc.succ (O : Srt.Ord lt) {xs : Array Keyed} {lo n : Nat} (h : Asc lt kf xs lo n) (h1 : 1 ≤ n) (e : lt (ky kf xs (lo + n)) (ky kf xs (lo + n - 1)) = false) : Asc lt kf xs lo (n + 1) := fun i j hij hj => by
  by_cases ej : j = n
  · subst ej
    by_cases e2 : i = j
    · subst e2; exact Srt.irr O _
    · have := h i (j - 1) (by omega) (by omega)
      rw [show lo + (j - 1) = lo + j - 1 by omega] at this
      exact O.trans _ _ _ this e
  · exact h i j hij (by omega)
theorem Dsc.succ (O : Srt.Ord lt) {xs : Array Keyed} {lo n : Nat} (h : Dsc lt kf xs lo n) (h1 : 1 ≤ n) (e : lt (ky kf xs (lo + n - 1)) (ky kf xs (lo + n)) = false) : Dsc lt kf xs lo (n + 1) := fun i j hij hj => by
  by_cases ej : j = n
  · subst ej
    by_cases e2 : i = j
    · subst e2; exact Srt.irr O _
    · have := h i (j - 1) (by omega) (by omega)
      rw [show lo + (j - 1) = lo + j - 1 by omega] at this
      exact O.trans _ _ _ e this
  · exact h i j hij (by omega)
theorem Dsc.rv {xs : Array Keyed} {lo a n : Nat} (h : Dsc lt kf xs lo n) (hn : lo + n ≤ xs.size) (al : Alk lt kf xs lo a n) (ha : a ≤ n) : Dsc lt kf (rv xs (lo + a) (lo + n)) lo n := fun i j hij hj => by
  rw [ky_rv hn, ky_rv hn]
  by_cases hi : lo + a ≤ lo + i ∧ lo + i < lo + n
  · rw [if_pos hi, if_pos (by omega), show lo + a + (lo + n) - 1 - (lo + i) = lo + (a + n - 1 - i) by omega, show lo + a + (lo + n) - 1 - (lo + j) = lo + (a + n - 1 - j) by omega]
    exact al _ _ (by omega) (by omega) (by omega) (by omega)
  · rw [if_neg hi]
    by_cases hj2 : lo + a ≤ lo + j ∧ lo + j < lo + n
    · rw [if_pos hj2, show lo + a + (lo + n) - 1 - (lo + j) = lo + (a + n - 1 - j) by omega]
      exact h _ _ (by omega) (by omega)
    · rw [if_neg hj2]; exact h i j hij hj
theorem Dsc.flip {xs : Array Keyed} {lo n : Nat} (h : Dsc lt kf xs lo n) (hn : lo + n ≤ xs.size) : Asc lt kf (Ts.rv xs lo (lo + n)) lo n := fun i j hij hj => by
  rw [ky_rv hn, ky_rv hn, if_pos (by omega), if_pos (by omega), show lo + (lo + n) - 1 - (lo + j) = lo + (n - 1 - j) by omega, show lo + (lo + n) - 1 - (lo + i) = lo + (n - 1 - i) by omega]
  exact h _ _ (by omega) (by omega)
end
section
variable {prog : Program} {w : World} {A : Around} {E : Value → Shared → Prop} {s : Shared} {κt : Type} {lt : κt → κt → Bool} {kf : Keyed → κt} {κ0 : SortKind} {it : Array Keyed}
theorem wpS_ask (hc : Cmp prog w A E s lt kf κ0 it) {st : SortSt} {xs : Array Keyed} {i j : Nat} {Q : Option Bool → SortSt → Prop} (hk : kindOf st = κ0) (hm : ∀ u ∈ xs.toList, u ∈ it.toList) (hi : i < xs.size) (hj : j < xs.size)
    (q : Q (some (lt (ky kf xs i) (ky kf xs j))) (setArr st xs)) : wpS (model prog w) A E s (ltAt' i j) Q (setArr st xs) := by
  obtain ⟨u, u1, u2, u3⟩ := at_some hi
  obtain ⟨v, v1, v2, v3⟩ := at_some hj
  have eu : xs.getD i nil2 = u := by rw [Array.getD_eq_getD_getElem?, u1]; rfl
  have ev : xs.getD j nil2 = v := by rw [Array.getD_eq_getD_getElem?, v1]; rfl
  unfold ky at q
  rw [eu, ev] at q
  rw [ltAt'_eq]
  refine wpS_bind (wpS_get ?_)
  exact wpS_bind (wpS_elem u1 (wpS_bind (wpS_elem v1 (hc u v _ Q (hm u u3) (hm v v3) hk q))))
theorem wpS_rv {st : SortSt} {xs : Array Keyed} {i j : Nat} {Q : Unit → SortSt → Prop} (q : Q () (setArr st (rv xs i j))) : wpS (model prog w) A E s (reverseSlice' i j) Q (setArr st xs) := by
  rw [reverseSlice'_eq]; exact wpS_modify q
theorem wpS_count (O : Srt.Ord lt) (hc : Cmp prog w A E s lt kf κ0 it) {st : SortSt} {ys : Array Keyed} {lo nr : Nat} {Q : Option Nat → SortSt → Prop} (hk : kindOf st = κ0) (hm : ∀ u ∈ ys.toList, u ∈ it.toList) (h1 : 1 ≤ nr) (hs : lo + nr ≤ ys.size)
    (q : ∀ n xs, 1 ≤ n → n ≤ nr → Pr ys lo xs → Asc lt kf xs lo n → Q (some n) (setArr st xs)) : wpS (model prog w) A E s (countRun' lo nr) Q (setArr st ys) := by
  have hm' : ∀ {xs : Array Keyed}, Pr ys lo xs → ∀ u ∈ xs.toList, u ∈ it.toList := fun {xs} h u hu => hm u ((Array.perm_iff_toList_perm.mp h.perm).mem_iff.mp hu)
  have p0 : Pr ys lo ys := ⟨Array.Perm.refl _, fun _ _ => rfl⟩
  rw [countRun'_eq]
  dsimp only
  refine wpS_bind (wpS_mono (wpS_forRange (I := fun x c st' => st' = setArr st ys ∧ c = (none, x) ∧ Asc lt kf ys lo x)
    (Q := fun c st' => st' = setArr st ys ∧ ∃ n, c = (none, n) ∧ 1 ≤ n ∧ n ≤ nr ∧ Asc lt kf ys lo n ∧ (n = nr ∨ lt (ky kf ys (lo + n)) (ky kf ys (lo + n - 1)) = true)) ?_ ?_ ?_) ?_)
  · rintro x c st' hx1 hx ⟨rfl, rfl, hA⟩
    dsimp only
    refine wpS_bind (wpS_ask hc hk hm (by omega) (by omega) ?_)
    cases e : lt (ky kf ys (lo + x)) (ky kf ys (lo + x - 1)) with
    | true => dsimp only; rw [if_pos rfl]; exact wpS_pure ⟨rfl, x, rfl, hx1, by omega, hA, .inr e⟩
    | false => dsimp only; rw [if_neg (by simp)]; exact wpS_pure ⟨rfl, rfl, hA.succ O hx1 e⟩
  · rintro c st' ⟨rfl, rfl, hA⟩
    exact ⟨rfl, _, rfl, by omega, by omega, hA, .inl (by omega)⟩
  · exact ⟨rfl, rfl, fun i j hij hj => by
      have : i = j := by omega
      subst this; exact Srt.irr O _⟩
  rintro c st' ⟨rfl, n, rfl, n1, n2, hA, hcase⟩
  dsimp only
  by_cases hn : (n == nr) = true
  · rw [if_pos hn]; exact wpS_pure (q n ys n1 n2 p0 hA)
  rw [if_neg hn]
  have hn' : ¬ n = nr := fun z => hn (beq_iff_eq.mpr z)
  have hlt : lt (ky kf ys (lo + n)) (ky kf ys (lo + n - 1)) = true := hcase.resolve_left hn'
  by_cases hn1 : n > 1
  case' pos =>
    rw [if_pos hn1]
    refine wpS_bind (wpS_ask hc hk hm (by omega) (by omega) ?_)
    cases er : lt (ky kf ys lo) (ky kf ys (lo + n - 1))
    case' true =>
      dsimp only
      rw [if_pos rfl]
      refine wpS_pure (q n ys n1 n2 p0 hA)
    case' false =>
      dsimp only
      rw [if_neg (by simp)]
      refine wpS_bind (wpS_rv ?_)
      have al : Alk lt kf ys lo 0 n := fun i j _ hi _ hj => by
        have h0 := hA 0 i (by omega) hi
        have h2 := hA j (n - 1) (by omega) (by omega)
        rw [Nat.add_zero] at h0
        rw [show lo + (n - 1) = lo + n - 1 by omega] at h2
        exact O.trans _ _ _ (O.trans _ _ _ h2 er) h0
      have pX : Pr ys lo (rv ys lo (lo + n)) := p0.rv (Nat.le_refl _) (by omega)
      have dX : Dsc lt kf (rv ys lo (lo + n)) lo n := by
        have := Dsc.rv (a := 0) (fun i j hij hj => al i j (by omega) (by omega) (by omega) hj) (by omega) al (by omega)
        rw [Nat.add_zero] at this; exact this
      have dX1 : Dsc lt kf (rv ys lo (lo + n)) lo (n + 1) := dX.succ O n1 (by
        rw [ky_rv (by omega), ky_rv (by omega), if_pos (by omega), if_neg (by omega), show lo + (lo + n) - 1 - (lo + n - 1) = lo by omega]
        exact O.trans _ _ _ (O.asym _ _ hlt) er)
  case' neg =>
    rw [if_neg hn1]
    have pX : Pr ys lo ys := p0
    have dX1 : Dsc lt kf ys lo (n + 1) := Dsc.succ O (fun i j hij hj => by
      have : i = j := by omega
      subst this; exact Srt.irr O _) n1 (O.asym _ _ hlt)
  all_goals
    refine wpS_bind (wpS_rule ?_)
    refine wpS_bind (wpS_mono (wpS_forRange (I := fun x c st' => ∃ xs p, st' = setArr st xs ∧ c = (none, x, p) ∧ Pr ys lo xs ∧ Dsc lt kf xs lo x ∧ p + 1 ≤ x ∧ Alk lt kf xs lo (x - (p + 1)) x)
      (Q := fun c st' => ∃ xs m p, st' = setArr st xs ∧ c = (none, m, p) ∧ 1 ≤ m ∧ m ≤ nr ∧ Pr ys lo xs ∧ Dsc lt kf xs lo m ∧ p + 1 ≤ m ∧ Alk lt kf xs lo (m - (p + 1)) m) ?_ ?_ ?_) ?_)
    · rintro x c st' hx1 hx ⟨xs, p, rfl, rfl, hP, hD, hp, al⟩
      have hz := hP.size
      dsimp only
      refine wpS_bind (wpS_ask hc hk (hm' hP) (by omega) (by omega) ?_)
      have one : ∀ zs : Array Keyed, Alk lt kf zs lo (x + 1 - (0 + 1)) (x + 1) := fun zs i j h1 h2 h3 h4 => by
        have : i = j := by omega
        subst this; exact Srt.irr O _
      cases e : lt (ky kf xs (lo + x)) (ky kf xs (lo + x - 1)) with
      | true =>
        dsimp only
        rw [if_pos rfl]
        by_cases hp0 : p > 0
        · rw [if_pos hp0]
          refine wpS_bind (wpS_rv (wpS_pure ?_))
          have e1 : lo + x - (p + 1) = lo + (x - (p + 1)) := by omega
          rw [e1]
          have hD' := hD.rv (a := x - (p + 1)) (by omega) al (by omega)
          refine ⟨_, 0, rfl, rfl, hP.rv (by omega) (by omega), hD'.succ O (by omega) ?_, by omega, one _⟩
          rw [ky_rv (by omega), ky_rv (by omega), if_pos (by omega), if_neg (by omega), show lo + (x - (p + 1)) + (lo + x) - 1 - (lo + x - 1) = lo + (x - (p + 1)) by omega]
          have h2 := al (x - (p + 1)) (x - 1) (by omega) (by omega) (by omega) (by omega)
          rw [show lo + (x - 1) = lo + x - 1 by omega] at h2
          exact O.trans _ _ _ (O.asym _ _ e) h2
        · rw [if_neg hp0]
          exact wpS_pure ⟨xs, 0, rfl, rfl, hP, hD.succ O (by omega) (O.asym _ _ e), by omega, one _⟩
      | false =>
        dsimp only
        rw [if_neg (by simp)]
        refine wpS_bind (wpS_ask hc hk (hm' hP) (by omega) (by omega) ?_)
        cases e2 : lt (ky kf xs (lo + x - 1)) (ky kf xs (lo + x)) with
        | true =>
          dsimp only
          rw [if_pos rfl]
          exact wpS_pure ⟨xs, x, p, rfl, rfl, by omega, by omega, hP, hD, hp, al⟩
        | false =>
          dsimp only
          rw [if_neg (by simp)]
          refine wpS_pure ⟨xs, p + 1, rfl, rfl, hP, hD.succ O (by omega) e2, by omega, fun i j i1 i2 j1 j2 => ?_⟩
          by_cases ei : i = x
          · subst ei
            by_cases ej : j = i
            · subst ej; exact Srt.irr O _
            · have h2 := al (i - 1) j (by omega) (by omega) (by omega) (by omega)
              rw [show lo + (i - 1) = lo + i - 1 by omega] at h2
              exact O.trans _ _ _ h2 e
          · by_cases ej : j = x
            · subst ej
              have h2 := al i (j - 1) (by omega) (by omega) (by omega) (by omega)
              rw [show lo + (j - 1) = lo + j - 1 by omega] at h2
              exact O.trans _ _ _ e2 h2
            · exact al i j (by omega) (by omega) (by omega) (by omega)
    · rintro c st' ⟨xs, p, rfl, rfl, hP, hD, hp, al⟩
      exact ⟨xs, _, p, rfl, rfl, by omega, by omega, hP, hD, hp, al⟩
    · exact ⟨_, 0, rfl, rfl, pX, dX1, by omega, fun i j h1 h2 h3 h4 => by
        have : i = j := by omega
        subst this; exact Srt.irr O _⟩
    rintro c st' ⟨xs, m, p, rfl, rfl, m1, m2, hP, hD, hp, al⟩
    have hz := hP.size
    dsimp only
    by_cases hp0 : p > 0
    case' pos =>
      rw [if_pos hp0]
      refine wpS_bind (wpS_rv ?_)
      have e1 : lo + m - (p + 1) = lo + (m - (p + 1)) := by omega
      rw [e1]
      have hD' := hD.rv (a := m - (p + 1)) (by omega) al (by omega)
      have hP' : Pr ys lo (rv xs (lo + (m - (p + 1))) (lo + m)) := hP.rv (by omega) (by omega)
      have hz' := hP'.size
    case' neg =>
      rw [if_neg hp0]
      have hD' := hD
      have hP' := hP
      have hz' := hz
    all_goals
      refine wpS_bind (wpS_rv ?_)
      have hA3 := hD'.flip (by omega)
      have hP3 := hP'.rv (i := lo) (j := lo + m) (Nat.le_refl _) (by omega)
      have hz3 := hP3.size
      refine wpS_bind (wpS_mono (wpS_forRange (I := fun x c st' => ∃ zs, st' = setArr st zs ∧ c = (none, x) ∧ Pr ys lo zs ∧ Asc lt kf zs lo x)
        (Q := fun c st' => ∃ zs n, st' = setArr st zs ∧ c = (none, n) ∧ 1 ≤ n ∧ n ≤ nr ∧ Pr ys lo zs ∧ Asc lt kf zs lo n) ?_ ?_ ⟨_, rfl, rfl, hP3, hA3⟩) ?_)
      · rintro x c st' hx1 hx ⟨zs, rfl, rfl, hP4, hA⟩
        have hz4 := hP4.size
        dsimp only
        refine wpS_bind (wpS_ask hc hk (hm' hP4) (by omega) (by omega) ?_)
        cases e : lt (ky kf zs (lo + x)) (ky kf zs (lo + x - 1)) with
        | true => dsimp only; rw [if_pos rfl]; exact wpS_pure ⟨zs, x, rfl, rfl, by omega, by omega, hP4, hA⟩
        | false => dsimp only; rw [if_neg (by simp)]; exact wpS_pure ⟨zs, rfl, rfl, hP4, hA.succ O (by omega) e⟩
      · rintro c st' ⟨zs, rfl, rfl, hP4, hA⟩
        exact ⟨zs, _, rfl, rfl, by omega, by omega, hP4, hA⟩
      · rintro c st' ⟨zs, n', rfl, rfl, k1, k2, hP4, hA⟩
        exact wpS_pure (q n' zs k1 k2 hP4 hA)
/-- a place is found for each, one behind the other -/
theorem wpS_bin (O : Srt.Ord lt) (hc : Cmp prog w A E s lt kf κ0 it) {st : SortSt} {ys : Array Keyed} {lo n ok : Nat} {Q : Bool → SortSt → Prop} (hk : kindOf st = κ0) (hm : ∀ u ∈ ys.toList, u ∈ it.toList) (hok : ok ≤ n) (hs : lo + n ≤ ys.size) (hA : Asc lt kf ys lo ok)
    (q : ∀ xs, Pr ys lo xs → Asc lt kf xs lo n → Q true (setArr st xs)) : wpS (model prog w) A E s (binarySort' lo n ok) Q (setArr st ys) := by
  have hm' : ∀ {xs : Array Keyed}, Pr ys lo xs → ∀ u ∈ xs.toList, u ∈ it.toList := fun {xs} h u hu => hm u ((Array.perm_iff_toList_perm.mp h.perm).mem_iff.mp hu)
  have p0 : Pr ys lo ys := ⟨Array.Perm.refl _, fun _ _ => rfl⟩
  rw [binarySort'_eq]
  refine wpS_bind (wpS_mono (wpS_forRange (I := fun k c st' => c = (none, ()) ∧ ∃ xs, st' = setArr st xs ∧ Pr ys lo xs ∧ Asc lt kf xs lo (min k n))
    (Q := fun c st' => c = (none, ()) ∧ ∃ xs, st' = setArr st xs ∧ Pr ys lo xs ∧ Asc lt kf xs lo n) ?_ ?_ ?_) ?_)
  · rintro k c st' hk1 hkn ⟨rfl, xs, rfl, hP, hA'⟩
    have hz := hP.size
    rw [show min k n = k by omega] at hA'
    dsimp only
    refine wpS_bind (wpS_mono (wpS_forRange (I := fun x c st' => st' = setArr st xs ∧ ∃ l r, c = (none, l, r) ∧ l ≤ r ∧ r ≤ k ∧ r - l ≤ k - x ∧ (∀ i, i < l → lt (ky kf xs (lo + k)) (ky kf xs (lo + i)) = false) ∧ (∀ i, r ≤ i → i < k → lt (ky kf xs (lo + i)) (ky kf xs (lo + k)) = false))
      (Q := fun c st' => st' = setArr st xs ∧ ∃ l r, c = (none, l, r) ∧ l ≤ k ∧ (∀ i, i < l → lt (ky kf xs (lo + k)) (ky kf xs (lo + i)) = false) ∧ (∀ i, l ≤ i → i < k → lt (ky kf xs (lo + i)) (ky kf xs (lo + k)) = false)) ?_ ?_ ?_) ?_)
    · rintro x c st' _ hx ⟨rfl, l, r, rfl, h1, h2, h3, h4, h5⟩
      dsimp only
      by_cases hge : l ≥ r
      · rw [if_pos hge]
        have : l = r := by omega
        subst this
        exact wpS_pure ⟨rfl, l, l, rfl, h2, h4, h5⟩
      · rw [if_neg hge]
        refine wpS_bind (wpS_ask hc hk (hm' hP) (by omega) (by omega) ?_)
        cases e : lt (ky kf xs (lo + k)) (ky kf xs (lo + (l + r) / 2)) with
        | true =>
          dsimp only
          rw [if_pos rfl]
          refine wpS_pure ⟨rfl, l, (l + r) / 2, rfl, by omega, by omega, by omega, h4, fun i i1 i2 => ?_⟩
          exact O.trans _ _ _ (O.asym _ _ e) (hA' _ _ i1 i2)
        | false =>
          dsimp only
          rw [if_neg (by simp)]
          refine wpS_pure ⟨rfl, (l + r) / 2 + 1, r, rfl, by omega, by omega, by omega, fun i i1 => ?_, h5⟩
          exact O.trans _ _ _ (hA' i ((l + r) / 2) (by omega) (by omega)) e
    · rintro c st' ⟨rfl, l, r, rfl, h1, h2, h3, h4, h5⟩
      have : l = r := by omega
      subst this
      exact ⟨rfl, l, l, rfl, h2, h4, h5⟩
    · exact ⟨rfl, 0, k, rfl, by omega, by omega, by omega, fun i hi => by omega, fun i i1 i2 => by omega⟩
    · rintro c st' ⟨rfl, l, r, rfl, hl, h4, h5⟩
      dsimp only
      rw [moveDown'_eq]
      refine wpS_bind (wpS_modify (wpS_pure ⟨rfl, bubble xs (lo + k) (lo + k - (lo + l)), rfl, ?_, ?_⟩))
      · refine ⟨(bubble_perm _ _ _).trans hP.perm, fun i hi => ?_⟩
        rw [getElem?_bubble (by omega) (lo + k - (lo + l)) (by omega) i, if_neg (by omega), if_neg (by omega)]
        exact hP.pre i hi
      · rw [show min (k + 1) n = k + 1 by omega]
        have kb : ∀ i, i < k + 1 → ky kf (bubble xs (lo + k) (lo + k - (lo + l))) (lo + i) = if i = l then ky kf xs (lo + k) else if l < i then ky kf xs (lo + (i - 1)) else ky kf xs (lo + i) := fun i hi => by
          have e := getElem?_bubble (xs := xs) (src := lo + k) (by omega) (lo + k - (lo + l)) (by omega) (lo + i)
          rw [show lo + k - (lo + k - (lo + l)) = lo + l by omega] at e
          by_cases ei : i = l
          · rw [if_pos (by omega)] at e
            rw [if_pos ei]; exact ky_congr e
          · rw [if_neg (by omega)] at e
            rw [if_neg ei]
            by_cases li : l < i
            · rw [if_pos (by omega), show lo + i - 1 = lo + (i - 1) by omega] at e
              rw [if_pos li]; exact ky_congr e
            · rw [if_neg (by omega)] at e
              rw [if_neg li]; exact ky_congr e
        intro i j hij hj
        rw [kb i (by omega), kb j hj]
        by_cases ei : i = l
        · rw [if_pos ei]
          by_cases ej : j = l
          · rw [if_pos ej]; exact Srt.irr O _
          · rw [if_neg ej, if_pos (by omega)]; exact h5 _ (by omega) (by omega)
        · rw [if_neg ei]
          by_cases ej : j = l
          · rw [if_pos ej, if_neg (by omega)]; exact h4 i (by omega)
          · rw [if_neg ej]
            by_cases li : l < i
            · rw [if_pos li, if_pos (by omega)]; exact hA' _ _ (by omega) (by omega)
            · rw [if_neg li]
              by_cases lj : l < j
              · rw [if_pos lj]; exact hA' _ _ (by omega) (by omega)
              · rw [if_neg lj]; exact hA' _ _ hij (by omega)
  · rintro c st' ⟨hc', xs, rfl, hP, hA'⟩
    refine ⟨hc', xs, rfl, hP, ?_⟩
    rwa [show min (max (max ok 1) n) n = n by omega] at hA'
  · refine ⟨rfl, ys, rfl, p0, fun i j hij hj => ?_⟩
    by_cases h1 : ok = 0
    · have : i = j := by omega
      subst this; exact Srt.irr O _
    · exact hA i j hij (by omega)
  · rintro c st' ⟨rfl, xs, rfl, hP, hA'⟩
    exact wpS_pure (q xs hP hA')
end
end Ts

set_option Elab.async false
set_option linter.all false
set_option maxRecDepth 100000
set_option maxHeartbeats 4000000
namespace Ts
open PySem PySem.W PyProof.Rows
section
variable {prog : Program} {w : World} {A : Around} {E : Value → Shared → Prop} {s : Shared} {κt : Type} {lt : κt → κt → Bool} {kf : Keyed → κt} {κ0 : SortKind} {it : Array Keyed}
theorem Pend.congr : ∀ {Ls : List (List Keyed)} {ps ps' : List (Nat × Nat × Nat)} {off : Nat}, ps.map (fun p => (p.1, p.2.1)) = ps'.map (fun p => (p.1, p.2.1)) → Pend lt kf off Ls ps → Pend lt kf off Ls ps'
  | [], [], [], _, _, h => h
  | _ :: _, p :: ps, p' :: ps', off, e, h => by
    rw [List.map_cons, List.map_cons] at e
    obtain ⟨e1, e2⟩ := List.cons.inj e
    obtain ⟨f1, f2⟩ := Prod.mk.inj e1
    obtain ⟨h1, h2, h3, h4, h5⟩ := h
    exact ⟨f1 ▸ h1, f2 ▸ h2, h3, h4, Pend.congr e2 h5⟩
  | _, [], _ :: _, _, e, _ => by simp at e
  | _, _ :: _, [], _, e, _ => by simp at e
  | [], _ :: _, _ :: _, _, _, h => h.elim
  | _ :: _, [], [], _, _, h => h.elim
theorem Pend.snoc : ∀ {Ls : List (List Keyed)} {ps : List (Nat × Nat × Nat)} {off : Nat} {U : List Keyed} (pw : Nat), Pend lt kf off Ls ps → 1 ≤ U.length → Sd lt kf U → Pend lt kf off (Ls ++ [U]) (ps ++ [(off + Ls.flatten.length, U.length, pw)])
  | [], [], off, U, pw, _, h1, h2 => ⟨by simp, rfl, h1, h2, True.intro⟩
  | L :: Ls, p :: ps, off, U, pw, h, h1, h2 => by
    obtain ⟨a, b, c, d, e⟩ := h
    refine ⟨a, b, c, d, ?_⟩
    have := Pend.snoc pw e h1 h2
    rw [List.flatten_cons, List.length_append, ← Nat.add_assoc]
    exact this
  | [], _ :: _, _, _, _, h, _, _ => h.elim
  | _ :: _, [], _, _, _, h, _, _ => h.elim
theorem modify_keep (ps : Array (Nat × Nat × Nat)) (i pw : Nat) : ((ps.modify i fun x => match x with | (st, len, _) => (st, len, pw)).toList).map (fun p => (p.1, p.2.1)) = ps.toList.map (fun p => (p.1, p.2.1)) := by
  rw [Array.toList_modify]
  apply List.ext_getElem?
  intro j
  rw [List.getElem?_map, List.getElem?_map, List.getElem?_modify]
  cases e : ps.toList[j]? with
  | none => rfl
  | some x =>
    by_cases h : i = j
    · simp [h]
    · simp [h]
/-- the rest, with its front brought in order -/
theorem Pr.lists {ys xs : Array Keyed} {lo n : Nat} {F R : List Keyed} (h : Pr ys lo xs) (hA : Asc lt kf xs lo n) (e : ys.toList = F ++ R) (hF : F.length = lo) (hn : lo + n ≤ ys.size) :
    ∃ U V, xs.toList = F ++ (U ++ V) ∧ (U ++ V).Perm R ∧ U.length = n ∧ Sd lt kf U := by
  have hz := h.size
  have ht : xs.toList.take lo = F := by
    apply List.ext_getElem?
    intro i
    by_cases hi : i < lo
    · rw [List.getElem?_take_of_lt hi, Array.getElem?_toList, h.pre i hi, ← Array.getElem?_toList, e, List.getElem?_append_left (by omega)]
    · rw [List.getElem?_eq_none (by rw [List.length_take]; omega), List.getElem?_eq_none (by omega)]
  refine ⟨(xs.toList.drop lo).take n, (xs.toList.drop lo).drop n, ?_, ?_, ?_, ?_⟩
  · rw [List.take_append_drop, ← ht, List.take_append_drop]
  · rw [List.take_append_drop]
    have := Array.perm_iff_toList_perm.mp h.perm
    rw [e, ← List.take_append_drop lo xs.toList, ht] at this
    exact (List.perm_append_left_iff F).mp this
  · rw [List.length_take, List.length_drop, Array.length_toList]; omega
  · refine List.pairwise_iff_getElem.mpr fun i j hi hj hij => ?_
    have hl : ((xs.toList.drop lo).take n).length = n := by rw [List.length_take, List.length_drop, Array.length_toList]; omega
    rw [hl] at hi hj
    have g : ∀ k (hk : k < ((xs.toList.drop lo).take n).length), kf (((xs.toList.drop lo).take n)[k]) = ky kf xs (lo + k) := fun k hk => by
      unfold ky
      rw [List.getElem_take, List.getElem_drop, Array.getElem_toList, Array.getD_eq_getD_getElem?, Array.getElem?_eq_getElem (by rw [hl] at hk; omega)]; rfl
    unfold le
    rw [g, g]
    exact hA i j (by omega) hj
theorem ls_len {Ls : List (List Keyed)} : ∀ {ps : List (Nat × Nat × Nat)} {off : Nat}, Pend lt kf off Ls ps → Ls.length ≤ Ls.flatten.length := by
  induction Ls with
  | nil => intro _ _ _; exact Nat.le_refl _
  | cons L Ls ih =>
    intro ps off h
    cases ps with
    | nil => exact h.elim
    | cons p ps =>
      obtain ⟨_, _, h3, _, h5⟩ := h
      have := ih h5
      rw [List.length_cons, List.flatten_cons, List.length_append]; omega
theorem wpS_sort (O : Srt.Ord lt) (hc : Cmp prog w A E s lt kf κ0 it) {Q : Unit → SortSt → Prop} {g : Nat}
    (q : ∀ st', failedOf st' = none → (arrOf st').toList.Perm it.toList → Sd lt kf (arrOf st').toList → Q () st') : wpS (model prog w) A E s sortRuns' Q (SortSt.mk' κ0 it #[] g none) := by
  rw [sortRuns'_eq]
  refine wpS_bind (wpS_get ?_)
  dsimp only
  rw [show (arrOf (SortSt.mk' κ0 it #[] g none)).size = it.size from rfl]
  have mem : ∀ {st : SortSt}, (arrOf st).toList.Perm it.toList → ∀ u ∈ (arrOf st).toList, u ∈ it.toList := fun {st} h u hu => h.mem_iff.mp hu
  refine wpS_bind (wpS_mono (wpS_forRange (I := fun x c st' => ∃ Ls rest lo, c = (none, lo) ∧ Ok lt kf κ0 st' Ls rest ∧ Ls.flatten.length = lo ∧ (arrOf st').toList.Perm it.toList ∧ x ≤ lo)
    (Q := fun c st' => ∃ Ls lo, c = (none, lo) ∧ Ok lt kf κ0 st' Ls [] ∧ (arrOf st').toList.Perm it.toList) ?step ?fin ?init) ?post)
  case init => exact ⟨[], it.toList, 0, rfl, ⟨rfl, rfl, rfl, True.intro⟩, rfl, List.Perm.refl _, Nat.le_refl _⟩
  case fin =>
    rintro c st' ⟨Ls, rest, lo, rfl, hO, hl, hp, hx⟩
    have hlen : Ls.flatten.length + rest.length = it.size := by
      have := hp.length_eq
      rw [hO.arr, List.length_append, Array.length_toList] at this; exact this
    have hr : rest = [] := List.eq_nil_of_length_eq_zero (by omega)
    subst hr
    exact ⟨Ls, lo, rfl, hO, hp⟩
  case step =>
    rintro x c st' _ hx ⟨Ls, rest, lo, rfl, hO, hl, hp, hxl⟩
    have hlen : Ls.flatten.length + rest.length = it.size := by
      have := hp.length_eq
      rw [hO.arr, List.length_append, Array.length_toList] at this; exact this
    have hasz : (arrOf st').size = it.size := by
      have := hp.length_eq
      rw [Array.length_toList, Array.length_toList] at this; exact this
    dsimp only
    by_cases hge : lo ≥ it.size
    · rw [if_pos hge]
      have hr : rest = [] := List.eq_nil_of_length_eq_zero (by omega)
      subst hr
      exact wpS_pure ⟨Ls, lo, rfl, hO, hp⟩
    rw [if_neg hge]
    show wpS (model prog w) A E s _ _ (setArr st' (arrOf st'))
    refine wpS_bind (wpS_count O hc (st := st') (ys := arrOf st') (lo := lo) (nr := it.size - lo) hO.kind (mem hp) (by omega) (by omega) fun n xs n1 n2 hPr hA => ?_)
    dsimp only
    by_cases hmr : n < minRun' it.size it.size 0
    case' pos =>
      rw [if_pos hmr]
      refine wpS_bind (wpS_rule ?_)
      have hxs := hPr.size
      refine wpS_bind (wpS_bin O hc (st := st') (ys := xs) (lo := lo) hO.kind (fun u hu => mem hp u ((Array.perm_iff_toList_perm.mp hPr.perm).mem_iff.mp hu)) (by omega) (by omega) hA fun zs hPr2 hA2 => ?_)
      rw [if_neg (by simp)]
      have hPz : Pr (arrOf st') lo zs := ⟨hPr2.perm.trans hPr.perm, fun i hi => (hPr2.pre i hi).trans (hPr.pre i hi)⟩
      have hm1 : 1 ≤ min (it.size - lo) (minRun' it.size it.size 0) := by omega
      have hm2 : min (it.size - lo) (minRun' it.size it.size 0) ≤ it.size - lo := by omega
      generalize min (it.size - lo) (minRun' it.size it.size 0) = n' at hA2 hm1 hm2 ⊢
    case' neg =>
      rw [if_neg hmr]
      have hPz := hPr
      have hA2 := hA
      have hm1 := n1
      have hm2 := n2
      generalize xs = zs at hPz hA2 ⊢
      generalize n = n' at hA2 hm1 hm2 ⊢
    all_goals
      obtain ⟨U, V, e1, e2, e3, e4⟩ := hPz.lists hA2 hO.arr hl (by omega)
      have hO1 : Ok lt kf κ0 (setArr st' zs) Ls (U ++ V) := ⟨hO.kind, hO.fail, e1, hO.pend⟩
      have hp1 : (arrOf (setArr st' zs)).toList.Perm it.toList := (Array.perm_iff_toList_perm.mp hPz.perm).trans hp
      generalize setArr st' zs = st1 at hO1 hp1 ⊢
      have push : ∀ (st2 : SortSt) (Ls2 : List (List Keyed)), Ok lt kf κ0 st2 Ls2 (U ++ V) → Ls2.flatten.length = lo → (arrOf st2).toList.Perm it.toList →
          ∃ Ls3 rest3 lo3, ((none, lo + n') : Option Unit × Nat) = (none, lo3) ∧ Ok lt kf κ0 (setPending st2 ((pendingOf st2).push (lo, n', 0))) Ls3 rest3 ∧ Ls3.flatten.length = lo3 ∧ (arrOf (setPending st2 ((pendingOf st2).push (lo, n', 0)))).toList.Perm it.toList ∧ x + 1 ≤ lo3 := fun st2 Ls2 h1 h2 h3 => by
        refine ⟨Ls2 ++ [U], V, lo + n', rfl, ⟨h1.kind, h1.fail, ?_, ?_⟩, ?_, h3, by omega⟩
        · show (arrOf st2).toList = _
          rw [h1.arr, List.flatten_append, List.append_assoc]
          simp
        · show Pend lt kf 0 (Ls2 ++ [U]) ((pendingOf st2).push (lo, n', 0)).toList
          rw [Array.toList_push]
          have := h1.pend.snoc 0 (by omega) e4
          rw [Nat.zero_add, h2, e3] at this
          exact this
        · rw [List.flatten_append, List.length_append, h2]
          simp [e3]
      refine wpS_bind (wpS_get ?_)
      split
      · refine wpS_bind (wpS_mono (wpS_forRange (I := fun y c st2 => c = (none, ()) ∧ ∃ Ls2, Ok lt kf κ0 st2 Ls2 (U ++ V) ∧ Ls2.flatten.length = lo ∧ (arrOf st2).toList.Perm it.toList)
          (Q := fun c st2 => c = (none, ()) ∧ ∃ Ls2, Ok lt kf κ0 st2 Ls2 (U ++ V) ∧ Ls2.flatten.length = lo ∧ (arrOf st2).toList.Perm it.toList) ?_ (fun _ _ z => z) ⟨rfl, Ls, hO1, hl, hp1⟩) ?_)
        · rintro y c st2 _ _ ⟨rfl, Ls2, hO2, hl2, hp2⟩
          refine wpS_bind (wpS_get ?_)
          have hsz2 : Ls2.length = (pendingOf st2).size := by rw [hO2.pend.len (off := 0), Array.length_toList]
          by_cases hs1 : (pendingOf st2).size > 1
          · rw [if_pos hs1]
            split
            · split
              · exact wpS_pure ⟨rfl, Ls2, hO2, hl2, hp2⟩
              · refine wpS_bind (wpS_mat O hc hO2 (by omega) (mem hp2) fun st3 Ls3 hO3 hl3 hp3 => ?_)
                rw [if_neg (by simp)]
                refine wpS_pure ⟨rfl, Ls3, hO3, by rw [hp3.length_eq, hl2], ?_⟩
                rw [hO3.arr]
                rw [hO2.arr] at hp2
                exact (hp3.append_right _).trans hp2
            · exact wpS_pure ⟨rfl, Ls2, hO2, hl2, hp2⟩
          · rw [if_neg hs1]
            exact wpS_pure ⟨rfl, Ls2, hO2, hl2, hp2⟩
        · rintro c st2 ⟨rfl, Ls2, hO2, hl2, hp2⟩
          dsimp only
          refine wpS_bind (wpS_modify (wpS_bind (wpS_modify (wpS_pure ?_))))
          exact push (setPending st2 _) Ls2 ⟨hO2.kind, hO2.fail, hO2.arr, hO2.pend.congr (modify_keep _ _ _).symm⟩ hl2 hp2
      · exact wpS_bind (wpS_modify (wpS_pure (push st1 Ls hO1 hl hp1)))
  case post =>
    rintro c st' ⟨Ls, lo, rfl, hO, hp⟩
    dsimp only
    have hl0 : Ls.length ≤ it.size := by
      have h1 := ls_len hO.pend
      have h2 := hp.length_eq
      rw [hO.arr, List.append_nil] at h2
      have h3 : it.toList.length = it.size := Array.length_toList
      omega
    refine wpS_bind (wpS_mono (wpS_forRange (I := fun y c st2 => c = (none, ()) ∧ ∃ Ls2, Ok lt kf κ0 st2 Ls2 [] ∧ Ls2.length ≤ it.size + 1 - y ∧ (arrOf st2).toList.Perm it.toList)
      (Q := fun c st2 => c = (none, ()) ∧ ∃ Ls2, Ok lt kf κ0 st2 Ls2 [] ∧ Ls2.length ≤ 1 ∧ (arrOf st2).toList.Perm it.toList) ?_ ?_ ⟨rfl, Ls, hO, by omega, hp⟩) ?_)
    · rintro y c st2 _ hy ⟨rfl, Ls2, hO2, hl2, hp2⟩
      refine wpS_bind (wpS_get ?_)
      have hsz2 : Ls2.length = (pendingOf st2).size := by rw [hO2.pend.len (off := 0), Array.length_toList]
      by_cases hs1 : (pendingOf st2).size ≤ 1
      · rw [if_pos hs1]
        exact wpS_pure ⟨rfl, Ls2, hO2, by omega, hp2⟩
      rw [if_neg hs1]
      have hi : ∀ b : Bool, (if b = true then (pendingOf st2).size - 2 - 1 else (pendingOf st2).size - 2) + 1 < Ls2.length := fun b => by
        cases b
        · rw [if_neg (by simp)]; omega
        · rw [if_pos rfl]; omega
      refine wpS_bind (wpS_mat O hc hO2 (hi _) (mem hp2) fun st3 Ls3 hO3 hl3 hp3 => ?_)
      rw [if_neg (by simp)]
      refine wpS_pure ⟨rfl, Ls3, hO3, by omega, ?_⟩
      rw [hO3.arr]
      rw [hO2.arr] at hp2
      exact (hp3.append_right _).trans hp2
    · rintro c st2 ⟨rfl, Ls2, hO2, hl2, hp2⟩
      exact ⟨rfl, Ls2, hO2, by omega, hp2⟩
    · rintro c st2 ⟨rfl, Ls2, hO2, hl2, hp2⟩
      dsimp only
      refine wpS_pure (q st2 hO2.fail hp2 ?_)
      rw [hO2.arr, List.append_nil]
      cases Ls2 with
      | nil => exact List.Pairwise.nil
      | cons L Ls2 =>
        cases Ls2 with
        | cons _ _ => simp at hl2
        | nil =>
          have h2 := hO2.pend
          cases e : (pendingOf st2).toList with
          | nil => rw [e] at h2; exact h2.elim
          | cons p ps =>
            rw [e] at h2
            simpa using h2.2.2.2.1
end
end Ts

set_option Elab.async false
set_option linter.all false
set_option maxRecDepth 100000
set_option maxHeartbeats 4000000
namespace L2
open PySem PySem.Spec PySem.W PyProof.Rows
/-! ### sorted, of any number of rows of ints and texts -/
theorem perm_map_inv {α β : Type} {g : α → β} {l m : List β} (h : l.Perm m) : ∀ xs : List α, m = xs.map g → ∃ ys : List α, ys.Perm xs ∧ l = ys.map g := by
  induction h with
  | nil =>
    intro xs e
    cases xs with
    | nil => exact ⟨[], List.Perm.refl _, rfl⟩
    | cons _ _ => simp at e
  | cons a _ ih =>
    intro xs e
    cases xs with
    | nil => simp at e
    | cons x xs =>
      rw [List.map_cons] at e
      obtain ⟨e1, e2⟩ := List.cons.inj e
      obtain ⟨ys, p, q⟩ := ih xs e2
      exact ⟨x :: ys, p.cons x, by rw [List.map_cons, e1, q]⟩
  | swap a b l =>
    intro xs e
    cases xs with
    | nil => simp at e
    | cons x xs =>
      cases xs with
      | nil => simp at e
      | cons y xs =>
        rw [List.map_cons, List.map_cons] at e
        obtain ⟨e1, e2⟩ := List.cons.inj e
        obtain ⟨e3, e4⟩ := List.cons.inj e2
        exact ⟨y :: x :: xs, List.Perm.swap _ _ _, by rw [List.map_cons, List.map_cons, e1, e3, e4]⟩
  | trans _ _ ih1 ih2 =>
    intro xs e
    obtain ⟨ys, p, q⟩ := ih2 xs e
    obtain ⟨zs, p', q'⟩ := ih1 ys q
    exact ⟨zs, p'.trans p, q'⟩
section
variable {prog : Program} {w : World} {A : Around} {E : Value → Shared → Prop} {s : Shared}
open Classical in
/-- the key of an item, by the value -/
noncomputable def keyBy {κt : Type} (vs : List Value) (f : Nat → κt) (p : Keyed) : κt := if h : ∃ i, i < vs.length ∧ vs.getD i Value.none = p.1 then f h.choose else f 0
theorem keyBy_at {κt : Type} {vs : List Value} {f : Nat → κt} (hf : ∀ i j, i < vs.length → j < vs.length → vs.getD i Value.none = vs.getD j Value.none → f i = f j) {i : Nat} (hi : i < vs.length) {p : Keyed} (e : vs.getD i Value.none = p.1) : keyBy vs f p = f i := by
  have h : ∃ i, i < vs.length ∧ vs.getD i Value.none = p.1 := ⟨i, hi, e⟩
  unfold keyBy
  rw [dif_pos h]
  have := h.choose_spec
  exact hf _ _ this.1 hi (this.2.trans e.symm)
/-- the runs sorted, by places -/
theorem runs_any {vs : List Value} {κt : Type} {lt : κt → κt → Bool} (O : Srt.Ord lt) (f : Nat → κt) (κ0 : SortKind) (hf : ∀ i j, i < vs.length → j < vs.length → vs.getD i Value.none = vs.getD j Value.none → f i = f j)
    (hask : ∀ (i j : Nat) (C : Bool → Shared → Prop), i < vs.length → j < vs.length → C (lt (f i) (f j)) s → kas_ask prog w A κ0 vs i j C s) {Q : SortSt → Prop}
    (q : ∀ (p : Array Nat) (st' : SortSt), Srt.Pm vs.length p → Srt.Up lt f p vs.length → arrOf st' = p.map (kas_item (vs.toArray.zip vs.toArray)) → failedOf st' = none → Q st') :
    wpAny (model prog w) A ((sortRuns').run (SortSt.mk' κ0 (vs.toArray.zip vs.toArray) #[] 7 none)) (fun r s' => s' = s ∧ Q r.2) E s := by
  have hlen : (vs.toArray.zip vs.toArray).size = vs.length := by simp
  have hit := kas_range (vs.toArray.zip vs.toArray)
  rw [hlen] at hit
  have hitem : ∀ i, i < vs.length → kas_item (vs.toArray.zip vs.toArray) i = (vs.getD i Value.none, vs.getD i Value.none) := fun i hi => kas_item_eq vs i
  have hcmp : Ts.Cmp prog w A E s lt (keyBy vs f) κ0 (vs.toArray.zip vs.toArray) := by
    intro x y st Q' hx hy hk hq
    rw [← hit] at hx hy
    rw [Array.toList_map] at hx hy
    obtain ⟨i, hi, rfl⟩ := List.mem_map.mp hx
    obtain ⟨j, hj, rfl⟩ := List.mem_map.mp hy
    have hi' : i < vs.length := List.mem_range.mp (by simpa using hi)
    have hj' : j < vs.length := List.mem_range.mp (by simpa using hj)
    rw [hitem i hi', hitem j hj'] at hq ⊢
    rw [keyBy_at hf hi' rfl, keyBy_at hf hj' rfl] at hq
    rw [lt'_eq]
    refine wpS_bind (wpS_get ?_)
    rw [hk]
    refine wpS_bind (wpS_lift (wpAny_attempt (wpAny_mono (hask i j (fun c s' => s' = s ∧ c = lt (f i) (f j)) hi' hj' ⟨rfl, rfl⟩) (fun c s' hc => ?_) fun _ _ z => z.elim)))
    obtain ⟨rfl, rfl⟩ := hc
    exact ⟨rfl, wpS_pure hq⟩
  refine wpAny_mono (Ts.wpS_sort (Q := fun _ st' => Q st') O hcmp (g := 7) fun st' hfail hperm hsd => ?_) (fun r s' hr => hr) fun _ _ z => z
  rw [← hit, Array.toList_map] at hperm
  obtain ⟨P, hP, hPe⟩ := perm_map_inv hperm _ rfl
  have hPr : P.Perm (List.range vs.length) := by simpa using hP
  have hPl : P.length = vs.length := by rw [hPr.length_eq, List.length_range]
  have harr : arrOf st' = (List.toArray P).map (kas_item (vs.toArray.zip vs.toArray)) := by
    apply Array.ext'
    rw [hPe, Array.toList_map]
  refine q (List.toArray P) st' ⟨by simpa using hPr⟩ (fun i j hij hj => ?_) harr hfail
  have hi : i < P.length := by omega
  have hj' : j < P.length := by omega
  unfold Srt.ky
  have gi : (List.toArray P).getD i 0 = P[i] := by simp [Array.getD, hi]
  have gj : (List.toArray P).getD j 0 = P[j] := by simp [Array.getD, hj']
  rw [gi, gj]
  have bi : P[i] < vs.length := List.mem_range.mp (hPr.mem_iff.mp (List.getElem_mem hi))
  have bj : P[j] < vs.length := List.mem_range.mp (hPr.mem_iff.mp (List.getElem_mem hj'))
  have := hsd.at O (i := i) (j := j) (u := kas_item (vs.toArray.zip vs.toArray) P[i]) (v := kas_item (vs.toArray.zip vs.toArray) P[j]) hij (by rw [hPe, List.getElem?_map, List.getElem?_eq_getElem hi]; rfl) (by rw [hPe, List.getElem?_map, List.getElem?_eq_getElem hj']; rfl)
  unfold Ts.le at this
  rw [hitem _ bi, hitem _ bj, keyBy_at hf bj rfl, keyBy_at hf bi rfl] at this
  exact this
theorem sort_any {a : Addr} {vs : List Value} {n : Nat} {P : PySem.Fin → Shared → Prop} {κt : Type} {lt : κt → κt → Bool} (O : Srt.Ord lt) (f : Nat → κt) (κ0 : SortKind) (ho : s.heap.get? a = some (seqObj "list" vs.toArray n)) (hsz0 : vs.length ≤ 100000) (hf : ∀ i j, i < vs.length → j < vs.length → vs.getD i Value.none = vs.getD j Value.none → f i = f j)
    (hkind : ∀ (h6 : Heap) (Q : SortKind → Shared → Prop), (∀ b o, b ≠ a → s.heap.get? b = some o → h6.get? b = some o) → 2 ≤ vs.length → Q κ0 { s with heap := h6 } → wpAny (model prog w) A (keyKind' vs.toArray) Q (fun _ _ => False) { s with heap := h6 })
    (hask : ∀ (h6 : Heap) (i j : Nat) (C : Bool → Shared → Prop), (∀ b o, b ≠ a → s.heap.get? b = some o → h6.get? b = some o) → i < vs.length → j < vs.length → C (lt (f i) (f j)) { s with heap := h6 } → kas_ask prog w A κ0 vs i j C { s with heap := h6 })
    (h : ∀ p : Array Nat, Srt.Pm vs.length p → Srt.Up lt f p vs.length → P (.done (.ret .none)) { s with heap := sortedHeap s.heap a vs (List.toArray (p.toList.map fun i => vs.getD i Value.none)) }) :
    wpAny (model prog w) A (Builtin.«list.sort» ⟨[.ref a], []⟩) P E s := by
  have ha : a < s.heap.objs.size := Heap.lt_size ho
  have z1 := Heap.SameBut.update s.heap a (Obj.mapSeq fun _ => (#[] : Array Value))
  obtain ⟨e1, ho1⟩ : ∃ e1, (s.heap.update a (Obj.mapSeq fun _ => (#[] : Array Value))).get? a = some (seqObj "list" #[] e1) := ⟨_, get?_update_seq ho fun _ => #[]⟩
  have ho6 : (((s.heap.update a (Obj.mapSeq fun _ => (#[] : Array Value))).push (seqObj "tuple" vs.toArray 0)).push (seqObj "list" #[] 0)).get? a = some (seqObj "list" #[] e1) :=
    Heap.get?_push_of_some _ (Heap.get?_push_of_some _ ho1)
  have k6 : ∀ b o, b ≠ a → s.heap.get? b = some o → (((s.heap.update a (Obj.mapSeq fun _ => (#[] : Array Value))).push (seqObj "tuple" vs.toArray 0)).push (seqObj "list" #[] 0)).get? b = some o := fun b o hb e =>
    Heap.get?_push_of_some _ (Heap.get?_push_of_some _ ((z1.2 b hb).trans e))
  have fin : ∀ (st' : SortSt) (p : Array Nat), Srt.Pm vs.length p → Srt.Up lt f p vs.length → (arrOf st').map (·.2) = List.toArray (p.toList.map fun i => vs.getD i Value.none) → failedOf st' = none →
      wpAny (model prog w) A (do
        let touched := (← seqEpoch a) != e1
        Builtin.List.listUpdate (.ref a) fun _ => (arrOf st').map (·.2)
        if let some e := failedOf st' then rule "list.sort.comparison-raised"; throw e
        if touched then rule "list.sort.modified"; raiseError "ValueError" "list modified during sort"
        ret .none) P E { s with heap := (((s.heap.update a (Obj.mapSeq fun _ => (#[] : Array Value))).push (seqObj "tuple" vs.toArray 0)).push (seqObj "list" #[] 0)) } := fun st' p Pp Up hout hf => by
    have hsz : (List.toArray (p.toList.map fun i => vs.getD i Value.none)).size = vs.length := by rw [List.size_toArray, List.length_map, Array.length_toList, Pp.size]
    rw [hout]
    refine wpAny_bind (seqEpoch_at ho6 rfl ?_)
    refine wpAny_bind (listUpdate_at ho6 rfl ?_ (Nat.zero_le _) (Nat.le_trans (Nat.le_of_eq hsz) (by rw [sizeLine_eq]; omega)))
    rw [hf]
    simp only [bne_self_eq_false, Bool.false_eq_true, if_false]
    exact wpAny_pure (h p Pp Up)
  rw [list_sort_plain]
  refine wpAny_bind (listItems_at ho rfl ?_)
  refine wpAny_bind (listUpdate_at ho rfl ?_ (by rw [List.size_toArray, sizeLine_eq]; omega) (Nat.zero_le _))
  refine wpAny_bind (seqEpoch_at ho1 rfl ?_)
  refine wpAny_bind (wpAny_newTuple ?_ (by show vs.length ≤ _; rw [sizeLine_eq]; omega))
  refine wpAny_bind (wpAny_newList ?_ (Nat.zero_le _))
  refine wpAny_holding ?_
  show wpAny (model prog w) A _ P E { s with heap := ((s.heap.update a (Obj.mapSeq fun _ => (#[] : Array Value))).push (seqObj "tuple" vs.toArray 0)).push (seqObj "list" #[] 0) }
  dsimp only
  by_cases h2 : vs.length < 2
  · have h2' : vs.toArray.size < 2 := by simpa using h2
    rw [if_pos h2', if_pos h2']
    refine wpAny_bind (wpAny_pure ?_)
    rw [StateT.run_pure]
    refine wpAny_bind (wpAny_pure ?_)
    dsimp only
    refine fin (SortSt.mk' general' (vs.toArray.zip vs.toArray) #[] 7 none) (List.toArray (List.range vs.length)) ⟨by simp⟩ (fun i j hij hj => ?_) ?_ rfl
    · have : i = j := by omega
      subst this
      exact Srt.irr O _
    · have e := kas_range (vs.toArray.zip vs.toArray)
      rw [show (vs.toArray.zip vs.toArray).size = vs.length by simp] at e
      exact kat_snds (ks := vs) rfl e.symm
  · have h2' : ¬ vs.toArray.size < 2 := by simpa using h2
    rw [if_neg h2', if_neg h2']
    refine wpAny_bind (wpAny_mono (hkind _ (fun κ s' => κ = κ0 ∧ s' = { s with heap := ((s.heap.update a (Obj.mapSeq fun _ => (#[] : Array Value))).push (seqObj "tuple" vs.toArray 0)).push (seqObj "list" #[] 0) }) k6 (by omega) ⟨rfl, rfl⟩) (fun κ s' hk => ?_) fun _ _ x => x.elim)
    obtain ⟨rfl, rfl⟩ := hk
    refine wpAny_bind (wpAny_mono (runs_any (s := { s with heap := ((s.heap.update a (Obj.mapSeq fun _ => (#[] : Array Value))).push (seqObj "tuple" vs.toArray 0)).push (seqObj "list" #[] 0) })
      (Q := fun st' => ∃ p : Array Nat, Srt.Pm vs.length p ∧ Srt.Up lt f p vs.length ∧ arrOf st' = p.map (kas_item (vs.toArray.zip vs.toArray)) ∧ failedOf st' = none) O f _ hf (fun i j C hi hj hC => hask _ i j C k6 hi hj hC) fun p st' a1 a2 a3 a4 => ⟨p, a1, a2, a3, a4⟩) ?_ fun _ _ e => e)
    · rintro ⟨⟨⟩, st'⟩ s' ⟨rfl, p, Pp, Up, har, hfl⟩
      dsimp only
      exact fin st' p Pp Up (kat_snds rfl har) hfl

theorem sorted_any {l : Addr} {vs : List Value} {Q : Value → Shared → Prop} {κt : Type} {lt : κt → κt → Bool} (O : Srt.Ord lt) (f : Nat → κt) (κ0 : SortKind) (hl : s.heap.IsList l vs.toArray) (hsz0 : vs.length ≤ 100000) (hf : ∀ i j, i < vs.length → j < vs.length → vs.getD i Value.none = vs.getD j Value.none → f i = f j)
    (hkind : ∀ (h6 : Heap) (Q : SortKind → Shared → Prop), (∀ b o, s.heap.get? b = some o → h6.get? b = some o) → 2 ≤ vs.length → Q κ0 { s with heap := h6 } → wpAny (model prog w) A.in1.in1 (keyKind' vs.toArray) Q (fun _ _ => False) { s with heap := h6 })
    (hask : ∀ (h6 : Heap) (i j : Nat) (C : Bool → Shared → Prop), (∀ b o, s.heap.get? b = some o → h6.get? b = some o) → i < vs.length → j < vs.length → C (lt (f i) (f j)) { s with heap := h6 } → kas_ask prog w A.in1.in1 κ0 vs i j C { s with heap := h6 })
    (h : ∀ p : Array Nat, Srt.Pm vs.length p → Srt.Up lt f p vs.length → Q (.ref (s.heap.objs.size + 1)) { s with heap := sortedAll s.heap vs (List.toArray (p.toList.map fun i => vs.getD i Value.none)) }) :
    wpAny (model prog w) A (call (.builtin "sorted") [.ref l]) Q E s := by
  refine Calls.call_function_entry kind_sorted plain_sorted entry_sorted (args_sorted1 _) ?_
  unfold Builtin.«sorted»
  refine wpAny_bind (m := checkCount "sorted" 1 1 _) (wpAny_pure ?_)
  refine wpAny_bind (collect_list hl ?_ (by rw [sizeLine_eq]; omega))
  refine wpAny_bind (wpAny_newList ?_ (by rw [sizeLine_eq]; omega))
  have hsz : ((s.heap.push (seqObj "list" #[] 0)).update s.heap.objs.size (Obj.mapSeq (· ++ vs.toArray))).objs.size = s.heap.objs.size + 1 := by
    rw [Heap.size_update, size_push']
  have hoL : (((s.heap.push (seqObj "list" #[] 0)).update s.heap.objs.size (Obj.mapSeq (· ++ vs.toArray))).push (seqObj "list" vs.toArray 0)).get? (s.heap.objs.size + 1) = some (seqObj "list" vs.toArray 0) := by
    rw [← hsz]; exact Heap.get?_push_size _ rfl
  have keep : ∀ b o, s.heap.get? b = some o → b ≠ s.heap.objs.size + 1 ∧ (((s.heap.push (seqObj "list" #[] 0)).update s.heap.objs.size (Obj.mapSeq (· ++ vs.toArray))).push (seqObj "list" vs.toArray 0)).get? b = some o := fun b o q => by
    have hlt : b < s.heap.objs.size := Heap.lt_size q
    refine ⟨Nat.ne_of_lt (Nat.lt_succ_of_lt hlt), ?_⟩
    rw [Heap.get?_push_ne _ _ _ (by rw [hsz]; exact Nat.ne_of_lt (Nat.lt_succ_of_lt hlt)), Heap.get?_update_ne _ _ _ _ (Nat.ne_of_lt hlt), Heap.get?_push_ne _ _ _ (Nat.ne_of_lt hlt)]
    exact q
  show wpAny _ _ _ _ _ { s with heap := ((s.heap.push (seqObj "list" #[] 0)).update s.heap.objs.size (Obj.mapSeq (· ++ vs.toArray))).push (seqObj "list" vs.toArray 0) }
  rw [hsz]
  refine wpAny_bind (wpAny_holding (wpAny_call_entry slot_list_sort ⟨_, hoL, rfl⟩ entry_list_sort ?body (args_list_sort _)))
  case body =>
    refine sort_any (s := { s with heap := ((s.heap.push (seqObj "list" #[] 0)).update s.heap.objs.size (Obj.mapSeq (· ++ vs.toArray))).push (seqObj "list" vs.toArray 0) }) O f κ0 hoL hsz0 hf
      (fun h6 Q' k6 h2 q => hkind h6 Q' (fun b o e => k6 b o (keep b o e).1 (keep b o e).2) h2 q) (fun h6 i j C k6 hi hj hC => hask h6 i j C (fun b o e => k6 b o (keep b o e).1 (keep b o e).2) hi hj hC) fun p Pp Up => ⟨_, rfl, ?_⟩
    exact wpAny_pure ⟨_, rfl, h p Pp Up⟩

end
end L2

set_option Elab.async false
set_option linter.all false
set_option maxRecDepth 100000
set_option maxHeartbeats 4000000
namespace L2
open PySem PySem.Spec PySem.W PyProof.Rows
/-! ### the order of rows of ints and texts -/
def ltK : Key → Key → Bool
  | .inl a, .inl b => decide (a < b)
  | .inr x, .inr y => decide (x.cps.toList < y.cps.toList)
  | .inl _, .inr _ => true
  | .inr _, .inl _ => false
theorem str_eq {x y : Str} (h1 : ¬ x.cps.toList < y.cps.toList) (h2 : ¬ y.cps.toList < x.cps.toList) : x = y := by
  have h : x.cps.toList = y.cps.toList := List.le_antisymm (List.not_lt.mp h2) (List.not_lt.mp h1)
  cases x; cases y
  simp only [Str.mk.injEq]
  exact Array.ext' h
theorem ltK_asym : ∀ a b : Key, ltK a b = true → ltK b a = false
  | .inl a, .inl b, h => by
    have := of_decide_eq_true h
    exact decide_eq_false (by omega)
  | .inr x, .inr y, h => decide_eq_false (List.lt_asymm (of_decide_eq_true h))
  | .inl _, .inr _, _ => rfl
  | .inr _, .inl _, h => by cases h
theorem ltK_total : ∀ a b : Key, ltK a b = false → ltK b a = false → a = b
  | .inl a, .inl b, h1, h2 => by
    have := of_decide_eq_false h1
    have := of_decide_eq_false h2
    exact congrArg Sum.inl (by omega)
  | .inr x, .inr y, h1, h2 => congrArg Sum.inr (str_eq (of_decide_eq_false h1) (of_decide_eq_false h2))
  | .inl _, .inr _, h, _ => by cases h
  | .inr _, .inl _, _, h => by cases h
theorem ltK_trans : ∀ a b c : Key, ltK a b = true → ltK b c = true → ltK a c = true
  | .inl a, .inl b, .inl c, h1, h2 => by
    have := of_decide_eq_true h1
    have := of_decide_eq_true h2
    exact decide_eq_true (by omega)
  | .inr x, .inr y, .inr z, h1, h2 => decide_eq_true (List.lt_trans (of_decide_eq_true h1) (of_decide_eq_true h2))
  | .inl _, _, .inr _, _, _ => rfl
  | .inl _, .inr _, .inl _, _, h => by cases h
  | .inr _, .inl _, _, h, _ => by cases h
  | .inr _, .inr _, .inl _, _, h => by cases h
theorem ltK_irr (a : Key) : ltK a a = false := by
  cases h : ltK a a with
  | false => rfl
  | true => rw [ltK_asym a a h] at h; cases h
def lexK : List Key → List Key → Bool
  | [], [] => false
  | [], _ :: _ => true
  | _ :: _, [] => false
  | x :: xs, y :: ys => if x = y then lexK xs ys else ltK x y
theorem lexK_asym : ∀ a b : List Key, lexK a b = true → lexK b a = false
  | [], [], h => by cases h
  | [], _ :: _, _ => rfl
  | _ :: _, [], h => by cases h
  | x :: xs, y :: ys, h => by
    unfold lexK at h ⊢
    by_cases e : x = y
    · rw [if_pos e] at h; rw [if_pos e.symm]; exact lexK_asym xs ys h
    · rw [if_neg e] at h; rw [if_neg (Ne.symm e)]; exact ltK_asym _ _ h
theorem lexK_trans : ∀ a b c : List Key, lexK b a = false → lexK c b = false → lexK c a = false
  | [], [], _, _, h => h
  | [], _ :: _, [], _, h2 => by cases h2
  | [], _ :: _, _ :: _, _, _ => rfl
  | _ :: _, [], _, h1, _ => by cases h1
  | _ :: _, _ :: _, [], _, h2 => by cases h2
  | x :: xs, y :: ys, z :: zs, h1, h2 => by
    unfold lexK at h1 h2 ⊢
    by_cases e1 : y = x
    · rw [if_pos e1] at h1
      by_cases e2 : z = y
      · rw [if_pos e2] at h2; rw [if_pos (e2.trans e1)]; exact lexK_trans xs ys zs h1 h2
      · rw [if_neg e2] at h2; rw [if_neg (fun h => e2 (h.trans e1.symm)), ← e1]; exact h2
    · rw [if_neg e1] at h1
      have lxy : ltK x y = true := by
        cases h : ltK x y with
        | true => rfl
        | false => exact absurd (ltK_total y x h1 h) e1
      by_cases e2 : z = y
      · subst e2
        rw [if_neg e1]; exact h1
      · rw [if_neg e2] at h2
        have lyz : ltK y z = true := by
          cases h : ltK y z with
          | true => rfl
          | false => exact absurd (ltK_total z y h2 h) e2
        have lxz := ltK_trans _ _ _ lxy lyz
        by_cases e3 : z = x
        · subst e3; rw [ltK_irr] at lxz; cases lxz
        · rw [if_neg e3]; exact ltK_asym _ _ lxz
theorem ordK : Srt.Ord lexK := ⟨fun a b c => lexK_trans a b c, lexK_asym⟩
theorem lexK_total : ∀ a b : List Key, lexK a b = false → lexK b a = false → a = b
  | [], [], _, _ => rfl
  | [], _ :: _, h, _ => by cases h
  | _ :: _, [], _, h => by cases h
  | x :: xs, y :: ys, h1, h2 => by
    unfold lexK at h1 h2
    by_cases e : x = y
    · rw [if_pos e] at h1; rw [if_pos e.symm] at h2; rw [e, lexK_total xs ys h1 h2]
    · rw [if_neg e] at h1; rw [if_neg (Ne.symm e)] at h2
      exact absurd (ltK_total _ _ h1 h2) e
/-- two lists in order, of the same rows, are one -/
theorem sorted_uniq : ∀ {a b : List (List Key)}, a.Perm b → a.Pairwise (fun x y => lexK y x = false) → b.Pairwise (fun x y => lexK y x = false) → a = b
  | [], b, p, _, _ => p.nil_eq
  | x :: r, b, p, ha, hb => by
    cases b with
    | nil => exact absurd p.length_eq (by simp)
    | cons y t =>
      have hx : x ∈ y :: t := p.mem_iff.mp List.mem_cons_self
      have hy : y ∈ x :: r := p.mem_iff.mpr List.mem_cons_self
      have e : x = y := by
        rcases List.mem_cons.mp hx with h | h
        · exact h
        · rcases List.mem_cons.mp hy with h' | h'
          · exact h'.symm
          · exact (lexK_total _ _ ((List.pairwise_cons.mp hb).1 x h) ((List.pairwise_cons.mp ha).1 y h')).symm ▸ rfl
      subst e
      rw [sorted_uniq (List.Perm.cons_inv p) (List.pairwise_cons.mp ha).2 (List.pairwise_cons.mp hb).2]
end L2

set_option Elab.async false
set_option linter.all false
set_option maxRecDepth 100000
set_option maxHeartbeats 4000000
namespace L2
open PySem PySem.Spec PySem.W PyProof.Rows
section
variable {prog : Program} {w : World} {A : Around} {E : Value → Shared → Prop} {s : Shared}
abbrev shape (r : List Key) : List Bool := r.map Sum.isLeft
theorem kat_keys {fin b : Bool} {C : Bool → Shared → Prop} {s : Shared} : ∀ (ns ms : List Key) (us ws : List Value) (i : Nat), Vals (ns.map kV) us → Vals (ms.map kV) ws → shape ns = shape ms → fin = decide (ns.length < ms.length) → C (lexK ns ms) s → KatLex prog w A b fin C (us.zip ws) i s
  | [], [], us, ws, i, hu, hw, _, hf, h => by
    rw [List.map_nil] at hu
    cases hu
    subst hf
    exact kat_nil h
  | [], _ :: _, _, _, _, _, _, e, _, _ => by simp [shape] at e
  | _ :: _, [], _, _, _, _, _, e, _, _ => by simp [shape] at e
  | n :: ns, m :: ms, us, ws, i, hu, hw, e, hf, h => by
    rw [List.map_cons] at hu hw
    rw [shape, shape, List.map_cons, List.map_cons] at e
    obtain ⟨e1, e2⟩ := List.cons.inj e
    cases hu with
    | @cons _ u _ us ru hu =>
      cases hw with
      | @cons _ v _ ws rv hw =>
        rw [List.zip_cons_cons]
        unfold lexK at h
        cases n with
        | inl x =>
          cases m with
          | inr y => cases e1
          | inl y =>
            obtain ⟨t, rfl⟩ := ru
            obtain ⟨t', rfl⟩ := rv
            refine kat_cons (SeqAt.EqAt.int_int x t y t' prog w _ _ ?_)
            by_cases e : x = y
            · rw [if_pos (congrArg Sum.inl e)] at h
              rw [show (x == y) = true by simpa using e]
              exact kat_yes (kat_keys ns ms _ _ (i + 1) hu hw e2 (by rw [hf]; simp) h)
            · rw [if_neg (fun z => e (Sum.inl.inj z))] at h
              rw [show (x == y) = false by simpa using e]
              refine kat_no ?_
              cases (b && i == 0) with
              | true => exact oneLt_int h
              | false => exact kat_one _ _ (lt_int h)
        | inr x =>
          cases m with
          | inl y => cases e1
          | inr y =>
            obtain ⟨t, rfl⟩ := ru
            obtain ⟨t', rfl⟩ := rv
            refine kat_cons (SeqAt.EqAt.str_str x t y t' prog w _ _ ?_)
            by_cases e : x = y
            · rw [if_pos (congrArg Sum.inr e)] at h
              rw [show (x == y) = true by simpa using e]
              exact kat_yes (kat_keys ns ms _ _ (i + 1) hu hw e2 (by rw [hf]; simp) h)
            · rw [if_neg (fun z => e (Sum.inr.inj z))] at h
              rw [show (x == y) = false by simpa using e]
              refine kat_no ?_
              cases (b && i == 0) with
              | true => exact kas_lt_str (t := t) (u := t') h
              | false => exact kat_one _ _ (lt_str h)
end
/-- a row of ints and texts -/
def IsK (K : PySem.W.Frag) (H : Hp) (x : V) (r : List Key) : Prop := ∃ t, x = .ref t ∧ SqT K H t (r.map kV)
section
variable {X : Cx}
theorem row_atK {pins : List (Addr × Obj)} {s : Shared} {σ : St} {H : Hp} (I : Inv X pins σ H s) {x : V} {v : Value} {r : List Key} (rv : RelV x v) (h : IsK X.K H x r) :
    ∃ t o its n, v = .ref t ∧ s.heap.get? t = some o ∧ o.cls = .type "tuple" ∧ o.data = .seq (List.toArray its) n ∧ Vals (r.map kV) its := by
  obtain ⟨t, rfl, ht⟩ := h
  cases rv
  obtain ⟨its, rv, ⟨o, e, hc, n, hd⟩, _⟩ := I.tuple ht
  exact ⟨t, o, its, n, rfl, e, hc, hd, rv⟩
theorem tups_ofK {pins : List (Addr × Obj)} {s : Shared} {σ : St} {H : Hp} {h6 : Heap} (I : Inv X pins σ H s) (k6 : ∀ b o, s.heap.get? b = some o → h6.get? b = some o) : ∀ {ys : List V} {its : List Value} {rows : List (List Key)}, Vals ys its → Paired (IsK X.K H) ys rows →
    (∀ r ∈ rows, ∃ i r', r = Sum.inl i :: r') → ∃ fs, KatTups h6 its fs ∧ fs.length = its.length ∧ ∀ v ∈ fs, ∃ n t, v = Value.int n t
  | _, _, _, .nil, .nil, _ => ⟨[], KatTups.nil, rfl, fun _ h => (nomatch h)⟩
  | _, _, r :: _, .cons rv t, .cons p q, hne => by
    obtain ⟨fs, h1, h2, h3⟩ := tups_ofK I k6 t q fun r hr => hne r (List.mem_cons_of_mem _ hr)
    obtain ⟨a, o, xs, n, rfl, e, hc, hd, hi⟩ := row_atK I rv p
    obtain ⟨i, r', rfl⟩ := hne r List.mem_cons_self
    rw [List.map_cons] at hi
    cases hi with
    | @cons _ f _ fr rf hi =>
      obtain ⟨tk, rfl⟩ := rf
      refine ⟨.int i tk :: fs, KatTups.cons (k6 _ _ e) hc hd rfl h1, by simp [h2], fun v hv => ?_⟩
      rcases List.mem_cons.mp hv with rfl | hv
      · exact ⟨i, tk, rfl⟩
      · exact h3 v hv
theorem keys_inj : ∀ {r r' : List Key}, r.map kV = r'.map kV → r = r'
  | [], [], _ => rfl
  | [], _ :: _, h => by simp at h
  | _ :: _, [], h => by simp at h
  | a :: r, b :: r', h => by
    rw [List.map_cons, List.map_cons] at h
    obtain ⟨h1, h2⟩ := List.cons.inj h
    have : a = b := by
      cases a <;> cases b <;> simp [kV] at h1 <;> rw [h1]
    rw [this, keys_inj h2]
/-- sorted(a list of rows of one shape, an int at first) -/
theorem call_sortedK : CallR X (.builtin "sorted") (fun xs H Q => ∃ (p : Addr) (ys : List V) (rows : List (List Key)) (R : V → List Key → Prop) (sh : List Bool), xs = [.ref p] ∧ SqL X.K H p ys ∧ (∀ x r, R x r → IsK X.K H x r) ∧ Paired R ys rows ∧ rows.length ≤ 100000 ∧ (∀ r ∈ rows, shape r = true :: sh) ∧
    ∀ (l : Addr) (ys' : List V) (rows' : List (List Key)), H l = none → rows'.Perm rows → rows'.Pairwise (fun a b => lexK b a = false) → Paired R ys' rows' → Q (.ref l) (upd H l (.lst ys'))) := by
  intro pins s σ H xs us Q I r h
  obtain ⟨p, ys, rows, R, sh, rfl, hq, hR, pr, hbig, hsh, h⟩ := h
  obtain ⟨u, rfl, rx⟩ := vals1 r
  cases rx
  obtain ⟨its, rv, pl, hz⟩ := I.list hq
  have l1 := rv.length
  have l2 := Paired.length pr
  have hne : ∀ r ∈ rows, ∃ i r', r = Sum.inl i :: r' := fun r hr => by
    have := hsh r hr
    cases r with
    | nil => simp [shape] at this
    | cons a r' =>
      cases a with
      | inl i => exact ⟨i, r', rfl⟩
      | inr x => simp [shape] at this
  have one : ∀ i, i < ys.length → ∃ v a, its[i]? = some v ∧ rows[i]? = some a ∧ RelV (ys.getD i .non) v ∧ R (ys.getD i .non) a := fun i hi => by
    obtain ⟨v, ev, rvi⟩ := rv.get (i := i) (x := ys[i]) (by simp [hi])
    obtain ⟨a, ea, ra⟩ := Paired.getL pr (i := i) (a := ys[i]) (by simp [hi])
    have e : ys.getD i .non = ys[i] := by simp [hi]
    exact ⟨v, a, ev, ea, by rw [e]; exact rvi, by rw [e]; exact ra⟩
  refine sorted_any ordK (fun i => rows.getD i []) (tuples' true) pl.isList (by omega) (fun i j hi hj e => ?_) (fun h6 Q' k6 h2 q => ?_) (fun h6 i j C k6 hi hj hC => ?_) fun P Pp Up => ?_
  · obtain ⟨v, a, ev, ea, rvi, ra⟩ := one i (by omega)
    obtain ⟨u, b, eu, eb, rvj, rb⟩ := one j (by omega)
    rw [List.getD_eq_getElem?_getD, List.getD_eq_getElem?_getD, ev, eu] at e
    have e : v = u := e
    subst e
    show rows.getD i [] = rows.getD j []
    rw [List.getD_eq_getElem?_getD, List.getD_eq_getElem?_getD, ea, eb]
    obtain ⟨t, ex, ht⟩ := hR _ _ ra
    obtain ⟨t', ex', ht'⟩ := hR _ _ rb
    rw [ex] at rvi
    rw [ex'] at rvj
    cases rvi
    cases rvj
    exact keys_inj (I.tuple_inj ht ht')
  · obtain ⟨fs, t1, t2, t3⟩ := tups_ofK I k6 rv (Paired.imp' (fun a b q => hR a b q) pr) hne
    refine kat_kind (s := { s with heap := h6 }) (fs := fs) (T := .type "int") t1 (by omega) (fun v hv => ?_) (by decide) ?_
    · obtain ⟨n, t, rfl⟩ := t3 v hv
      exact fun A Q E s _ q => wpAny_pure q
    · exact q
  · unfold kas_ask
    obtain ⟨v, a, ev, ea, rvi, ra⟩ := one i (by omega)
    obtain ⟨u, b, eu, eb, rvj, rb⟩ := one j (by omega)
    have e1 : its.getD i Value.none = v := by rw [List.getD_eq_getElem?_getD, ev]; rfl
    have e2 : its.getD j Value.none = u := by rw [List.getD_eq_getElem?_getD, eu]; rfl
    have e3 : rows.getD i [] = a := by rw [List.getD_eq_getElem?_getD, ea]; rfl
    have e4 : rows.getD j [] = b := by rw [List.getD_eq_getElem?_getD, eb]; rfl
    rw [e1, e2]
    rw [e3, e4] at hC
    obtain ⟨x, ox, xs, n, rfl, ex, _, dx, ix⟩ := row_atK I rvi (hR _ _ ra)
    obtain ⟨y, oy, zs, k, rfl, ey, _, dy, iy⟩ := row_atK I rvj (hR _ _ rb)
    refine kat_lt (s := { s with heap := h6 }) (k6 _ _ ex) dx (k6 _ _ ey) dy (kat_keys a b _ _ 0 ix iy ((hsh a (List.mem_of_getElem? ea)).trans (hsh b (List.mem_of_getElem? eb)).symm) ?_ hC)
    have q1 := ix.length
    have q2 := iy.length
    rw [List.length_map] at q1 q2
    rw [List.size_toArray, List.size_toArray, q1, q2]
  · obtain ⟨e, he⟩ := sortedAll_at s.heap its (List.toArray (P.toList.map fun i => its.getD i Value.none))
    have mem : ∀ i ∈ P.toList, i < ys.length := fun i hi => by
      have := List.mem_range.mp (Pp.perm.mem_iff.mp hi)
      omega
    have hv : Vals (P.toList.map fun i => ys.getD i .non) (P.toList.map fun i => its.getD i Value.none) := Paired.mapL fun i hi => by
      obtain ⟨v, a, ev, ea, rvi, ra⟩ := one i (mem i hi)
      rw [List.getD_eq_getElem?_getD (l := its), ev]
      exact rvi
    have hr : Paired R (P.toList.map fun i => ys.getD i .non) (P.toList.map fun i => rows.getD i []) := Paired.mapL fun i hi => by
      obtain ⟨v, a, ev, ea, rvi, ra⟩ := one i (mem i hi)
      rw [List.getD_eq_getElem?_getD (l := rows), ea]
      exact ra
    have hpl : P.toList.length = its.length := by rw [Array.length_toList, Pp.size]
    refine ⟨.ref (s.heap.objs.size + 1), _, I.laid (t' := s.toks) (o := .lst (P.toList.map fun i => ys.getD i .non)) (fun b o q => sortedAll_old q) (Nat.le_succ _) ?_, rfl, h _ _ _ (I.hok.fresh (Nat.le_succ _)) ?_ ?_ hr⟩
    · exact ⟨by rw [List.length_map]; omega, _, e, hv, he⟩
    · have q := Pp.perm.map fun i => rows.getD i []
      have e : its.length = rows.length := by omega
      rw [e, map_getD_range] at q
      exact q
    · rw [List.pairwise_iff_getElem]
      intro i j hi hj hij
      have hj' : j < its.length := by rw [List.length_map] at hj; omega
      have q := Up i j (Nat.le_of_lt hij) hj'
      have gi : P.getD i 0 = P.toList[i]'(by rw [hpl]; omega) := by
        have : i < P.size := by rw [Pp.size]; omega
        simp [Array.getD, this]
      have gj : P.getD j 0 = P.toList[j]'(by rw [hpl]; omega) := by
        have : j < P.size := by rw [Pp.size]; omega
        simp [Array.getD, this]
      unfold Srt.ky at q
      rw [gi, gj] at q
      simpa using q
end
end L2

set_option Elab.async false
set_option linter.all false
set_option maxRecDepth 100000
set_option maxHeartbeats 4000000
namespace L2
open PySem PySem.Spec PySem.W PyProof.Rows
/-! ### enumerate of a list -/
def Ite (K : PySem.W.Frag) (a : Addr) : It :=
  ⟨fun i H => ∃ (xs : List V) (x : V), SqL K H a xs ∧ xs[i]? = some x,
   fun i H v H' => ∃ (T : Addr) (x : V), v = .ref T ∧ H T = none ∧ H' = upd H T (.tup [.int i, x]) ∧ ∀ xs, SqL K H a xs → xs[i]? = some x,
   fun i H => ∃ xs, SqL K H a xs ∧ xs.length ≤ i⟩
def EnSt (z i1 a : Addr) (i : Nat) (h : Heap) : Prop := (∃ old, IsEnum h z i1 (i : Int) old) ∧ h.IsListIter i1 a i
theorem turn_enum {P : Program} {w : World} {K : PySem.W.Frag} {elts : List Expr} {x1} {tp : Pos} {z i1 a : Addr} (hne : z ≠ i1) : Turn P w K (.Tuple elts x1 tp) (Ite K a) [z, i1] z (EnSt z i1 a) where
  mem := by simp
  obj := fun i h st c hc => by
    obtain ⟨⟨old, hz⟩, ⟨o1, e1, _, d1⟩⟩ := st
    simp only [List.mem_cons, List.not_mem_nil, or_false] at hc
    rcases hc with rfl | rfl
    · exact ⟨_, hz, fun v e => by cases e⟩
    · exact ⟨_, e1, fun v e => by rw [d1] at e; cases e⟩
  keep := fun i h h' st k => by
    obtain ⟨⟨old, hz⟩, h1⟩ := st
    exact ⟨⟨old, k z (by simp) _ hz⟩, h1.at fun o e => k i1 (by simp) o e⟩
  item := fun X hp hw hK hc i pins s σ H E I fp st go => by
    subst hp hw hK
    obtain ⟨⟨old, hz⟩, h1⟩ := st
    obtain ⟨xs, x, qa, ex⟩ := go
    obtain ⟨vs, rv, pv, _⟩ := I.list qa
    obtain ⟨vx, evx, rvx⟩ := rv.get ex
    refine wpAny_pyNext_enum_item hz h1 pv.isList (x := vx) (by simpa using evx) hne fun h' a1 a2 a3 a4 hk => ?_
    refine ⟨_, rfl, wpAny_letOwnedTupleGo_enum a1 fun h'' b1 b2 => ?_⟩
    have nz : s.heap.objs.size ≠ z := Nat.ne_of_gt (Heap.lt_size hz)
    have k2 : ∀ c o, c ∉ [z, i1] → s.heap.get? c = some o → h''.get? c = some o := fun c o hcn e => by
      simp only [List.mem_cons, List.not_mem_nil, or_false, not_or] at hcn
      exact b2.extBut _ _ hcn.1 (hk c o hcn.1 hcn.2 e)
    have I' : Inv X pins σ (upd H s.heap.objs.size (.tup [.int i, x])) { s with heap := h'', toks := s.toks + 1 } :=
      I.turnLay (ch := [z, i1]) k2 (fun c hcn => fp c hcn) (Nat.le_refl _)
        ⟨by show 2 ≤ sizeLine; decide, [.int i s.toks, vx], .cons ⟨_, rfl⟩ (.cons rvx .nil), ⟨_, b2.extBut _ _ nz a3, rfl, _, rfl⟩⟩
    have nf : H s.heap.objs.size = none := I.hok.fresh (Nat.le_refl _)
    refine ⟨.ref s.heap.objs.size, _, I', rfl, ⟨_, x, rfl, nf, rfl, fun xs' q => ?_⟩, ⟨⟨_, b1⟩, a2.extBut b2.extBut hne.symm⟩, fun c hcn => ?_⟩
    · rw [I.list_inj q qa]; exact ex
    · have hc1 := fp c hcn
      have : c ≠ s.heap.objs.size := by
        have hlt : c < s.heap.objs.size := by
          simp only [List.mem_cons, List.not_mem_nil, or_false] at hcn
          rcases hcn with rfl | rfl
          · exact Heap.lt_size hz
          · obtain ⟨_, e, _⟩ := h1; exact Heap.lt_size e
        exact Nat.ne_of_lt hlt
      rw [upd_ne this]
      exact hc1.1
  done := fun X hp hw hK hc i pins s σ H E I fp st stop => by
    subst hp hw hK
    obtain ⟨⟨old, hz⟩, h1⟩ := st
    obtain ⟨xs, qa, hend⟩ := stop
    obtain ⟨vs, rv, pv, _⟩ := I.list qa
    have l1 := rv.length
    refine wpAny_pyNext_enum_end (I.ok.hd hc) hz h1 pv.isList (by rw [Array.getElem?_eq_none_iff, List.size_toArray]; omega) fun h' hk => ⟨rfl, ?_⟩
    refine I.turnedL (ch := [z, i1]) (t' := s.toks) (fun c o hcn e => ?_) (fun c hcn => fp c hcn)
    simp only [List.mem_cons, List.not_mem_nil, or_false, not_or] at hcn
    exact hk c o hcn.2 e
  self := fun A i s Q E st h => by
    obtain ⟨⟨old, hz⟩, _⟩ := st
    exact wpAny_pyIter_enum hz h
def iEnum (K : PySem.W.Frag) (ta : TA) : TI := fun σ H R => ta σ H fun vs H1 => ∃ (a : Addr) (xs : List V), vs = [.ref a] ∧ SqL K H1 a xs ∧ R (Ite K a) H1
theorem pi_enum {X : Cx} {elts : List Expr} {x1} {tp : Pos} {e1 : Expr} {ta : TA} {p pos : Pos} (hg : Gl X "enumerate") (hm : X.mg "enumerate" = none) (ha : PA X [e1] ta) (hs : starEach [e1] X.env = [(false, eval e1 X.env)] := by rfl) :
    PI X (.Tuple elts x1 tp) (.Call (.Name "enumerate" p) [e1] [] pos) (iEnum X.K ta) := by
  intro pins s σ H R I h
  refine Call_ (ld_blt I hg hm (by rfl) (PyProof.Rows.callWith_type1 (thn (ha pos pins s σ H _ I h) fun us s1 ⟨vs, H1, I1, r1, q1⟩ => ?_) hs rfl))
  obtain ⟨a, xs, rfl, qa, q⟩ := q1
  obtain ⟨u, rfl, ru⟩ := vals1 r1
  cases ru
  obtain ⟨vs, rva, pa, _⟩ := I1.list qa
  refine call_enumerate_list pa.isList fun h' hz hi1 hsz hk => ?_
  refine wpAny_pyIter_enum hz ?_
  have I2 : Inv X pins σ H1 { s1 with heap := h' } := I1.kept (t' := s1.toks) hk
  refine ⟨_, [s1.heap.objs.size + 1, s1.heap.objs.size], _, _, H1, rfl, I2, turn_enum (a := a) (Nat.ne_of_gt (Nat.lt_succ_self _)), ⟨⟨_, hz⟩, hi1⟩, fun c hc => ?_, q⟩
  have hge : s1.heap.objs.size ≤ c := by
    simp only [List.mem_cons, List.not_mem_nil, or_false] at hc
    rcases hc with rfl | rfl
    all_goals first | exact Nat.le_refl _ | exact Nat.le_add_right _ _
  exact I1.fpOk hge (I1.hok.fresh hge)
/-- the loop over enumerate(a list that stays) -/
theorem for_enum {K : PySem.W.Frag} {a : Addr} {xs : List V} {g : TG} {tb : TS} {D : Ends} {σ : St} {H : Hp} (Pv : Nat → St → Hp → Prop) (h0 : Pv 0 σ H) (hl : ∀ i σ H, i ≤ xs.length → Pv i σ H → SqL K H a xs)
    (hs : ∀ i x σ H T, xs[i]? = some x → Pv i σ H → H T = none → g (.ref T) σ (upd H T (.tup [.int i, x])) fun σ2 H2 => tb { D with nx := Pv (i + 1), ct := Pv (i + 1), bk := D.nx } σ2 H2) (hd : ∀ σ H, Pv xs.length σ H → D.nx σ H) :
    ∃ W : Nat → Nat → St → Hp → Prop, (∃ m, W 0 m σ H) ∧ ∀ i m σ H, W i m σ H →
      ((Ite K a).stop i H ∧ D.nx σ H) ∨ ((Ite K a).go i H ∧ ∃ N : St → Hp → Prop, (∀ σ' H', N σ' H' → ∃ m', m' < m ∧ W (i + 1) m' σ' H') ∧ ∀ x H', (Ite K a).yld i H x H' → g x σ H' fun σ2 H2 => tb { D with nx := N, ct := N, bk := D.nx } σ2 H2) := by
  refine ⟨fun i m σ H => m = xs.length - i ∧ i ≤ xs.length ∧ Pv i σ H, ⟨xs.length, by simp, Nat.zero_le _, h0⟩, ?_⟩
  rintro i m σ H ⟨rfl, hi, p⟩
  have q := hl i σ H hi p
  by_cases hlt : i < xs.length
  · refine .inr ⟨⟨xs, xs[i], q, by simp [hlt]⟩, Pv (i + 1), fun σ' H' p' => ⟨xs.length - (i + 1), by omega, rfl, hlt, p'⟩, fun x H' y => ?_⟩
    obtain ⟨T, x', rfl, hT, rfl, hx⟩ := y
    exact hs i x' σ H T (hx xs q) p hT
  · have e : i = xs.length := by omega
    subst e
    exact .inl ⟨⟨xs, q, Nat.le_refl _⟩, hd σ H p⟩
section
variable {X : Cx}
theorem call_list_ofK {K : PySem.W.Frag} (hK : X.K = K) : CallR X (.type "list") (fun xs H Q => ∃ p ys, xs = [.ref p] ∧ (SqL K H p ys ∨ SqT K H p ys) ∧ ∀ l, H l = none → Q (.ref l) (upd H l (.lst ys))) := by subst hK; exact call_list_of
theorem huN {A : Around} {k : Nat} (hr : Room k A) (n : Nat) (h : n ≤ 62 := by decide) : A.units + 1 + n < cLine := by have := hr.units; omega
theorem vals3 {x y z : V} {us : List Value} (r : Vals [x, y, z] us) : ∃ u v t, us = [u, v, t] ∧ RelV x u ∧ RelV y v ∧ RelV z t := by
  cases r with
  | cons a r => cases r with
    | cons b r => cases r with
      | cons c r => cases r; exact ⟨_, _, _, rfl, a, b, c⟩
theorem call_min3 (hc : X.calm = true) : CallR X (.builtin "min") (fun xs H Q => ∃ i j k : Int, xs = [.int i, .int j, .int k] ∧ Q (.int (min i (min j k))) H) := by
  intro pins s σ H xs us Q I r h
  obtain ⟨i, j, k, rfl, q⟩ := h
  obtain ⟨u, v, t, rfl, ⟨t1, rfl⟩, ⟨t2, rfl⟩, ⟨t3, rfl⟩⟩ := vals3 r
  refine min_three_ints (I.ok.hd hc) fun h' tk kk => ⟨_, H, I.kept kk, ?_, q⟩
  by_cases h1 : j < i
  · rw [if_pos h1]
    by_cases h2 : k < j
    · rw [if_pos h2, show min i (min j k) = k by omega]; exact ⟨_, rfl⟩
    · rw [if_neg h2, show min i (min j k) = j by omega]; exact ⟨_, rfl⟩
  · rw [if_neg h1]
    by_cases h2 : k < i
    · rw [if_pos h2, show min i (min j k) = k by omega]; exact ⟨_, rfl⟩
    · rw [if_neg h2, show min i (min j k) = i by omega]; exact ⟨_, rfl⟩
/-! ### alike, as deep as need be -/
def Alike (K : PySem.W.Frag) : Nat → Hp → V → V → Prop
  | 0, H, x, y => (plainV x = true ∧ x = y) ∨ ∃ r, IsTp K H x r ∧ IsTp K H y r
  | n + 1, H, x, y => Alike K n H x y ∨ ∃ p q xs ys, x = .ref p ∧ y = .ref q ∧ SqL K H p xs ∧ SqL K H q ys ∧ Paired (Alike K n H) xs ys
theorem alike_at : ∀ (n : Nat) {pins : List (Addr × Obj)} {s : Shared} {σ : St} {H : Hp} {x y : V} {v u : Value} {A : Around}, Inv X pins σ H s → RelV x v → RelV y u → Alike X.K n H x y → A.units + n < cLine → SeqAt.EqAt A s v u true
  | 0, pins, s, σ, H, x, y, v, u, A, I, rv, ru, h, hu => by
    rcases h with ⟨hp, rfl⟩ | ⟨r, h1, h2⟩
    · have := eqAt_plain (A := A) (s := s) rv ru hp hp
      rw [decide_eq_true rfl] at this; exact this
    · have := eqR_tup (X := X) pins s σ H x y v u r r A I rv ru h1 h2 (by omega)
      rw [decide_eq_true rfl] at this; exact this
  | n + 1, pins, s, σ, H, x, y, v, u, A, I, rv, ru, h, hu => by
    rcases h with h | ⟨p, q, xs, ys, rfl, rfl, hp, hq, hpr⟩
    · exact alike_at n I rv ru h (by omega)
    · cases rv; cases ru
      by_cases e : p = q
      · subst e; exact SeqAt.EqAt.same _
      · refine SeqAt.EqAt.of_refs e ?_
        obtain ⟨vs, r1, pl, _⟩ := I.list hp
        obtain ⟨us, r2, pu, _⟩ := I.list hq
        have l1 := r1.length
        have l2 := r2.length
        have l3 := Paired.length hpr
        have key := SeqAt.RcAt.lists (A := A) (s := s) (e := fun _ => true) pl.isList pu.isList (by rw [List.size_toArray, List.size_toArray]; omega) (by omega) fun j h1 h2 => ?_
        · rw [show ((List.range vs.toArray.size).all fun _ => true) = true by simp] at key
          exact key
        · have h1' : j < xs.length := by rw [l1]; simpa using h1
          obtain ⟨v, ev, rv⟩ := r1.get (i := j) (x := xs[j]) (by simp [h1'])
          obtain ⟨y, ey, ay⟩ := Paired.getL hpr (i := j) (a := xs[j]) (by simp [h1'])
          obtain ⟨u, eu, ru⟩ := r2.get ey
          have e1 : vs.toArray[j] = v := by
            have := (List.getElem?_eq_some_iff.mp ev).2
            simpa using this
          have e2 : us.toArray[j] = u := by
            have := (List.getElem?_eq_some_iff.mp eu).2
            simpa using this
          rw [e1, e2]
          exact alike_at n I rv ru ay (by show A.units + 1 + n < cLine; omega)
def rAlk (K : PySem.W.Frag) (n : Nat) (b : Bool) : R2 := fun x y H Q => ∃ p q xs ys, x = .ref p ∧ y = .ref q ∧ SqL K H p xs ∧ SqL K H q ys ∧ Paired (Alike K n H) xs ys ∧ Q (.bl b) H
theorem op_neA (n : Nat) (hu : X.A.units + 1 + n < cLine) : OpR X (compareOp .NotEq) (rAlk X.K n false) := by
  intro pins s σ H x y v u Q I rx ry h
  obtain ⟨p, q, xs, ys, rfl, rfl, hp, hq, hpr, h⟩ := h
  cases rx
  cases ry
  obtain ⟨vs, r1, pl, _⟩ := I.list hp
  obtain ⟨us, r2, pu, _⟩ := I.list hq
  have l1 := r1.length
  have l2 := r2.length
  have l3 := Paired.length hpr
  refine SeqAt.RcNeAt.lists (e := fun _ => true) pl.isList pu.isList (by rw [List.size_toArray, List.size_toArray]; omega) (by omega) (fun j h1 h2 => ?_) X.prog X.w X.xe _ ⟨.bl _, H, I, rfl, ?_⟩
  · have h1' : j < xs.length := by rw [l1]; simpa using h1
    obtain ⟨v, ev, rv⟩ := r1.get (i := j) (x := xs[j]) (by simp [h1'])
    obtain ⟨y, ey, ay⟩ := Paired.getL hpr (i := j) (a := xs[j]) (by simp [h1'])
    obtain ⟨u, eu, ru⟩ := r2.get ey
    have e1 : vs.toArray[j] = v := by
      have := (List.getElem?_eq_some_iff.mp ev).2
      simpa using this
    have e2 : us.toArray[j] = u := by
      have := (List.getElem?_eq_some_iff.mp eu).2
      simpa using this
    rw [e1, e2]
    exact alike_at n I rv ru ay (by show X.A.units + 1 + n < cLine; omega)
  · rw [show ((List.range vs.toArray.size).all fun _ => true) = true by simp]
    exact h
end
end L2

set_option Elab.async false
set_option linter.all false
set_option maxRecDepth 100000
set_option maxHeartbeats 4000000
/-! ### the text by places -/
namespace My
open PySem L2
def top (i : Nat) : Stmt := PySem.Challenge.pw_dueyard_k31_shares_end_to_end.main.body.getD i (.Pass ⟨0, 0, 0, 0⟩)
abbrev s_laid_in_cell : Stmt := top 1
theorem sc_laid_in_cell : FnScope ["load", "first", "turns", "own_shares", "plan", "job", "share", "start", "position"] ["load", "first", "turns", "own_shares"] (defScope s_laid_in_cell) := ⟨rfl, rfl, rfl, by decide +kernel, rfl, by decide +kernel, by decide +kernel⟩
abbrev s_laid : Stmt := top 2
theorem sc_laid : FnScope ["load", "cells", "shares", "plan", "place", "cell", "own_shares"] ["load", "cells", "shares"] (defScope s_laid) := ⟨rfl, rfl, rfl, by decide +kernel, rfl, by decide +kernel, by decide +kernel⟩
abbrev s_law_cell : Stmt := top 4
theorem sc_law_cell : FnScope ["_law_script", "_law_k", "_law_number"] ["_law_script", "_law_k"] (defScope s_law_cell) := ⟨rfl, rfl, rfl, by decide +kernel, rfl, by decide +kernel, by decide +kernel⟩
abbrev s_law_names : Stmt := top 5
theorem sc_law_names : FnScope ["_law_cell_here", "_law_many", "_law_letters", "_law_size", "_law_at", "_law_names_here", "_law_k", "_law_name", "_law_j", "_law_place"] ["_law_cell_here", "_law_many"] (defScope s_law_names) := ⟨rfl, rfl, rfl, by decide +kernel, rfl, by decide +kernel, by decide +kernel⟩
abbrev s_law_whole : Stmt := top 6
theorem sc_law_whole : FnScope ["_law_found"] ["_law_found"] (defScope s_law_whole) := ⟨rfl, rfl, rfl, by decide +kernel, rfl, by decide +kernel, by decide +kernel⟩
abbrev s_law_rows : Stmt := top 7
theorem sc_law_rows : FnScope ["_law_found", "_law_due_here", "_law_row"] ["_law_found", "_law_due_here"] (defScope s_law_rows) := ⟨rfl, rfl, rfl, by decide +kernel, rfl, by decide +kernel, by decide +kernel⟩
abbrev s_law_cells : Stmt := top 8
theorem sc_law_cells : FnScope ["_law_script", "_law_many", "_law_pieces", "_law_turn", "_law_k", "_law_cell_here", "_law_first", "_law_turns"] ["_law_script", "_law_many"] (defScope s_law_cells) := ⟨rfl, rfl, rfl, by decide +kernel, rfl, by decide +kernel, by decide +kernel⟩
abbrev s_law_shares : Stmt := top 9
theorem sc_law_shares : FnScope ["_law_script", "_law_breadths", "_law_pieces", "_law_rooms", "_law_shares_here", "_law_j", "_law_breadth", "_law_some", "_law_k", "_law_cell_here", "_law_most", "_law_number", "_law_share"] ["_law_script", "_law_breadths", "_law_pieces"] (defScope s_law_shares) := ⟨rfl, rfl, rfl, by decide +kernel, rfl, by decide +kernel, by decide +kernel⟩
abbrev s_law_cell_due : Stmt := top 10
theorem sc_law_cell_due : FnScope ["_law_cell_here", "_law_names_here", "_law_due_here", "_law_machine", "_law_turn"] ["_law_cell_here", "_law_names_here"] (defScope s_law_cell_due) := ⟨rfl, rfl, rfl, by decide +kernel, rfl, by decide +kernel, by decide +kernel⟩
abbrev s_law_due : Stmt := top 11
theorem sc_law_due : FnScope ["_law_load", "_law_pieces", "_law_shares_here", "_law_due_here", "_law_k", "_law_cell_here", "_law_names_here", "_law_job", "_law_some"] ["_law_load", "_law_pieces", "_law_shares_here"] (defScope s_law_due) := ⟨rfl, rfl, rfl, by decide +kernel, rfl, by decide +kernel, by decide +kernel⟩
abbrev s_law : Stmt := top 12
theorem sc_law : FnScope ["_law_script", "_law_many", "_law_names_here", "_law_pieces", "_law_breadths", "_law_shares_here", "_law_load", "_law_j", "_law_name", "_law_first", "_law_last", "_law_handed", "_law_found", "_law_due_here"] ["_law_script"] (defScope s_law) := ⟨rfl, rfl, rfl, by decide +kernel, rfl, by decide +kernel, by decide +kernel⟩

structure Txt (K : PySem.W.Frag) (mg : Str → Option Value) where
  f_laid_in_cell : Addr
  fd_laid_in_cell : FuncData
  d_laid_in_cell : Dfn K mg "laid_in_cell" s_laid_in_cell ["load", "first", "turns", "own_shares"] f_laid_in_cell fd_laid_in_cell
  f_laid : Addr
  fd_laid : FuncData
  d_laid : Dfn K mg "laid" s_laid ["load", "cells", "shares"] f_laid fd_laid
  f_law_cell : Addr
  fd_law_cell : FuncData
  d_law_cell : Dfn K mg "_law_cell" s_law_cell ["_law_script", "_law_k"] f_law_cell fd_law_cell
  f_law_names : Addr
  fd_law_names : FuncData
  d_law_names : Dfn K mg "_law_names" s_law_names ["_law_cell_here", "_law_many"] f_law_names fd_law_names
  f_law_whole : Addr
  fd_law_whole : FuncData
  d_law_whole : Dfn K mg "_law_whole" s_law_whole ["_law_found"] f_law_whole fd_law_whole
  f_law_rows : Addr
  fd_law_rows : FuncData
  d_law_rows : Dfn K mg "_law_rows" s_law_rows ["_law_found", "_law_due_here"] f_law_rows fd_law_rows
  f_law_cells : Addr
  fd_law_cells : FuncData
  d_law_cells : Dfn K mg "_law_cells" s_law_cells ["_law_script", "_law_many"] f_law_cells fd_law_cells
  f_law_shares : Addr
  fd_law_shares : FuncData
  d_law_shares : Dfn K mg "_law_shares" s_law_shares ["_law_script", "_law_breadths", "_law_pieces"] f_law_shares fd_law_shares
  f_law_cell_due : Addr
  fd_law_cell_due : FuncData
  d_law_cell_due : Dfn K mg "_law_cell_due" s_law_cell_due ["_law_cell_here", "_law_names_here"] f_law_cell_due fd_law_cell_due
  f_law_due : Addr
  fd_law_due : FuncData
  d_law_due : Dfn K mg "_law_due" s_law_due ["_law_load", "_law_pieces", "_law_shares_here"] f_law_due fd_law_due
  f_law : Addr
  fd_law : FuncData
  d_law : Dfn K mg "law" s_law ["_law_script"] f_law fd_law
  n_bool : mg "bool" = none
  n_enumerate : mg "enumerate" = none
  n_int : mg "int" = none
  n_isinstance : mg "isinstance" = none
  n_len : mg "len" = none
  n_list : mg "list" = none
  n_max : mg "max" = none
  n_min : mg "min" = none
  n_range : mg "range" = none
  n_sorted : mg "sorted" = none
  n_str : mg "str" = none
  n_sum : mg "sum" = none
  n_tuple : mg "tuple" = none
  n_zip : mg "zip" = none

theorem max_if (i j : Int) : (if j > i then j else i) = max i j := by
  by_cases h : j > i
  · rw [if_pos h]; omega
  · rw [if_neg h]; omega
/-- a job -/
structure J where
  nm : Str
  f : Int
  l : Int
  w : Int
  b : Int
def J.vs (j : J) : List V := [.str j.nm, .int j.f, .int j.l, .int j.w, .int j.b]
def JobAt (H : Hp) (x : V) (j : J) : Prop := ∃ t, x = .ref t ∧ H t = some (.tup j.vs)
def Jobs (H : Hp) (xs : List V) (js : List J) : Prop := Paired (JobAt H) xs js
theorem Jobs.mono {H H' : Hp} (s : Same H H') {xs : List V} {js : List J} (h : Jobs H xs js) : Jobs H' xs js := Paired.imp' (fun _ _ ⟨t, e, q⟩ => ⟨t, e, s _ _ q⟩) h
theorem Jobs.len {H : Hp} {xs : List V} {js : List J} (h : Jobs H xs js) : xs.length = js.length := Paired.length h
theorem Jobs.get {H : Hp} {xs : List V} {js : List J} {i : Nat} {x : V} (h : Jobs H xs js) (e : xs[i]? = some x) : ∃ j t, js[i]? = some j ∧ x = .ref t ∧ H t = some (.tup j.vs) := by
  obtain ⟨j, ej, t, q1, q2⟩ := Paired.getL h e
  exact ⟨j, t, ej, q1, q2⟩
theorem Jobs.stay {H : Hp} {D : Addr} {xs : List V} {js : List J} {acc acc' : List V} (hD : H D = some (.lst acc)) (h : Jobs H xs js) : Jobs (upd H D (.lst acc')) xs js := Paired.imp' (fun x r z => by
  obtain ⟨t', e', q'⟩ := z
  refine ⟨t', e', ?_⟩
  rw [upd_ne (fun e => by rw [e, hD] at q'; cases q')]
  exact q') h
theorem Jobs.snoc {H : Hp} {xs : List V} {js : List J} {t : Addr} {j : J} (h : Jobs H xs js) (ht : H t = some (.tup j.vs)) : Jobs H (xs ++ [.ref t]) (js ++ [j]) := Paired.append' h (.cons ⟨t, rfl, ht⟩ .nil)
/-- a row of a plan -/
def RowK (H : Hp) (x : V) (r : List Key) : Prop := ∃ t, x = .ref t ∧ H t = some (.tup (r.map kV))
def Pln (H : Hp) (xs : List V) (rows : List (List Key)) : Prop := Paired (RowK H) xs rows
theorem Pln.mono {H H' : Hp} (s : Same H H') {xs : List V} {rows : List (List Key)} (h : Pln H xs rows) : Pln H' xs rows := Paired.imp' (fun _ _ ⟨t, e, q⟩ => ⟨t, e, s _ _ q⟩) h
theorem Pln.len {H : Hp} {xs : List V} {rows : List (List Key)} (h : Pln H xs rows) : xs.length = rows.length := Paired.length h
theorem Pln.stay {H : Hp} {D : Addr} {xs : List V} {rows : List (List Key)} {acc acc' : List V} (hD : H D = some (.lst acc)) (h : Pln H xs rows) : Pln (upd H D (.lst acc')) xs rows := Paired.imp' (fun x r z => by
  obtain ⟨t', e', q'⟩ := z
  refine ⟨t', e', ?_⟩
  rw [upd_ne (fun e => by rw [e, hD] at q'; cases q')]
  exact q') h
theorem Pln.snoc {H : Hp} {xs : List V} {rows : List (List Key)} {t : Addr} {r : List Key} (h : Pln H xs rows) (ht : H t = some (.tup (r.map kV))) : Pln H (xs ++ [.ref t]) (rows ++ [r]) := Paired.append' h (.cons ⟨t, rfl, ht⟩ .nil)
theorem Pln.app {H : Hp} {xs ys : List V} {a b : List (List Key)} (h : Pln H xs a) (h' : Pln H ys b) : Pln H (xs ++ ys) (a ++ b) := Paired.append' h h'
/-- the rows of a cell, by the names in their order -/
def cellRows (f n : Int) (nms : List Str) : List (List Key) := nms.zipIdx.map fun q => [Sum.inl (f + (q.2 : Int) % n), Sum.inl ((q.2 : Int) / n), Sum.inr q.1]
theorem cellRows_snoc (f n : Int) (nms : List Str) (x : Str) : cellRows f n (nms ++ [x]) = cellRows f n nms ++ [[Sum.inl (f + (nms.length : Int) % n), Sum.inl ((nms.length : Int) / n), Sum.inr x]] := by
  unfold cellRows
  rw [List.zipIdx_append, List.map_append]
  simp
theorem cellRows_len (f n : Int) (nms : List Str) : (cellRows f n nms).length = nms.length := by unfold cellRows; rw [List.length_map, List.length_zipIdx]
theorem cellRows_shape {f n : Int} {nms : List Str} {r : List Key} (h : r ∈ cellRows f n nms) : shape r = [true, true, false] := by
  obtain ⟨q, _, rfl⟩ := List.mem_map.mp h
  rfl
/-- the names, each as often as its share -/
def nmsOf (js : List J) (sh : List Int) : List Str := (js.zip sh).flatMap fun q => List.replicate q.2.toNat q.1.nm
theorem take_zip' {α β : Type} : ∀ (i : Nat) (l : List α) (m : List β), (l.zip m).take i = (l.take i).zip (m.take i)
  | 0, _, _ => by simp
  | i + 1, [], _ => by simp
  | i + 1, _ :: _, [] => by simp
  | i + 1, a :: l, b :: m => by
    rw [List.zip_cons_cons, List.take_succ_cons, List.take_succ_cons, List.take_succ_cons, List.zip_cons_cons, take_zip' i l m]
theorem big20 {n : Nat} (h : n ≤ 90000) : n < sizeLine := Nat.lt_of_le_of_lt h (by decide)
theorem int_at {sh : List Int} {i : Nat} {y : V} (h : (sh.map V.int)[i]? = some y) : ∃ m, sh[i]? = some m ∧ y = .int m := by
  rw [List.getElem?_map] at h
  cases e : sh[i]? with
  | none => rw [e] at h; cases h
  | some m => rw [e] at h; cases h; exact ⟨m, rfl, rfl⟩
theorem nmsOf_take {js : List J} {sh : List Int} {i : Nat} {j : J} {m : Int} (h1 : js[i]? = some j) (h2 : sh[i]? = some m) : nmsOf (js.take (i + 1)) (sh.take (i + 1)) = nmsOf (js.take i) (sh.take i) ++ List.replicate m.toNat j.nm := by
  unfold nmsOf
  rw [← take_zip', ← take_zip', List.take_add_one, List.flatMap_append]
  have : (js.zip sh)[i]? = some (j, m) := by rw [List.getElem?_zip_eq_some]; exact ⟨h1, h2⟩
  rw [this]
  simp
section
variable {P : Program} {w : World} {K : PySem.W.Frag} {mg : Str → Option Value} {base : Heap}
def sp_lic (K : PySem.W.Frag) : Sp := fun vs H Q _ => ∃ (a b : Addr) (xs : List V) (js : List J) (sh : List Int) (f n : Int), vs = [.ref a, .int f, .int n, .ref b] ∧ SqL K H a xs ∧ Jobs H xs js ∧ SqL K H b (sh.map V.int) ∧ sh.length = js.length ∧ 0 < n ∧ n < 1073741824 ∧ (∀ m ∈ sh, 0 ≤ m) ∧ (nmsOf js sh).length ≤ 90000 ∧
  ∀ (l : Addr) (ys : List V) (H' : Hp), H l = none → Same H H' → H' l = some (.lst ys) → Pln H' ys (cellRows f n (nmsOf js sh)) → Q (.ref l) H'
theorem nms_mono {js : List J} {sh : List Int} (i : Nat) : (nmsOf (js.take i) (sh.take i)).length ≤ (nmsOf js sh).length := by
  unfold nmsOf
  rw [← take_zip']
  conv => rhs; rw [← List.take_append_drop i (js.zip sh), List.flatMap_append, List.length_append]
  omega
theorem G_laid_in_cell (T : Txt K mg) : FnOk P w K mg base CX0 1 T.f_laid_in_cell T.fd_laid_in_cell ["load", "first", "turns", "own_shares"] (sp_lic K) := by
  refine T.d_laid_in_cell.F.ok sc_laid_in_cell (fun vs H Q E h => ?_) (fun cdv A outer s H vs Q E hr h => ?_)
  · obtain ⟨a, b, xs, js, sh, f, n, rfl, _⟩ := h; rfl
  · obtain ⟨a, b, xs, js, sh, f, n, rfl, hS, hJ, hB, hsl, n0, n1, hm0, hbig, k⟩ := h
    have hl := hJ.len
    refine ⟨_, (pss_cons (ps_set (i := 4) sc_laid_in_cell.nd rfl (Or.inl rfl) (pe_lst pa_nil)) (pss_cons (ps_for PassesOwn.never rfl (pi_zip rfl T.n_zip (pa_cons (pv 0) (pa_cons (pv 3) pa_nil))) (pg_tup rfl (pgs_cons (pg_name (i := 5) sc_laid_in_cell.nd rfl (Or.inl rfl)) (pgs_cons (pg_name (i := 6) sc_laid_in_cell.nd rfl (Or.inl rfl)) pgs_nil))) (pss_cons (ps_set (i := 7) sc_laid_in_cell.nd rfl (Or.inl rfl) (pe_callB call_len_seq (by rfl) T.n_len PySem.boot_len (pa_cons (pv 4) pa_nil))) (pss_one (ps_for PassesOwn.never rfl (pi_range2 rfl T.n_range (pa_cons (pv 7) (pa_cons (pe_op op_add (pv 7) (pv 6)) pa_nil))) (pg_name (i := 8) sc_laid_in_cell.nd rfl (Or.inl rfl)) (pss_one (ps_expr (pe_bm PySem.F.plainAttrs_list PySem.F.slot_list_append PySem.F.type_list_append mt_append (pv 4) (pa_cons (pe_tup (pa_cons (pe_op op_add (pv 1) (pe_op op_mod (pv 8) (pv 2))) (pa_cons (pe_op op_fdiv (pv 8) (pv 2)) (pa_cons (pe_ix ix_tup (pv 5) pe_int (fun _ _ => rfl)) pa_nil)))) pa_nil)))))))) (pss_one (ps_ret (pv 4))))), ?_⟩
    refine ⟨by show 0 ≤ sizeLine; decide, fun l hl0 => ?_⟩
    have s1 := same_upd (o := .lst []) hl0
    refine ⟨_, rfl, _, rfl, a, b, xs, _, rfl, s1.seq hS, s1.seq hB, for_zip (K := K) (a := a) (b := b) (xs := xs) (ys := sh.map V.int) (fun i σ H2 => ∃ (zs : List V) (v5 v6 v7 v8 : Option V), σ = [some (.ref a), some (.int f), some (.int n), some (.ref b), some (.ref l), v5, v6, v7, v8] ∧ Same H H2 ∧ H2 l = some (.lst zs) ∧ Pln H2 zs (cellRows f n (nmsOf (js.take i) (sh.take i))))
      (by rw [List.length_map]; omega) (by exact ⟨[], _, _, _, _, rfl, s1, upd_same, .nil⟩) (fun i σ H2 _ ⟨_, _, _, _, _, _, s2, _⟩ => ⟨s2.seq hS, s2.seq hB⟩) ?_ ?_⟩
    · rintro i x y σ H2 T' hx hy ⟨zs, v5, v6, v7, v8, rfl, s2, hl2, hP⟩ hT
      obtain ⟨j, u, ej, rfl, hu⟩ := hJ.get hx
      obtain ⟨m, em, rfl⟩ := int_at hy
      have hm := hm0 m (List.mem_of_getElem? em)
      have s3 := same_upd (o := .tup [.ref u, .int m]) hT
      have s03 := s2.trans s3
      have kT : (upd H2 T' (.tup [.ref u, .int m])) T' = some (.tup [.ref u, .int m]) := upd_same
      have hl3 := s3 _ _ hl2
      have hP3 := hP.mono s3
      have hbi := nms_mono (js := js) (sh := sh) (i + 1)
      rw [nmsOf_take ej em] at hbi ⊢
      generalize nmsOf (js.take i) (sh.take i) = nm0 at hP3 hbi ⊢
      have hzl : zs.length = nm0.length := by rw [hP3.len, cellRows_len]
      rw [List.length_append, List.length_replicate] at hbi
      generalize upd H2 T' (.tup [.ref u, .int m]) = H3 at s3 s03 kT hl3 hP3 ⊢
      refine ⟨T', _, rfl, SqT.of kT, rfl, _, _, rfl, _, _, rfl, rfl, ?_⟩
      refine ⟨_, rfl, l, _, rfl, .inl (SqL.of hl3), _, rfl, _, rfl, _, rfl, _, _, rfl, rfl, _, _, rfl, ⟨by omega, by omega, by omega, by omega⟩, ?_⟩
      rw [show (zs.length : Int) + m - (zs.length : Int) = m by omega]
      refine for_range (lo := (zs.length : Int)) (n := m.toNat) (fun k σ H4 => ∃ (ws : List V) (v8 : Option V), σ = [some (.ref a), some (.int f), some (.int n), some (.ref b), some (.ref l), some (.ref u), some (.int m), some (.int (zs.length : Int)), v8] ∧ Same H H4 ∧ H4 l = some (.lst ws) ∧ Pln H4 ws (cellRows f n (nm0 ++ List.replicate k j.nm)))
        (by exact ⟨zs, _, rfl, s03, hl3, by rw [List.replicate_zero, List.append_nil]; exact hP3⟩) ?_ ?_
      · rintro p σ H4 hp ⟨ws, v8, rfl, s4, hl4, hP4⟩
        have hwl : ws.length = zs.length + p := by rw [hP4.len, cellRows_len, List.length_append, List.length_replicate, hzl]
        refine ⟨_, rfl, .inl ⟨rfl, _, SqL.of hl4⟩, _, rfl, _, rfl, _, rfl, _, _, rfl, rfl, n0, _, _, rfl, rfl, _, rfl, _, rfl, _, _, rfl, rfl, ⟨n0, n1⟩, _, rfl, u, _, _, _, rfl, rfl, SqT.of (s4 _ _ hu), rfl, by show 3 ≤ sizeLine; decide, fun t ht => ?_⟩
        have s5 := same_upd (o := .tup ([Sum.inl (f + ((zs.length : Int) + (p : Int)) % n), Sum.inl (((zs.length : Int) + (p : Int)) / n), Sum.inr j.nm].map kV)) ht
        have hl5 := s5 _ _ hl4
        have hP5 := (hP4.mono s5).snoc (r := [Sum.inl (f + ((zs.length : Int) + (p : Int)) % n), Sum.inl (((zs.length : Int) + (p : Int)) / n), Sum.inr j.nm]) upd_same
        refine ⟨l, _, _, rfl, rfl, hl5, big20 (by omega), ws ++ [.ref t], _, rfl, same_set (s4.trans s5) hl0, upd_same, ?_⟩
        rw [List.replicate_succ', ← List.append_assoc, cellRows_snoc, List.length_append, List.length_replicate, show ((nm0.length + p : Nat) : Int) = (zs.length : Int) + (p : Int) by omega]
        exact hP5.stay hl5
      · rintro σ H4 ⟨ws, v8, rfl, s4, hl4, hP4⟩
        exact ⟨ws, _, _, _, _, rfl, s4, hl4, hP4⟩
    · rintro σ H2 ⟨zs, v5, v6, v7, v8, rfl, s2, hl2, hP⟩
      rw [hl, List.take_length, ← hsl, List.take_length] at hP
      exact ⟨_, rfl, k l zs H2 hl0 s2 hl2 hP⟩
/-- a cell; shares -/
abbrev C3 : Type := Int × Int × Int
def CellAt (H : Hp) (x : V) (c : C3) : Prop := ∃ t, x = .ref t ∧ H t = some (.tup [.int c.1, .int c.2.1, .int c.2.2])
def Cls (H : Hp) (xs : List V) (cs : List C3) : Prop := Paired (CellAt H) xs cs
theorem Cls.mono {H H' : Hp} (s : Same H H') {xs : List V} {cs : List C3} (h : Cls H xs cs) : Cls H' xs cs := Paired.imp' (fun _ _ ⟨t, e, q⟩ => ⟨t, e, s _ _ q⟩) h
theorem Cls.len {H : Hp} {xs : List V} {cs : List C3} (h : Cls H xs cs) : xs.length = cs.length := Paired.length h
theorem Cls.get {H : Hp} {xs : List V} {cs : List C3} {i : Nat} {x : V} (h : Cls H xs cs) (e : xs[i]? = some x) : ∃ c t, cs[i]? = some c ∧ x = .ref t ∧ H t = some (.tup [.int c.1, .int c.2.1, .int c.2.2]) := by
  obtain ⟨c, ec, t, q1, q2⟩ := Paired.getL h e
  exact ⟨c, t, ec, q1, q2⟩
def ShAt (H : Hp) (x : V) (s : List Int) : Prop := ∃ p, x = .ref p ∧ H p = some (.lst (s.map V.int))
def Shs (H : Hp) (xs : List V) (shs : List (List Int)) : Prop := Paired (ShAt H) xs shs
theorem Shs.mono {H H' : Hp} (s : Same H H') {xs : List V} {cs : List (List Int)} (h : Shs H xs cs) : Shs H' xs cs := Paired.imp' (fun _ _ ⟨t, e, q⟩ => ⟨t, e, s _ _ q⟩) h
theorem Shs.len {H : Hp} {xs : List V} {cs : List (List Int)} (h : Shs H xs cs) : xs.length = cs.length := Paired.length h
theorem Shs.get {H : Hp} {xs : List V} {cs : List (List Int)} {i : Nat} {x : V} (h : Shs H xs cs) (e : xs[i]? = some x) : ∃ s p, cs[i]? = some s ∧ x = .ref p ∧ H p = some (.lst (s.map V.int)) := by
  obtain ⟨c, ec, t, q1, q2⟩ := Paired.getL h e
  exact ⟨c, t, ec, q1, q2⟩
abbrev trn (c : C3) : Int := c.2.1 - c.1 + 1
def ofCell (shs : List (List Int)) (k : Nat) : List Int := shs.map fun s => s.getD k 0
def allRows (js : List J) (cs : List C3) (shs : List (List Int)) : List (List Key) := cs.zipIdx.flatMap fun q => cellRows q.1.1 (trn q.1) (nmsOf js (ofCell shs q.2))
theorem allRows_take (js : List J) {cs : List C3} (shs : List (List Int)) {i : Nat} {c : C3} (h : cs[i]? = some c) : allRows js (cs.take (i + 1)) shs = allRows js (cs.take i) shs ++ cellRows c.1 (trn c) (nmsOf js (ofCell shs i)) := by
  have hi := (List.getElem?_eq_some_iff.mp h).1
  unfold allRows
  rw [List.take_add_one, h, List.zipIdx_append, List.flatMap_append, List.length_take, Nat.zero_add, Nat.min_eq_left (by omega)]
  simp
theorem allRows_mono (js : List J) (cs : List C3) (shs : List (List Int)) (i : Nat) : (allRows js (cs.take i) shs).length ≤ (allRows js cs shs).length := by
  unfold allRows
  conv => rhs; rw [← List.take_append_drop i cs, List.zipIdx_append, List.flatMap_append, List.length_append]
  omega
theorem allRows_shape {js : List J} {cs : List C3} {shs : List (List Int)} {r : List Key} (h : r ∈ allRows js cs shs) : shape r = [true, true, false] := by
  obtain ⟨q, _, hr⟩ := List.mem_flatMap.mp h
  exact cellRows_shape hr
theorem getI {s : List Int} {j : Int} (h0 : 0 ≤ j) (h1 : j < s.length) : atI (s.map V.int) j = some (.int (s.getD j.toNat 0)) := by
  have hj : j.toNat < s.length := by omega
  have := atI_nat (xs := s.map V.int) (j := j.toNat) (v := .int (s.getD j.toNat 0)) (by rw [List.getElem?_map]; simp [hj])
  rw [Int.toNat_of_nonneg h0] at this
  exact this
/-- what is asked of cells and shares -/
structure Fit (js : List J) (cs : List C3) (shs : List (List Int)) : Prop where
  len : shs.length = js.length
  few : shs.length ≤ 900
  each : ∀ s ∈ shs, s.length = cs.length ∧ ∀ m ∈ s, 0 ≤ m
  turns : ∀ c ∈ cs, 0 < trn c ∧ trn c < 1073741824
  most : (allRows js cs shs).length ≤ 90000
def sp_laid (K : PySem.W.Frag) : Sp := fun vs H Q _ => ∃ (a c b : Addr) (xs cx bx : List V) (js : List J) (cs : List C3) (shs : List (List Int)), vs = [.ref a, .ref c, .ref b] ∧ SqL K H a xs ∧ Jobs H xs js ∧ SqL K H c cx ∧ Cls H cx cs ∧ SqL K H b bx ∧ Shs H bx shs ∧ Fit js cs shs ∧
  ∀ (l : Addr) (ys : List V) (rows : List (List Key)) (H' : Hp), H l = none → Same H H' → H' l = some (.lst ys) → Pln H' ys rows → rows.Perm (allRows js cs shs) → rows.Pairwise (fun x y => lexK y x = false) → Q (.ref l) H'
theorem G_laid (T : Txt K mg) : FnOk P w K mg base CX0 2 T.f_laid T.fd_laid ["load", "cells", "shares"] (sp_laid K) := by
  refine T.d_laid.F.ok sc_laid (fun vs H Q E h => ?_) (fun cdv A outer s H vs Q E hr h => ?_)
  · obtain ⟨a, c, b, xs, cx, bx, js, cs, shs, rfl, _⟩ := h; rfl
  · obtain ⟨a, c, b, xs, cx, bx, js, cs, shs, rfl, hS, hJ, hSc, hC, hSb, hB, hF, k⟩ := h
    have hcl := hC.len
    have hbl := hB.len
    refine ⟨_, (pss_cons (ps_set (i := 3) sc_laid.nd rfl (Or.inl rfl) (pe_lst pa_nil)) (pss_cons (ps_for PassesOwn.never rfl (pi_enum rfl T.n_enumerate (pa_cons (pv 1) pa_nil)) (pg_tup rfl (pgs_cons (pg_name (i := 4) sc_laid.nd rfl (Or.inr rfl)) (pgs_cons (pg_name (i := 5) sc_laid.nd rfl (Or.inl rfl)) pgs_nil))) (pss_cons (ps_setComp (i := 6) sc_laid.nd rfl (by rfl) (loc := ["of_job"]) (free := ["place"]) (fr := [4]) rfl (compScope_of (sc := defScope s_laid) (N := (["load", "cells", "shares", "plan", "place", "cell", "own_shares"] : List Str)) rfl rfl (by decide +kernel)) (pi_list (pv 2)) (fun _ _ _ _ _ => (pgc 0 (["of_job", "place"] : List Str) (by decide +kernel) rfl rfl (Or.inl rfl) rfl)) (fun _ _ _ _ _ => pts_nil) (fun _ _ _ _ _ => (pe_ix (ix_listK (K := K) rfl) (pv 0) (pv 1) (fun _ _ => rfl)))) (pss_one (ps_expr (pe_bm PySem.F.plainAttrs_list PySem.F.slot_list_extend PySem.F.type_list_extend mt_extend (pv 3) (pa_cons (pe_call (G_laid_in_cell T) (hr.mono (by decide)) (by rfl) T.d_laid_in_cell.g T.d_laid_in_cell.F.kp T.d_laid_in_cell.b .nil pass0 (pa_cons (pv 0) (pa_cons (pe_ix ix_tup (pv 5) pe_int (fun _ _ => rfl)) (pa_cons (pe_op op_add (pe_op op_sub (pe_ix ix_tup (pv 5) pe_int (fun _ _ => rfl)) (pe_ix ix_tup (pv 5) pe_int (fun _ _ => rfl))) pe_int) (pa_cons (pv 6) pa_nil))))) pa_nil)))))) (pss_one (ps_ret (pe_callB call_sortedK (by rfl) T.n_sorted PyProof.Rows.boot_sorted (pa_cons (pv 3) pa_nil)))))), ?_⟩
    refine ⟨by show 0 ≤ sizeLine; decide, fun l hl0 => ?_⟩
    have s1 := same_upd (o := .lst []) hl0
    refine ⟨_, rfl, c, cx, rfl, s1.seq hSc, for_enum (K := K) (a := c) (xs := cx) (fun i σ H2 => ∃ (zs : List V) (v4 v5 v6 : Option V), σ = [some (.ref a), some (.ref c), some (.ref b), some (.ref l), v4, v5, v6] ∧ Same H H2 ∧ H2 l = some (.lst zs) ∧ Pln H2 zs (allRows js (cs.take i) shs))
      (by exact ⟨[], _, _, _, rfl, s1, upd_same, .nil⟩) (fun i σ H2 _ ⟨_, _, _, _, _, s2, _⟩ => s2.seq hSc) ?_ ?_⟩
    · rintro i x σ H2 T' hx ⟨zs, v4, v5, v6, rfl, s2, hl2, hP⟩ hT
      obtain ⟨q, u, eq, rfl, hu⟩ := hC.get hx
      have hil : i < cs.length := (List.getElem?_eq_some_iff.mp eq).1
      have s3 := same_upd (o := .tup [.int i, .ref u]) hT
      have s03 := s2.trans s3
      have kT : (upd H2 T' (.tup [.int i, .ref u])) T' = some (.tup [.int i, .ref u]) := upd_same
      have hl3 := s3 _ _ hl2
      have hP3 := hP.mono s3
      have hbig := Nat.le_trans (allRows_mono js cs shs (i + 1)) hF.most
      rw [allRows_take js shs eq] at hbig ⊢
      rw [List.length_append, cellRows_len] at hbig
      obtain ⟨t0, t1⟩ := hF.turns q (List.mem_of_getElem? eq)
      generalize upd H2 T' (.tup [.int i, .ref u]) = H3 at s3 s03 kT hl3 hP3 ⊢
      refine ⟨T', _, rfl, SqT.of kT, rfl, _, _, rfl, _, _, rfl, rfl, ?_⟩
      refine ⟨_, rfl, b, rfl, ⟨bx, s03.seq hSb⟩, fun D hD => ?_⟩
      refine comp_list (K := K) (a := b) (xs := bx) (fun j acc σ H4 => acc = (ofCell (shs.take j) i).map V.int ∧ H4 D = some (.lst acc) ∧ Same H3 H4 ∧ acc.length = j ∧ ∃ v, σ = [v, some (.int (i : Int))])
        (by exact ⟨rfl, upd_same, same_upd hD, rfl, _, rfl⟩) (fun j acc σ H4 h => h.2.1) (fun j acc σ H4 _ h => (s03.trans h.2.2.1).seq hSb) ?_ ?_
      · rintro j y acc σ H4 hj ⟨ea, hD4, s4, hal, v, rfl⟩
        obtain ⟨sh, p, es, rfl, hp⟩ := hB.get hj
        have hjl : j < bx.length := (List.getElem?_eq_some_iff.mp hj).1
        obtain ⟨z1, z2⟩ := hF.each sh (List.mem_of_getElem? es)
        have hlen := hF.len
        refine ⟨_, rfl, _, rfl, p, _, _, _, rfl, rfl, SqL.of ((s03.trans s4) _ _ hp), getI (by omega) (by omega), ?_⟩
        refine ⟨hD4, ?_, ?_, upd_same, same_set s4 hD, by rw [List.length_append, hal]; rfl, _, rfl⟩
        · have := hF.few
          exact small1000 (by omega)
        · rw [Int.toNat_natCast, List.take_add_one, es, ofCell, List.map_append, List.map_append, ea]; rfl
      · rintro acc σ H4 ⟨ea, hD4, s4, hal, v, rfl⟩
        rw [hbl, List.take_length] at ea
        subst ea
        have s04 := s03.trans s4
        have hu4 := s04 _ _ hu
        have hl4 := s4 _ _ hl3
        refine ⟨_, rfl, .inl ⟨rfl, _, SqL.of hl4⟩, _, rfl, _, rfl, u, _, _, _, rfl, rfl, SqT.of hu4, rfl, _, rfl, u, _, _, _, rfl, rfl, SqT.of hu4, rfl, _, rfl, u, _, _, _, rfl, rfl, SqT.of hu4, rfl, q.2.1, q.1, rfl, rfl, _, _, rfl, rfl, _, rfl, a, D, xs, js, ofCell shs i, q.1, trn q, rfl, s04.seq hS, hJ.mono s04, SqL.of hD4, ?_, t0, t1, ?_, by omega, fun l2 ys H5 hl2n s5 hl5 hP5 => ?_⟩
        · rw [ofCell, List.length_map]; exact hF.len
        · intro m hm
          obtain ⟨sh, hsh, rfl⟩ := List.mem_map.mp hm
          obtain ⟨z1, z2⟩ := hF.each sh hsh
          refine z2 _ ?_
          rw [List.getD_eq_getElem?_getD, List.getElem?_eq_getElem (by omega)]
          exact List.getElem_mem _
        · have hl5' := s5 _ _ hl4
          have s05 := s04.trans s5
          have hP4 := (hP3.mono s4).mono s5
          have n2 : l2 ≠ l := fun e => by rw [e, hl4] at hl2n; cases hl2n
          refine ⟨l, l2, zs, ys, rfl, rfl, hl5', hl5, ?_, zs ++ ys, _, _, _, rfl, same_set s05 hl0, upd_same, ?_⟩
          · have e1 := hP4.len
            have e2 := hP5.len
            rw [cellRows_len] at e2
            exact Nat.le_of_lt (big20 (by omega))
          · exact (hP4.app hP5).stay hl5'
    · rintro σ H2 ⟨zs, v4, v5, v6, rfl, s2, hl2, hP⟩
      rw [hcl, List.take_length] at hP
      refine ⟨_, rfl, l, zs, allRows js cs shs, RowK H2, [true, false], rfl, SqL.of hl2, fun x r ⟨t, e, q⟩ => ⟨t, e, SqT.of q⟩, hP, Nat.le_trans hF.most (by decide), fun r hr => allRows_shape hr, fun l' ys rows hl' p1 p2 p3 => ?_⟩
      have s3 := same_upd (o := .lst ys) hl'
      exact k l' ys rows _ (s2.free hl') (s2.trans s3) upd_same (Pln.mono s3 p3) p1 p2
end
end My

set_option Elab.async false
set_option linter.all false
set_option maxRecDepth 100000
set_option maxHeartbeats 4000000
namespace My
open PySem L2
section
variable {P : Program} {w : World} {K : PySem.W.Frag} {mg : Str → Option Value} {base : Heap}
theorem dv {n : Int} (k : Int) (hk : 0 < k := by decide) (hk2 : k < 1073741824 := by decide) : CDiv n k := ⟨hk, hk2⟩
theorem p9 : (10 : Int) ^ (9 : Int).toNat = 1000000000 := by decide
theorem small100 {n : Nat} (h : n ≤ 100) : n ≤ sizeLine := Nat.le_of_lt (small1000 (by omega))
def sp_cell (K : PySem.W.Frag) : Sp := fun vs H Q _ => ∃ (a : Addr) (ns : List Int) (k : Int), vs = [.ref a, .int k] ∧ SqL K H a (ns.map V.int) ∧ 0 ≤ k ∧ k < 1000 ∧ ∀ m : Int, Q (.int m) H
theorem G_law_cell (T : Txt K mg) : FnOk P w K mg base CX0 1 T.f_law_cell T.fd_law_cell ["_law_script", "_law_k"] (sp_cell K) := by
  refine T.d_law_cell.F.ok sc_law_cell (fun vs H Q E h => ?_) (fun cdv A outer s H vs Q E hr h => ?_)
  · obtain ⟨a, ns, k, rfl, _⟩ := h; rfl
  · obtain ⟨a, ns, k, rfl, hS, k0, k1, q⟩ := h
    refine ⟨_, (pss_cons (ps_if (pt_cmpR op_lt (pv 1) (pe_callB call_len_seq (by rfl) T.n_len PySem.boot_len (pa_cons (pv 0) pa_nil)) (nomark _)) (pss_one (ps_ret (pe_ix ix_list (pv 0) (pv 1) (fun _ _ => rfl)))) pss_nil) (pss_cons (ps_set (i := 2) sc_law_cell.nd rfl (Or.inl rfl) (pe_op op_add (pe_op op_mul pe_int (pv 1)) pe_int)) (pss_cons (ps_if (pt_cmpR op_gt (pe_callB call_len_seq (by rfl) T.n_len PySem.boot_len (pa_cons (pv 0) pa_nil)) pe_int (nomark _)) (pss_one (ps_set (i := 2) sc_law_cell.nd rfl (Or.inl rfl) (pe_op op_add (pv 2) (pe_op op_mul (pe_op op_mod (pe_ix ix_list (pv 0) (pe_op op_mod (pe_op op_mul pe_int (pv 1)) (pe_callB call_len_seq (by rfl) T.n_len PySem.boot_len (pa_cons (pv 0) pa_nil))) (fun _ _ => rfl)) pe_int) (pe_op op_add (pv 1) pe_int))))) pss_nil) (pss_one (ps_ret (pe_op op_mod (pe_op op_mul (pv 2) (pv 2)) pe_int)))))), ?_⟩
    refine ⟨_, rfl, _, rfl, a, _, rfl, .inl hS, _, _, rfl, rfl, _, rfl, ?_⟩
    refine ite2 (fun c => ?_) (fun c => ?_)
    · have c' := of_decide_eq_true c
      rw [List.length_map] at c'
      exact ⟨_, rfl, _, rfl, a, _, k, _, rfl, rfl, hS, getI k0 c', q _⟩
    refine ⟨_, rfl, _, _, rfl, rfl, .inl ⟨by decide, by decide⟩, _, _, rfl, rfl, ?_⟩
    refine ⟨_, rfl, a, _, rfl, .inl hS, _, _, rfl, rfl, _, rfl, ?_⟩
    refine ite2 (fun c2 => ?_) (fun c2 => ?_)
    · have c2' := of_decide_eq_true c2
      rw [List.length_map] at c2'
      have e0 : 0 ≤ 7 * k % ((ns.map V.int).length : Int) := Int.emod_nonneg _ (by rw [List.length_map]; omega)
      have e1 : 7 * k % ((ns.map V.int).length : Int) < (ns.length : Int) := by
        have := Int.emod_lt_of_pos (7 * k) (show (0 : Int) < ((ns.map V.int).length : Int) by rw [List.length_map]; exact c2')
        rw [List.length_map] at this ⊢; exact this
      have gi := getI (s := ns) e0 e1
      generalize ns.getD (7 * k % ((ns.map V.int).length : Int)).toNat 0 = x at gi
      have y0 : 0 ≤ x % 1000003 := Int.emod_nonneg _ (by decide)
      have y1 : x % 1000003 < 1000003 := Int.emod_lt_of_pos _ (by decide)
      refine ⟨_, rfl, _, rfl, _, rfl, _, _, rfl, rfl, .inl ⟨by decide, by decide⟩, _, rfl, a, _, rfl, .inl hS, _, _, rfl, rfl, (by show (0 : Int) < ((ns.map V.int).length : Int); rw [List.length_map]; exact c2'), a, _, _, _, rfl, rfl, hS, gi, _, _, rfl, rfl, (by show (0 : Int) < 1000003; decide), _, rfl, _, _, rfl, rfl, _, _, rfl, rfl, .inr ⟨by omega, by omega⟩, _, _, rfl, rfl, ?_⟩
      have m0 : 0 ≤ x % 1000003 * (k + 3) := Int.mul_nonneg y0 (by omega)
      have m1 : x % 1000003 * (k + 3) ≤ 1000003 * 1003 := Int.mul_le_mul (by omega) (by omega) (by omega) (by decide)
      refine ⟨_, rfl, _, rfl, _, _, rfl, rfl, .inl ⟨by (try dsimp only); omega, by (try dsimp only); omega⟩, _, _, rfl, rfl, (by show (0 : Int) < 1000003; decide), q _⟩
    · refine ⟨_, rfl, _, rfl, _, _, rfl, rfl, .inl ⟨by (try dsimp only); omega, by (try dsimp only); omega⟩, _, _, rfl, rfl, (by show (0 : Int) < 1000003; decide), q _⟩
theorem sign_at {z : Str} {i : Int} (h0 : 0 ≤ i) (h1 : i < (z.length : Int)) : ∃ c, atI z.cps.toList i = some c := by
  have hl : z.cps.toList.length = z.length := by simp [Str.length]
  have hi : i.toNat < z.cps.toList.length := by omega
  have := atI_nat (xs := z.cps.toList) (j := i.toNat) (v := z.cps.toList[i.toNat]) (List.getElem?_eq_getElem hi)
  rw [Int.toNat_of_nonneg h0] at this
  exact ⟨_, this⟩
theorem l26 : ("abcdefghijklmnopqrstuvwxyz" : Str).length = 26 := by decide +kernel
theorem l10 : ("0123456789" : Str).length = 10 := by decide +kernel
theorem l36 : (("abcdefghijklmnopqrstuvwxyz" : Str) ++ ("0123456789" : Str)).length = 36 := by rw [PySem.Str.length_append, l26, l10]
def sp_names : Sp := fun vs H Q _ => ∃ c m : Int, vs = [.int c, .int m] ∧ 0 ≤ m ∧ m ≤ 8 ∧ ∀ (l : Addr) (zs : List Str) (H' : Hp), H l = none → Same H H' → H' l = some (.lst (zs.map V.str)) → zs.length = m.toNat → Q (.ref l) H'
theorem G_law_names (T : Txt K mg) : FnOk P w K mg base CX0 1 T.f_law_names T.fd_law_names ["_law_cell_here", "_law_many"] sp_names := by
  refine T.d_law_names.F.ok sc_law_names (fun vs H Q E h => ?_) (fun cdv A outer s H vs Q E hr h => ?_)
  · obtain ⟨c, m, rfl, _⟩ := h; rfl
  · obtain ⟨c, m, rfl, m0, m8, q⟩ := h
    refine ⟨_, (pss_cons (ps_set (i := 2) sc_law_names.nd rfl (Or.inl rfl) pe_str) (pss_cons (ps_set (i := 3) sc_law_names.nd rfl (Or.inl rfl) (pe_op op_add pe_int (pe_op op_mod (pv 0) pe_int))) (pss_cons (ps_set (i := 4) sc_law_names.nd rfl (Or.inl rfl) (pe_op op_mod (pe_op op_fdiv (pv 0) pe_int) (pv 3))) (pss_cons (ps_set (i := 5) sc_law_names.nd rfl (Or.inl rfl) (pe_lst pa_nil)) (pss_cons (ps_for PassesOwn.never rfl (pi_range1 rfl T.n_range (pa_cons (pv 1) pa_nil)) (pg_name (i := 6) sc_law_names.nd rfl (Or.inl rfl)) (pss_cons (ps_set (i := 7) sc_law_names.nd rfl (Or.inl rfl) pe_str) (pss_cons (ps_for PassesOwn.never rfl (pi_range1 rfl T.n_range (pa_cons (pv 3) pa_nil)) (pg_name (i := 8) sc_law_names.nd rfl (Or.inl rfl)) (pss_cons (ps_set (i := 9) sc_law_names.nd rfl (Or.inl rfl) (pe_op op_add (pe_op op_fdiv (pv 0) (pe_op op_add pe_int (pe_op op_mul pe_int (pv 8)))) (pe_op op_mul (pv 6) (pe_callTy call_int1 (by rfl) T.n_int PyProof.Rows.boot_int (pa_cons (pe_cmpR op_eq (pv 8) (pv 4) (nomark _)) pa_nil))))) (pss_one (ps_if (pt_cmpR op_eq (pv 8) pe_int (nomark _)) (pss_one (ps_set (i := 7) sc_law_names.nd rfl (Or.inl rfl) (pe_op op_add_str (pv 7) (pe_ix ix_str (pv 2) (pe_op op_mod (pv 9) pe_int) (fun _ _ => rfl))))) (pss_one (ps_set (i := 7) sc_law_names.nd rfl (Or.inl rfl) (pe_op op_add_str (pv 7) (pe_ix ix_str (pe_op op_add_str (pv 2) pe_str) (pe_op op_mod (pv 9) pe_int) (fun _ _ => rfl))))))))) (pss_one (ps_expr (pe_bm PySem.F.plainAttrs_list PySem.F.slot_list_append PySem.F.type_list_append mt_append (pv 5) (pa_cons (pv 7) pa_nil))))))) (pss_one (ps_ret (pv 5)))))))), ?_⟩
    have z0 : 1 ≤ 1 + c % 8 ∧ 1 + c % 8 ≤ 8 := by omega
    refine ⟨_, rfl, _, _, rfl, rfl, (by show (0 : Int) < 8; decide), _, _, rfl, rfl, ?_⟩
    dsimp only
    generalize 1 + c % 8 = size at z0 ⊢
    refine ⟨_, rfl, _, _, rfl, rfl, dv 8, _, rfl, _, _, rfl, rfl, (by show 0 < size; omega), by show 0 ≤ sizeLine; decide, fun l hl => ?_⟩
    have s1 := same_upd (o := .lst []) hl
    have k1 : (upd H l (.lst [])) l = some (.lst []) := upd_same
    generalize upd H l (.lst []) = H1 at s1 k1 ⊢
    refine ⟨_, rfl, _, rfl, by omega, by omega, ?_⟩
    refine for_range (lo := 0) (n := m.toNat) (fun i σ H2 => ∃ (zs : List Str) (v6 v7 v8 v9 : Option V), σ = [some (.int c), some (.int m), some (.str "abcdefghijklmnopqrstuvwxyz"), some (.int size), some (.int (c / 8 % size)), some (.ref l), v6, v7, v8, v9] ∧ Same H H2 ∧ H2 l = some (.lst (zs.map V.str)) ∧ zs.length = i)
      (by exact ⟨[], _, _, _, _, rfl, s1, k1, rfl⟩) ?_ ?_
    · rintro i σ H2 hi ⟨zs, v6, v7, v8, v9, rfl, s2, k2, hzl⟩
      refine ⟨_, rfl, _, rfl, by omega, by omega, ?_⟩
      refine for_range (lo := 0) (n := size.toNat) (fun j σ H3 => ∃ (z : Str) (v8 v9 : Option V), σ = [some (.int c), some (.int m), some (.str "abcdefghijklmnopqrstuvwxyz"), some (.int size), some (.int (c / 8 % size)), some (.ref l), some (.int (0 + (i : Int))), some (.str z), v8, v9] ∧ H3 = H2 ∧ z.length = j)
        (by exact ⟨_, _, _, rfl, rfl, rfl⟩) ?_ ?_
      · rintro j σ H3 hj ⟨z, v8, v9, rfl, rfl, hz⟩
        refine ⟨_, rfl, _, rfl, _, _, rfl, rfl, .inl ⟨by decide, by decide⟩, _, _, rfl, rfl, _, _, rfl, rfl, ⟨by (try dsimp only); omega, by (try dsimp only); omega⟩, _, rfl, _, rfl, _, rfl, rfl, .inr ⟨_, rfl, _, _, rfl, rfl, .inl ⟨by omega, by omega⟩, _, _, rfl, rfl, ?_⟩⟩
        refine ⟨_, rfl, rfl, _, rfl, ?_⟩
        refine ite2 (fun c1 => ?_) (fun c1 => ?_)
        · dsimp only
          generalize c / (64 + 29 * (0 + (j : Int))) + (0 + (i : Int)) * (if decide (V.int (0 + (j : Int)) = V.int (c / 8 % size)) = true then 1 else 0) = pl
          obtain ⟨d, hat⟩ := sign_at (z := "abcdefghijklmnopqrstuvwxyz") (i := pl % 26) (by omega) (by rw [l26]; omega)
          refine ⟨_, rfl, _, rfl, _, rfl, _, _, rfl, rfl, (by show (0 : Int) < 26; decide), _, _, d, rfl, rfl, small100 (by rw [l26]; decide), hat, _, _, rfl, rfl, small100 (by rw [hz]; show j + 1 ≤ 100; omega), ?_⟩
          exact ⟨_, _, _, rfl, rfl, by rw [PySem.Str.length_append, hz]; rfl⟩
        · dsimp only
          generalize c / (64 + 29 * (0 + (j : Int))) + (0 + (i : Int)) * (if decide (V.int (0 + (j : Int)) = V.int (c / 8 % size)) = true then 1 else 0) = pl
          obtain ⟨d, hat⟩ := sign_at (z := ("abcdefghijklmnopqrstuvwxyz" : Str) ++ ("0123456789" : Str)) (i := pl % 36) (by omega) (by rw [l36]; omega)
          refine ⟨_, rfl, _, rfl, _, _, rfl, rfl, small100 (by rw [l26, l10]; decide), _, rfl, _, _, rfl, rfl, (by show (0 : Int) < 36; decide), _, _, d, rfl, rfl, small100 (by rw [l36]; decide), hat, _, _, rfl, rfl, small100 (by rw [hz]; show j + 1 ≤ 100; omega), ?_⟩
          exact ⟨_, _, _, rfl, rfl, by rw [PySem.Str.length_append, hz]; rfl⟩
      · rintro σ H3 ⟨z, v8, v9, rfl, rfl, hz⟩
        refine ⟨_, rfl, .inl ⟨rfl, _, SqL.of k2⟩, _, rfl, l, _, _, rfl, rfl, k2, small1000 (by rw [List.length_map]; omega), ?_⟩
        refine ⟨zs ++ [z], _, _, _, _, rfl, same_set s2 hl, ?_, by rw [List.length_append, hzl]; rfl⟩
        rw [List.map_append]; exact upd_same
    · rintro σ H2 ⟨zs, v6, v7, v8, v9, rfl, s2, k2, hzl⟩
      exact ⟨_, rfl, q l zs H2 hl s2 k2 hzl⟩
def okC (c : C3) : Prop := (1 ≤ trn c ∧ trn c ≤ 1000) ∧ (0 ≤ c.1 ∧ c.1 ≤ 9000000000) ∧ 0 ≤ c.2.2 ∧ c.2.2 ≤ 16
theorem Cls.stay {H : Hp} {D : Addr} {xs : List V} {cs : List C3} {acc acc' : List V} (hD : H D = some (.lst acc)) (h : Cls H xs cs) : Cls (upd H D (.lst acc')) xs cs := Paired.imp' (fun x r z => by
  obtain ⟨t', e', q'⟩ := z
  refine ⟨t', e', ?_⟩
  rw [upd_ne (fun e => by rw [e, hD] at q'; cases q')]
  exact q') h
def sp_cells (K : PySem.W.Frag) : Sp := fun vs H Q _ => ∃ (a : Addr) (ns : List Int) (m : Int), vs = [.ref a, .int m] ∧ SqL K H a (ns.map V.int) ∧ 0 ≤ m ∧ m ≤ 4 ∧ ∀ (l : Addr) (cx : List V) (cs : List C3) (H' : Hp), H l = none → Same H H' → H' l = some (.lst cx) → Cls H' cx cs → cs.length = m.toNat → (∀ c ∈ cs, okC c) → Q (.ref l) H'
theorem G_law_cells (T : Txt K mg) : FnOk P w K mg base CX0 2 T.f_law_cells T.fd_law_cells ["_law_script", "_law_many"] (sp_cells K) := by
  refine T.d_law_cells.F.ok sc_law_cells (fun vs H Q E h => ?_) (fun cdv A outer s H vs Q E hr h => ?_)
  · obtain ⟨a, ns, m, rfl, _⟩ := h; rfl
  · obtain ⟨a, ns, m, rfl, hS, m0, m4, q⟩ := h
    refine ⟨_, (pss_cons (ps_set (i := 2) sc_law_cells.nd rfl (Or.inl rfl) (pe_lst pa_nil)) (pss_cons (ps_set (i := 3) sc_law_cells.nd rfl (Or.inl rfl) (pe_op op_mod (pe_call (G_law_cell T) (hr.mono (by decide)) (by rfl) T.d_law_cell.g T.d_law_cell.F.kp T.d_law_cell.b .nil pass0 (pa_cons (pv 0) (pa_cons pe_int pa_nil))) (pe_op op_pow pe_int pe_int))) (pss_cons (ps_for PassesOwn.never rfl (pi_range1 rfl T.n_range (pa_cons (pv 1) pa_nil)) (pg_name (i := 4) sc_law_cells.nd rfl (Or.inl rfl)) (pss_cons (ps_set (i := 5) sc_law_cells.nd rfl (Or.inl rfl) (pe_call (G_law_cell T) (hr.mono (by decide)) (by rfl) T.d_law_cell.g T.d_law_cell.F.kp T.d_law_cell.b .nil pass0 (pa_cons (pv 0) (pa_cons (pe_op op_add pe_int (pv 4)) pa_nil)))) (pss_cons (ps_set (i := 6) sc_law_cells.nd rfl (Or.inl rfl) (pe_op op_add (pv 3) (pe_op op_mod (pe_op op_fdiv (pv 5) pe_int) pe_int))) (pss_cons (ps_set (i := 7) sc_law_cells.nd rfl (Or.inl rfl) (pe_op op_add pe_int (pe_op op_mod (pv 5) pe_int))) (pss_cons (ps_if (pt_cmpR op_eq (pe_op op_mod (pe_op op_fdiv (pv 5) pe_int) pe_int) pe_int (nomark _)) (pss_one (ps_set (i := 7) sc_law_cells.nd rfl (Or.inl rfl) (pe_op op_add pe_int (pe_op op_mod (pe_op op_fdiv (pv 5) pe_int) pe_int)))) pss_nil) (pss_cons (ps_expr (pe_bm PySem.F.plainAttrs_list PySem.F.slot_list_append PySem.F.type_list_append mt_append (pv 2) (pa_cons (pe_tup (pa_cons (pv 6) (pa_cons (pe_op op_sub (pe_op op_add (pv 6) (pv 7)) pe_int) (pa_cons (pe_op op_mod (pe_op op_fdiv (pv 5) pe_int) pe_int) pa_nil)))) pa_nil))) (pss_one (ps_set (i := 3) sc_law_cells.nd rfl (Or.inl rfl) (pe_op op_add (pv 6) (pv 7)))))))))) (pss_one (ps_ret (pv 2)))))), ?_⟩
    refine ⟨by show 0 ≤ sizeLine; decide, fun l hl => ?_⟩
    have s1 := same_upd (o := .lst []) hl
    have k1 : (upd H l (.lst [])) l = some (.lst []) := upd_same
    generalize upd H l (.lst []) = H1 at s1 k1 ⊢
    refine ⟨_, rfl, a, ns, 2, rfl, s1.seq hS, by decide, by decide, fun c1 => ⟨_, _, rfl, rfl, ⟨by decide, by decide, by decide⟩, _, _, rfl, rfl, (by rw [p9]; show (0 : Int) < 1000000000; decide), ?_⟩⟩
    refine ⟨_, rfl, _, rfl, by omega, by omega, ?_⟩
    refine for_range (lo := 0) (n := m.toNat) (fun i σ H2 => ∃ (cx : List V) (cs : List C3) (t : Int) (v4 v5 v6 v7 : Option V), σ = [some (.ref a), some (.int m), some (.ref l), some (.int t), v4, v5, v6, v7] ∧ Same H H2 ∧ H2 l = some (.lst cx) ∧ Cls H2 cx cs ∧ cs.length = i ∧ (0 ≤ t ∧ t ≤ 1000000000 + 1002 * (i : Int)) ∧ ∀ c ∈ cs, okC c)
      (by exact ⟨[], [], _, _, _, _, _, rfl, s1, k1, .nil, rfl, by rw [p9]; omega, (by intro _ h; cases h)⟩) ?_ ?_
    · rintro i σ H2 hi ⟨cx, cs, t, v4, v5, v6, v7, rfl, s2, k2, hC, hcl, ⟨ht0, ht1⟩, hok⟩
      have hxl := hC.len
      refine ⟨_, rfl, _, rfl, _, _, rfl, rfl, a, ns, _, rfl, s2.seq hS, by omega, by omega, fun c => ?_⟩
      refine ⟨_, rfl, _, rfl, _, _, rfl, rfl, dv 7, _, _, rfl, rfl, (by show (0 : Int) < 3; decide), _, _, rfl, rfl, ?_⟩
      refine ⟨_, rfl, _, _, rfl, rfl, (by show (0 : Int) < 7; decide), _, _, rfl, rfl, ?_⟩
      refine ⟨_, rfl, _, _, rfl, rfl, dv 21, _, _, rfl, rfl, (by show (0 : Int) < 9; decide), rfl, _, rfl, ?_⟩
      refine ite2 (fun c2 => ?g1) (fun c2 => ?g2)
      case' g1 =>
        refine ⟨_, rfl, _, _, rfl, rfl, dv 189, _, _, rfl, rfl, (by show (0 : Int) < 1000; decide), _, _, rfl, rfl, ?_⟩
        dsimp only
        have y0 : 1 ≤ 1 + c / 189 % 1000 ∧ 1 + c / 189 % 1000 ≤ 1000 := by omega
        generalize 1 + c / 189 % 1000 = tn at y0 ⊢
      case' g2 =>
        dsimp only
        have y0 : 1 ≤ 1 + c % 7 ∧ 1 + c % 7 ≤ 1000 := by omega
        generalize 1 + c % 7 = tn at y0 ⊢
      all_goals
        refine ⟨_, rfl, .inl ⟨rfl, _, SqL.of k2⟩, _, rfl, _, rfl, _, rfl, _, _, rfl, rfl, _, _, rfl, rfl, _, rfl, _, _, rfl, rfl, dv 5, _, _, rfl, rfl, (by show (0 : Int) < 17; decide), by show 3 ≤ sizeLine; decide, fun u hu => ?_⟩
        have s3 := same_upd (o := .tup [.int (t + c / 7 % 3), .int (t + c / 7 % 3 + tn - 1), .int (c / 5 % 17)]) hu
        have k3 := s3 _ _ k2
        have hC3 : Cls (upd H2 u (.tup [.int (t + c / 7 % 3), .int (t + c / 7 % 3 + tn - 1), .int (c / 5 % 17)])) (cx ++ [.ref u]) (cs ++ [(t + c / 7 % 3, t + c / 7 % 3 + tn - 1, c / 5 % 17)]) := Paired.append' (hC.mono s3) (.cons ⟨u, rfl, upd_same⟩ .nil)
        refine ⟨l, _, _, rfl, rfl, k3, small1000 (by omega), ?_⟩
        refine ⟨_, rfl, _, rfl, _, _, rfl, rfl, ?_⟩
        refine ⟨cx ++ [.ref u], cs ++ [(t + c / 7 % 3, t + c / 7 % 3 + tn - 1, c / 5 % 17)], _, _, _, _, _, rfl, same_set (s2.trans s3) hl, upd_same, hC3.stay k3, by rw [List.length_append, hcl]; rfl, by (try dsimp only); omega, fun d hd => ?_⟩
        rcases List.mem_append.mp hd with hd | hd
        · exact hok d hd
        · rw [List.mem_singleton.mp hd]
          refine ⟨⟨?_, ?_⟩, ⟨?_, ?_⟩, ?_, ?_⟩
          all_goals (dsimp only [trn]; omega)
    · rintro σ H2 ⟨cx, cs, t, v4, v5, v6, v7, rfl, s2, k2, hC, hcl, ⟨ht0, ht1⟩, hok⟩
      exact ⟨_, rfl, q l cx cs H2 hl s2 k2 hC hcl hok⟩
end
end My

set_option Elab.async false
set_option linter.all false
set_option maxRecDepth 100000
set_option maxHeartbeats 4000000
namespace My
open PySem L2
section
variable {P : Program} {w : World} {K : PySem.W.Frag} {mg : Str → Option Value} {base : Heap}
def sp_whole : Sp := fun vs H Q _ => ∃ i : Int, vs = [.int i] ∧ Q (.bl true) H
theorem G_law_whole (T : Txt K mg) : FnOk P w K mg base CX0 1 T.f_law_whole T.fd_law_whole ["_law_found"] sp_whole := by
  refine T.d_law_whole.F.ok sc_law_whole (fun vs H Q E h => ?_) (fun cdv A outer s H vs Q E hr h => ?_)
  · obtain ⟨i, rfl, _⟩ := h; rfl
  · obtain ⟨i, rfl, k⟩ := h
    refine ⟨_, (pss_one (ps_ret (pe_and (pe_callB call_isinst (by rfl) T.n_isinstance PyProof.Rows.boot_isinstance (pa_cons (pv 0) (pa_cons (pe_bltn (v := .ty "int") (by rfl) T.n_int PyProof.Rows.boot_int rfl) pa_nil))) (pe_one (pe_not (pe_callB call_isinst (by rfl) T.n_isinstance PyProof.Rows.boot_isinstance (pa_cons (pv 0) (pa_cons (pe_bltn (v := .ty "bool") (by rfl) T.n_bool PyProof.Rows.boot_bool rfl) pa_nil)))))))), ?_⟩
    refine ⟨_, rfl, _, _, _, true, rfl, TyOf.int i, rfl, true, rfl, iteT ?_⟩
    exact ⟨_, rfl, _, _, _, false, rfl, TyOf.int i, rfl, false, rfl, k⟩
theorem kV_plain (r : List Key) : (r.map kV).all plainV = true := by
  rw [List.all_map, List.all_eq_true]
  intro k _
  cases k <;> rfl
theorem row_alike {H : Hp} {x y : V} {r : List Key} (h1 : RowK H x r) (h2 : RowK H y r) : Alike K 0 H x y := by
  obtain ⟨t, e, q⟩ := h1
  obtain ⟨t', e', q'⟩ := h2
  exact .inr ⟨r.map kV, ⟨t, e, SqT.of q, kV_plain r⟩, ⟨t', e', SqT.of q', kV_plain r⟩⟩
theorem pln_alike {H : Hp} : ∀ {ys zs : List V} {rows : List (List Key)}, Pln H ys rows → Pln H zs rows → Paired (Alike K 0 H) ys zs
  | _, _, [], .nil, .nil => .nil
  | _, _, _ :: _, .cons a h, .cons b g => .cons (row_alike a b) (pln_alike h g)
theorem shape3 {r : List Key} (h : shape r = [true, true, false]) : ∃ i j z, r = [Sum.inl i, Sum.inl j, Sum.inr z] := by
  match r, h with
  | [.inl i, .inl j, .inr z], _ => exact ⟨i, j, z, rfl⟩
  | [], h => simp [shape] at h
  | [_], h => simp [shape] at h
  | [_, _], h => simp [shape] at h
  | .inr _ :: _, h => simp [shape] at h
  | .inl _ :: .inr _ :: _, h => simp [shape] at h
  | .inl _ :: .inl _ :: .inl _ :: _, h => simp [shape] at h
  | _ :: _ :: _ :: _ :: _, h => simp [shape] at h
def sp_rows : Sp := fun vs H Q _ => ∃ (a b : Addr) (ys zs : List V) (rows : List (List Key)), vs = [.ref a, .ref b] ∧ H a = some (.lst ys) ∧ H b = some (.lst zs) ∧ Pln H ys rows ∧ Pln H zs rows ∧ (∀ r ∈ rows, shape r = [true, true, false]) ∧ Q (.bl true) H
theorem G_law_rows (T : Txt K mg) : FnOk P w K mg base CX0 2 T.f_law_rows T.fd_law_rows ["_law_found", "_law_due_here"] sp_rows := by
  refine T.d_law_rows.F.ok sc_law_rows (fun vs H Q E h => ?_) (fun cdv A outer s H vs Q E hr h => ?_)
  · obtain ⟨a, b, ys, zs, rows, rfl, _⟩ := h; rfl
  · obtain ⟨a, b, ys, zs, rows, rfl, ha, hb, hP, hP', hsh, k⟩ := h
    have hu := huN hr 0
    refine ⟨_, (pss_cons (ps_if (PW.pt (pw_or (pt_not (pt_val (pe_callB call_isinst (by rfl) T.n_isinstance PyProof.Rows.boot_isinstance (pa_cons (pv 0) (pa_cons (pe_bltn (v := .ty "list") (by rfl) T.n_list PyProof.Rows.boot_list rfl) pa_nil))))) (pw_or1 (pt_cmpR (op_neA 0 hu) (pv 0) (pv 1) (nomark _))))) (pss_one (ps_ret pe_bl)) pss_nil) (pss_cons (ps_for PassesOwn.never rfl (pi_list (pv 0)) (pg_name (i := 2) sc_law_rows.nd rfl (Or.inl rfl)) (pss_cons (ps_if (PW.pt (pw_or (pt_not (pt_val (pe_callB call_isinst (by rfl) T.n_isinstance PyProof.Rows.boot_isinstance (pa_cons (pv 2) (pa_cons (pe_bltn (v := .ty "tuple") (by rfl) T.n_tuple PyProof.Rows.boot_tuple rfl) pa_nil))))) (pw_or1 (pt_cmpR op_ne (pe_callB call_len_seq (by rfl) T.n_len PySem.boot_len (pa_cons (pv 2) pa_nil)) pe_int (nomark _))))) (pss_one (ps_ret pe_bl)) pss_nil) (pss_one (ps_if (PW.pt (pw_or (pt_not (pt_val (pe_call (G_law_whole T) (hr.mono (by decide)) (by rfl) T.d_law_whole.g T.d_law_whole.F.kp T.d_law_whole.b .nil pass0 (pa_cons (pe_ix ix_tup (pv 2) pe_int (fun _ _ => rfl)) pa_nil)))) (pw_or (pt_not (pt_val (pe_call (G_law_whole T) (hr.mono (by decide)) (by rfl) T.d_law_whole.g T.d_law_whole.F.kp T.d_law_whole.b .nil pass0 (pa_cons (pe_ix ix_tup (pv 2) pe_int (fun _ _ => rfl)) pa_nil)))) (pw_or1 (pt_not (pt_val (pe_callB call_isinst (by rfl) T.n_isinstance PyProof.Rows.boot_isinstance (pa_cons (pe_ix ix_tup (pv 2) pe_int (fun _ _ => rfl)) (pa_cons (pe_bltn (v := .ty "str") (by rfl) T.n_str PyProof.Rows.boot_str rfl) pa_nil))))))))) (pss_one (ps_ret pe_bl)) pss_nil)))) (pss_one (ps_ret pe_bl)))), ?_⟩
    refine ⟨_, rfl, _, _, _, true, rfl, TyOf.lst ha, rfl, true, rfl, iteF ?_⟩
    refine ⟨_, rfl, _, rfl, a, b, ys, zs, rfl, rfl, SqL.of ha, SqL.of hb, pln_alike hP hP', false, rfl, iteF ?_⟩
    refine ⟨_, rfl, a, rfl, ⟨_, SqL.of ha⟩, for_list (K := K) (a := a) (xs := ys) (fun i σ H2 => H2 = H ∧ ∃ v2, σ = [some (.ref a), some (.ref b), v2])
      (by exact ⟨rfl, _, rfl⟩) (fun i σ H2 _ ⟨e, _⟩ => by rw [e]; exact SqL.of ha) ?_ ?_⟩
    · rintro i x σ H2 hi ⟨rfl, v2, rfl⟩
      obtain ⟨r, er, t, rfl, ht⟩ := Paired.getL hP hi
      obtain ⟨i1, i2, z, rfl⟩ := shape3 (hsh r (List.mem_of_getElem? er))
      refine ⟨_, rfl, _, _, _, true, rfl, TyOf.tup ht, rfl, true, rfl, iteF ?_⟩
      refine ⟨_, rfl, t, _, rfl, .inr (SqT.of ht), rfl, _, rfl, iteF ?_⟩
      refine ⟨_, rfl, t, _, _, _, rfl, rfl, SqT.of ht, rfl, i1, rfl, true, rfl, iteF ?_⟩
      refine ⟨_, rfl, t, _, _, _, rfl, rfl, SqT.of ht, rfl, i2, rfl, true, rfl, iteF ?_⟩
      refine ⟨_, rfl, t, _, _, _, rfl, rfl, SqT.of ht, rfl, _, _, _, true, rfl, TyOf.str z, rfl, true, rfl, iteF ?_⟩
      exact ⟨rfl, _, rfl⟩
    · rintro σ H2 ⟨rfl, v2, rfl⟩
      exact k
/-- the due rows of a cell -/
def sp_cd (K : PySem.W.Frag) : Sp := fun vs H Q _ => ∃ (t nl : Addr) (c : C3) (nms : List Str), vs = [.ref t, .ref nl] ∧ H t = some (.tup [.int c.1, .int c.2.1, .int c.2.2]) ∧ SqL K H nl (nms.map V.str) ∧ okC c ∧ (nms.length : Int) ≤ c.2.2 * trn c ∧ nms.length ≤ 90000 ∧
  ∀ (l : Addr) (ys : List V) (H' : Hp), H l = none → Same H H' → H' l = some (.lst ys) → Pln H' ys (cellRows c.1 (trn c) nms) → Q (.ref l) H'
theorem take_all {α : Type} {l : List α} {n : Nat} (h : l.length ≤ n) : l.take n = l := List.take_of_length_le h
theorem G_law_cell_due (T : Txt K mg) : FnOk P w K mg base CX0 1 T.f_law_cell_due T.fd_law_cell_due ["_law_cell_here", "_law_names_here"] (sp_cd K) := by
  refine T.d_law_cell_due.F.ok sc_law_cell_due (fun vs H Q E h => ?_) (fun cdv A outer s H vs Q E hr h => ?_)
  · obtain ⟨t, nl, c, nms, rfl, _⟩ := h; rfl
  · obtain ⟨t, nl, c, nms, rfl, ht, hS, ⟨⟨t0, t1⟩, ⟨f0, f1⟩, m0, m16⟩, hcap, hbig, k⟩ := h
    refine ⟨_, (pss_cons (ps_set (i := 2) sc_law_cell_due.nd rfl (Or.inl rfl) (pe_lst pa_nil)) (pss_cons (ps_for PassesOwn.never rfl (pi_range1 rfl T.n_range (pa_cons (pe_ix ix_tup (pv 0) pe_int (fun _ _ => rfl)) pa_nil)) (pg_name (i := 3) sc_law_cell_due.nd rfl (Or.inl rfl)) (pss_one (ps_for PassesOwn.never rfl (pi_range2 rfl T.n_range (pa_cons (pe_ix ix_tup (pv 0) pe_int (fun _ _ => rfl)) (pa_cons (pe_op op_add (pe_ix ix_tup (pv 0) pe_int (fun _ _ => rfl)) pe_int) pa_nil))) (pg_name (i := 4) sc_law_cell_due.nd rfl (Or.inl rfl)) (pss_cons (ps_if (pt_cmpR op_eq (pe_callB call_len_seq (by rfl) T.n_len PySem.boot_len (pa_cons (pv 2) pa_nil)) (pe_callB call_len_seq (by rfl) T.n_len PySem.boot_len (pa_cons (pv 1) pa_nil)) (nomark _)) (pss_one (ps_ret (pv 2))) pss_nil) (pss_one (ps_expr (pe_bm PySem.F.plainAttrs_list PySem.F.slot_list_append PySem.F.type_list_append mt_append (pv 2) (pa_cons (pe_tup (pa_cons (pv 4) (pa_cons (pv 3) (pa_cons (pe_ix ix_list (pv 1) (pe_callB call_len_seq (by rfl) T.n_len PySem.boot_len (pa_cons (pv 2) pa_nil)) (fun _ _ => rfl)) pa_nil)))) pa_nil)))))))) (pss_one (ps_ret (pv 2))))), ?_⟩
    refine ⟨by show 0 ≤ sizeLine; decide, fun l hl => ?_⟩
    have s1 := same_upd (o := .lst []) hl
    have k1 : (upd H l (.lst [])) l = some (.lst []) := upd_same
    generalize upd H l (.lst []) = H1 at s1 k1 ⊢
    refine ⟨_, rfl, t, _, _, _, rfl, rfl, SqT.of (s1 _ _ ht), rfl, c.2.2, rfl, by omega, by omega, ?_⟩
    obtain ⟨n, hn⟩ : ∃ n : Nat, trn c = (n : Int) := ⟨(trn c).toNat, by omega⟩
    rw [hn] at t0 t1 hcap k
    refine for_range (lo := 0) (n := c.2.2.toNat) (fun m σ H2 => ∃ (ys : List V) (v3 v4 : Option V), σ = [some (.ref t), some (.ref nl), some (.ref l), v3, v4] ∧ Same H H2 ∧ H2 l = some (.lst ys) ∧ m * n ≤ nms.length ∧ Pln H2 ys (cellRows c.1 n (nms.take (m * n))))
      (by exact ⟨[], _, _, rfl, s1, k1, by omega, by rw [Nat.zero_mul, List.take_zero]; exact .nil⟩) ?_ ?_
    · rintro m σ H2 hm ⟨ys, v3, v4, rfl, s2, k2, hmn, hP⟩
      have ht2 := s2 _ _ ht
      refine ⟨_, rfl, t, _, _, _, rfl, rfl, SqT.of ht2, rfl, _, rfl, t, _, _, _, rfl, rfl, SqT.of ht2, rfl, c.2.1, _, rfl, rfl, c.1, _, rfl, ⟨by omega, by omega, by unfold trn at hn; omega, by unfold trn at hn; omega⟩, ?_⟩
      rw [show (c.2.1 + 1 - c.1).toNat = n by unfold trn at hn; omega]
      refine for_range (lo := c.1) (n := n) (fun p σ H3 => ∃ (ys : List V) (v4 : Option V), σ = [some (.ref t), some (.ref nl), some (.ref l), some (.int (0 + (m : Int))), v4] ∧ Same H H3 ∧ H3 l = some (.lst ys) ∧ m * n + p ≤ nms.length ∧ Pln H3 ys (cellRows c.1 n (nms.take (m * n + p))))
        (by exact ⟨ys, _, rfl, s2, k2, hmn, hP⟩) ?_ ?_
      · rintro p σ H3 hp ⟨ys, v4, rfl, s3, k3, hmp, hP3⟩
        have hyl : ys.length = m * n + p := by rw [hP3.len, cellRows_len, List.length_take]; omega
        refine ⟨_, rfl, l, _, rfl, .inl (SqL.of k3), _, rfl, nl, _, rfl, .inl (s3.seq hS), rfl, _, rfl, ?_⟩
        refine ite2 (fun e => ?_) (fun e => ?_)
        · have e' : (ys.length : Int) = ((nms.map V.str).length : Int) := by
            have := of_decide_eq_true e
            injection this
          rw [List.length_map] at e'
          rw [take_all (by omega)] at hP3
          exact ⟨_, rfl, k l ys H3 hl s3 k3 hP3⟩
        · have e' : ¬ ys.length = nms.length := fun z => by
            apply e
            rw [decide_eq_true_iff, List.length_map, z]
          have hlt : m * n + p < nms.length := by omega
          have hat : atI (nms.map V.str) (ys.length : Int) = some (.str (nms[m * n + p])) := atI_nat (by rw [List.getElem?_map, hyl, List.getElem?_eq_getElem hlt]; rfl)
          refine ⟨_, rfl, .inl ⟨rfl, _, SqL.of k3⟩, _, rfl, _, rfl, _, rfl, _, rfl, l, _, rfl, .inl (SqL.of k3), nl, _, _, _, rfl, rfl, s3.seq hS, hat, by show 3 ≤ sizeLine; decide, fun u hu => ?_⟩
          have s4 := same_upd (o := .tup [.int (c.1 + (p : Int)), .int (0 + (m : Int)), .str (nms[m * n + p])]) hu
          have k4 := s4 _ _ k3
          have er : (0 : Int) + (m : Int) = ((m * n + p : Nat) : Int) / (n : Int) ∧ (p : Int) = ((m * n + p : Nat) : Int) % (n : Int) := by
            have h1 : ((m * n + p : Nat) : Int) = (p : Int) + (m : Int) * (n : Int) := by push_cast; omega
            rw [h1, Int.add_mul_ediv_right _ _ (by omega), Int.add_mul_emod_self_right, Int.ediv_eq_zero_of_lt (by omega) (by omega), Int.emod_eq_of_lt (by omega) (by omega)]
            constructor <;> omega
          have hP4 : Pln (upd H3 u (.tup [.int (c.1 + (p : Int)), .int (0 + (m : Int)), .str (nms[m * n + p])])) (ys ++ [.ref u]) (cellRows c.1 n (nms.take (m * n + (p + 1)))) := by
            rw [← Nat.add_assoc, List.take_add_one, List.getElem?_eq_getElem hlt]
            show Pln _ _ (cellRows c.1 n (nms.take (m * n + p) ++ [nms[m * n + p]]))
            rw [cellRows_snoc, List.length_take, Nat.min_eq_left (by omega), ← er.1, ← er.2]
            exact (hP3.mono s4).snoc (r := [Sum.inl (c.1 + (p : Int)), Sum.inl (0 + (m : Int)), Sum.inr (nms[m * n + p])]) upd_same
          exact ⟨l, _, _, rfl, rfl, k4, big20 (by omega), ys ++ [.ref u], _, rfl, same_set (s3.trans s4) hl, upd_same, by omega, hP4.stay k4⟩
      · rintro σ H3 ⟨ys, v4, rfl, s3, k3, hmp, hP3⟩
        refine ⟨ys, _, _, rfl, s3, k3, by rw [Nat.succ_mul]; exact hmp, by rw [Nat.succ_mul]; exact hP3⟩
    · rintro σ H2 ⟨ys, v3, v4, rfl, s2, k2, hmn, hP⟩
      have : nms.length ≤ c.2.2.toNat * n := by
        have e : ((c.2.2.toNat * n : Nat) : Int) = c.2.2 * (n : Int) := by push_cast; rw [Int.toNat_of_nonneg m0]
        omega
      rw [take_all this] at hP
      exact ⟨_, rfl, k l ys H2 hl s2 k2 hP⟩
end
end My

set_option Elab.async false
set_option linter.all false
set_option maxRecDepth 100000
set_option maxHeartbeats 4000000
namespace My
open PySem L2
section
variable {P : Program} {w : World} {K : PySem.W.Frag} {mg : Str → Option Value} {base : Heap}
/-- each cell has room for its shares -/
def Room3 (js : List J) (cs : List C3) (shs : List (List Int)) : Prop := ∀ k c, cs[k]? = some c → okC c ∧ ((nmsOf js (ofCell shs k)).length : Int) ≤ c.2.2 * trn c
theorem flat_rep (n : Nat) (x : Str) : (List.replicate n [V.str x]).flatten = (List.replicate n x).map V.str := by
  induction n with
  | zero => rfl
  | succ n ih => rw [List.replicate_succ, List.flatten_cons, ih, List.replicate_succ]; rfl
theorem ofCell_at {shs : List (List Int)} {i m : Nat} {sh : List Int} (h : shs[m]? = some sh) : (ofCell shs i)[m]? = some (sh.getD i 0) := by
  unfold ofCell; rw [List.getElem?_map, h]; rfl
def sp_due (K : PySem.W.Frag) : Sp := fun vs H Q _ => ∃ (a c b : Addr) (xs cx bx : List V) (js : List J) (cs : List C3) (shs : List (List Int)), vs = [.ref a, .ref c, .ref b] ∧ SqL K H a xs ∧ Jobs H xs js ∧ SqL K H c cx ∧ Cls H cx cs ∧ SqL K H b bx ∧ Shs H bx shs ∧ Fit js cs shs ∧ Room3 js cs shs ∧
  ∀ (l : Addr) (ys : List V) (rows : List (List Key)) (H' : Hp), H l = none → Same H H' → H' l = some (.lst ys) → Pln H' ys rows → rows.Perm (allRows js cs shs) → rows.Pairwise (fun x y => lexK y x = false) → Q (.ref l) H'
theorem G_law_due (T : Txt K mg) : FnOk P w K mg base CX0 2 T.f_law_due T.fd_law_due ["_law_load", "_law_pieces", "_law_shares_here"] (sp_due K) := by
  refine T.d_law_due.F.ok sc_law_due (fun vs H Q E h => ?_) (fun cdv A outer s H vs Q E hr h => ?_)
  · obtain ⟨a, c, b, xs, cx, bx, js, cs, shs, rfl, _⟩ := h; rfl
  · obtain ⟨a, c, b, xs, cx, bx, js, cs, shs, rfl, hS, hJ, hSc, hC, hSb, hB, hF, hR3, k⟩ := h
    have hcl := hC.len
    have hbl := hB.len
    have hjl := hJ.len
    have hlen := hF.len
    refine ⟨_, (pss_cons (ps_set (i := 3) sc_law_due.nd rfl (Or.inl rfl) (pe_lst pa_nil)) (pss_cons (ps_for PassesOwn.never rfl (pi_enum rfl T.n_enumerate (pa_cons (pv 1) pa_nil)) (pg_tup rfl (pgs_cons (pg_name (i := 4) sc_law_due.nd rfl (Or.inl rfl)) (pgs_cons (pg_name (i := 5) sc_law_due.nd rfl (Or.inl rfl)) pgs_nil))) (pss_cons (ps_set (i := 6) sc_law_due.nd rfl (Or.inl rfl) (pe_lst pa_nil)) (pss_cons (ps_for PassesOwn.never rfl (pi_zip rfl T.n_zip (pa_cons (pv 0) (pa_cons (pv 2) pa_nil))) (pg_tup rfl (pgs_cons (pg_name (i := 7) sc_law_due.nd rfl (Or.inl rfl)) (pgs_cons (pg_name (i := 8) sc_law_due.nd rfl (Or.inl rfl)) pgs_nil))) (pss_one (ps_set (i := 6) sc_law_due.nd rfl (Or.inl rfl) (pe_op op_cat (pv 6) (pe_op op_rep (pe_lst (pa_cons (pe_ix ix_tup (pv 7) pe_int (fun _ _ => rfl)) pa_nil)) (pe_ix ix_list (pv 8) (pv 4) (fun _ _ => rfl))))))) (pss_one (ps_set (i := 3) sc_law_due.nd rfl (Or.inl rfl) (pe_op op_cat (pv 3) (pe_call (G_law_cell_due T) (hr.mono (by decide)) (by rfl) T.d_law_cell_due.g T.d_law_cell_due.F.kp T.d_law_cell_due.b .nil pass0 (pa_cons (pv 5) (pa_cons (pv 6) pa_nil))))))))) (pss_one (ps_ret (pe_callB call_sortedK (by rfl) T.n_sorted PyProof.Rows.boot_sorted (pa_cons (pv 3) pa_nil)))))), ?_⟩
    refine ⟨by show 0 ≤ sizeLine; decide, fun l hl0 => ?_⟩
    have s1 := same_upd (o := .lst []) hl0
    refine ⟨_, rfl, c, cx, rfl, s1.seq hSc, for_enum (K := K) (a := c) (xs := cx) (fun i σ H2 => ∃ (dl : Addr) (zs : List V) (v4 v5 v6 v7 v8 : Option V), σ = [some (.ref a), some (.ref c), some (.ref b), some (.ref dl), v4, v5, v6, v7, v8] ∧ Same H H2 ∧ H2 dl = some (.lst zs) ∧ Pln H2 zs (allRows js (cs.take i) shs))
      (by exact ⟨l, [], _, _, _, _, _, rfl, s1, upd_same, .nil⟩) (fun i σ H2 _ ⟨_, _, _, _, _, _, _, _, s2, _⟩ => s2.seq hSc) ?_ ?_⟩
    · rintro i x σ H2 T' hx ⟨dl, zs, v4, v5, v6, v7, v8, rfl, s2, hl2, hP⟩ hT
      obtain ⟨q, u, eq, rfl, hu⟩ := hC.get hx
      have hil : i < cs.length := (List.getElem?_eq_some_iff.mp eq).1
      obtain ⟨hokq, hcap⟩ := hR3 i q eq
      have s3 := same_upd (o := .tup [.int i, .ref u]) hT
      have s03 := s2.trans s3
      have kT : (upd H2 T' (.tup [.int i, .ref u])) T' = some (.tup [.int i, .ref u]) := upd_same
      have hl3 := s3 _ _ hl2
      have hP3 := hP.mono s3
      have hbig := Nat.le_trans (allRows_mono js cs shs (i + 1)) hF.most
      rw [allRows_take js shs eq] at hbig ⊢
      rw [List.length_append, cellRows_len] at hbig
      generalize upd H2 T' (.tup [.int i, .ref u]) = H3 at s3 s03 kT hl3 hP3 ⊢
      refine ⟨T', _, rfl, SqT.of kT, rfl, _, _, rfl, _, _, rfl, rfl, ?_⟩
      refine ⟨by show 0 ≤ sizeLine; decide, fun nl0 hnl0 => ?_⟩
      have s4 := same_upd (o := .lst []) hnl0
      have k4 : (upd H3 nl0 (.lst [])) nl0 = some (.lst []) := upd_same
      generalize upd H3 nl0 (.lst []) = H4 at s4 k4 ⊢
      have s04 := s03.trans s4
      have hol : (ofCell shs i).length = js.length := by unfold ofCell; rw [List.length_map]; exact hlen
      refine ⟨_, rfl, _, rfl, a, b, xs, bx, rfl, s04.seq hS, s04.seq hSb, for_zip (K := K) (a := a) (b := b) (xs := xs) (ys := bx) (fun m σ H5 => ∃ (nl : Addr) (v7 v8 : Option V), σ = [some (.ref a), some (.ref c), some (.ref b), some (.ref dl), some (.int (i : Int)), some (.ref u), some (.ref nl), v7, v8] ∧ Same H3 H5 ∧ H5 nl = some (.lst ((nmsOf (js.take m) ((ofCell shs i).take m)).map V.str)))
        (by omega) (by exact ⟨nl0, _, _, rfl, s4, k4⟩) (fun m σ H5 _ ⟨_, _, _, _, s5, _⟩ => ⟨(s03.trans s5).seq hS, (s03.trans s5).seq hSb⟩) ?_ ?_⟩
      · rintro m x y σ H5 T2 hx2 hy2 ⟨nl, v7, v8, rfl, s5, hnl⟩ hT2
        obtain ⟨j, ju, ej, rfl, hju⟩ := hJ.get hx2
        obtain ⟨sh, p, es, rfl, hp⟩ := hB.get hy2
        obtain ⟨z1, z2⟩ := hF.each sh (List.mem_of_getElem? es)
        have hg0 : 0 ≤ sh.getD i 0 := by
          refine z2 _ ?_
          rw [List.getD_eq_getElem?_getD, List.getElem?_eq_getElem (by omega)]
          exact List.getElem_mem _
        have s6 := same_upd (o := .tup [.ref ju, .ref p]) hT2
        have kT2 : (upd H5 T2 (.tup [.ref ju, .ref p])) T2 = some (.tup [.ref ju, .ref p]) := upd_same
        generalize upd H5 T2 (.tup [.ref ju, .ref p]) = H6 at s6 kT2 ⊢
        have s36 := s5.trans s6
        have s06 := s03.trans s36
        have hle := nms_mono (js := js) (sh := ofCell shs i) (m + 1)
        have hnt := nmsOf_take ej (ofCell_at (i := i) es)
        rw [hnt, List.length_append, List.length_replicate] at hle
        refine ⟨T2, _, rfl, SqT.of kT2, rfl, _, _, rfl, _, _, rfl, rfl, ?_⟩
        refine ⟨_, rfl, _, rfl, ju, _, _, _, rfl, rfl, SqT.of (s06 _ _ hju), rfl, by show 1 ≤ sizeLine; decide, fun q1 hq1 => ?_⟩
        have s7 := same_upd (o := .lst [.str j.nm]) hq1
        have k7 : (upd H6 q1 (.lst [.str j.nm])) q1 = some (.lst [.str j.nm]) := upd_same
        generalize upd H6 q1 (.lst [.str j.nm]) = H7 at s7 k7 ⊢
        refine ⟨_, rfl, _, rfl, p, _, _, _, rfl, rfl, SqL.of ((s06.trans s7) _ _ hp), getI (by omega) (by omega), q1, _, _, rfl, rfl, k7, ?_, ?_, ?_, fun q2 hq2 => ?_⟩
        · rw [Int.toNat_natCast]; omega
        · rw [Int.toNat_natCast]; omega
        · rw [Int.toNat_natCast]; show 1 * (sh.getD i 0).toNat ≤ _; exact Nat.le_of_lt (big20 (by omega))
        · rw [Int.toNat_natCast, flat_rep]
          have s8 := same_upd (o := .lst ((List.replicate (sh.getD i 0).toNat j.nm).map V.str)) hq2
          have k8 : (upd H7 q2 (.lst ((List.replicate (sh.getD i 0).toNat j.nm).map V.str))) q2 = some (.lst ((List.replicate (sh.getD i 0).toNat j.nm).map V.str)) := upd_same
          generalize upd H7 q2 (.lst ((List.replicate (sh.getD i 0).toNat j.nm).map V.str)) = H8 at s8 k8 ⊢
          refine ⟨nl, q2, _, _, rfl, rfl, s8 _ _ (s7 _ _ (s6 _ _ hnl)), k8, Nat.le_of_lt (big20 (by rw [List.length_map, List.length_map, List.length_replicate]; omega)), fun q3 hq3 => ?_⟩
          rw [← List.map_append, ← hnt]
          exact ⟨q3, _, _, rfl, ((s36.trans s7).trans s8).trans (same_upd hq3), upd_same⟩
      · rintro σ H5 ⟨nl, v7, v8, rfl, s5, hnl⟩
        rw [hjl, List.take_length, ← hol, List.take_length] at hnl
        have s05 := s03.trans s5
        refine ⟨_, rfl, _, rfl, _, rfl, u, nl, q, nmsOf js (ofCell shs i), rfl, s05 _ _ hu, SqL.of hnl, hokq, hcap, by omega, fun l2 ys H6 hl2n s6 hl6 hP6 => ?_⟩
        have hP5 := (hP3.mono s5).mono s6
        have e1 := hP5.len
        have e2 := hP6.len
        rw [cellRows_len] at e2
        refine ⟨dl, l2, zs, ys, rfl, rfl, s6 _ _ (s5 _ _ hl3), hl6, Nat.le_of_lt (big20 (by omega)), fun q3 hq3 => ?_⟩
        have s7 := same_upd (o := .lst (zs ++ ys)) hq3
        exact ⟨q3, zs ++ ys, _, _, _, _, _, rfl, (s05.trans s6).trans s7, upd_same, (hP5.app hP6).mono s7⟩
    · rintro σ H2 ⟨dl, zs, v4, v5, v6, v7, v8, rfl, s2, hl2, hP⟩
      rw [hcl, List.take_length] at hP
      refine ⟨_, rfl, dl, zs, allRows js cs shs, RowK H2, [true, false], rfl, SqL.of hl2, fun x r ⟨t, e, q⟩ => ⟨t, e, SqT.of q⟩, hP, Nat.le_trans hF.most (by decide), fun r hr => allRows_shape hr, fun l' ys rows hl' p1 p2 p3 => ?_⟩
      have s3 := same_upd (o := .lst ys) hl'
      exact k l' ys rows _ (s2.free hl') (s2.trans s3) upd_same (Pln.mono s3 p3) p1 p2
end
end My

set_option Elab.async false
set_option linter.all false
set_option maxRecDepth 100000
set_option maxHeartbeats 4000000
namespace My
open PySem L2
section
variable {P : Program} {w : World} {K : PySem.W.Frag} {mg : Str → Option Value} {base : Heap}
theorem sum_pos : ∀ {l : List Int}, (∀ x ∈ l, 0 ≤ x) → 0 ≤ l.sum
  | [], _ => Int.le_refl _
  | y :: r, h => by
    have h1 := h y List.mem_cons_self
    have h2 := sum_pos (l := r) fun x hx => h x (List.mem_cons_of_mem _ hx)
    rw [List.sum_cons]; omega
theorem sumOk_of {ns : List Int} (h : ∀ x ∈ ns, 0 ≤ x) (hs : ns.sum < 2 ^ 62) : SumOk ns := fun j hj => by
  have e : ns = ns.take (j + 1) ++ ns.drop (j + 1) := (List.take_append_drop _ _).symm
  have a := sum_pos (l := ns.take (j + 1)) fun x hx => h x (List.mem_of_mem_take hx)
  have b := sum_pos (l := ns.drop (j + 1)) fun x hx => h x (List.mem_of_mem_drop hx)
  have c : (ns.take (j + 1)).sum + (ns.drop (j + 1)).sum = ns.sum := by rw [← List.sum_append, ← e]
  have e2 : ns.getD j 0 = ns[j] := by simp [hj]
  have d : ns.getD j 0 ≤ (ns.take (j + 1)).sum := by
    rw [List.take_add_one, List.getElem?_eq_getElem hj, List.sum_append]
    have := sum_pos (l := ns.take j) fun x hx => h x (List.mem_of_mem_take hx)
    rw [e2]
    simp only [Option.toList_some, List.sum_cons, List.sum_nil]
    omega
  have f : 0 ≤ ns.getD j 0 := by rw [e2]; exact h _ (List.getElem_mem hj)
  unfold InLong
  omega
abbrev cap (c : C3) : Int := c.2.2 * trn c
/-- shares that stand apart from ex -/
def ShX (ex : List Addr) (H : Hp) (x : V) (s : List Int) : Prop := ∃ q, x = .ref q ∧ q ∉ ex ∧ H q = some (.lst (s.map V.int))
theorem ShX.mono {ex : List Addr} {H H' : Hp} (s : Same H H') {xs : List V} {l : List (List Int)} (h : Paired (ShX ex H) xs l) : Paired (ShX ex H') xs l := Paired.imp' (fun _ _ ⟨q, e, n, r⟩ => ⟨q, e, n, s _ _ r⟩) h
theorem ShX.upd {ex : List Addr} {H : Hp} {a : Addr} {o : HO} (ha : a ∈ ex) {xs : List V} {l : List (List Int)} (h : Paired (ShX ex H) xs l) : Paired (ShX ex (L2.upd H a o)) xs l := Paired.imp' (fun _ _ ⟨q, e, n, r⟩ => ⟨q, e, n, by rw [upd_ne (fun z => n (by rw [z]; exact ha))]; exact r⟩) h
theorem ShX.more {ex : List Addr} {H : Hp} {a : Addr} (ha : H a = none) {xs : List V} {l : List (List Int)} (h : Paired (ShX ex H) xs l) : Paired (ShX (a :: ex) H) xs l := Paired.imp' (fun _ _ ⟨q, e, n, r⟩ => ⟨q, e, fun z => by
  rcases List.mem_cons.mp z with z | z
  · rw [z, ha] at r; cases r
  · exact n z, r⟩) h
theorem ShX.less {a : Addr} {ex : List Addr} {H : Hp} {xs : List V} {l : List (List Int)} (h : Paired (ShX (a :: ex) H) xs l) : Paired (ShX ex H) xs l := Paired.imp' (fun _ _ ⟨q, e, n, r⟩ => ⟨q, e, fun z => n (List.mem_cons_of_mem _ z), r⟩) h
theorem ShX.shs {ex : List Addr} {H : Hp} {xs : List V} {l : List (List Int)} (h : Paired (ShX ex H) xs l) : Shs H xs l := Paired.imp' (fun _ _ ⟨q, e, n, r⟩ => ⟨q, e, r⟩) h
theorem ixN_nat {n i : Nat} (h : i < n) : ixN n (i : Int) = some i := by
  unfold ixN
  rw [if_pos (by omega), if_pos (by omega)]
  congr 1
theorem getD_set {s : List Int} {i j : Nat} {v : Int} (hi : i < s.length) : (s.set i v).getD j 0 = if i = j then v else s.getD j 0 := by
  rw [List.getD_eq_getElem?_getD, List.getElem?_set, List.getD_eq_getElem?_getD]
  by_cases h : i = j
  · subst h; rw [if_pos rfl, if_pos rfl, if_pos hi]; rfl
  · rw [if_neg h, if_neg h]
theorem getD_app {s : List Int} {v : Int} {i : Nat} : (s ++ [v]).getD i 0 = if i = s.length then v else s.getD i 0 := by
  rw [List.getD_eq_getElem?_getD, List.getD_eq_getElem?_getD]
  by_cases h : i = s.length
  · subst h; rw [if_pos rfl, List.getElem?_append_right (Nat.le_refl _), Nat.sub_self]; rfl
  · rw [if_neg h]
    by_cases h2 : i < s.length
    · rw [List.getElem?_append_left h2]
    · rw [List.getElem?_eq_none (by rw [List.length_append, List.length_singleton]; omega), List.getElem?_eq_none (by omega)]
/-- what the shares keep to -/
def goodSh (n : Nat) (s : List Int) : Prop := s.length = n ∧ (∀ m ∈ s, 0 ≤ m) ∧ s.sum ≤ 60
def sp_shares (K : PySem.W.Frag) : Sp := fun vs H Q _ => ∃ (a bd pc : Addr) (ns bds : List Int) (cx : List V) (cs : List C3), vs = [.ref a, .ref bd, .ref pc] ∧ SqL K H a (ns.map V.int) ∧ SqL K H bd (bds.map V.int) ∧ bds.length ≤ 8 ∧ (∀ m ∈ bds, 1 ≤ m ∧ m ≤ 16) ∧ SqL K H pc cx ∧ Cls H cx cs ∧ cs.length ≤ 4 ∧ (∀ c ∈ cs, okC c) ∧
  ∀ (l : Addr) (bx : List V) (shs : List (List Int)) (H' : Hp), H l = none → Same H H' → H' l = some (.lst bx) → Shs H' bx shs → shs.length = bds.length → (∀ s ∈ shs, goodSh cs.length s) → (∀ k c, cs[k]? = some c → (ofCell shs k).sum ≤ cap c) → Q (.ref l) H'
theorem G_law_shares (T : Txt K mg) : FnOk P w K mg base CX0 2 T.f_law_shares T.fd_law_shares ["_law_script", "_law_breadths", "_law_pieces"] (sp_shares K) := by
  refine T.d_law_shares.F.ok sc_law_shares (fun vs H Q E h => ?_) (fun cdv A outer s H vs Q E hr h => ?_)
  · obtain ⟨a, bd, pc, ns, bds, cx, cs, rfl, _⟩ := h; rfl
  · obtain ⟨a, bd, pc, ns, bds, cx, cs, rfl, hS, hBd, hb8, hb1, hSc, hC, hc4, hok, k⟩ := h
    have hcl := hC.len
    refine ⟨_, (pss_cons (ps_setComp (i := 3) sc_law_shares.nd rfl (by rfl) (loc := ["_law_first", "_law_last", "_law_machines"]) (free := []) (fr := []) rfl (compScope_of (sc := defScope s_law_shares) (N := (["_law_script", "_law_breadths", "_law_pieces", "_law_rooms", "_law_shares_here", "_law_j", "_law_breadth", "_law_some", "_law_k", "_law_cell_here", "_law_most", "_law_number", "_law_share"] : List Str)) rfl rfl (by decide +kernel)) (pi_list (pv 2)) (fun _ _ _ _ _ => (pgT (K := K) 3 rfl rfl (pgs_cons (pgc 0 (["_law_first", "_law_last", "_law_machines"] : List Str) (by decide +kernel) rfl rfl (Or.inl rfl) rfl) (pgs_cons (pgc 1 (["_law_first", "_law_last", "_law_machines"] : List Str) (by decide +kernel) rfl rfl (Or.inl rfl) rfl) (pgs_cons (pgc 2 (["_law_first", "_law_last", "_law_machines"] : List Str) (by decide +kernel) rfl rfl (Or.inl rfl) rfl) pgs_nil))))) (fun _ _ _ _ _ => pts_nil) (fun _ _ _ _ _ => (pe_op op_mul (pv 2) (pe_op op_add (pe_op op_sub (pv 1) (pv 0)) pe_int)))) (pss_cons (ps_set (i := 4) sc_law_shares.nd rfl (Or.inl rfl) (pe_lst pa_nil)) (pss_cons (ps_for PassesOwn.never rfl (pi_enum rfl T.n_enumerate (pa_cons (pv 1) pa_nil)) (pg_tup rfl (pgs_cons (pg_name (i := 5) sc_law_shares.nd rfl (Or.inl rfl)) (pgs_cons (pg_name (i := 6) sc_law_shares.nd rfl (Or.inl rfl)) pgs_nil))) (pss_cons (ps_set (i := 7) sc_law_shares.nd rfl (Or.inl rfl) (pe_lst pa_nil)) (pss_cons (ps_for PassesOwn.never rfl (pi_enum rfl T.n_enumerate (pa_cons (pv 2) pa_nil)) (pg_tup rfl (pgs_cons (pg_name (i := 8) sc_law_shares.nd rfl (Or.inl rfl)) (pgs_cons (pg_name (i := 9) sc_law_shares.nd rfl (Or.inl rfl)) pgs_nil))) (pss_cons (ps_set (i := 10) sc_law_shares.nd rfl (Or.inl rfl) (pe_callB (call_min3 rfl) (by rfl) T.n_min PyProof.Rows.boot_min (pa_cons (pe_op op_mul (pv 6) (pe_op op_add (pe_op op_sub (pe_ix ix_tup (pv 9) pe_int (fun _ _ => rfl)) (pe_ix ix_tup (pv 9) pe_int (fun _ _ => rfl))) pe_int)) (pa_cons (pe_ix ix_list (pv 3) (pv 8) (fun _ _ => rfl)) (pa_cons (pe_op op_sub pe_int (pe_callB (call_sum rfl) (by rfl) T.n_sum PyProof.Rows.boot_sum (pa_cons (pv 7) pa_nil))) pa_nil))))) (pss_cons (ps_set (i := 11) sc_law_shares.nd rfl (Or.inl rfl) (pe_call (G_law_cell T) (hr.mono (by decide)) (by rfl) T.d_law_cell.g T.d_law_cell.F.kp T.d_law_cell.b .nil pass0 (pa_cons (pv 0) (pa_cons (pe_op op_add (pe_op op_add pe_int (pe_op op_mul (pv 5) (pe_callB call_len_seq (by rfl) T.n_len PySem.boot_len (pa_cons (pv 2) pa_nil)))) (pv 8)) pa_nil)))) (pss_cons (ps_set (i := 12) sc_law_shares.nd rfl (Or.inl rfl) (pe_op op_mod (pe_op op_fdiv (pv 11) pe_int) (pe_op op_add (pv 10) pe_int))) (pss_cons (ps_if (pt_cmpR op_eq (pe_op op_mod (pv 11) pe_int) pe_int (nomark _)) (pss_one (ps_set (i := 12) sc_law_shares.nd rfl (Or.inl rfl) (pv 10))) pss_nil) (pss_cons (ps_asg (pe_op op_sub (pe_ix ix_list (pv 3) (pv 8) (fun _ _ => rfl)) (pv 12)) (pg_sub (pv 3) (pv 8) set_list)) (pss_one (ps_expr (pe_bm PySem.F.plainAttrs_list PySem.F.slot_list_append PySem.F.type_list_append mt_append (pv 7) (pa_cons (pv 12) pa_nil)))))))))) (pss_one (ps_expr (pe_bm PySem.F.plainAttrs_list PySem.F.slot_list_append PySem.F.type_list_append mt_append (pv 4) (pa_cons (pv 7) pa_nil))))))) (pss_one (ps_ret (pv 4)))))), ?_⟩
    refine ⟨_, rfl, pc, rfl, ⟨cx, hSc⟩, fun r hr0 => ?_⟩
    refine comp_list (K := K) (a := pc) (xs := cx) (fun i acc σ H2 => acc = ((cs.take i).map cap).map V.int ∧ H2 r = some (.lst acc) ∧ Same H H2 ∧ acc.length = i ∧ ∃ v1 v2 v3, σ = [v1, v2, v3])
      (by exact ⟨rfl, upd_same, same_upd hr0, rfl, _, _, _, rfl⟩) (fun i acc σ H2 h => h.2.1) (fun i acc σ H2 _ h => h.2.2.1.seq hSc) ?_ ?_
    · rintro i x acc σ H2 hi ⟨ea, hD2, s2, hal, v1, v2, v3, rfl⟩
      obtain ⟨c, u, ec, rfl, hu⟩ := hC.get hi
      obtain ⟨⟨t0, t1⟩, ⟨f0, f1⟩, m0, m1⟩ := hok c (List.mem_of_getElem? ec)
      have hil : i < cx.length := (List.getElem?_eq_some_iff.mp hi).1
      refine ⟨u, _, rfl, SqT.of (s2 _ _ hu), rfl, _, _, rfl, _, _, rfl, _, _, rfl, rfl, ?_⟩
      refine ⟨_, rfl, _, rfl, _, rfl, _, _, rfl, rfl, _, _, rfl, rfl, _, _, rfl, rfl, .inl ⟨by omega, by omega⟩, ?_⟩
      refine ⟨hD2, small1000 (by omega), ?_, upd_same, same_set s2 hr0, by rw [List.length_append, hal]; rfl, _, _, _, rfl⟩
      rw [List.take_add_one, ec, List.map_append, List.map_append, ea]; rfl
    rintro rac σ H1 ⟨ea, hr1, s1, _, _, _, _, rfl⟩
    rw [hcl, List.take_length] at ea
    subst ea
    refine ⟨by show 0 ≤ sizeLine; decide, fun l hl => ?_⟩
    have hlr : l ≠ r := fun e => by rw [e, hr1] at hl; cases hl
    have hl0 : H l = none := s1.free hl
    have s2 := s1.trans (same_upd (o := .lst []) hl)
    have kl2 : (upd H1 l (.lst [])) l = some (.lst []) := upd_same
    have kr2 : (upd H1 l (.lst [])) r = some (.lst ((cs.map cap).map V.int)) := by rw [upd_ne hlr.symm]; exact hr1
    generalize upd H1 l (.lst []) = H2 at s2 kl2 kr2 ⊢
    have hrl := hBd
    refine ⟨_, rfl, bd, _, rfl, s2.seq hBd, for_enum (K := K) (a := bd) (xs := bds.map V.int) (fun j σ H3 => ∃ (bx : List V) (shs : List (List Int)) (rm : List Int) (v5 v6 v7 v8 v9 v10 v11 v12 : Option V), σ = [some (.ref a), some (.ref bd), some (.ref pc), some (.ref r), some (.ref l), v5, v6, v7, v8, v9, v10, v11, v12] ∧ Same H H3 ∧ H3 r = some (.lst (rm.map V.int)) ∧ H3 l = some (.lst bx) ∧ Paired (ShX [r, l] H3) bx shs ∧ shs.length = j ∧ rm.length = cs.length ∧ (∀ k c, cs[k]? = some c → 0 ≤ rm.getD k 0 ∧ rm.getD k 0 + (ofCell shs k).sum = cap c) ∧ ∀ s ∈ shs, goodSh cs.length s)
      (by
        refine ⟨[], [], cs.map cap, _, _, _, _, _, _, _, _, rfl, s2, kr2, kl2, .nil, rfl, List.length_map _, fun k c hc => ?_, (by intro _ h; cases h)⟩
        have e : (cs.map cap).getD k 0 = cap c := by rw [List.getD_eq_getElem?_getD, List.getElem?_map, hc]; rfl
        obtain ⟨⟨t0, t1⟩, ⟨f0, f1⟩, m0, m1⟩ := hok c (List.mem_of_getElem? hc)
        rw [e]
        exact ⟨Int.mul_nonneg m0 (by omega), Int.add_zero _⟩) (fun j σ H3 _ ⟨_, _, _, _, _, _, _, _, _, _, _, _, s3, _⟩ => s3.seq hBd) ?_ ?_⟩
    · rintro j x σ H3 T' hx ⟨bx, shs, rm, v5, v6, v7, v8, v9, v10, v11, v12, rfl, s3, kr3, kl3, hX, hsl, hrl, hcaps, hgood⟩ hT
      obtain ⟨br, ebr, rfl⟩ := int_at hx
      obtain ⟨br1, br16⟩ := hb1 br (List.mem_of_getElem? ebr)
      have hj8 : j < bds.length := (List.getElem?_eq_some_iff.mp ebr).1
      have sT := same_upd (o := .tup [.int j, .int br]) hT
      have kT : (upd H3 T' (.tup [.int j, .int br])) T' = some (.tup [.int j, .int br]) := upd_same
      have s4 := s3.trans sT
      have kr4 := sT _ _ kr3
      have kl4 := sT _ _ kl3
      have hX4 := ShX.mono sT hX
      generalize upd H3 T' (.tup [.int j, .int br]) = H4 at sT kT s4 kr4 kl4 hX4 ⊢
      refine ⟨T', _, rfl, SqT.of kT, rfl, _, _, rfl, _, _, rfl, rfl, ?_⟩
      refine ⟨by show 0 ≤ sizeLine; decide, fun p hp => ?_⟩
      have npr : p ≠ r := fun e => by rw [e, kr4] at hp; cases hp
      have npl : p ≠ l := fun e => by rw [e, kl4] at hp; cases hp
      have hp0 : H p = none := s4.free hp
      have sp := same_upd (o := .lst []) hp
      have s5 := s4.trans sp
      have kp5 : (upd H4 p (.lst [])) p = some (.lst (([] : List Int).map V.int)) := upd_same
      have kr5 := sp _ _ kr4
      have kl5 := sp _ _ kl4
      have hX5 := ShX.mono sp (ShX.more hp hX4)
      generalize upd H4 p (.lst []) = H5 at sp s5 kp5 kr5 kl5 hX5 ⊢
      refine ⟨_, rfl, pc, cx, rfl, s5.seq hSc, for_enum (K := K) (a := pc) (xs := cx) (fun i σ H6 => ∃ (sm rm' : List Int) (v8 v9 v10 v11 v12 : Option V), σ = [some (.ref a), some (.ref bd), some (.ref pc), some (.ref r), some (.ref l), some (.int (j : Int)), some (.int br), some (.ref p), v8, v9, v10, v11, v12] ∧ Same H H6 ∧ H6 r = some (.lst (rm'.map V.int)) ∧ H6 l = some (.lst bx) ∧ H6 p = some (.lst (sm.map V.int)) ∧ Paired (ShX [p, r, l] H6) bx shs ∧ sm.length = i ∧ (∀ m ∈ sm, 0 ≤ m) ∧ sm.sum ≤ 60 ∧ rm'.length = cs.length ∧ ∀ i, i < cs.length → 0 ≤ rm'.getD i 0 ∧ rm'.getD i 0 + sm.getD i 0 = rm.getD i 0)
        (by
          refine ⟨[], rm, _, _, _, _, _, rfl, s5, kr5, kl5, kp5, hX5, rfl, (by intro _ h; cases h), by decide, hrl, fun i hi => ⟨(hcaps i cs[i] (List.getElem?_eq_getElem hi)).1, ?_⟩⟩
          show rm.getD i 0 + 0 = _
          omega) (fun i σ H6 _ ⟨_, _, _, _, _, _, _, _, s6, _⟩ => s6.seq hSc) ?_ ?_⟩
      · rintro kk x σ H6 T2 hx2 ⟨sm, rm', v8, v9, v10, v11, v12, rfl, s6, kr6, kl6, kp6, hX6, hsml, hsm0, hsum, hrl', hrm⟩ hT2
        obtain ⟨c, u, ec, rfl, hu⟩ := hC.get hx2
        obtain ⟨⟨t0, t1⟩, ⟨f0, f1⟩, mm0, mm1⟩ := hok c (List.mem_of_getElem? ec)
        have hkl : kk < cs.length := (List.getElem?_eq_some_iff.mp ec).1
        obtain ⟨rv0, rve⟩ := hrm kk hkl
        have hsmk : sm.getD kk 0 = 0 := by rw [List.getD_eq_getElem?_getD, List.getElem?_eq_none (by omega)]; rfl
        have sT2 := same_upd (o := .tup [.int kk, .ref u]) hT2
        have kT2 : (upd H6 T2 (.tup [.int kk, .ref u])) T2 = some (.tup [.int kk, .ref u]) := upd_same
        have s7 := s6.trans sT2
        have kr7 := sT2 _ _ kr6
        have kl7 := sT2 _ _ kl6
        have kp7 := sT2 _ _ kp6
        have hX7 := ShX.mono sT2 hX6
        generalize upd H6 T2 (.tup [.int kk, .ref u]) = H7 at sT2 kT2 s7 kr7 kl7 kp7 hX7 ⊢
        have hu7 := s7 _ _ hu
        have gi : atI (rm'.map V.int) (kk : Int) = some (.int (rm'.getD kk 0)) := by
          have := getI (s := rm') (j := (kk : Int)) (by omega) (by omega)
          rw [Int.toNat_natCast] at this; exact this
        have sm0 := sum_pos hsm0
        refine ⟨T2, _, rfl, SqT.of kT2, rfl, _, _, rfl, _, _, rfl, rfl, ?_⟩
        refine ⟨_, rfl, _, rfl, u, _, _, _, rfl, rfl, SqT.of hu7, rfl, _, rfl, u, _, _, _, rfl, rfl, SqT.of hu7, rfl, c.2.1, c.1, rfl, rfl, _, _, rfl, rfl, _, _, rfl, rfl, .inl ⟨by omega, by omega⟩, _, rfl, _, rfl, r, _, _, _, rfl, rfl, SqL.of kr7, gi, _, rfl, p, sm, rfl, SqL.of kp7, sumOk_of hsm0 (by omega), _, _, rfl, rfl, _, _, _, rfl, ?_⟩
        have b0 : 0 ≤ br * (c.2.1 - c.1 + 1) := Int.mul_nonneg (by omega) (by unfold trn at t0; omega)
        have hm0 : 0 ≤ min (br * (c.2.1 - c.1 + 1)) (min (rm'.getD kk 0) (60 - sm.sum)) := by omega
        have hm1 : min (br * (c.2.1 - c.1 + 1)) (min (rm'.getD kk 0) (60 - sm.sum)) ≤ rm'.getD kk 0 := by omega
        have hm2 : min (br * (c.2.1 - c.1 + 1)) (min (rm'.getD kk 0) (60 - sm.sum)) ≤ 60 - sm.sum := by omega
        generalize min (br * (c.2.1 - c.1 + 1)) (min (rm'.getD kk 0) (60 - sm.sum)) = most at hm0 hm1 hm2 ⊢
        have jl0 : 0 ≤ (j : Int) * (cx.length : Int) := Int.mul_nonneg (by omega) (by omega)
        have jl1 : (j : Int) * (cx.length : Int) ≤ 8 * 4 := Int.mul_le_mul (by omega) (by omega) (by omega) (by decide)
        refine ⟨_, rfl, _, rfl, _, rfl, pc, _, rfl, .inl (s7.seq hSc), _, _, rfl, rfl, .inl ⟨by omega, by omega⟩, _, _, rfl, rfl, _, rfl, _, _, rfl, rfl, a, ns, _, rfl, s7.seq hS, by omega, by omega, fun num => ?_⟩
        refine ⟨_, rfl, _, _, rfl, rfl, dv 3, _, rfl, _, _, rfl, rfl, _, _, rfl, rfl, (by show (0 : Int) < most + 1; omega), ?_⟩
        refine ⟨_, rfl, _, _, rfl, rfl, (by show (0 : Int) < 3; decide), rfl, _, rfl, ?_⟩
        have fin : ∀ (sh : Int), 0 ≤ sh → sh ≤ most → ∃ (sm2 rm2 : List Int) (w8 w9 w10 w11 w12 : Option V), ([some (.ref a), some (.ref bd), some (.ref pc), some (.ref r), some (.ref l), some (.int (j : Int)), some (.int br), some (.ref p), some (.int (kk : Int)), some (.ref u), some (.int most), some (.int num), some (.int sh)] : St) = [some (.ref a), some (.ref bd), some (.ref pc), some (.ref r), some (.ref l), some (.int (j : Int)), some (.int br), some (.ref p), w8, w9, w10, w11, w12] ∧ Same H (upd (upd H7 r (.lst ((rm'.map V.int).set kk (.int (rm'.getD kk 0 - sh))))) p (.lst (sm.map V.int ++ [.int sh]))) ∧ (upd (upd H7 r (.lst ((rm'.map V.int).set kk (.int (rm'.getD kk 0 - sh))))) p (.lst (sm.map V.int ++ [.int sh]))) r = some (.lst (rm2.map V.int)) ∧ (upd (upd H7 r (.lst ((rm'.map V.int).set kk (.int (rm'.getD kk 0 - sh))))) p (.lst (sm.map V.int ++ [.int sh]))) l = some (.lst bx) ∧ (upd (upd H7 r (.lst ((rm'.map V.int).set kk (.int (rm'.getD kk 0 - sh))))) p (.lst (sm.map V.int ++ [.int sh]))) p = some (.lst (sm2.map V.int)) ∧ Paired (ShX [p, r, l] (upd (upd H7 r (.lst ((rm'.map V.int).set kk (.int (rm'.getD kk 0 - sh))))) p (.lst (sm.map V.int ++ [.int sh])))) bx shs ∧ sm2.length = kk + 1 ∧ (∀ m ∈ sm2, 0 ≤ m) ∧ sm2.sum ≤ 60 ∧ rm2.length = cs.length ∧ ∀ i, i < cs.length → 0 ≤ rm2.getD i 0 ∧ rm2.getD i 0 + sm2.getD i 0 = rm.getD i 0 := fun sh h0 h1 => by
          refine ⟨sm ++ [sh], rm'.set kk (rm'.getD kk 0 - sh), _, _, _, _, _, rfl, same_set (same_set s7 hr0) hp0, ?_, ?_, ?_, ShX.upd (by simp) (ShX.upd (by simp) hX7), by rw [List.length_append, hsml]; rfl, fun m hm => ?_, ?_, by rw [List.length_set]; exact hrl', fun i hi => ?_⟩
          · rw [upd_ne npr.symm, upd_same, List.map_set]
          · rw [upd_ne npl.symm, upd_ne hlr]; exact kl7
          · rw [upd_same, List.map_append]; rfl
          · rcases List.mem_append.mp hm with z | z
            · exact hsm0 m z
            · rw [List.mem_singleton.mp z]; exact h0
          · rw [List.sum_append]
            show sm.sum + ([sh]).sum ≤ 60
            rw [List.sum_cons, List.sum_nil]; omega
          · obtain ⟨q1, q2⟩ := hrm i hi
            rw [getD_set (by omega), getD_app, hsml]
            by_cases e : kk = i
            · subst e
              rw [if_pos rfl, if_pos rfl]
              omega
            · rw [if_neg e, if_neg (fun z => e z.symm)]
              exact ⟨q1, q2⟩
        have kp8 : ∀ o, (upd H7 r o) p = some (.lst (sm.map V.int)) := fun o => by rw [upd_ne npr]; exact kp7
        refine ite2 (fun c2 => ?_) (fun c2 => ?_)
        · refine ⟨_, rfl, ?_⟩
          refine ⟨_, rfl, _, rfl, r, _, _, _, rfl, rfl, SqL.of kr7, gi, _, rfl, _, _, rfl, rfl, _, rfl, _, rfl, r, _, _, kk, rfl, rfl, kr7, ixN_nat (by rw [List.length_map]; omega), ?_⟩
          refine ⟨_, rfl, .inl ⟨rfl, _, SqL.of (kp8 _)⟩, _, rfl, p, _, _, rfl, rfl, kp8 _, small1000 (by rw [List.length_map]; omega), ?_⟩
          exact fin most hm0 (Int.le_refl _)
        · have h0 : 0 ≤ num / 3 % (most + 1) := Int.emod_nonneg _ (by omega)
          have h1 : num / 3 % (most + 1) ≤ most := by have := Int.emod_lt_of_pos (num / 3) (show (0 : Int) < most + 1 by omega); omega
          refine ⟨_, rfl, _, rfl, r, _, _, _, rfl, rfl, SqL.of kr7, gi, _, rfl, _, _, rfl, rfl, _, rfl, _, rfl, r, _, _, kk, rfl, rfl, kr7, ixN_nat (by rw [List.length_map]; omega), ?_⟩
          refine ⟨_, rfl, .inl ⟨rfl, _, SqL.of (kp8 _)⟩, _, rfl, p, _, _, rfl, rfl, kp8 _, small1000 (by rw [List.length_map]; omega), ?_⟩
          exact fin _ h0 h1
      · rintro σ H6 ⟨sm, rm', v8, v9, v10, v11, v12, rfl, s6, kr6, kl6, kp6, hX6, hsml, hsm0, hsum, hrl', hrm⟩
        have hbl := Paired.length hX6
        refine ⟨_, rfl, .inl ⟨rfl, _, SqL.of kl6⟩, _, rfl, l, _, _, rfl, rfl, kl6, small1000 (by omega), ?_⟩
        refine ⟨bx ++ [.ref p], shs ++ [sm], rm', _, _, _, _, _, _, _, _, rfl, same_set s6 hl0, by rw [upd_ne hlr.symm]; exact kr6, upd_same, ?_, by rw [List.length_append, hsl]; rfl, hrl', fun k2 c2 hc2 => ?_, fun sx hsx => ?_⟩
        · refine Paired.append' (ShX.upd (by simp) (ShX.less hX6)) (.cons ⟨p, rfl, by simp [npr, npl], by rw [upd_ne npl]; exact kp6⟩ .nil)
        · have hk2 : k2 < cs.length := (List.getElem?_eq_some_iff.mp hc2).1
          have h1 := hrm k2 hk2
          have h2 := hcaps k2 c2 hc2
          have e : (ofCell (shs ++ [sm]) k2).sum = (ofCell shs k2).sum + sm.getD k2 0 := by
            unfold ofCell
            rw [List.map_append, List.sum_append]
            show _ + ([sm.getD k2 0]).sum = _
            rw [List.sum_cons, List.sum_nil]; omega
          rw [e]
          omega
        · rcases List.mem_append.mp hsx with z | z
          · exact hgood sx z
          · rw [List.mem_singleton.mp z]
            exact ⟨by omega, hsm0, hsum⟩
    · rintro σ H3 ⟨bx, shs, rm, v5, v6, v7, v8, v9, v10, v11, v12, rfl, s3, kr3, kl3, hX, hsl, hrl, hcaps, hgood⟩
      rw [List.length_map] at hsl
      exact ⟨_, rfl, k l bx shs H3 hl0 s3 kl3 (ShX.shs hX) hsl hgood fun kk c hc => by have := hcaps kk c hc; omega⟩
end
end My

set_option Elab.async false
set_option linter.all false
set_option maxRecDepth 100000
set_option maxHeartbeats 4000000
namespace My
open PySem L2
section
variable {P : Program} {w : World} {K : PySem.W.Frag} {mg : Str → Option Value} {base : Heap}
theorem nms_len : ∀ (js : List J) {sh : List Int}, (∀ m ∈ sh, 0 ≤ m) → ((nmsOf js sh).length : Int) ≤ sh.sum
  | [], sh, h => by
    have := sum_pos h
    unfold nmsOf; simp; exact this
  | j :: js, [], h => by unfold nmsOf; simp
  | j :: js, m :: sh, h => by
    have ih := nms_len js (sh := sh) fun x hx => h x (List.mem_cons_of_mem _ hx)
    have hm := h m List.mem_cons_self
    unfold nmsOf at ih ⊢
    rw [List.zip_cons_cons, List.flatMap_cons, List.length_append, List.length_replicate, List.sum_cons]
    push_cast
    omega
theorem rows_most (js : List J) (cs : List C3) (shs : List (List Int)) (h : ∀ k c, cs[k]? = some c → (nmsOf js (ofCell shs k)).length ≤ 16000) : ∀ i, i ≤ cs.length → (allRows js (cs.take i) shs).length ≤ i * 16000
  | 0, _ => by unfold allRows; simp
  | i + 1, hi => by
    have ih := rows_most js cs shs h i (by omega)
    have e : cs[i]? = some cs[i] := List.getElem?_eq_getElem (by omega)
    rw [allRows_take js shs e, List.length_append, cellRows_len]
    have := h i _ e
    omega
theorem room3_of {js : List J} {cs : List C3} {shs : List (List Int)} (hok : ∀ c ∈ cs, okC c) (hg : ∀ s ∈ shs, goodSh cs.length s) (hc : ∀ k c, cs[k]? = some c → (ofCell shs k).sum ≤ cap c) : Room3 js cs shs := fun k c e => by
  have hk : k < cs.length := (List.getElem?_eq_some_iff.mp e).1
  refine ⟨hok c (List.mem_of_getElem? e), Int.le_trans (nms_len js fun m hm => ?_) (hc k c e)⟩
  obtain ⟨s, hs, rfl⟩ := List.mem_map.mp hm
  obtain ⟨g1, g2, g3⟩ := hg s hs
  refine g2 _ ?_
  rw [List.getD_eq_getElem?_getD, List.getElem?_eq_getElem (by omega)]
  exact List.getElem_mem _
theorem fit_of {js : List J} {cs : List C3} {shs : List (List Int)} (hl : shs.length = js.length) (h8 : shs.length ≤ 8) (h4 : cs.length ≤ 4) (hok : ∀ c ∈ cs, okC c) (hg : ∀ s ∈ shs, goodSh cs.length s) (hr : Room3 js cs shs) : Fit js cs shs where
  len := hl
  few := by omega
  each := fun s hs => ⟨(hg s hs).1, (hg s hs).2.1⟩
  turns := fun c hc => by
    obtain ⟨⟨t0, t1⟩, _⟩ := hok c hc
    constructor <;> omega
  most := by
    have := rows_most js cs shs (fun k c e => by
      obtain ⟨⟨⟨t0, t1⟩, _, m0, m1⟩, h⟩ := hr k c e
      have h2 : c.2.2 * trn c ≤ 16 * 1000 := Int.mul_le_mul m1 t1 (by omega) (by decide)
      omega) cs.length (Nat.le_refl _)
    rw [List.take_length] at this
    omega
theorem jobs_alike {n : Nat} {H : Hp} : ∀ {xs : List V} {js : List J}, Jobs H xs js → Paired (Alike K (n + 1) H) xs xs
  | _, _, .nil => .nil
  | _, j :: _, .cons ⟨t, e, q⟩ h => .cons (.inl (by
      induction n with
      | zero => exact .inr ⟨j.vs, ⟨t, e, SqT.of q, rfl⟩, ⟨t, e, SqT.of q, rfl⟩⟩
      | succ n ih => exact .inl ih)) (jobs_alike h)
theorem cls_alike {n : Nat} {H : Hp} : ∀ {xs : List V} {cs : List C3}, Cls H xs cs → Paired (Alike K (n + 1) H) xs xs
  | _, _, .nil => .nil
  | _, c :: _, .cons ⟨t, e, q⟩ h => .cons (.inl (by
      induction n with
      | zero => exact .inr ⟨_, ⟨t, e, SqT.of q, rfl⟩, ⟨t, e, SqT.of q, rfl⟩⟩
      | succ n ih => exact .inl ih)) (cls_alike h)
theorem ints_alike {H : Hp} : ∀ (s : List Int), Paired (Alike K 0 H) (s.map V.int) (s.map V.int)
  | [] => .nil
  | _ :: s => .cons (.inl ⟨rfl, rfl⟩) (ints_alike s)
theorem shs_alike {H : Hp} : ∀ {xs ys : List V} {shs : List (List Int)}, Shs H xs shs → Shs H ys shs → Paired (Alike K 1 H) xs ys
  | _, _, [], .nil, .nil => .nil
  | _, _, s :: _, .cons ⟨p, e, q⟩ h, .cons ⟨p', e', q'⟩ h' => .cons (.inr ⟨p, p', _, _, e, e', SqL.of q, SqL.of q', ints_alike s⟩) (shs_alike h h')
theorem at0 {x : V} {r : List V} : atI (x :: r) 0 = some x := atI_nat (xs := x :: r) (j := 0) rfl
theorem at1 {x y : V} {r : List V} : atI (x :: y :: r) 1 = some y := atI_nat (xs := x :: y :: r) (j := 1) rfl
theorem at2 {x y z : V} {r : List V} : atI (x :: y :: z :: r) 2 = some z := atI_nat (xs := x :: y :: z :: r) (j := 2) rfl
theorem str_at {zs : List Str} {i : Nat} {y : V} (h : (zs.map V.str)[i]? = some y) : ∃ z, zs[i]? = some z ∧ y = .str z := by
  rw [List.getElem?_map] at h
  cases e : zs[i]? with
  | none => rw [e] at h; cases h
  | some m => rw [e] at h; cases h; exact ⟨m, rfl, rfl⟩
theorem allRows_nil (cs : List C3) : allRows [] cs [] = [] := by
  unfold allRows
  rw [List.flatMap_eq_nil_iff]
  intro q _
  rfl
theorem Pln.nil {H : Hp} {ys : List V} (h : Pln H ys []) : ys = [] := by cases h; rfl
def spLaw (K : PySem.W.Frag) : Sp := fun vs H Q _ => ∃ (a : Addr) (ns : List Int), vs = [.ref a] ∧ SqL K H a (ns.map V.int) ∧ ns.length ≤ 63 ∧ Only H ∧ ∀ H', Q (.bl true) H'
theorem G_law (T : Txt K mg) : FnOk P w K mg base CX0 3 T.f_law T.fd_law ["_law_script"] (spLaw K) := by
  refine T.d_law.F.ok sc_law (fun vs H Q E h => ?_) (fun cdv A outer s0 H vs Q E hr h => ?_)
  · obtain ⟨a, ns, rfl, _⟩ := h; rfl
  · obtain ⟨a, ns, rfl, hS, hn, hO, k⟩ := h
    have hu := huN hr 2
    have hu0 := huN hr 0
    refine ⟨_, (pss_cons (ps_set (i := 1) sc_law.nd rfl (Or.inl rfl) (pe_op op_add pe_int (pe_op op_mod (pe_call (G_law_cell T) (hr.mono (by decide)) (by rfl) T.d_law_cell.g T.d_law_cell.F.kp T.d_law_cell.b .nil pass0 (pa_cons (pv 0) (pa_cons pe_int pa_nil))) pe_int))) (pss_cons (ps_set (i := 2) sc_law.nd rfl (Or.inl rfl) (pe_call (G_law_names T) (hr.mono (by decide)) (by rfl) T.d_law_names.g T.d_law_names.F.kp T.d_law_names.b .nil pass0 (pa_cons (pe_call (G_law_cell T) (hr.mono (by decide)) (by rfl) T.d_law_cell.g T.d_law_cell.F.kp T.d_law_cell.b .nil pass0 (pa_cons (pv 0) (pa_cons pe_int pa_nil))) (pa_cons (pv 1) pa_nil)))) (pss_cons (ps_set (i := 3) sc_law.nd rfl (Or.inl rfl) (pe_call (G_law_cells T) (hr.mono (by decide)) (by rfl) T.d_law_cells.g T.d_law_cells.F.kp T.d_law_cells.b .nil pass0 (pa_cons (pv 0) (pa_cons (pe_op op_add pe_int (pe_op op_mod (pe_op op_fdiv (pe_call (G_law_cell T) (hr.mono (by decide)) (by rfl) T.d_law_cell.g T.d_law_cell.F.kp T.d_law_cell.b .nil pass0 (pa_cons (pv 0) (pa_cons pe_int pa_nil))) pe_int) pe_int)) pa_nil)))) (pss_cons (ps_setComp (i := 4) sc_law.nd rfl (by rfl) (loc := ["_law_j"]) (free := ["_law_script"]) (fr := [0]) rfl (compScope_of (sc := defScope s_law) (N := (["_law_script", "_law_many", "_law_names_here", "_law_pieces", "_law_breadths", "_law_shares_here", "_law_load", "_law_j", "_law_name", "_law_first", "_law_last", "_law_handed", "_law_found", "_law_due_here"] : List Str)) rfl rfl (by decide +kernel)) (pi_range1 rfl T.n_range (pa_cons (pv 1) pa_nil)) (fun _ _ _ _ _ => (pgc 0 (["_law_j", "_law_script"] : List Str) (by decide +kernel) rfl rfl (Or.inl rfl) rfl)) (fun _ _ _ _ _ => pts_nil) (fun _ _ _ _ _ => (pe_op op_add pe_int (pe_op op_mod (pe_call (G_law_cell T) (hr.mono (by decide)) (by rfl) T.d_law_cell.g T.d_law_cell.F.kp T.d_law_cell.b .nil pass0 (pa_cons (pv 1) (pa_cons (pe_op op_add pe_int (pv 0)) pa_nil))) pe_int)))) (pss_cons (ps_set (i := 5) sc_law.nd rfl (Or.inl rfl) (pe_call (G_law_shares T) (hr.mono (by decide)) (by rfl) T.d_law_shares.g T.d_law_shares.F.kp T.d_law_shares.b .nil pass0 (pa_cons (pv 0) (pa_cons (pv 4) (pa_cons (pv 3) pa_nil))))) (pss_cons (ps_set (i := 6) sc_law.nd rfl (Or.inl rfl) (pe_lst pa_nil)) (pss_cons (ps_for PassesOwn.never rfl (pi_enum rfl T.n_enumerate (pa_cons (pv 2) pa_nil)) (pg_tup rfl (pgs_cons (pg_name (i := 7) sc_law.nd rfl (Or.inl rfl)) (pgs_cons (pg_name (i := 8) sc_law.nd rfl (Or.inl rfl)) pgs_nil))) (pss_cons (ps_set (i := 9) sc_law.nd rfl (Or.inl rfl) (pe_op op_mod (pe_call (G_law_cell T) (hr.mono (by decide)) (by rfl) T.d_law_cell.g T.d_law_cell.F.kp T.d_law_cell.b .nil pass0 (pa_cons (pv 0) (pa_cons (pe_op op_add pe_int (pv 7)) pa_nil))) (pe_op op_pow pe_int pe_int))) (pss_cons (ps_set (i := 10) sc_law.nd rfl (Or.inl rfl) (pe_op op_add (pe_op op_sub (pv 9) pe_int) (pe_op op_mod (pe_op op_fdiv (pe_call (G_law_cell T) (hr.mono (by decide)) (by rfl) T.d_law_cell.g T.d_law_cell.F.kp T.d_law_cell.b .nil pass0 (pa_cons (pv 0) (pa_cons (pe_op op_add pe_int (pv 7)) pa_nil))) pe_int) pe_int))) (pss_one (ps_expr (pe_bm PySem.F.plainAttrs_list PySem.F.slot_list_append PySem.F.type_list_append mt_append (pv 6) (pa_cons (pe_tup (pa_cons (pv 8) (pa_cons (pv 9) (pa_cons (pv 10) (pa_cons (pe_callB (call_max2 rfl) (by rfl) T.n_max PyProof.Rows.boot_max (pa_cons pe_int (pa_cons (pe_callB (call_sum rfl) (by rfl) T.n_sum PyProof.Rows.boot_sum (pa_cons (pe_ix ix_list (pv 5) (pv 7) (fun _ _ => rfl)) pa_nil)) pa_nil))) (pa_cons (pe_ix ix_list (pv 4) (pv 7) (fun _ _ => rfl)) pa_nil)))))) pa_nil))))))) (pss_cons (ps_set (i := 11) sc_law.nd rfl (Or.inl rfl) (pe_lst (pa_cons (pe_callTy call_list_of (by rfl) T.n_list PyProof.Rows.boot_list (pa_cons (pv 6) pa_nil)) (pa_cons (pe_callTy call_list_of (by rfl) T.n_list PyProof.Rows.boot_list (pa_cons (pv 3) pa_nil)) (pa_cons (pe_comp (loc := ["_law_some"]) (free := []) (fr := []) rfl (compScope_of (sc := defScope s_law) (N := (["_law_script", "_law_many", "_law_names_here", "_law_pieces", "_law_breadths", "_law_shares_here", "_law_load", "_law_j", "_law_name", "_law_first", "_law_last", "_law_handed", "_law_found", "_law_due_here"] : List Str)) rfl rfl (by decide +kernel)) (pi_list (pv 5)) (fun _ _ _ _ _ => (pgc 0 (["_law_some"] : List Str) (by decide +kernel) rfl rfl (Or.inl rfl) rfl)) (fun _ _ _ _ _ => pts_nil) (fun _ _ _ _ _ => (pe_callTy (call_list_ofK (K := K) rfl) (by rfl) T.n_list PyProof.Rows.boot_list (pa_cons (pv 0) pa_nil)))) pa_nil))))) (pss_cons (ps_set (i := 12) sc_law.nd rfl (Or.inl rfl) (pe_call (G_laid T) (hr.mono (by decide)) (by rfl) T.d_laid.g T.d_laid.F.kp T.d_laid.b .nil pass0 (pa_cons (pe_ix ix_list (pv 11) pe_int (fun _ _ => rfl)) (pa_cons (pe_ix ix_list (pv 11) pe_int (fun _ _ => rfl)) (pa_cons (pe_ix ix_list (pv 11) pe_int (fun _ _ => rfl)) pa_nil))))) (pss_cons (ps_set (i := 13) sc_law.nd rfl (Or.inl rfl) (pe_call (G_law_due T) (hr.mono (by decide)) (by rfl) T.d_law_due.g T.d_law_due.F.kp T.d_law_due.b .nil pass0 (pa_cons (pv 6) (pa_cons (pv 3) (pa_cons (pv 5) pa_nil))))) (pss_cons (ps_if (PW.pt (pw_or (pt_not (pt_val (pe_call (G_law_rows T) (hr.mono (by decide)) (by rfl) T.d_law_rows.g T.d_law_rows.F.kp T.d_law_rows.b .nil pass0 (pa_cons (pv 12) (pa_cons (pv 13) pa_nil))))) (pw_or1 (pt_cmpR (op_neA 2 hu) (pv 11) (pe_lst (pa_cons (pv 6) (pa_cons (pv 3) (pa_cons (pv 5) pa_nil)))) (nomark _))))) (pss_one (ps_ret pe_bl)) pss_nil) (pss_cons (ps_expr (pe_bm0 PySem.F.plainAttrs_list PySem.F.slot_list_clear PySem.F.type_list_clear mt_clear (pv 12))) (pss_cons (ps_if (PW.pt (pw_or (pt_cmpR (op_neA 0 hu0) (pe_call (G_laid T) (hr.mono (by decide)) (by rfl) T.d_laid.g T.d_laid.F.kp T.d_laid.b .nil pass0 (pa_cons (pe_lst pa_nil) (pa_cons (pv 3) (pa_cons (pe_lst pa_nil) pa_nil)))) (pe_lst pa_nil) (nomark _)) (pw_or1 (pt_cmpR (op_neA 0 hu0) (pe_call (G_laid T) (hr.mono (by decide)) (by rfl) T.d_laid.g T.d_laid.F.kp T.d_laid.b .nil pass0 (pa_cons (pv 6) (pa_cons (pe_lst pa_nil) (pa_cons (pe_comp (loc := ["_law_job"]) (free := []) (fr := []) rfl (compScope_of (sc := defScope s_law) (N := (["_law_script", "_law_many", "_law_names_here", "_law_pieces", "_law_breadths", "_law_shares_here", "_law_load", "_law_j", "_law_name", "_law_first", "_law_last", "_law_handed", "_law_found", "_law_due_here"] : List Str)) rfl rfl (by decide +kernel)) (pi_list (pv 6)) (fun _ _ _ _ _ => (pgc 0 (["_law_job"] : List Str) (by decide +kernel) rfl rfl (Or.inl rfl) rfl)) (fun _ _ _ _ _ => pts_nil) (fun _ _ _ _ _ => (pe_lst pa_nil))) pa_nil)))) (pe_lst pa_nil) (nomark _))))) (pss_one (ps_ret pe_bl)) pss_nil) (pss_one (ps_ret (pe_call (G_law_rows T) (hr.mono (by decide)) (by rfl) T.d_law_rows.g T.d_law_rows.F.kp T.d_law_rows.b .nil pass0 (pa_cons (pe_call (G_laid T) (hr.mono (by decide)) (by rfl) T.d_laid.g T.d_laid.F.kp T.d_laid.b .nil pass0 (pa_cons (pv 6) (pa_cons (pv 3) (pa_cons (pv 5) pa_nil)))) (pa_cons (pv 13) pa_nil)))))))))))))))))), ?_⟩
    refine ⟨_, rfl, a, ns, 0, rfl, hS, by decide, by decide, fun c0 => ⟨_, _, rfl, rfl, (by show (0 : Int) < 8; decide), _, _, rfl, rfl, ?_⟩⟩
    dsimp only
    have y0 : 1 ≤ 1 + c0 % 8 ∧ 1 + c0 % 8 ≤ 8 := by omega
    generalize 1 + c0 % 8 = many at y0 ⊢
    refine ⟨_, rfl, a, ns, 1, rfl, hS, by decide, by decide, fun c1 => ⟨_, rfl, c1, many, rfl, by omega, by omega, fun nl zs H1 hnl s1 kn1 hzl => ?_⟩⟩
    refine ⟨_, rfl, _, rfl, a, ns, 0, rfl, s1.seq hS, by decide, by decide, fun c2 => ⟨_, _, rfl, rfl, dv 8, _, _, rfl, rfl, (by show (0 : Int) < 4; decide), _, _, rfl, rfl, a, ns, _, rfl, s1.seq hS, by omega, by omega, fun pc cx cs H2 hpc s2 kpc hC hcl hok => ?_⟩⟩
    have h4 : cs.length ≤ 4 := by omega
    have s02 := s1.trans s2
    refine ⟨_, rfl, many, rfl, by omega, by omega, fun bd hbd => ?_⟩
    refine comp_range (lo := 0) (n := many.toNat) (fun i acc σ H3 => H3 bd = some (.lst acc) ∧ ∃ bds : List Int, acc = bds.map V.int ∧ bds.length = i ∧ (∀ m ∈ bds, 1 ≤ m ∧ m ≤ 16) ∧ Same H2 H3 ∧ ∃ v, σ = [v, some (.ref a)])
      (by exact ⟨upd_same, [], rfl, rfl, (by intro _ h; cases h), same_upd hbd, _, rfl⟩) (fun i acc σ H3 h => h.1) ?_ ?_
    · rintro i acc σ H3 hi ⟨hD3, bds, rfl, hbl, hb, s3, v, rfl⟩
      refine ⟨_, rfl, _, rfl, _, _, rfl, rfl, a, ns, _, rfl, (s02.trans s3).seq hS, by omega, by omega, fun c => ⟨_, _, rfl, rfl, (by show (0 : Int) < 16; decide), _, _, rfl, rfl, ?_⟩⟩
      refine ⟨hD3, small1000 (by rw [List.length_map]; omega), upd_same, bds ++ [1 + c % 16], by rw [List.map_append]; rfl, by rw [List.length_append, hbl]; rfl, fun m hm => ?_, same_set s3 hbd, _, rfl⟩
      rcases List.mem_append.mp hm with z | z
      · exact hb m z
      · rw [List.mem_singleton.mp z]; omega
    rintro acc σ H3 ⟨kbd, bds, rfl, hbl, hb, s3, v, rfl⟩
    have s03 := s02.trans s3
    refine ⟨_, rfl, _, rfl, _, rfl, a, bd, pc, ns, bds, cx, cs, rfl, s03.seq hS, SqL.of kbd, by omega, hb, SqL.of (s3 _ _ kpc), hC.mono s3, h4, hok, fun sl bx shs H4 hsl s4 ksl hSh hshl hgood hcaps => ?_⟩
    have s04 := s03.trans s4
    have kn4 := s4 _ _ (s3 _ _ (s2 _ _ kn1))
    have kpc4 := s4 _ _ (s3 _ _ kpc)
    have kbd4 := s4 _ _ kbd
    have hC4 := (hC.mono s3).mono s4
    have hbxl := hSh.len
    refine ⟨by show 0 ≤ sizeLine; decide, fun ld hld => ?_⟩
    refine ⟨_, rfl, nl, _, rfl, SqL.of (same_upd hld _ _ kn4), for_enum (K := K) (a := nl) (xs := zs.map V.str) (fun i σ H5 => ∃ (xs : List V) (js : List J) (v7 v8 v9 v10 v11 v12 v13 : Option V), σ = [some (.ref a), some (.int many), some (.ref nl), some (.ref pc), some (.ref bd), some (.ref sl), some (.ref ld), v7, v8, v9, v10, v11, v12, v13] ∧ Same H4 H5 ∧ H5 ld = some (.lst xs) ∧ Jobs H5 xs js ∧ js.length = i)
      (by exact ⟨[], [], _, _, _, _, _, _, _, rfl, same_upd hld, upd_same, .nil, rfl⟩) (fun i σ H5 _ ⟨_, _, _, _, _, _, _, _, _, _, s5, _⟩ => SqL.of (s5 _ _ kn4)) ?_ ?_⟩
    · rintro j x σ H5 T' hx ⟨xs, js, v7, v8, v9, v10, v11, v12, v13, rfl, s5, kld, hJ, hjl⟩ hT
      obtain ⟨z, ez, rfl⟩ := str_at hx
      have hj : j < zs.length := (List.getElem?_eq_some_iff.mp ez).1
      have hxl := hJ.len
      have sT := same_upd (o := .tup [.int j, .str z]) hT
      have kT : (upd H5 T' (.tup [.int j, .str z])) T' = some (.tup [.int j, .str z]) := upd_same
      have kld6 := sT _ _ kld
      have hJ6 := hJ.mono sT
      have s6 := s5.trans sT
      generalize upd H5 T' (.tup [.int j, .str z]) = H6 at sT kT kld6 hJ6 s6 ⊢
      have s06 := s04.trans s6
      refine ⟨T', _, rfl, SqT.of kT, rfl, _, _, rfl, _, _, rfl, rfl, ?_⟩
      refine ⟨_, rfl, _, rfl, _, _, rfl, rfl, a, ns, _, rfl, s06.seq hS, by omega, by omega, fun c => ⟨_, _, rfl, rfl, ⟨by decide, by decide, by decide⟩, _, _, rfl, rfl, (by rw [p9]; show (0 : Int) < 1000000000; decide), ?_⟩⟩
      refine ⟨_, rfl, _, _, rfl, rfl, _, rfl, _, rfl, _, _, rfl, rfl, a, ns, _, rfl, s06.seq hS, by omega, by omega, fun c' => ⟨_, _, rfl, rfl, dv 7, _, _, rfl, rfl, (by show (0 : Int) < 100; decide), _, _, rfl, rfl, ?_⟩⟩
      obtain ⟨sm, p, es, ep, hp⟩ := hSh.get (i := j) (x := bx[j]'(by omega)) (List.getElem?_eq_getElem (by omega))
      obtain ⟨g1, g2, g3⟩ := hgood sm (List.mem_of_getElem? es)
      have hatb : atI bx (j : Int) = some (.ref p) := atI_nat (by rw [List.getElem?_eq_getElem (by omega), ep])
      have sm0 := sum_pos g2
      refine ⟨_, rfl, .inl ⟨rfl, _, SqL.of kld6⟩, _, rfl, _, rfl, _, rfl, _, rfl, _, rfl, sl, bx, _, _, rfl, rfl, SqL.of (s6 _ _ ksl), hatb, p, sm, rfl, SqL.of (s6 _ _ hp), sumOk_of g2 (by omega), _, _, rfl, _, rfl, _, rfl, bd, _, _, _, rfl, rfl, SqL.of (s6 _ _ kbd4), getI (by omega) (by omega), by show 5 ≤ sizeLine; decide, fun t ht => ?_⟩
      rw [max_if]
      have s7 := same_upd (o := .tup (J.vs ⟨z, c % 10 ^ (9 : Int).toNat, c % 10 ^ (9 : Int).toNat - 1 + c' / 7 % 100, max 1 sm.sum, bds.getD (j : Int).toNat 0⟩)) ht
      have kld7 := s7 _ _ kld6
      have hJ7 := (hJ6.mono s7).snoc (j := ⟨z, c % 10 ^ (9 : Int).toNat, c % 10 ^ (9 : Int).toNat - 1 + c' / 7 % 100, max 1 sm.sum, bds.getD (j : Int).toNat 0⟩) upd_same
      exact ⟨ld, _, _, rfl, rfl, kld7, small1000 (by omega), _, _, _, _, _, _, _, _, _, rfl, same_set (s6.trans s7) hld, upd_same, hJ7.stay kld7, by rw [List.length_append, hjl]; rfl⟩
    rintro σ H5 ⟨xs, js, v7, v8, v9, v10, v11, v12, v13, rfl, s5, kld, hJ, hjl⟩
    rw [List.length_map] at hjl
    have s05 := s04.trans s5
    have kpc5 := s5 _ _ kpc4
    have ksl5 := s5 _ _ ksl
    have hC5 := hC4.mono s5
    have hSh5 := hSh.mono s5
    have hlen : shs.length = js.length := by omega
    have hR3 : Room3 js cs shs := room3_of hok hgood hcaps
    have hF : Fit js cs shs := fit_of hlen (by omega) h4 hok hgood hR3
    clear s1 s2 s3 s4 s5 s02 s03 s04
    -- handed
    refine ⟨_, rfl, ld, xs, rfl, .inl (SqL.of kld), fun h1 hh1 => ?_⟩
    have s6 := same_upd (o := .lst xs) hh1
    have kh1 : (upd H5 h1 (.lst xs)) h1 = some (.lst xs) := upd_same
    generalize upd H5 h1 (.lst xs) = H6 at s6 kh1 ⊢
    refine ⟨_, rfl, pc, cx, rfl, .inl (SqL.of (s6 _ _ kpc5)), fun h2 hh2 => ?_⟩
    have s7 := same_upd (o := .lst cx) hh2
    have kh2 : (upd H6 h2 (.lst cx)) h2 = some (.lst cx) := upd_same
    generalize upd H6 h2 (.lst cx) = H7 at s7 kh2 ⊢
    have s57 := s6.trans s7
    refine ⟨_, rfl, sl, rfl, ⟨bx, SqL.of (s57 _ _ ksl5)⟩, fun h3 hh3 => ?_⟩
    refine comp_list (K := K) (a := sl) (xs := bx) (fun i acc σ H8 => H8 h3 = some (.lst acc) ∧ Paired (ShX [h3] H8) acc (shs.take i) ∧ Same H7 H8 ∧ acc.length = i ∧ ∃ v, σ = [v])
      (by exact ⟨upd_same, .nil, same_upd hh3, rfl, _, rfl⟩) (fun i acc σ H8 h => h.1) (fun i acc σ H8 _ h => SqL.of ((s57.trans h.2.2.1) _ _ ksl5)) ?_ ?_
    · rintro i x acc σ H8 hi ⟨kh8, hX, s8, hal, v, rfl⟩
      obtain ⟨sm, p, es, rfl, hp⟩ := hSh5.get hi
      have hil : i < bx.length := (List.getElem?_eq_some_iff.mp hi).1
      refine ⟨_, rfl, p, _, rfl, .inl (SqL.of ((s57.trans s8) _ _ hp)), fun q hq => ?_⟩
      have s9 := same_upd (o := .lst (sm.map V.int)) hq
      have kh9 := s9 _ _ kh8
      have nq : q ≠ h3 := fun e => by rw [e, kh8] at hq; cases hq
      refine ⟨kh9, small1000 (by omega), upd_same, ?_, same_set (s8.trans s9) hh3, by rw [List.length_append, hal]; rfl, _, rfl⟩
      rw [List.take_add_one, es]
      exact Paired.append' (ShX.upd (by simp) (ShX.mono s9 hX)) (.cons ⟨q, rfl, by simp [nq], by rw [upd_ne nq]; exact upd_same⟩ .nil)
    rintro acc σ H8 ⟨kh3, hX, s8, hal, v, rfl⟩
    rw [hbxl, List.take_length] at hX
    have hSh8 := ShX.shs hX
    have s58 := s57.trans s8
    refine ⟨by show 3 ≤ sizeLine; decide, fun hd hhd => ?_⟩
    have s9 := same_upd (o := .lst [.ref h1, .ref h2, .ref h3]) hhd
    have khd : (upd H8 hd (.lst [.ref h1, .ref h2, .ref h3])) hd = some (.lst [.ref h1, .ref h2, .ref h3]) := upd_same
    generalize upd H8 hd (.lst [.ref h1, .ref h2, .ref h3]) = H9 at s9 khd ⊢
    have s59 := s58.trans s9
    have kh1' := s9 _ _ (s8 _ _ (s7 _ _ kh1))
    have kh2' := s9 _ _ (s8 _ _ kh2)
    have kh3' := s9 _ _ kh3
    have hSh9 := hSh8.mono s9
    refine ⟨_, rfl, hd, _, 0, _, rfl, rfl, SqL.of khd, at0, _, rfl, hd, _, 1, _, rfl, rfl, SqL.of khd, at1, _, rfl, hd, _, 2, _, rfl, rfl, SqL.of khd, at2, h1, h2, h3, xs, cx, acc, js, cs, shs, rfl, SqL.of kh1', hJ.mono s59, SqL.of kh2', hC5.mono s59, SqL.of kh3', hSh9, hF, fun fl fys frows H10 hfl s10 kfl hP1 hp1 hs1 => ?_⟩
    have s5a := s59.trans s10
    refine ⟨_, rfl, _, rfl, _, rfl, ld, pc, sl, xs, cx, bx, js, cs, shs, rfl, SqL.of (s5a _ _ kld), hJ.mono s5a, SqL.of (s5a _ _ kpc5), hC5.mono s5a, SqL.of (s5a _ _ ksl5), hSh5.mono s5a, hF, hR3, fun dl dys drows H11 hdl s11 kdl hP2 hp2 hs2 => ?_⟩
    have s5b := s5a.trans s11
    have s9b := s10.trans s11
    have ef : frows = drows := sorted_uniq (hp1.trans hp2.symm) hs1 hs2
    subst ef
    have hshp : ∀ r ∈ frows, shape r = [true, true, false] := fun r hr => allRows_shape (hp1.mem_iff.mp hr)
    have kfl11 := s11 _ _ kfl
    refine ⟨_, rfl, _, rfl, fl, dl, fys, dys, frows, rfl, kfl11, kdl, hP1.mono s11, hP2, hshp, true, rfl, iteF ?_⟩
    refine ⟨_, rfl, _, rfl, _, rfl, _, rfl, by show 3 ≤ sizeLine; decide, fun ol hol => ?_⟩
    have s12 := same_upd (o := .lst [.ref ld, .ref pc, .ref sl]) hol
    have kol : (upd H11 ol (.lst [.ref ld, .ref pc, .ref sl])) ol = some (.lst [.ref ld, .ref pc, .ref sl]) := upd_same
    generalize upd H11 ol (.lst [.ref ld, .ref pc, .ref sl]) = H12 at s12 kol ⊢
    have s5c := s5b.trans s12
    have s9c := s9b.trans s12
    refine ⟨hd, ol, _, _, rfl, rfl, SqL.of (s9c _ _ khd), SqL.of kol, ?_, false, rfl, iteF ?_⟩
    · refine .cons (.inr ⟨h1, ld, xs, xs, rfl, rfl, SqL.of (s9c _ _ kh1'), SqL.of (s5c _ _ kld), jobs_alike (hJ.mono s5c)⟩) (.cons (.inr ⟨h2, pc, cx, cx, rfl, rfl, SqL.of (s9c _ _ kh2'), SqL.of (s5c _ _ kpc5), cls_alike (hC5.mono s5c)⟩) (.cons (.inr ⟨h3, sl, acc, bx, rfl, rfl, SqL.of (s9c _ _ kh3'), SqL.of (s5c _ _ ksl5), shs_alike (hSh9.mono s9c) (hSh5.mono s5c)⟩) .nil))
    have kfl12 := s12 _ _ kfl11
    refine ⟨_, rfl, .inl ⟨rfl, _, SqL.of kfl12⟩, fl, _, rfl, rfl, kfl12, ?_⟩
    have hfl5 : H5 fl = none := s59.free hfl
    have s5d : Same H5 (upd H12 fl (.lst [])) := same_set s5c hfl5
    have ndl : dl ≠ fl := fun e => by rw [e, kfl] at hdl; cases hdl
    have kdl13 : (upd H12 fl (.lst [])) dl = some (.lst dys) := by rw [upd_ne ndl]; exact s12 _ _ kdl
    have hP13 : Pln (upd H12 fl (.lst [])) dys frows := (hP2.mono s12).stay kfl12
    generalize upd H12 fl (.lst []) = H13 at s5d kdl13 hP13 ⊢
    -- no jobs
    refine ⟨by show 0 ≤ sizeLine; decide, fun e1 he1 => ?_⟩
    have t1 := same_upd (o := .lst []) he1
    have k1 : (upd H13 e1 (.lst [])) e1 = some (.lst []) := upd_same
    generalize upd H13 e1 (.lst []) = H14 at t1 k1 ⊢
    refine ⟨_, rfl, by show 0 ≤ sizeLine; decide, fun e2 he2 => ?_⟩
    have t2 := same_upd (o := .lst []) he2
    have k2 : (upd H14 e2 (.lst [])) e2 = some (.lst []) := upd_same
    generalize upd H14 e2 (.lst []) = H15 at t2 k2 ⊢
    have u2 := t1.trans t2
    have s5e := s5d.trans u2
    refine ⟨e1, pc, e2, [], cx, [], [], cs, [], rfl, SqL.of (t2 _ _ k1), .nil, SqL.of (s5e _ _ kpc5), hC5.mono s5e, SqL.of k2, .nil, ⟨rfl, by decide, (by intro _ h; cases h), hF.turns, by rw [allRows_nil]; decide⟩, fun l2 ys2 rows2 H16 hl2 t3 kl2 hPn hpn hsn => ?_⟩
    rw [allRows_nil] at hpn
    have er2 : rows2 = [] := List.Perm.eq_nil hpn
    subst er2
    have ey2 := hPn.nil
    subst ey2
    refine ⟨by show 0 ≤ sizeLine; decide, fun e3 he3 => ?_⟩
    have t4 := same_upd (o := .lst []) he3
    refine ⟨l2, e3, [], [], rfl, rfl, SqL.of (t4 _ _ kl2), SqL.of upd_same, .nil, false, rfl, iteF ?_⟩
    have u4 := (u2.trans t3).trans t4
    generalize upd H16 e3 (.lst []) = H17 at t4 u4 ⊢
    have s5f := s5d.trans u4
    -- no cells
    refine ⟨_, rfl, by show 0 ≤ sizeLine; decide, fun e4 he4 => ?_⟩
    have t5 := same_upd (o := .lst []) he4
    have k5 : (upd H17 e4 (.lst [])) e4 = some (.lst []) := upd_same
    generalize upd H17 e4 (.lst []) = H18 at t5 k5 ⊢
    have s5g := s5f.trans t5
    refine ⟨_, rfl, ld, rfl, ⟨xs, SqL.of (s5g _ _ kld)⟩, fun e5 he5 => ?_⟩
    refine comp_list (K := K) (a := ld) (xs := xs) (fun i acc σ H19 => H19 e5 = some (.lst acc) ∧ Paired (ShX [e5] H19) acc (List.replicate i []) ∧ Same H18 H19 ∧ acc.length = i ∧ ∃ v, σ = [v])
      (by exact ⟨upd_same, .nil, same_upd he5, rfl, _, rfl⟩) (fun i acc σ H19 h => h.1) (fun i acc σ H19 _ h => SqL.of ((s5g.trans h.2.2.1) _ _ kld)) ?_ ?_
    · rintro i x acc2 σ H19 hi ⟨ke5, hX2, t6, hal2, v, rfl⟩
      have hil : i < xs.length := (List.getElem?_eq_some_iff.mp hi).1
      have hxl := hJ.len
      refine ⟨by show 0 ≤ sizeLine; decide, fun q hq => ?_⟩
      have t7 := same_upd (o := .lst []) hq
      have ke6 := t7 _ _ ke5
      have nq : q ≠ e5 := fun e => by rw [e, ke5] at hq; cases hq
      refine ⟨ke6, small1000 (by omega), upd_same, ?_, same_set (t6.trans t7) he5, by rw [List.length_append, hal2]; rfl, _, rfl⟩
      rw [List.replicate_succ']
      exact Paired.append' (ShX.upd (by simp) (ShX.mono t7 hX2)) (.cons ⟨q, rfl, by simp [nq], by rw [upd_ne nq]; exact upd_same⟩ .nil)
    rintro acc2 σ H19 ⟨ke5, hX2, t6, hal2, v, rfl⟩
    have hxl := hJ.len
    have s5h := s5g.trans t6
    refine ⟨ld, e4, e5, xs, [], acc2, js, [], List.replicate xs.length [], rfl, SqL.of (s5h _ _ kld), hJ.mono s5h, SqL.of (t6 _ _ k5), .nil, SqL.of ke5, ShX.shs hX2, ⟨by rw [List.length_replicate]; exact hxl, by rw [List.length_replicate]; omega, fun s hs => ?_, (by intro _ h; cases h), by show 0 ≤ 90000; decide⟩, fun l3 ys3 rows3 H20 hl3 t7 kl3 hPn3 hpn3 hsn3 => ?_⟩
    · rw [(List.mem_replicate.mp hs).2]
      exact ⟨rfl, by intro _ h; cases h⟩
    have er3 : rows3 = [] := List.Perm.eq_nil hpn3
    subst er3
    have ey3 := hPn3.nil
    subst ey3
    refine ⟨by show 0 ≤ sizeLine; decide, fun e6 he6 => ?_⟩
    have t8 := same_upd (o := .lst []) he6
    refine ⟨l3, e6, [], [], rfl, rfl, SqL.of (t8 _ _ kl3), SqL.of upd_same, .nil, false, rfl, iteF ?_⟩
    have u8 := ((t5.trans t6).trans t7).trans t8
    generalize upd H20 e6 (.lst []) = H21 at t8 u8 ⊢
    have s5i := s5f.trans u8
    have u13 := u4.trans u8
    refine ⟨_, rfl, _, rfl, _, rfl, ld, pc, sl, xs, cx, bx, js, cs, shs, rfl, SqL.of (s5i _ _ kld), hJ.mono s5i, SqL.of (s5i _ _ kpc5), hC5.mono s5i, SqL.of (s5i _ _ ksl5), hSh5.mono s5i, hF, fun l4 ys4 rows4 H22 hl4 t9 kl4 hP4 hp4 hs4 => ?_⟩
    have e4 : rows4 = frows := sorted_uniq (hp4.trans hp1.symm) hs4 hs1
    subst e4
    exact ⟨_, rfl, l4, dl, ys4, dys, rows4, rfl, kl4, (u13.trans t9) _ _ kdl13, hP4, (hP13.mono u13).mono t9, hshp, k H22⟩
end
theorem all_mk {l : PySem.W.OpenLaw} {w : World} {K : PySem.W.Frag} {h : Heap} {mg : Str → Option Value} {fa : Addr} (X : K.In h) (G : h.Ns mainGlobals mg) (hfa : mg "law" = some (.ref fa))
    {f0 : Addr} {od0 an0 : Option Addr} {sl0 : Array (Option Value)} {oc0 kV0 dc0 pm0 cd0 ct0 : Value}
    {f1 : Addr} {od1 an1 : Option Addr} {sl1 : Array (Option Value)} {oc1 kV1 dc1 pm1 cd1 ct1 : Value}
    {f2 : Addr} {od2 an2 : Option Addr} {sl2 : Array (Option Value)} {oc2 kV2 dc2 pm2 cd2 ct2 : Value}
    {f3 : Addr} {od3 an3 : Option Addr} {sl3 : Array (Option Value)} {oc3 kV3 dc3 pm3 cd3 ct3 : Value}
    {f4 : Addr} {od4 an4 : Option Addr} {sl4 : Array (Option Value)} {oc4 kV4 dc4 pm4 cd4 ct4 : Value}
    {f5 : Addr} {od5 an5 : Option Addr} {sl5 : Array (Option Value)} {oc5 kV5 dc5 pm5 cd5 ct5 : Value}
    {f6 : Addr} {od6 an6 : Option Addr} {sl6 : Array (Option Value)} {oc6 kV6 dc6 pm6 cd6 ct6 : Value}
    {f7 : Addr} {od7 an7 : Option Addr} {sl7 : Array (Option Value)} {oc7 kV7 dc7 pm7 cd7 ct7 : Value}
    {f8 : Addr} {od8 an8 : Option Addr} {sl8 : Array (Option Value)} {oc8 kV8 dc8 pm8 cd8 ct8 : Value}
    {f9 : Addr} {od9 an9 : Option Addr} {sl9 : Array (Option Value)} {oc9 kV9 dc9 pm9 cd9 ct9 : Value}
    {f10 : Addr} {od10 an10 : Option Addr} {sl10 : Array (Option Value)} {oc10 kV10 dc10 pm10 cd10 ct10 : Value}
    (a0 : PySem.W.nsIn K mainGlobals "laid_in_cell" = some (some (.ref f0))) (l0 : K.lookup f0 = some ⟨oc0, od0, .func (PySem.W.fnOf "laid_in_cell" "laid_in_cell" (defArgs s_laid_in_cell) (defBody s_laid_in_cell) (defScope s_laid_in_cell) .none kV0 dc0 pm0 an0 cd0 ct0), sl0⟩) (c0 : PySem.W.codeIn K cd0 "laid_in_cell" = true) (k0 : PySem.W.keepIn K (.ref f0) = true)
    (a1 : PySem.W.nsIn K mainGlobals "laid" = some (some (.ref f1))) (l1 : K.lookup f1 = some ⟨oc1, od1, .func (PySem.W.fnOf "laid" "laid" (defArgs s_laid) (defBody s_laid) (defScope s_laid) .none kV1 dc1 pm1 an1 cd1 ct1), sl1⟩) (c1 : PySem.W.codeIn K cd1 "laid" = true) (k1 : PySem.W.keepIn K (.ref f1) = true)
    (a2 : PySem.W.nsIn K mainGlobals "_law_cell" = some (some (.ref f2))) (l2 : K.lookup f2 = some ⟨oc2, od2, .func (PySem.W.fnOf "_law_cell" "_law_cell" (defArgs s_law_cell) (defBody s_law_cell) (defScope s_law_cell) .none kV2 dc2 pm2 an2 cd2 ct2), sl2⟩) (c2 : PySem.W.codeIn K cd2 "_law_cell" = true) (k2 : PySem.W.keepIn K (.ref f2) = true)
    (a3 : PySem.W.nsIn K mainGlobals "_law_names" = some (some (.ref f3))) (l3 : K.lookup f3 = some ⟨oc3, od3, .func (PySem.W.fnOf "_law_names" "_law_names" (defArgs s_law_names) (defBody s_law_names) (defScope s_law_names) .none kV3 dc3 pm3 an3 cd3 ct3), sl3⟩) (c3 : PySem.W.codeIn K cd3 "_law_names" = true) (k3 : PySem.W.keepIn K (.ref f3) = true)
    (a4 : PySem.W.nsIn K mainGlobals "_law_whole" = some (some (.ref f4))) (l4 : K.lookup f4 = some ⟨oc4, od4, .func (PySem.W.fnOf "_law_whole" "_law_whole" (defArgs s_law_whole) (defBody s_law_whole) (defScope s_law_whole) .none kV4 dc4 pm4 an4 cd4 ct4), sl4⟩) (c4 : PySem.W.codeIn K cd4 "_law_whole" = true) (k4 : PySem.W.keepIn K (.ref f4) = true)
    (a5 : PySem.W.nsIn K mainGlobals "_law_rows" = some (some (.ref f5))) (l5 : K.lookup f5 = some ⟨oc5, od5, .func (PySem.W.fnOf "_law_rows" "_law_rows" (defArgs s_law_rows) (defBody s_law_rows) (defScope s_law_rows) .none kV5 dc5 pm5 an5 cd5 ct5), sl5⟩) (c5 : PySem.W.codeIn K cd5 "_law_rows" = true) (k5 : PySem.W.keepIn K (.ref f5) = true)
    (a6 : PySem.W.nsIn K mainGlobals "_law_cells" = some (some (.ref f6))) (l6 : K.lookup f6 = some ⟨oc6, od6, .func (PySem.W.fnOf "_law_cells" "_law_cells" (defArgs s_law_cells) (defBody s_law_cells) (defScope s_law_cells) .none kV6 dc6 pm6 an6 cd6 ct6), sl6⟩) (c6 : PySem.W.codeIn K cd6 "_law_cells" = true) (k6 : PySem.W.keepIn K (.ref f6) = true)
    (a7 : PySem.W.nsIn K mainGlobals "_law_shares" = some (some (.ref f7))) (l7 : K.lookup f7 = some ⟨oc7, od7, .func (PySem.W.fnOf "_law_shares" "_law_shares" (defArgs s_law_shares) (defBody s_law_shares) (defScope s_law_shares) .none kV7 dc7 pm7 an7 cd7 ct7), sl7⟩) (c7 : PySem.W.codeIn K cd7 "_law_shares" = true) (k7 : PySem.W.keepIn K (.ref f7) = true)
    (a8 : PySem.W.nsIn K mainGlobals "_law_cell_due" = some (some (.ref f8))) (l8 : K.lookup f8 = some ⟨oc8, od8, .func (PySem.W.fnOf "_law_cell_due" "_law_cell_due" (defArgs s_law_cell_due) (defBody s_law_cell_due) (defScope s_law_cell_due) .none kV8 dc8 pm8 an8 cd8 ct8), sl8⟩) (c8 : PySem.W.codeIn K cd8 "_law_cell_due" = true) (k8 : PySem.W.keepIn K (.ref f8) = true)
    (a9 : PySem.W.nsIn K mainGlobals "_law_due" = some (some (.ref f9))) (l9 : K.lookup f9 = some ⟨oc9, od9, .func (PySem.W.fnOf "_law_due" "_law_due" (defArgs s_law_due) (defBody s_law_due) (defScope s_law_due) .none kV9 dc9 pm9 an9 cd9 ct9), sl9⟩) (c9 : PySem.W.codeIn K cd9 "_law_due" = true) (k9 : PySem.W.keepIn K (.ref f9) = true)
    (a10 : PySem.W.nsIn K mainGlobals "law" = some (some (.ref f10))) (l10 : K.lookup f10 = some ⟨oc10, od10, .func (PySem.W.fnOf "law" "law" (defArgs s_law) (defBody s_law) (defScope s_law) .none kV10 dc10 pm10 an10 cd10 ct10), sl10⟩) (c10 : PySem.W.codeIn K cd10 "law" = true) (k10 : PySem.W.keepIn K (.ref f10) = true)
    (z_bool : PySem.W.nsIn K mainGlobals "bool" = some none)
    (z_enumerate : PySem.W.nsIn K mainGlobals "enumerate" = some none)
    (z_int : PySem.W.nsIn K mainGlobals "int" = some none)
    (z_isinstance : PySem.W.nsIn K mainGlobals "isinstance" = some none)
    (z_len : PySem.W.nsIn K mainGlobals "len" = some none)
    (z_list : PySem.W.nsIn K mainGlobals "list" = some none)
    (z_max : PySem.W.nsIn K mainGlobals "max" = some none)
    (z_min : PySem.W.nsIn K mainGlobals "min" = some none)
    (z_range : PySem.W.nsIn K mainGlobals "range" = some none)
    (z_sorted : PySem.W.nsIn K mainGlobals "sorted" = some none)
    (z_str : PySem.W.nsIn K mainGlobals "str" = some none)
    (z_sum : PySem.W.nsIn K mainGlobals "sum" = some none)
    (z_tuple : PySem.W.nsIn K mainGlobals "tuple" = some none)
    (z_zip : PySem.W.nsIn K mainGlobals "zip" = some none)
    : ∃ fd : FuncData, (∀ (s : Shared) (v : Value), BindsTo s fd ⟨[v], []⟩ [("_law_script", v)]) ∧ ∀ base : Heap, K.In base → base.Ns mainGlobals mg → FnOk l.prog w K mg base CX0 3 fa fd ["_law_script"] (spLaw K) := by
  have e := hfa.symm.trans (PySem.W.mg_of X G a10)
  cases e
  have F0 := fun_mk (st := s_laid_in_cell) l0 c0 k0
  have b0 := F0.binds (ps := ["load", "first", "turns", "own_shares"]) fun _ _ _ _ _ _ us hl => match us, hl with | [_, _, _, _], _ => rfl
  have F1 := fun_mk (st := s_laid) l1 c1 k1
  have b1 := F1.binds (ps := ["load", "cells", "shares"]) fun _ _ _ _ _ _ us hl => match us, hl with | [_, _, _], _ => rfl
  have F2 := fun_mk (st := s_law_cell) l2 c2 k2
  have b2 := F2.binds (ps := ["_law_script", "_law_k"]) fun _ _ _ _ _ _ us hl => match us, hl with | [_, _], _ => rfl
  have F3 := fun_mk (st := s_law_names) l3 c3 k3
  have b3 := F3.binds (ps := ["_law_cell_here", "_law_many"]) fun _ _ _ _ _ _ us hl => match us, hl with | [_, _], _ => rfl
  have F4 := fun_mk (st := s_law_whole) l4 c4 k4
  have b4 := F4.binds (ps := ["_law_found"]) fun _ _ _ _ _ _ us hl => match us, hl with | [_], _ => rfl
  have F5 := fun_mk (st := s_law_rows) l5 c5 k5
  have b5 := F5.binds (ps := ["_law_found", "_law_due_here"]) fun _ _ _ _ _ _ us hl => match us, hl with | [_, _], _ => rfl
  have F6 := fun_mk (st := s_law_cells) l6 c6 k6
  have b6 := F6.binds (ps := ["_law_script", "_law_many"]) fun _ _ _ _ _ _ us hl => match us, hl with | [_, _], _ => rfl
  have F7 := fun_mk (st := s_law_shares) l7 c7 k7
  have b7 := F7.binds (ps := ["_law_script", "_law_breadths", "_law_pieces"]) fun _ _ _ _ _ _ us hl => match us, hl with | [_, _, _], _ => rfl
  have F8 := fun_mk (st := s_law_cell_due) l8 c8 k8
  have b8 := F8.binds (ps := ["_law_cell_here", "_law_names_here"]) fun _ _ _ _ _ _ us hl => match us, hl with | [_, _], _ => rfl
  have F9 := fun_mk (st := s_law_due) l9 c9 k9
  have b9 := F9.binds (ps := ["_law_load", "_law_pieces", "_law_shares_here"]) fun _ _ _ _ _ _ us hl => match us, hl with | [_, _, _], _ => rfl
  have F10 := fun_mk (st := s_law) l10 c10 k10
  have b10 := F10.binds (ps := ["_law_script"]) fun _ _ _ _ _ _ us hl => match us, hl with | [_], _ => rfl
  have T : Σ' T : Txt K mg, T.f_law = fa ∧ T.fd_law = PySem.W.fnOf "law" "law" (defArgs s_law) (defBody s_law) (defScope s_law) .none kV10 dc10 pm10 an10 cd10 ct10 := ⟨⟨_, _, ⟨F0, b0, PySem.W.mg_of X G a0⟩, _, _, ⟨F1, b1, PySem.W.mg_of X G a1⟩, _, _, ⟨F2, b2, PySem.W.mg_of X G a2⟩, _, _, ⟨F3, b3, PySem.W.mg_of X G a3⟩, _, _, ⟨F4, b4, PySem.W.mg_of X G a4⟩, _, _, ⟨F5, b5, PySem.W.mg_of X G a5⟩, _, _, ⟨F6, b6, PySem.W.mg_of X G a6⟩, _, _, ⟨F7, b7, PySem.W.mg_of X G a7⟩, _, _, ⟨F8, b8, PySem.W.mg_of X G a8⟩, _, _, ⟨F9, b9, PySem.W.mg_of X G a9⟩, _, _, ⟨F10, b10, PySem.W.mg_of X G a10⟩, PySem.W.mg_none_of X G z_bool, PySem.W.mg_none_of X G z_enumerate, PySem.W.mg_none_of X G z_int, PySem.W.mg_none_of X G z_isinstance, PySem.W.mg_none_of X G z_len, PySem.W.mg_none_of X G z_list, PySem.W.mg_none_of X G z_max, PySem.W.mg_none_of X G z_min, PySem.W.mg_none_of X G z_range, PySem.W.mg_none_of X G z_sorted, PySem.W.mg_none_of X G z_str, PySem.W.mg_none_of X G z_sum, PySem.W.mg_none_of X G z_tuple, PySem.W.mg_none_of X G z_zip⟩, rfl, rfl⟩
  obtain ⟨T, e1, e2⟩ := T
  refine ⟨PySem.W.fnOf "law" "law" (defArgs s_law) (defBody s_law) (defScope s_law) .none kV10 dc10 pm10 an10 cd10 ct10, fun s v => .of_eq rfl, fun base _ _ => ?_⟩
  have q := G_law (P := l.prog) (w := w) (base := base) T
  rw [e1, e2] at q
  exact q

theorem walk {l : PySem.W.OpenLaw} {q : Program} {loose : List Str} {XP : (Str → Option Value) → Heap → Prop} {YP : World → Heap → Prop} {d : DefRec} {K : Params → PySem.W.Frag} (hn : l.most = some 63) (hdf : d.params.defaults = [])
    (hY : ∀ (w : World) (h : Heap), YP w h → (K w.params).In h)
    (F : ∀ (w : World) (mg : Str → Option Value) (fa : Addr) (h : Heap), (K w.params).In h → h.Ns mainGlobals mg → mg d.name = some (.ref fa) →
      ∃ fd : FuncData, (∀ (s : Shared) (u : Value), BindsTo s fd ⟨[u], []⟩ [("_law_script", u)]) ∧ ∀ base : Heap, (K w.params).In base → base.Ns mainGlobals mg → FnOk l.prog w (K w.params) mg base CX0 3 fa fd ["_law_script"] (spLaw (K w.params))) :
    PySem.W.WalkO q loose XP YP l.row.toRowW d [] (fun f vs => PySem.call f vs) :=
  L2.walk_of (n := 63) (k := 3) (x := "_law_script") (CX := fun _ => CX0) (sp := fun w => spLaw (K w.params)) hn (by decide) hdf ⟨rfl, by decide, by decide⟩ hY F (fun _ _ a ns hl hO hS => ⟨a, ns, rfl, hS, hl, hO, fun _ => rfl⟩) fun _ _ _ _ _ z => z

end My
open PySem PySem.W PyProof.Rows
set_option maxRecDepth 100000 in
set_option maxHeartbeats 0 in
theorem PySem.Challenge.cw_dueyard_k31_shares_end_to_end_holds : PySem.Challenge.rw_dueyard_k31_shares_end_to_end.Holds := by
  w_on; o_law; k_head; (case hw => w_witness2)
  k_fill
  refine My.walk (l := PySem.Challenge.rw_dueyard_k31_shares_end_to_end) rfl rfl (fun w h Y => PySem.W.kIn_of Y) ?F
  case F =>
    intro w mg fa h KX G hmg
    refine' My.all_mk KX G hmg ?a0 ?l0 ?c0 ?k0 ?a1 ?l1 ?c1 ?k1 ?a2 ?l2 ?c2 ?k2 ?a3 ?l3 ?c3 ?k3 ?a4 ?l4 ?c4 ?k4 ?a5 ?l5 ?c5 ?k5 ?a6 ?l6 ?c6 ?k6 ?a7 ?l7 ?c7 ?k7 ?a8 ?l8 ?c8 ?k8 ?a9 ?l9 ?c9 ?k9 ?a10 ?l10 ?c10 ?k10 ?z_bool ?z_enumerate ?z_int ?z_isinstance ?z_len ?z_list ?z_max ?z_min ?z_range ?z_sorted ?z_str ?z_sum ?z_tuple ?z_zip
    (case a0 => k_is); (case l0 => k_is); (case c0 => k_is); (case k0 => k_is)
    (case a1 => k_is); (case l1 => k_is); (case c1 => k_is); (case k1 => k_is)
    (case a2 => k_is); (case l2 => k_is); (case c2 => k_is); (case k2 => k_is)
    (case a3 => k_is); (case l3 => k_is); (case c3 => k_is); (case k3 => k_is)
    (case a4 => k_is); (case l4 => k_is); (case c4 => k_is); (case k4 => k_is)
    (case a5 => k_is); (case l5 => k_is); (case c5 => k_is); (case k5 => k_is)
    (case a6 => k_is); (case l6 => k_is); (case c6 => k_is); (case k6 => k_is)
    (case a7 => k_is); (case l7 => k_is); (case c7 => k_is); (case k7 => k_is)
    (case a8 => k_is); (case l8 => k_is); (case c8 => k_is); (case k8 => k_is)
    (case a9 => k_is); (case l9 => k_is); (case c9 => k_is); (case k9 => k_is)
    (case a10 => k_is); (case l10 => k_is); (case c10 => k_is); (case k10 => k_is)
    (case z_bool => k_is)
    (case z_enumerate => k_is)
    (case z_int => k_is)
    (case z_isinstance => k_is)
    (case z_len => k_is)
    (case z_list => k_is)
    (case z_max => k_is)
    (case z_min => k_is)
    (case z_range => k_is)
    (case z_sorted => k_is)
    (case z_str => k_is)
    (case z_sum => k_is)
    (case z_tuple => k_is)
    (case z_zip => k_is)

