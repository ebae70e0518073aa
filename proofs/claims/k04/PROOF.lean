import PyProof.Rows.All
import Wide.All
import OpenK.AllK
import Wide.FinOn
import Lean
import PyProof.EqAt
import PyProof.EqKinds
import PyProof.TupleCall
import KE.KSortTup
import KE.KUnpack
import PySem.Challenge.RW_dueyard_k04_whole_calendars_by_deeds
set_option Elab.async false
set_option linter.all false
set_option maxRecDepth 100000
/-! THE HAND LAYER, for ints, bools, texts, own classes, LISTS and tuples (index, slices, in, append, pop ..), calls, loops. Paste it whole ahead of your own text; what your proof does not reach may be deleted. -/
namespace L2
open PySem PySem.Spec PyProof.Rows

/-- a key: an int or a str -/
abbrev Key := Sum Int Str
def keyIs : Key → Value → Bool
  | .inl k, v => Value.isInt k v
  | .inr x, v => Value.isStrOf x v
def keyH (w : World) : Key → Int
  | .inl k => hashInt k
  | .inr x => hashStr w x
theorem keyIs_shape : ∀ {k : Key} {v : Value}, keyIs k v = true → (∃ i t, k = Sum.inl i ∧ v = Value.int i t) ∨ (∃ x t, k = Sum.inr x ∧ v = Value.str x t)
  | .inl i, v, h => by
    obtain ⟨t, e⟩ := Value.isInt_shape (k := i) (v := v) h
    exact .inl ⟨i, t, rfl, e⟩
  | .inr x, v, h => by
    obtain ⟨t, e⟩ := Value.isStrOf_shape (x := x) (v := v) h
    exact .inr ⟨x, t, rfl, e⟩
theorem key_ll (a b : Int) : decide ((Sum.inl a : Key) = Sum.inl b) = (a == b) := by
  by_cases e : a = b
  · subst e; simp
  · have h : ¬ (Sum.inl a : Key) = Sum.inl b := fun q => e (Sum.inl.inj q)
    rw [decide_eq_false h]
    exact (beq_eq_false_iff_ne.mpr e).symm
theorem key_rr (a b : Str) : decide ((Sum.inr a : Key) = Sum.inr b) = decide (a = b) := by
  by_cases e : a = b
  · subst e; simp
  · have h : ¬ (Sum.inr a : Key) = Sum.inr b := fun q => e (Sum.inr.inj q)
    rw [decide_eq_false h, decide_eq_false e]
theorem key_lr (a : Int) (b : Str) : decide ((Sum.inl a : Key) = Sum.inr b) = false := decide_eq_false (fun q => nomatch q)
theorem key_rl (a : Str) (b : Int) : decide ((Sum.inr a : Key) = Sum.inl b) = false := decide_eq_false (fun q => nomatch q)

def mixKind (prog : Program) (w : World) : PySem.KeyKind prog w Key where
  is := keyIs
  hash := keyH w
  inj := fun v a b ha hb => by
    rcases keyIs_shape ha with ⟨i, t, rfl, rfl⟩ | ⟨x, t, rfl, rfl⟩
    · rcases keyIs_shape hb with ⟨j, u, rfl, e⟩ | ⟨y, u, rfl, e⟩
      · injection e with e1 _; rw [e1]
      · exact nomatch e
    · rcases keyIs_shape hb with ⟨j, u, rfl, e⟩ | ⟨y, u, rfl, e⟩
      · exact nomatch e
      · injection e with e1 _; rw [e1]
  byValue := fun k v h => by
    rcases keyIs_shape h with ⟨i, t, rfl, rfl⟩ | ⟨x, t, rfl, rfl⟩ <;> rfl
  pyHash := fun hv h => by
    rcases keyIs_shape hv with ⟨i, t, rfl, rfl⟩ | ⟨x, t, rfl, rfl⟩
    · exact wpAny_pyHash_int h
    · exact wpAny_pyHash_str h
  eqBool := fun hu hv h => by
    rcases keyIs_shape hu with ⟨i, t, rfl, rfl⟩ | ⟨x, t, rfl, rfl⟩
    · rcases keyIs_shape hv with ⟨j, u, rfl, rfl⟩ | ⟨y, u, rfl, rfl⟩
      · rw [key_ll] at h; exact wpAny_eqBool_int h
      · rw [key_lr] at h; exact SeqAt.EqAt.int_str i t y u _ _ _ _ h
    · rcases keyIs_shape hv with ⟨j, u, rfl, rfl⟩ | ⟨y, u, rfl, rfl⟩
      · rw [key_rl] at h; exact SeqAt.EqAt.str_int x t j u _ _ _ _ h
      · rw [key_rr] at h; exact wpAny_eqBool_str h
  «strs» := fun k x t v h => by
    rcases keyIs_shape h with ⟨i, u, rfl, e⟩ | ⟨y, u, rfl, e⟩
    · exact nomatch e
    · injection e with e1 _
      subst e1
      cases v <;> rfl

end L2

namespace L2
open PySem PySem.Spec PyProof.Rows

/-- a value, without the heap -/
inductive V where
  | non | bl (b : Bool) | int (i : Int) | str (x : Str) | byt (b : Array UInt8) | flt (b : UInt64) | ref (a : Addr) | ty (n : String)
  deriving DecidableEq

def RelV : V → Value → Prop
  | .non, u => u = Value.none
  | .bl b, u => u = Value.bool b
  | .int i, u => ∃ t, u = Value.int i t
  | .str x, u => ∃ t, u = Value.str x t
  | .byt b, u => ∃ t, u = Value.bytes b t
  | .flt b, u => ∃ t, u = Value.float b t
  | .ref a, u => u = Value.ref a
  | .ty n, u => u = Value.type n

abbrev Vals : List V → List Value → Prop := Paired RelV
theorem Vals.length {xs : List V} {us : List Value} (r : Vals xs us) : xs.length = us.length := Paired.length r
theorem Vals.get : ∀ {xs : List V} {us : List Value} {i : Nat} {x : V}, Vals xs us → xs[i]? = some x → ∃ u, us[i]? = some u ∧ RelV x u
  | _, _, _, _, .nil, e => by simp at e
  | _, _, 0, _, .cons r _, e => by simp at e; subst e; exact ⟨_, rfl, r⟩
  | _, _, i + 1, x, .cons _ t, e => by
    obtain ⟨u, h1, h2⟩ := Vals.get (i := i) (x := x) t (by simpa using e)
    exact ⟨u, by simpa using h1, h2⟩
theorem Vals.set {x : V} {u : Value} (r : RelV x u) : ∀ {xs : List V} {us : List Value} (i : Nat), Vals xs us → Vals (xs.set i x) (us.set i u)
  | _, _, _, .nil => .nil
  | _, _, 0, .cons _ t => .cons r t
  | _, _, i + 1, .cons q t => .cons q (Vals.set r i t)
theorem Vals.append : ∀ {xs ys : List V} {us ws : List Value}, Vals xs us → Vals ys ws → Vals (xs ++ ys) (us ++ ws)
  | _, _, _, _, .nil, s => s
  | _, _, _, _, .cons r t, s => .cons r (Vals.append t s)
theorem Vals.take : ∀ {xs : List V} {us : List Value} (n : Nat), Vals xs us → Vals (xs.take n) (us.take n)
  | _, _, 0, _ => .nil
  | _, _, _ + 1, .nil => .nil
  | _, _, n + 1, .cons r t => .cons r (Vals.take n t)
theorem Vals.drop : ∀ {xs : List V} {us : List Value} (n : Nat), Vals xs us → Vals (xs.drop n) (us.drop n)
  | _, _, 0, r => r
  | _, _, _ + 1, .nil => .nil
  | _, _, n + 1, .cons _ t => Vals.drop n t

def RelO : Option V → Option Value → Prop
  | some v, some u => RelV v u
  | none, none => True
  | _, _ => False
def KV {κ : Type} : List (κ × V) → List (κ × Value) → Prop := Paired fun (p : κ × V) (q : κ × Value) => p.1 = q.1 ∧ RelV p.2 q.2

/-- a key of a dict (00_mix): an int or a text -/
def kV : Key → V
  | .inl i => .int i
  | .inr x => .str x

/-- what stands at a tracked address -/
inductive HO where
  /-- a list -/
  | lst (xs : List V)
  /-- a tuple (never changes) -/
  | tup (xs : List V)
  /-- a dict whose keys are ints and texts; one whose keys are tuples of ints and texts (the empty one is both) -/
  | dK (kvs : List (Key × V)) | dT (kvs : List (List Key × V))
  /-- a set of ints: its members, its size -/
  | set (S : Int → Bool) (n : Nat)
  /-- an instance of the class at C, its dict at dx, its attributes -/
  | ins (C dx : Addr) (fs : List (Str × V))
  /-- the dict of the instance at x -/
  | own (x : Addr)
  /-- the dict of an exception -/
  | xd (fs : List (Str × V))
  /-- a bound method, f of x -/
  | met (f x : Addr)
  /-- a range object lo, lo + 1, .. below hi -/
  | rng (lo hi : Int)
  /-- a thing that is known to the object (the script; a dict while a loop walks it): read, never written while it is so -/
  | frz (o : Obj) (u : HO)
  /-- a code object's table -/
  | tbl (ps : Array Value)
  /-- any other thing, by what is true of its one object (a def of one's own: SetO a S n := HO.ext fun h => ..) -/
  | ext (φ : Heap → Prop)

abbrev Hp := Addr → Option HO
def upd (H : Hp) (a : Addr) (o : HO) : Hp := fun b => if b = a then some o else H b
theorem upd_same {H : Hp} {a : Addr} {o : HO} : upd H a o a = some o := by unfold upd; rw [if_pos rfl]
theorem upd_ne {H : Hp} {a b : Addr} {o : HO} (h : b ≠ a) : upd H a o b = H b := by unfold upd; rw [if_neg h]
theorem upd_upd {H : Hp} {a : Addr} {o u : HO} : upd (upd H a o) a u = upd H a u := by
  funext b; unfold upd; split <;> rfl
theorem ne_of_none {H : Hp} {a b : Addr} {o : HO} (h : H a = some o) (h' : H b = none) : a ≠ b := by
  intro e; subst e; rw [h] at h'; cases h'

section
variable (P : Program) (w : World)
def ObjOk (H : Hp) (h : Heap) (a : Addr) : HO → Prop
  | .lst xs => xs.length ≤ sizeLine ∧ ∃ (its : List Value) (n : Nat), Vals xs its ∧ h.get? a = some { cls := .type "list", data := .seq its.toArray n }
  | .tup xs => xs.length ≤ sizeLine ∧ ∃ its : List Value, Vals xs its ∧ IsTup h a its.toArray
  | .dK kvs => kvs.length ≤ sizeLine ∧ (a == sysModules) = false ∧ ∃ vs, KV kvs vs ∧ h.DictOf (mixKind P w) a vs
  | .dT kvs => kvs.length ≤ sizeLine ∧ (a == sysModules) = false ∧ ∃ xs : List (List Key × Addr × Value),
      Paired (fun (p : List Key × V) (q : List Key × Addr × Value) => p.1 = q.1 ∧ H q.2.1 = some (.tup (p.1.map kV)) ∧ RelV p.2 q.2.2) kvs xs ∧
      ∃ o es ep, h.get? a = some o ∧ o.ExactDict ∧ o.data = .dict es ep ∧ es.toList = xs.map (entryOfKey (tupleKind (mixKind P w))) ∧ (xs.map (·.1)).Nodup
  | .set S n => h.SetOf (intKind P w) a S n
  | .ins C dx fs => H dx = some (.own a) ∧ fs.length ≤ 1000 ∧ dx ≠ a ∧ h.get? a = some (PySem.W.instObj C dx) ∧
      ∃ mA, h.Ns1 dx mA ∧ (∀ f, RelO (fs.lookup f) (mA f)) ∧ PySem.Within mA (fs.map (·.1))
  | .own _ => ∃ o, h.get? a = some o
  | .xd fs => ∃ mA, h.Ns1 a mA ∧ ∀ f, RelO (fs.lookup f) (mA f)
  | .rng lo hi => ∃ t u v, h.get? a = some { cls := .type "range", data := .fields #[.int lo t, .int hi u, .int 1 v] }
  | .frz o u => h.get? a = some o ∧ ObjOk H h a u
  | .tbl ps => h.get? a = some { cls := .none, data := .fields ps }
  | .met f x => h.get? a = some (PySem.W.methodObj (.ref f) (.ref x))
  | .ext φ => φ h ∧ (∃ o, h.get? a = some o) ∧ ∀ h1 h2 : Heap, φ h1 → (∀ o, h1.get? a = some o → h2.get? a = some o) → φ h2
/-- the abstract heap is held -/
def HOk (H : Hp) (h : Heap) : Prop := ∀ a o, H a = some o → ObjOk P w H h a o
end

section
variable {P : Program} {w : World} {H H' : Hp} {h h' : Heap} {a : Addr} {o : HO}
theorem ObjOk.lt (x : ObjOk P w H h a o) : a < h.objs.size := by
  cases o with
  | lst xs => obtain ⟨_, _, _, _, e⟩ := x; exact Heap.lt_size e
  | tup xs => obtain ⟨_, _, _, p⟩ := x; exact p.lt
  | dK kvs => obtain ⟨_, _, _, _, o, _, _, e, _⟩ := x; exact Heap.lt_size e
  | dT kvs => obtain ⟨_, _, _, _, o, _, _, e, _⟩ := x; exact Heap.lt_size e
  | set S n => obtain ⟨o, _, _, _, e, _⟩ := x; exact Heap.lt_size e
  | ins C dx fs => obtain ⟨_, _, _, e, _⟩ := x; exact Heap.lt_size e
  | own y => obtain ⟨_, e⟩ := x; exact Heap.lt_size e
  | xd fs => obtain ⟨_, ⟨_, _, _, e, _⟩, _⟩ := x; exact Heap.lt_size e
  | rng lo hi => obtain ⟨_, _, _, e⟩ := x; exact Heap.lt_size e
  | frz ob u => obtain ⟨e, _⟩ := x; exact Heap.lt_size e
  | tbl ps => exact Heap.lt_size (show h.get? a = some _ from x)
  | met f y => exact Heap.lt_size (show h.get? a = some _ from x)
  | ext φ => obtain ⟨_, ⟨_, e⟩, _⟩ := x; exact Heap.lt_size e
theorem Paired.mapP {α β : Type} {F G : α → β → Prop} : ∀ {l₁ : List α} {l₂ : List β}, Paired F l₁ l₂ → (∀ a b, F a b → G a b) → Paired G l₁ l₂
  | _, _, .nil, _ => .nil
  | _, _, .cons r t, f => .cons (f _ _ r) (Paired.mapP t f)
theorem Paired.imp' {α β : Type} {F G : α → β → Prop} (f : ∀ a b, F a b → G a b) {l₁ : List α} {l₂ : List β} (r : Paired F l₁ l₂) : Paired G l₁ l₂ := Paired.mapP r f
/-- what an object's description leans on: its own object, its own dict, the tuples -/
theorem ObjOk.stay (x : ObjOk P w H h a o) (k : ∀ b u, (b = a ∨ H b = some (.own a)) → h.get? b = some u → h'.get? b = some u)
    (ho : ∀ b, H b = some (.own a) → H' b = some (.own a)) (ht : ∀ b xs, H b = some (.tup xs) → H' b = some (.tup xs)) : ObjOk P w H' h' a o := by
  induction o with
  | lst xs => obtain ⟨z, its, n, r, e⟩ := x; exact ⟨z, its, n, r, k _ _ (.inl rfl) e⟩
  | tup xs => obtain ⟨z, its, r, ob, e, c⟩ := x; exact ⟨z, its, r, ob, k _ _ (.inl rfl) e, c⟩
  | dK kvs => obtain ⟨z, y, vs, r, ob, es, ep, e, c⟩ := x; exact ⟨z, y, vs, r, ob, es, ep, k _ _ (.inl rfl) e, c⟩
  | dT kvs =>
    obtain ⟨z, y, xs, r, ob, es, ep, e, c⟩ := x
    exact ⟨z, y, xs, Paired.mapP r fun p q z => ⟨z.1, ht _ _ z.2.1, z.2.2⟩, ob, es, ep, k _ _ (.inl rfl) e, c⟩
  | set S n => obtain ⟨ob, es, ep, t, e, c⟩ := x; exact ⟨ob, es, ep, t, k _ _ (.inl rfl) e, c⟩
  | ins C dx fs =>
    obtain ⟨d, z, ne, e, mA, ⟨od, es, ep, e2, c⟩, r⟩ := x
    exact ⟨ho _ d, z, ne, k _ _ (.inl rfl) e, mA, ⟨od, es, ep, k _ _ (.inr d) e2, c⟩, r⟩
  | own y => obtain ⟨ob, e⟩ := x; exact ⟨ob, k _ _ (.inl rfl) e⟩
  | xd fs => obtain ⟨mA, ⟨od, es, ep, e, c⟩, r⟩ := x; exact ⟨mA, ⟨od, es, ep, k _ _ (.inl rfl) e, c⟩, r⟩
  | rng lo hi => obtain ⟨t, u, v, e⟩ := x; exact ⟨t, u, v, k _ _ (.inl rfl) e⟩
  | frz ob u ih => obtain ⟨e, q⟩ := x; exact ⟨k _ _ (.inl rfl) e, ih q⟩
  | tbl ps =>
    have e : h.get? a = some { cls := .none, data := .fields ps } := x
    show h'.get? a = some { cls := .none, data := .fields ps }
    exact k a _ (.inl rfl) e
  | met f y =>
    have e : h.get? a = some (PySem.W.methodObj (.ref f) (.ref y)) := x
    show h'.get? a = some (PySem.W.methodObj (.ref f) (.ref y))
    exact k a _ (.inl rfl) e
  | ext φ => obtain ⟨p, ⟨o, e⟩, st⟩ := x; exact ⟨st _ _ p fun o q => k _ _ (.inl rfl) q, ⟨o, k _ _ (.inl rfl) e⟩, st⟩
theorem HOk.lt (x : HOk P w H h) (e : H a = some o) : a < h.objs.size := (x a o e).lt
theorem HOk.fresh (x : HOk P w H h) (e : h.objs.size ≤ a) : H a = none := by
  cases q : H a with
  | none => rfl
  | some u => exact absurd (Nat.lt_of_lt_of_le (x.lt q) e) (Nat.lt_irrefl _)
/-- every object of the heap is kept -/
theorem HOk.kept (x : HOk P w H h) (k : ∀ b u, h.get? b = some u → h'.get? b = some u) : HOk P w H h' := fun a o e =>
  (x a o e).stay (fun b u _ q => k b u q) (fun _ q => q) fun _ _ q => q
/-- a new object is laid and tracked -/
theorem HOk.laid (x : HOk P w H h) (k : ∀ b u, h.get? b = some u → h'.get? b = some u) (hp : h.objs.size ≤ a) (new : ObjOk P w (upd H a o) h' a o) : HOk P w (upd H a o) h' := fun b u e => by
  have hn := x.fresh hp
  by_cases hb : b = a
  · subst hb; rw [upd_same] at e; cases e; exact new
  · rw [upd_ne hb] at e
    exact (x b u e).stay (fun c v _ q => k c v q) (fun c q => by rw [upd_ne (ne_of_none q hn)]; exact q) fun c xs q => by rw [upd_ne (ne_of_none q hn)]; exact q
end

/-- what may be read as u: it is u, or a known u -/
def Rd (H : Hp) (a : Addr) (u : HO) : Prop := H a = some u ∨ ∃ o, H a = some (.frz o u)
theorem Rd.ok {P : Program} {w : World} {H : Hp} {h : Heap} {a : Addr} {u : HO} (r : Rd H a u) (x : HOk P w H h) : ObjOk P w H h a u := by
  rcases r with r | ⟨o, r⟩
  · exact x a u r
  · obtain ⟨_, q⟩ := x a _ r
    exact q
/-- what may be written -/
def Mut : Option HO → Prop
  | some (.lst _) => True
  | some (.dK _) => True
  | some (.dT _) => True
  | some (.set _ _) => True
  | some (.ins _ _ _) => True
  | some (.ext _) => True
  | _ => False
section
variable {P : Program} {w : World} {H : Hp} {h h' : Heap} {x e : Addr} {o' : HO}
/-- the object at e is changed: x itself, or the dict of the instance x -/
theorem HOk.write (ok : HOk P w H h) (mu : Mut (H x)) (he : e = x ∨ H e = some (.own x)) (k : ∀ b u, b ≠ e → h.get? b = some u → h'.get? b = some u) (heo : ∃ u, h'.get? e = some u)
    (new : ObjOk P w (upd H x o') h' x o') : HOk P w (upd H x o') h' := fun b u q => by
  have nown : ∀ c y, H c = some (.own y) → c ≠ x := fun c y r z => by subst z; rw [r] at mu; exact mu
  have ntup : ∀ c xs, H c = some (.tup xs) → c ≠ x := fun c xs r z => by subst z; rw [r] at mu; exact mu
  by_cases hb : b = x
  · subst hb; rw [upd_same] at q; cases q; exact new
  · rw [upd_ne hb] at q
    by_cases hbe : b = e
    · have q' : H b = some (.own x) := by
        rcases he with z | z
        · exact absurd (hbe.trans z) hb
        · rw [hbe]; exact z
      rw [q] at q'; cases q'
      obtain ⟨v, hv⟩ := heo
      exact ⟨v, by rw [hbe]; exact hv⟩
    · refine (ok b u q).stay (fun c v hc r => k c v ?_ r) (fun c r => by rw [upd_ne (nown c b r)]; exact r) fun c xs r => by rw [upd_ne (ntup c xs r)]; exact r
      rcases hc with rfl | hc
      · exact hbe
      · rintro rfl
        rcases he with z | z
        · exact nown c b hc z
        · rw [hc] at z; cases z; exact hb rfl
end

/-! ### kept unless tracked; of the frames at fs (the callers') the slots may change (an exception that passes writes there); of the records at ex (iterators) nothing is said -/
structure Un (fs ex : List Addr) (H H' : Hp) (h h' : Heap) : Prop where
  keep : ∀ b o, h.get? b = some o → H b = none → b ∉ fs → b ∉ ex → h'.get? b = some o
  slot : ∀ b o, h.get? b = some o → H b = none → b ∈ fs → b ∉ ex → ∃ sl, h'.get? b = some { o with slots := sl }
  free : ∀ b o, h.get? b = some o → H b = none → b ∉ ex → H' b = none
  there : ∀ b o, h.get? b = some o → b ∉ ex → ∃ o', h'.get? b = some o'
  tups : ∀ b xs, H b = some (.tup xs) → H' b = some (.tup xs)
  frzs : ∀ b o u, H b = some (.frz o u) → H' b = some (.frz o u)
  tbls : ∀ b ps, H b = some (.tbl ps) → ∃ more, H' b = some (.tbl (ps ++ more))
section
variable {fs fs' ex ex' : List Addr} {H H1 H2 : Hp} {h h1 h2 h' : Heap} {a x e : Addr} {o : HO}
theorem Un.any (u : Un fs ex H H1 h h1) {b : Addr} {ob : Obj} (q : h.get? b = some ob) (n : H b = none) (hx : b ∉ ex) : ∃ sl, h1.get? b = some { ob with slots := sl } := by
  by_cases hb : b ∈ fs
  · exact u.slot b ob q n hb hx
  · exact ⟨ob.slots, u.keep b ob q n hb hx⟩
theorem Un.kept (k : ∀ b u, h.get? b = some u → h'.get? b = some u) : Un fs ex H H h h' :=
  ⟨fun b ob q _ _ _ => k b ob q, fun b ob q _ _ _ => ⟨ob.slots, k b ob q⟩, fun _ _ _ n _ => n, fun b ob q _ => ⟨ob, k b ob q⟩, fun _ _ q => q, fun _ _ _ q => q, fun _ ps q => ⟨#[], by rw [q]; simp⟩⟩
theorem Un.refl : Un fs ex H H h h := Un.kept fun _ _ q => q
theorem Un.laid (k : ∀ b u, h.get? b = some u → h'.get? b = some u) (hp : h.objs.size ≤ a) (hn : H a = none) : Un fs ex H (upd H a o) h h' where
  keep := fun b u q _ _ _ => k b u q
  slot := fun b u q _ _ _ => ⟨u.slots, k b u q⟩
  free := fun b u q n _ => by rw [upd_ne (Nat.ne_of_lt (Nat.lt_of_lt_of_le (Heap.lt_size q) hp))]; exact n
  there := fun b u q _ => ⟨u, k b u q⟩
  tups := fun b xs q => by rw [upd_ne (ne_of_none q hn)]; exact q
  frzs := fun b u xs q => by rw [upd_ne (ne_of_none q hn)]; exact q
  tbls := fun b ps q => ⟨#[], by rw [upd_ne (ne_of_none q hn), q]; simp⟩
theorem Un.write (mu : Mut (H x)) (he : e = x ∨ H e = some (.own x)) (k : ∀ b u, b ≠ e → h.get? b = some u → h'.get? b = some u) (heo : ∃ u, h'.get? e = some u) : Un fs ex H (upd H x o) h h' := by
  have hx : ∀ b, H b = none → b ≠ x := fun b n z => by subst z; rw [n] at mu; exact mu
  have hb : ∀ b, H b = none → b ≠ e := fun b n z => by
    subst z
    rcases he with r | r
    · exact hx b n r
    · rw [n] at r; cases r
  have hm : ∀ b u, H b = some u → ¬ Mut (some u) → b ≠ x := fun b u q nm z => by subst z; rw [q] at mu; exact nm mu
  refine ⟨fun b u q n _ _ => k b u (hb b n) q, fun b u q n _ _ => ⟨u.slots, k b u (hb b n) q⟩, fun b u q n _ => by rw [upd_ne (hx b n)]; exact n, fun b u q _ => ?_,
    fun b xs q => by rw [upd_ne (hm b _ q fun z => z)]; exact q, fun b u xs q => by rw [upd_ne (hm b _ q fun z => z)]; exact q, fun b ps q => ⟨#[], by rw [upd_ne (hm b _ q fun z => z), q]; simp⟩⟩
  by_cases hbe : b = e
  · subst hbe; exact heo
  · exact ⟨u, k b u hbe q⟩
end

/-! ### the heap without what is tracked -/
def trk (h : Heap) (H : Hp) : List Addr := (List.range h.objs.size).filter fun a => (H a).isSome
def hidT (h : Heap) (H : Hp) : Heap := PySem.W.hideAll h (trk h H)
theorem hidT_size (h : Heap) (H : Hp) : (hidT h H).objs.size = h.objs.size := PySem.W.hideAll_size _ _
theorem hidT_get {h : Heap} {H : Hp} {b : Addr} {o : Obj} (e : h.get? b = some o) (n : H b = none) : (hidT h H).get? b = some o :=
  PySem.W.hideAll_get _ e fun hm => by
    have q : (H b).isSome = true := (List.mem_filter.mp hm).2
    rw [n] at q; simp at q
theorem of_hidT {h : Heap} {H : Hp} {b : Addr} {o : Obj} (e : (hidT h H).get? b = some o) : h.get? b = some o ∧ H b = none := by
  have e' : h.get? b = some o := PySem.W.of_hideAll (trk h H) e
  refine ⟨e', ?_⟩
  cases q : H b with
  | none => rfl
  | some x =>
    have hm : b ∈ trk h H := List.mem_filter.mpr ⟨List.mem_range.mpr (Heap.lt_size e'), by simp [q]⟩
    have z : (hidT h H).get? b = none := PySem.W.hideAll_none (trk h H) hm
    rw [z] at e; cases e

/-! ### OpenK's ledger, filled with every new object but one -/
def allNews (g h : Heap) (L : Addr) : List (Addr × Obj) := (List.range h.objs.size).filterMap fun a => if a = L ∨ (g.get? a).isSome = true then none else (h.get? a).map fun o => (a, o)
def rest (g h : Heap) (L d : Addr) : List (Addr × Obj) := (allNews g h L).filter fun p => decide (p.1 ≠ d)
end L2

namespace L2
open PySem PySem.Spec PyProof.Rows

/-- the module's facts, over the base: the heap at the law's entry without what is tracked there -/
structure Mod (K : PySem.W.Frag) (mg : Str → Option Value) (base : Heap) : Prop where
  kin : K.In base
  glob : base.Ns mainGlobals mg
  blt : ∃ mb, base.Ns builtinsNs mb ∧ ∀ x : Str, x ≠ "__name__" → mb x = bootBuiltins x
  nolimit : base.NoLimit

/-- the context: a def's body (or a comprehension's block) running. base: fixed through the whole law; s₀, H₀: the entry; outer: the frames whose slots others may change (a def's callers); stack: all frames that run;
   ex: iterators that were made ahead of the entry and are walked here (a comprehension's); fn: the names whose cells were made at the entry (a def: all; a comprehension's block: its own); calm: not within an except suite; pn: pins that every state bears; xe: what is wanted of an exception that leaves the code -/
structure Cx where
  prog : Program
  w : World
  K : PySem.W.Frag
  mg : Str → Option Value
  base : Heap
  A : Around
  N : List Str
  s₀ : Shared
  H₀ : Hp
  env : Env
  outer : List Env
  stack : List Env
  ex : List Addr
  fn : Str → Bool
  calm : Bool
  pn : List (Addr × Obj)
  xe : Value → Shared → Prop
/-- the callers' frames -/
def frs (l : List Env) : List Addr := l.filterMap (·.frame)
abbrev Cx.fs (X : Cx) : List Addr := frs X.outer

def Vis (sc : Scope) (x : Str) : Prop := sc.names.lookup x = some .local ∨ sc.names.lookup x = some .cell ∨ sc.names.lookup x = some .free
def Loc (sc : Scope) (x : Str) : Prop := sc.names.lookup x = some .local ∨ sc.names.lookup x = some .cell
def Look (env : Env) (h : Heap) (m : Str → Option Value) (x : Str) (u : Value) : Prop :=
  (env.kindOf x = some .local ∧ m x = some u) ∨ ((env.kindOf x = some .cell ∨ env.kindOf x = some .free) ∧ ∃ c, env.cells.lookup x = some c ∧ h.IsCell c (some u))

structure Cx.Ok (X : Cx) : Prop where
  mod : Mod X.K X.mg X.base
  kind : X.env.scope.kind = .function
  glob : X.env.globals = mainGlobals
  blt : X.env.builtins = builtinsNs
  above : X.s₀.heap.objs.size ≤ X.env.locals
  inj : ∀ x y c, X.env.cells.lookup x = some c → X.env.cells.lookup y = some c → x = y
  has : ∀ x, (X.env.kindOf x = some .cell ∨ X.env.kindOf x = some .free) → ∃ c, X.env.cells.lookup x = some c
  cab : ∀ x c, X.fn x = true → X.env.cells.lookup x = some c → X.s₀.heap.objs.size ≤ c
  hd : X.calm = true → X.A.handled = none
  frames : X.A.frames = some X.stack
  stk : X.stack = X.outer ∨ (X.stack = X.env :: X.outer ∧ X.env.frame = some X.env.locals)
  exf : ∀ b ∈ X.ex, b ≠ X.env.locals ∧ ∀ x c, X.env.cells.lookup x = some c → c ≠ b
  bs : ∀ b o, X.base.get? b = some o → X.s₀.heap.get? b = some o ∧ X.H₀ b = none
  bsz : X.base.objs.size ≤ X.s₀.heap.objs.size
  noex : ∀ b o, X.base.get? b = some o → b ∉ X.ex
  exfs : ∀ b ∈ X.ex, b ∉ X.fs
  funs : X.s₀.heap.FunFrames X.base X.outer
  frf : ∀ b ∈ X.fs, X.H₀ b = none

structure Inv (X : Cx) (pins : List (Addr × Obj)) (σ : List (Option V)) (H : Hp) (s : Shared) : Prop where
  ok : X.Ok
  os : s.os = X.s₀.os
  bare : AllBare s.gens
  base : Un X.fs X.ex X.H₀ H X.s₀.heap s.heap
  loc : ∃ m, s.heap.Ns X.env.locals m ∧ ∀ (i : Nat) (x : Str) (v : V), X.N[i]? = some x → σ[i]? = some (some v) → Vis X.env.scope x → ∃ u, RelV v u ∧ Look X.env s.heap m x u
  cell : ∀ x c, X.env.cells.lookup x = some c → ∃ v, s.heap.IsCell c v
  free : H X.env.locals = none
  freeC : ∀ x c, X.env.cells.lookup x = some c → H c = none
  pin : ∀ p ∈ X.pn ++ pins, s.heap.get? p.1 = some p.2 ∧ H p.1 = none ∧ p.1 ≠ X.env.locals ∧ p.1 ∉ X.fs ∧ ∀ v, p.2.data ≠ .cell v
  hok : HOk X.prog X.w H s.heap
  len : σ.length = X.N.length

section
variable {X : Cx} {pins : List (Addr × Obj)} {σ : List (Option V)} {H H' : Hp} {s : Shared} {h' : Heap}

theorem Cx.Ok.nofr (ok : X.Ok) {b : Addr} {o : Obj} (e : X.base.get? b = some o) : b ∉ X.fs := fun hb => by
  have := (ok.funs.mem hb).1
  rw [e] at this; cases this
theorem Inv.bs (I : Inv X pins σ H s) : ∀ b o, X.base.get? b = some o → s.heap.get? b = some o ∧ H b = none := fun b o e =>
  ⟨I.base.keep b o (I.ok.bs b o e).1 (I.ok.bs b o e).2 (I.ok.nofr e) (I.ok.noex b o e), I.base.free b o (I.ok.bs b o e).1 (I.ok.bs b o e).2 (I.ok.noex b o e)⟩
theorem Inv.bk (I : Inv X pins σ H s) : ∀ b o, X.base.get? b = some o → s.heap.get? b = some o := fun b o e => (I.bs b o e).1
theorem Inv.mod (I : Inv X pins σ H s) : Mod X.K X.mg X.base := I.ok.mod
theorem Inv.kIn (I : Inv X pins σ H s) : X.K.In s.heap := I.ok.mod.kin.keeps I.bk
theorem Inv.lt (I : Inv X pins σ H s) : X.env.locals < s.heap.objs.size := let ⟨_, hn, _⟩ := I.loc; hn.lt
theorem Inv.sz (I : Inv X pins σ H s) : X.s₀.heap.objs.size ≤ s.heap.objs.size := Nat.le_trans I.ok.above (Nat.le_of_lt I.lt)
theorem Inv.nofs (I : Inv X pins σ H s) {a : Addr} (h : s.heap.objs.size ≤ a) : a ∉ X.fs := fun hb => by
  obtain ⟨_, o, ho, _⟩ := I.ok.funs.mem hb
  exact absurd (Nat.lt_of_lt_of_le (Heap.lt_size ho) (Nat.le_trans I.sz h)) (Nat.lt_irrefl _)
theorem Inv.cne (I : Inv X pins σ H s) : ∀ x c, X.env.cells.lookup x = some c → c ≠ X.env.locals := fun x c e z => by
  obtain ⟨v, o, ho, hd⟩ := I.cell x c e
  obtain ⟨m, ⟨o', es, ep, ho', hd', _⟩, _⟩ := I.loc
  rw [z, ho'] at ho; cases ho; rw [hd'] at hd; cases hd
theorem Inv.funs (I : Inv X pins σ H s) : s.heap.FunFrames X.base X.outer := by
  have all : ∀ (l : List Env), (∀ b ∈ frs l, b ∈ X.fs) → X.s₀.heap.FunFrames X.base l → s.heap.FunFrames X.base l := by
    intro l
    induction l with
    | nil => intro _ _; trivial
    | cons env r ih =>
      intro hs hl
      obtain ⟨hk, ⟨L, o, hf, hn, ho, hd⟩, hr⟩ := hl
      have hL : L ∈ X.fs := hs L (by unfold frs; rw [List.filterMap_cons, hf]; exact List.mem_cons_self)
      obtain ⟨sl, e⟩ := I.base.slot L o ho (I.ok.frf L hL) hL fun z => I.ok.exfs L z hL
      exact ⟨hk, ⟨L, _, hf, hn, e, hd⟩, ih (fun b hb => hs b (by unfold frs; rw [List.filterMap_cons, hf]; exact List.mem_cons_of_mem _ hb)) hr⟩
  exact all X.outer (fun _ hb => hb) I.ok.funs

/-- the frames that run, for a call -/
theorem Inv.stack (I : Inv X pins σ H s) : s.heap.FunFrames X.base X.stack := by
  rcases I.ok.stk with e | ⟨e, hf⟩
  · rw [e]; exact I.funs
  · rw [e]
    obtain ⟨m, hn, _⟩ := I.loc
    refine .cons (by rw [I.ok.kind]; decide) hf hn ?_ I.funs
    exact Heap.get?_none_of_le (Nat.le_trans I.ok.bsz I.ok.above)
theorem Inv.stkSub (I : Inv X pins σ H s) : ∀ b ∈ frs X.stack, b ∈ X.env.locals :: X.fs := fun b hb => by
  rcases I.ok.stk with e | ⟨e, hf⟩
  · rw [e] at hb; exact List.mem_cons_of_mem _ hb
  · rw [e] at hb
    unfold frs at hb
    rw [List.filterMap_cons, hf] at hb
    exact hb
theorem Inv.stkFree (I : Inv X pins σ H s) : ∀ b ∈ frs X.stack, H b = none := fun b hb => by
  rcases List.mem_cons.mp (I.stkSub b hb) with e | hb
  · rw [e]; exact I.free
  · obtain ⟨_, o, ho, _⟩ := I.ok.funs.mem hb
    exact I.base.free b o ho (I.ok.frf b hb) fun z => I.ok.exfs b z hb

/-- THE STEP: the untracked objects but the frame and the records at ch are kept (the callers' frames up to slots), the frame's map is kept, the new abstract heap is held -/
theorem Inv.step {g' : Array GenState} {t' : Nat} {d' : Drawn} {ch : List Addr} (I : Inv X pins σ H s)
    (hch : ∀ b ∈ ch, (b ∈ X.ex ∨ X.s₀.heap.objs.size ≤ b) ∧ b ≠ X.env.locals ∧ (∀ x c, X.env.cells.lookup x = some c → c ≠ b) ∧ ∀ p ∈ X.pn ++ pins, p.1 ≠ b)
    (keep : ∀ b o, b ≠ X.env.locals → b ∉ X.fs → b ∉ ch → s.heap.get? b = some o → H b = none → h'.get? b = some o)
    (slot : ∀ b o, b ≠ X.env.locals → b ∈ X.fs → b ∉ ch → s.heap.get? b = some o → H b = none → ∃ sl, h'.get? b = some { o with slots := sl }) (free : ∀ b o, b ∉ ch → s.heap.get? b = some o → H b = none → H' b = none)
    (there : ∀ b o, b ∉ ch → s.heap.get? b = some o → ∃ o', h'.get? b = some o')
    (tups : ∀ b xs, H b = some (.tup xs) → H' b = some (.tup xs)) (frzs : ∀ b o u, H b = some (.frz o u) → H' b = some (.frz o u)) (tbls : ∀ b ps, H b = some (.tbl ps) → ∃ more, H' b = some (.tbl (ps ++ more)))
    (ns : ∀ m, s.heap.Ns X.env.locals m → h'.Ns X.env.locals m) (hok : HOk X.prog X.w H' h') (hg : AllBare g') :
    Inv X pins σ H' { s with heap := h', gens := g', drawn := d', toks := t' } := by
  have neL : ∀ b o, X.s₀.heap.get? b = some o → b ≠ X.env.locals := fun b o e => Nat.ne_of_lt (Nat.lt_of_lt_of_le (Heap.lt_size e) I.ok.above)
  have neC : ∀ b o, X.s₀.heap.get? b = some o → b ∉ X.ex → b ∉ ch := fun b o e hx hb => by
    rcases (hch b hb).1 with z | z
    · exact hx z
    · exact absurd (Nat.lt_of_lt_of_le (Heap.lt_size e) z) (Nat.lt_irrefl _)
  have cellK : ∀ x c, X.env.cells.lookup x = some c → ∀ v, s.heap.IsCell c v → h'.IsCell c v := fun x c e v ⟨o, ho, hd⟩ => by
    have nch : c ∉ ch := fun z => (hch c z).2.2.1 x c e rfl
    by_cases hc : c ∈ X.fs
    · obtain ⟨sl, q⟩ := slot c o (I.cne x c e) hc nch ho (I.freeC x c e)
      exact ⟨_, q, hd⟩
    · exact ⟨o, keep c o (I.cne x c e) hc nch ho (I.freeC x c e), hd⟩
  refine ⟨I.ok, I.os, hg, ⟨fun b o e n hb hx => ?_, fun b o e n hb hx => ?_, fun b o e n hx => ?_, fun b o e hx => ?_, fun b xs e => tups b xs (I.base.tups b xs e), fun b o xs e => frzs b o xs (I.base.frzs b o xs e), fun b ps e => ?_⟩, ?_, fun x c e => ?_, ?_, fun x c e => ?_, fun p hp => ?_, hok, I.len⟩
  · exact keep b o (neL b o e) hb (neC b o e hx) (I.base.keep b o e n hb hx) (I.base.free b o e n hx)
  · obtain ⟨sl, e1⟩ := I.base.slot b o e n hb hx
    obtain ⟨sl', e2⟩ := slot b _ (neL b o e) hb (neC b o e hx) e1 (I.base.free b o e n hx)
    exact ⟨sl', e2⟩
  · obtain ⟨o', e1⟩ := I.base.there b o e hx
    exact free b o' (neC b o e hx) e1 (I.base.free b o e n hx)
  · obtain ⟨o', e1⟩ := I.base.there b o e hx
    exact there b o' (neC b o e hx) e1
  · obtain ⟨m1, e1⟩ := I.base.tbls b ps e
    obtain ⟨m2, e2⟩ := tbls b _ e1
    exact ⟨m1 ++ m2, by rw [e2, Array.append_assoc]⟩
  · obtain ⟨m, hn, hl⟩ := I.loc
    refine ⟨m, ns m hn, fun i x v e1 e2 e3 => ?_⟩
    obtain ⟨u, r, l⟩ := hl i x v e1 e2 e3
    refine ⟨u, r, ?_⟩
    rcases l with l | ⟨k, c, e, z⟩
    · exact .inl l
    · exact .inr ⟨k, c, e, cellK x c e _ z⟩
  · obtain ⟨v, z⟩ := I.cell x c e
    exact ⟨v, cellK x c e v z⟩
  · obtain ⟨m, ⟨o, _, _, ho, _⟩, _⟩ := I.loc
    exact free _ o (fun z => (hch _ z).2.1 rfl) ho I.free
  · obtain ⟨v, o, ho, hd⟩ := I.cell x c e
    exact free c o (fun z => (hch c z).2.2.1 x c e rfl) ho (I.freeC x c e)
  · obtain ⟨e, n, ne, nf, d⟩ := I.pin p hp
    have nch : p.1 ∉ ch := fun z => (hch p.1 z).2.2.2 p hp rfl
    exact ⟨keep p.1 p.2 ne nf nch e n, free p.1 p.2 nch e n, ne, nf, d⟩
/-- .. where the frame's own object is kept too -/
theorem Inv.un {t' : Nat} (I : Inv X pins σ H s) (u : Un X.fs [] H H' s.heap h') (hok : HOk X.prog X.w H' h') : Inv X pins σ H' { s with heap := h', toks := t' } := by
  obtain ⟨m, ⟨o, es, ep, ho, r⟩, _⟩ := id I.loc
  obtain ⟨sl, hL⟩ := u.any ho I.free (by simp)
  exact I.step (g' := s.gens) (d' := s.drawn) (ch := []) (fun _ z => nomatch z) (fun b o _ hb _ e n => u.keep b o e n hb (by simp)) (fun b o _ hb _ e n => u.slot b o e n hb (by simp)) (fun b o _ e n => u.free b o e n (by simp)) (fun b o _ e => u.there b o e (by simp)) u.tups u.frzs u.tbls (fun m' hm => by
    obtain ⟨o', es', ep', ho', r'⟩ := hm
    rw [ho] at ho'; cases ho'
    exact ⟨_, es', ep', hL, r'⟩) hok I.bare
/-- behind a call (or a comprehension's block): the slots of this frame may have changed too, the records at ch may have turned -/
theorem Inv.call {g' : Array GenState} {t' : Nat} {d' : Drawn} {ch : List Addr} (I : Inv X pins σ H s) (u : Un (frs X.stack) ch H H' s.heap h') (hok : HOk X.prog X.w H' h') (hg : AllBare g')
    (hch : ∀ b ∈ ch, (b ∈ X.ex ∨ X.s₀.heap.objs.size ≤ b) ∧ b ≠ X.env.locals ∧ (∀ x c, X.env.cells.lookup x = some c → c ≠ b) ∧ ∀ p ∈ X.pn ++ pins, p.1 ≠ b) :
    Inv X pins σ H' { s with heap := h', gens := g', drawn := d', toks := t' } := by
  obtain ⟨m, ⟨o, es, ep, ho, r⟩, _⟩ := id I.loc
  obtain ⟨sl, hL⟩ := u.any ho I.free fun z => (hch _ z).2.1 rfl
  exact I.step (ch := ch) hch (fun b o hL hb hc e n => u.keep b o e n (fun z => (List.mem_cons.mp (I.stkSub b z)).elim hL hb) hc) (fun b o _ _ hc e n => u.any e n hc) (fun b o hc e n => u.free b o e n hc) (fun b o hc e => u.there b o e hc) u.tups u.frzs u.tbls (fun m' hm => by
    obtain ⟨o', es', ep', ho', r'⟩ := hm
    rw [ho] at ho'; cases ho'
    exact ⟨_, es', ep', hL, r'⟩) hok hg
/-- an untracked record of ours (an iterator) has turned -/
theorem Inv.turned {t' : Nat} {it : Addr} (I : Inv X pins σ H s) (k : ∀ b o, b ≠ it → s.heap.get? b = some o → h'.get? b = some o) (hn : H it = none) (hL : it ≠ X.env.locals)
    (h1 : it ∈ X.ex ∨ X.s₀.heap.objs.size ≤ it) (h2 : ∀ x c, X.env.cells.lookup x = some c → c ≠ it) (h3 : ∀ p ∈ X.pn ++ pins, p.1 ≠ it) : Inv X pins σ H { s with heap := h', toks := t' } := by
  have nit : ∀ b u, H b = some u → b ≠ it := fun b u e z => by rw [z, hn] at e; cases e
  refine I.step (g' := s.gens) (d' := s.drawn) (ch := [it]) (fun b hb => ?_) (fun b o _ _ hc e _ => k b o (fun z => hc (by simp [z])) e) (fun b o _ _ hc e _ => ⟨o.slots, k b o (fun z => hc (by simp [z])) e⟩) (fun _ _ _ _ n => n)
    (fun b o hc e => ⟨o, k b o (fun z => hc (by simp [z])) e⟩) (fun _ _ e => e) (fun _ _ _ e => e) (fun b ps e => ⟨#[], by rw [e]; simp⟩) (fun m hm => ?_) (fun b u e => ?_) I.bare
  · have e : b = it := by simpa using hb
    subst e
    exact ⟨h1, hL, h2, h3⟩
  · obtain ⟨o, es, ep, ho, r⟩ := hm
    exact ⟨o, es, ep, k _ o (Ne.symm hL) ho, r⟩
  · refine (I.hok b u e).stay (fun c v hc q => k c v ?_ q) (fun _ q => q) fun _ _ q => q
    rcases hc with z | z
    · rw [z]; exact nit b u e
    · exact nit c _ z
theorem Inv.tok (I : Inv X pins σ H s) (t : Nat) : Inv X pins σ H { s with toks := t } := I.un (h' := s.heap) (t' := t) Un.refl I.hok
/-- all objects kept -/
theorem Inv.kept {t' : Nat} (I : Inv X pins σ H s) (k : ∀ b u, s.heap.get? b = some u → h'.get? b = some u) : Inv X pins σ H { s with heap := h', toks := t' } := I.un (Un.kept k) (I.hok.kept k)
/-- a new object laid and tracked -/
theorem Inv.laid {a : Addr} {o : HO} {t' : Nat} (I : Inv X pins σ H s) (k : ∀ b u, s.heap.get? b = some u → h'.get? b = some u) (hp : s.heap.objs.size ≤ a) (new : ObjOk X.prog X.w (upd H a o) h' a o) :
    Inv X pins σ (upd H a o) { s with heap := h', toks := t' } := I.un (Un.laid k hp (I.hok.fresh hp)) (I.hok.laid k hp new)
/-- an object written -/
theorem Inv.write {x e : Addr} {o : HO} {t' : Nat} (I : Inv X pins σ H s) (mu : Mut (H x)) (he : e = x ∨ H e = some (.own x)) (k : ∀ b u, b ≠ e → s.heap.get? b = some u → h'.get? b = some u) (heo : ∃ u, h'.get? e = some u)
    (new : ObjOk X.prog X.w (upd H x o) h' x o) : Inv X pins σ (upd H x o) { s with heap := h', toks := t' } := I.un (Un.write mu he k heo) (I.hok.write mu he k heo new)
theorem Inv.pins_of {pins' : List (Addr × Obj)} (I : Inv X pins σ H s) (h : ∀ p ∈ pins', s.heap.get? p.1 = some p.2 ∧ H p.1 = none ∧ p.1 ≠ X.env.locals ∧ p.1 ∉ X.fs ∧ ∀ v, p.2.data ≠ .cell v) : Inv X pins' σ H s :=
  ⟨I.ok, I.os, I.bare, I.base, I.loc, I.cell, I.free, I.freeC, fun p hp => (List.mem_append.mp hp).elim (fun z => I.pin p (List.mem_append_left _ z)) (h p), I.hok, I.len⟩

theorem nodup_ix {N : List Str} (hN : N.Nodup) {i j : Nat} {x : Str} (a : N[i]? = some x) (b : N[j]? = some x) : i = j := by
  obtain ⟨h1, e1⟩ := List.getElem?_eq_some_iff.mp a
  obtain ⟨h2, e2⟩ := List.getElem?_eq_some_iff.mp b
  exact (List.getElem_inj hN).mp (e1.trans e2.symm)

/-- a name is stored; what changed -/
theorem store_ok2 {M : Model} {A : Around} {E : Value → Shared → Prop} {i : Nat} {x : Str} {v : V} {u : Value} {Q : Unit → Shared → Prop} (I : Inv X pins σ H s) (hN : X.N.Nodup) (hi : X.N[i]? = some x) (hx : Loc X.env.scope x) (r : RelV v u)
    (h : ∀ s', Inv X pins (σ.set i (some v)) H s' → (∃ a, Heap.SameBut a s.heap s'.heap ∧ (a = X.env.locals ∨ X.env.cells.lookup x = some a)) → Q () s') (hf : X.fn x = true ∨ X.env.scope.names.lookup x = some .local := by first | exact .inl rfl | exact .inr rfl | assumption) : wpAny M A (storeName X.env x u) Q E s := by
  obtain ⟨m, hn, hl⟩ := id I.loc
  have hcls : (X.env.scope.kind == .class || (X.env.scope.kind == .module && X.env.locals != X.env.globals)) = false := by rw [I.ok.kind]; rfl
  have hiσ : i < σ.length := by rw [I.len]; exact (List.getElem?_eq_some_iff.mp hi).1
  have cne := I.cne
  have tracked : ∀ {a : Addr} {h' : Heap}, (∃ o, s.heap.get? a = some o ∧ H a = none) → Heap.SameBut a s.heap h' → HOk X.prog X.w H h' := fun {a h'} ha hs b ob e => by
    obtain ⟨_, _, hfree⟩ := ha
    refine (I.hok b ob e).stay (fun c w' hc q => (hs.2 c ?_).trans q) (fun _ q => q) fun _ _ q => q
    rintro rfl
    rcases hc with rfl | hc
    · rw [hfree] at e; cases e
    · rw [hfree] at hc; cases hc
  rcases hx with hk | hk
  · refine wpAny_storeName_local hk hn (fun h' hn' hs => ?_) hcls
    obtain ⟨oL, _, _, hoL, _⟩ := id hn
    refine h _ ⟨I.ok, I.os, I.bare, ⟨fun b o e n hb hx => ?_, fun b o e n hb hx => ?_, I.base.free, fun b o e hx => ?_, I.base.tups, I.base.frzs, I.base.tbls⟩, ⟨_, hn', fun j y v' e1 e2 e3 => ?_⟩, fun y c e => ?_, I.free, I.freeC, fun p hp => ?_, tracked ⟨oL, hoL, I.free⟩ hs, by simpa using I.len⟩ ⟨_, hs, .inl rfl⟩
    · exact (hs.2 b (Nat.ne_of_lt (Nat.lt_of_lt_of_le (Heap.lt_size e) I.ok.above))).trans (I.base.keep b o e n hb hx)
    · obtain ⟨sl, e1⟩ := I.base.slot b o e n hb hx
      exact ⟨sl, (hs.2 b (Nat.ne_of_lt (Nat.lt_of_lt_of_le (Heap.lt_size e) I.ok.above))).trans e1⟩
    · obtain ⟨o', e1⟩ := I.base.there b o e hx
      exact ⟨o', (hs.2 b (Nat.ne_of_lt (Nat.lt_of_lt_of_le (Heap.lt_size e) I.ok.above))).trans e1⟩
    · by_cases hj : j = i
      · subst hj
        rw [hi] at e1; cases e1
        rw [List.getElem?_set_self hiσ] at e2
        cases e2
        exact ⟨u, r, .inl ⟨hk, by simp⟩⟩
      · rw [List.getElem?_set_ne (Ne.symm hj)] at e2
        obtain ⟨u', r', q⟩ := hl j y v' e1 e2 e3
        refine ⟨u', r', ?_⟩
        rcases q with ⟨k, e⟩ | ⟨k, c, e, z⟩
        · refine .inl ⟨k, ?_⟩
          have : y ≠ x := fun e => hj (nodup_ix hN e1 (e ▸ hi))
          simp [this, e]
        · exact .inr ⟨k, c, e, z.sameBut hs (cne y c e)⟩
    · obtain ⟨w', z⟩ := I.cell y c e
      exact ⟨w', z.sameBut hs (cne y c e)⟩
    · obtain ⟨e, n, ne, nf, d⟩ := I.pin p hp
      exact ⟨(hs.2 p.1 ne).trans e, n, ne, nf, d⟩
  · have hfn : X.fn x = true := by
      rcases hf with z | z
      · exact z
      · rw [z] at hk; cases hk
    obtain ⟨c, hc⟩ := I.ok.has x (.inl hk)
    obtain ⟨w', z⟩ := I.cell x c hc
    refine wpAny_storeName_cell I.ok.kind hk hc z (fun h' hc' hs => ?_)
    obtain ⟨oc, hoc, hocd⟩ := id z
    refine h { s with heap := h' } ⟨I.ok, I.os, I.bare, ⟨fun b o e n hb hx => ?_, fun b o e n hb hx => ?_, I.base.free, fun b o e hx => ?_, I.base.tups, I.base.frzs, I.base.tbls⟩, ⟨m, hn.sameBut hs (Ne.symm (cne x c hc)), fun j y v' e1 e2 e3 => ?_⟩, fun y c' e => ?_, I.free, I.freeC, fun p hp => ?_, tracked ⟨oc, hoc, I.freeC x c hc⟩ hs, by simpa using I.len⟩ ⟨c, hs, .inr hc⟩
    · exact (hs.2 b (Nat.ne_of_lt (Nat.lt_of_lt_of_le (Heap.lt_size e) (I.ok.cab x c hfn hc)))).trans (I.base.keep b o e n hb hx)
    · obtain ⟨sl, e1⟩ := I.base.slot b o e n hb hx
      exact ⟨sl, (hs.2 b (Nat.ne_of_lt (Nat.lt_of_lt_of_le (Heap.lt_size e) (I.ok.cab x c hfn hc)))).trans e1⟩
    · obtain ⟨o', e1⟩ := I.base.there b o e hx
      exact ⟨o', (hs.2 b (Nat.ne_of_lt (Nat.lt_of_lt_of_le (Heap.lt_size e) (I.ok.cab x c hfn hc)))).trans e1⟩
    · by_cases hj : j = i
      · subst hj
        rw [hi] at e1; cases e1
        rw [List.getElem?_set_self hiσ] at e2
        cases e2
        exact ⟨u, r, .inr ⟨.inl hk, c, hc, hc'⟩⟩
      · rw [List.getElem?_set_ne (Ne.symm hj)] at e2
        obtain ⟨u', r', q⟩ := hl j y v' e1 e2 e3
        refine ⟨u', r', ?_⟩
        rcases q with q | ⟨k, c', e, z'⟩
        · exact .inl q
        · refine .inr ⟨k, c', e, z'.sameBut hs ?_⟩
          rintro rfl
          exact hj (nodup_ix hN e1 (I.ok.inj _ _ _ e hc ▸ hi))
    · by_cases hcc : c' = c
      · subst hcc; exact ⟨_, hc'⟩
      · obtain ⟨w2, z2⟩ := I.cell y c' e
        exact ⟨w2, z2.sameBut hs hcc⟩
    · obtain ⟨e, n, ne, nf, d⟩ := I.pin p hp
      refine ⟨(hs.2 p.1 ?_).trans e, n, ne, nf, d⟩
      intro q
      rw [q, hoc] at e
      have q' : oc = p.2 := Option.some.inj e
      exact d w' (by rw [← q']; exact hocd)
theorem store_ok {M : Model} {A : Around} {E : Value → Shared → Prop} {i : Nat} {x : Str} {v : V} {u : Value} {Q : Unit → Shared → Prop} (I : Inv X pins σ H s) (hN : X.N.Nodup) (hi : X.N[i]? = some x) (hx : Loc X.env.scope x) (r : RelV v u)
    (h : ∀ s', Inv X pins (σ.set i (some v)) H s' → Q () s') (hf : X.fn x = true ∨ X.env.scope.names.lookup x = some .local := by first | exact .inl rfl | exact .inr rfl | assumption) : wpAny M A (storeName X.env x u) Q E s :=
  store_ok2 I hN hi hx r (fun s' I' _ => h s' I') hf
/-- behind a call or a block, the state as it is -/
theorem Inv.call' {s' : Shared} {ch : List Addr} (I : Inv X pins σ H s) (ho : s'.os = s.os) (u : Un (frs X.stack) ch H H' s.heap s'.heap) (hok : HOk X.prog X.w H' s'.heap) (hg : AllBare s'.gens)
    (hch : ∀ b ∈ ch, (b ∈ X.ex ∨ X.s₀.heap.objs.size ≤ b) ∧ b ≠ X.env.locals ∧ (∀ x c, X.env.cells.lookup x = some c → c ≠ b) ∧ ∀ p ∈ X.pn ++ pins, p.1 ≠ b) : Inv X pins σ H' s' := by
  obtain ⟨h', g', d', t', o'⟩ := s'
  have e : o' = s.os := ho
  subst e
  exact I.call (g' := g') (t' := t') (d' := d') u hok hg hch
end

/-! ### the judgements -/
/-- an exception: its class, its own dict's address (where it has one), the abstract heap behind it -/
abbrev XK := Value → Option Addr → Hp → Prop
abbrev St := List (Option V)
abbrev VK := V → Hp → Prop
/-- an expression's reading; a test's; an argument list's -/
abbrev TE := St → Hp → VK → Prop
abbrev TT := St → Hp → (Bool → Hp → Prop) → Prop
abbrev TA := St → Hp → (List V → Hp → Prop) → Prop
/-- what is wanted behind a statement -/
structure Ends where
  nx : St → Hp → Prop
  rt : VK
  bk : St → Hp → Prop := fun _ _ => False
  ct : St → Hp → Prop := fun _ _ => False
abbrev TS := Ends → St → Hp → Prop

def EP (X : Cx) (pins : List (Addr × Obj)) (σ : St) (Q : VK) (u : Value) (s' : Shared) : Prop := ∃ v H', Inv X pins σ H' s' ∧ RelV v u ∧ Q v H'
def TP (X : Cx) (pins : List (Addr × Obj)) (σ : St) (Q : Bool → Hp → Prop) (b : Bool) (s' : Shared) : Prop := ∃ H', Inv X pins σ H' s' ∧ Q b H'
def AP (X : Cx) (pins : List (Addr × Obj)) (σ : St) (Q : List V → Hp → Prop) (us : List Value) (s' : Shared) : Prop := ∃ vs H', Inv X pins σ H' s' ∧ Vals vs us ∧ Q vs H'
def SP (X : Cx) (pins : List (Addr × Obj)) (D : Ends) (f : Flow) (s' : Shared) : Prop :=
  match f with
  | .next => ∃ σ' H', Inv X pins σ' H' s' ∧ D.nx σ' H'
  | .brk => ∃ σ' H', Inv X pins σ' H' s' ∧ D.bk σ' H'
  | .cont => ∃ σ' H', Inv X pins σ' H' s' ∧ D.ct σ' H'
  | .ret u => ∃ v σ' H', Inv X pins σ' H' s' ∧ RelV v u ∧ D.rt v H'

def PE (X : Cx) (e : Expr) (t : TE) : Prop :=
  ∀ (pins : List (Addr × Obj)) (s : Shared) (σ : St) (H : Hp) (Q : VK), Inv X pins σ H s → t σ H Q → wpAny (model X.prog X.w) X.A (eval e X.env) (EP X pins σ Q) X.xe s
def PT (X : Cx) (e : Expr) (t : TT) : Prop :=
  ∀ (pins : List (Addr × Obj)) (s : Shared) (σ : St) (H : Hp) (Q : Bool → Hp → Prop), Inv X pins σ H s → t σ H Q → wpAny (model X.prog X.w) X.A (isTrue e X.env (eval e X.env)) (TP X pins σ Q) X.xe s
/-- a test whatever its 'whole' is (and, or) -/
def PW (X : Cx) (e : Expr) (t : TT) : Prop :=
  ∀ (whole : Sem Value) (pins : List (Addr × Obj)) (s : Shared) (σ : St) (H : Hp) (Q : Bool → Hp → Prop), Inv X pins σ H s → t σ H Q → wpAny (model X.prog X.w) X.A (isTrue e X.env whole) (TP X pins σ Q) X.xe s
theorem PW.pt {X : Cx} {e : Expr} {t : TT} (h : PW X e t) : PT X e t := h _
/-- an argument list (no star), from the left -/
def PA (X : Cx) (es : List Expr) (t : TA) : Prop :=
  ∀ (pos : Pos) (pins : List (Addr × Obj)) (s : Shared) (σ : St) (H : Hp) (Q : List V → Hp → Prop), Inv X pins σ H s → t σ H Q → wpAny (model X.prog X.w) X.A (spliced (backTo pos (starEach es X.env))) (AP X pins σ Q) X.xe s
def PS (X : Cx) (st : Stmt) (t : TS) : Prop :=
  ∀ (pins : List (Addr × Obj)) (s : Shared) (σ : St) (H : Hp) (D : Ends), Inv X pins σ H s → t D σ H → wpAny (model X.prog X.w) X.A (exec st X.env) (SP X pins D) X.xe s
def PSs (X : Cx) (st : List Stmt) (t : TS) : Prop :=
  ∀ (pins : List (Addr × Obj)) (s : Shared) (σ : St) (H : Hp) (D : Ends), Inv X pins σ H s → t D σ H → wpAny (model X.prog X.w) X.A (execs st X.env) (SP X pins D) X.xe s
/-- weaken the end -/
theorem thn {α : Type} {t : Sem α} {Q Q' : α → Shared → Prop} {M : Model} {A : Around} {E : Value → Shared → Prop} {s : Shared} (h : wpAny M A t Q E s) (hQ : ∀ a s, Q a s → Q' a s) : wpAny M A t Q' E s := wpAny_mono h hQ fun _ _ x => x
end L2

namespace L2
open PySem PySem.Spec PyProof.Rows
section
variable {X : Cx}


/-! ### names and constants -/
def tVar (i : Nat) : TE := fun σ H Q => ∃ v, σ[i]? = some (some v) ∧ Q v H
def tC (v : V) : TE := fun _ H Q => Q v H
theorem pe_var {i : Nat} {x : Str} {pos : Pos} (hN : X.N[i]? = some x) (hv : Vis X.env.scope x) (hd : (x == ("__debug__" : Str)) = false := by decide) (hcd : (x == ("__classdict__" : Str)) = false := by decide) : PE X (.Name x pos) (tVar i) := by
  intro pins s σ H Q I h
  obtain ⟨v, e, h⟩ := h
  obtain ⟨m, hn, hl⟩ := I.loc
  obtain ⟨u, r, l⟩ := hl i x v hN e hv
  have fin : EP X pins σ Q u s := ⟨v, H, I, r, h⟩
  rcases l with ⟨hk, hm⟩ | ⟨hk, c, hc, hcell⟩
  · exact wpAny_Name (wpAny_loadName_local I.ok.kind hk hn hm fin) hd
  · rcases hk with hk | hk
    · exact wpAny_Name (wpAny_loadName_cell I.ok.kind hk hc hcell fin) hd
    · exact wpAny_Name (wpAny_loadName_free I.ok.kind hk hc hcell fin hcd) hd
theorem pe_int {i j pos} : PE X (.Constant (.int i) j pos) (tC (.int i)) := fun _ _ _ H _ I h => wpAny_Constant_int ⟨.int i, H, I.tok _, ⟨_, rfl⟩, h⟩
theorem pe_bl {b j pos} : PE X (.Constant (.bool b) j pos) (tC (.bl b)) := fun _ _ _ H _ I h => Constant_bool ⟨.bl b, H, I, rfl, h⟩

/-- a global name of the def -/
def Gl (X : Cx) (x : Str) : Prop := X.env.kindOf x = some .globalImplicit
theorem ld_glob {E : Value → Shared → Prop} {pins : List (Addr × Obj)} {s : Shared} {σ : St} {H : Hp} {x : Str} {u : Value} {pos : Pos} {Q : Value → Shared → Prop} (I : Inv X pins σ H s) (hg : Gl X x) (hm : X.mg x = some u) (h : Q u s)
    (hd : (x == ("__debug__" : Str)) = false := by decide) : wpAny (model X.prog X.w) X.A (eval (.Name x pos) X.env) Q E s :=
  Calls.Name_function_global I.ok.kind hg (Calls.loadGlobal_global (by rw [I.ok.glob]; exact I.mod.glob.keeps I.bk) hm h) hd
theorem ld_blt {E : Value → Shared → Prop} {pins : List (Addr × Obj)} {s : Shared} {σ : St} {H : Hp} {x : Str} {u : Value} {pos : Pos} {Q : Value → Shared → Prop} (I : Inv X pins σ H s) (hg : Gl X x) (hm : X.mg x = none) (hv : bootBuiltins x = some u) (h : Q u s)
    (hn : x ≠ "__name__" := by decide) (hd : (x == ("__debug__" : Str)) = false := by decide) : wpAny (model X.prog X.w) X.A (eval (.Name x pos) X.env) Q E s := by
  obtain ⟨mb, h1, h2⟩ := I.mod.blt
  exact Calls.Name_function_global I.ok.kind hg (Calls.loadGlobal_builtin (by rw [I.ok.glob]; exact I.mod.glob.keeps I.bk) hm (by rw [I.ok.blt]; exact h1.keeps I.bk) ((h2 x hn).trans hv) h) hd
/-- a module's constant, a class, a function, as a value -/
theorem pe_glob {x : Str} {v : V} {u : Value} {pos : Pos} (hg : Gl X x) (hm : X.mg x = some u) (r : RelV v u) (hd : (x == ("__debug__" : Str)) = false := by decide) : PE X (.Name x pos) (tC v) :=
  fun _ _ _ H _ I h => ld_glob I hg hm ⟨v, H, I, r, h⟩ hd
theorem pe_bltn {x : Str} {v : V} {u : Value} {pos : Pos} (hg : Gl X x) (hm : X.mg x = none) (hv : bootBuiltins x = some u) (r : RelV v u) (hn : x ≠ "__name__" := by decide) (hd : (x == ("__debug__" : Str)) = false := by decide) : PE X (.Name x pos) (tC v) :=
  fun _ _ _ H _ I h => ld_blt I hg hm hv ⟨v, H, I, r, h⟩ hn hd

/-! ### arithmetic -/
/-- two ints -/
def t2I (ta tb : TE) (k : Int → Int → Hp → Prop) : St → Hp → Prop := fun σ H => ta σ H fun x H1 => tb σ H1 fun y H2 => ∃ i j, x = .int i ∧ y = .int j ∧ k i j H2
def tAdd (ta tb : TE) : TE := fun σ H Q => t2I ta tb (fun i j H2 => Q (.int (i + j)) H2) σ H
def tSub (ta tb : TE) : TE := fun σ H Q => t2I ta tb (fun i j H2 => Q (.int (i - j)) H2) σ H
/-- the left factor below 2^64 -/
def tMul (ta tb : TE) : TE := fun σ H Q => t2I ta tb (fun i j H2 => (-(2 ^ 64) < i ∧ i < 2 ^ 64) ∧ Q (.int (i * j)) H2) σ H
variable {a b : Expr} {ta tb : TE} {pos : Pos}

/-! ### comparisons -/
def PC (X : Cx) (op : CmpOp) (a b : Expr) (t : TE) : Prop :=
  ∀ (pins : List (Addr × Obj)) (s : Shared) (σ : St) (H : Hp) (Q : VK), Inv X pins σ H s → t σ H Q →
    wpAny (model X.prog X.w) X.A (eval a X.env) (fun v s₁ => wpAny (model X.prog X.w) X.A (eval b X.env) (fun u s₂ => wpAny (model X.prog X.w) X.A (compareOp op v u) (EP X pins σ Q) X.xe s₂) X.xe s₁) X.xe s
def tCmp (p : Int → Int → Bool) (ta tb : TE) : TE := fun σ H Q => t2I ta tb (fun i j H2 => Q (.bl (p i j)) H2) σ H
abbrev tLt : TE → TE → TE := tCmp fun i j => decide (i < j)
abbrev tLe : TE → TE → TE := tCmp fun i j => decide (i ≤ j)
abbrev tGt : TE → TE → TE := tCmp fun i j => decide (j < i)
abbrev tGe : TE → TE → TE := tCmp fun i j => decide (j ≤ i)
abbrev tEqI : TE → TE → TE := tCmp fun i j => decide (i = j)
abbrev tNeI : TE → TE → TE := tCmp fun i j => !decide (i = j)
/-- is None -/
def tIsN (ta : TE) : TE := fun σ H Q => ta σ H fun x H1 => Q (.bl (decide (x = .non))) H1
def tNotN (ta : TE) : TE := fun σ H Q => ta σ H fun x H1 => Q (.bl (!decide (x = .non))) H1
/-- a comparison as a value, as a test -/
def tB (t : TE) : TT := fun σ H Q => t σ H fun x H1 => ∃ c, x = .bl c ∧ Q c H1
/-- an expression whose value is a bool, as a test -/
theorem pt_val {e : Expr} {t : TE} (h : PE X e t) (he : ∀ whole, isTrue e X.env whole = (do let v ← whole; standAt e.pos; holding [v] (truthy v)) := by intro _; rfl) : PT X e (tB t) := by
  intro pins s σ H Q I hw
  refine isTrue_plain (thn (h pins s σ H _ I hw) fun v s1 ⟨x, H1, I1, r1, q1⟩ => ?_) (he _)
  obtain ⟨d, rfl, q⟩ := q1
  cases r1
  exact wpAny_truthy_bool ⟨H1, I1, q⟩

/-! ### and, or, not -/
variable {tA tB' : TT} {rest : List Expr}
def tAnd (t u : TT) : TT := fun σ H Q => t σ H fun c H1 => if c = true then u σ H1 Q else Q false H1
def tOr (t u : TT) : TT := fun σ H Q => t σ H fun c H1 => if c = true then Q true H1 else u σ H1 Q
def tNot (t : TT) : TT := fun σ H Q => t σ H fun c H1 => Q (!c) H1
theorem pw_and1 (ha : PT X a tA) : PW X (.BoolOp .And [a] pos) tA := by
  intro wh pins s σ H Q I h
  refine isTrue_and (thn (ha pins s σ H Q I h) fun c s1 e => ?_)
  cases c with
  | true => exact isTrue_and_nil e
  | false => exact e
theorem pw_or1 (ha : PT X a tA) : PW X (.BoolOp .Or [a] pos) tA := by
  intro wh pins s σ H Q I h
  refine isTrue_or (thn (ha pins s σ H Q I h) fun c s1 e => ?_)
  cases c with
  | false => exact isTrue_or_nil e
  | true => exact e
theorem pw_and (ha : PT X a tA) (hb : PW X (.BoolOp .And (b :: rest) pos) tB') : PW X (.BoolOp .And (a :: b :: rest) pos) (tAnd tA tB') := by
  intro wh pins s σ H Q I h
  refine isTrue_and (thn (ha pins s σ H _ I h) fun c s1 ⟨H1, I1, q1⟩ => ?_)
  cases c with
  | true => exact hb wh pins s1 σ H1 Q I1 q1
  | false => exact ⟨H1, I1, q1⟩
theorem pw_or (ha : PT X a tA) (hb : PW X (.BoolOp .Or (b :: rest) pos) tB') : PW X (.BoolOp .Or (a :: b :: rest) pos) (tOr tA tB') := by
  intro wh pins s σ H Q I h
  refine isTrue_or (thn (ha pins s σ H _ I h) fun c s1 ⟨H1, I1, q1⟩ => ?_)
  cases c with
  | true => exact ⟨H1, I1, q1⟩
  | false => exact hb wh pins s1 σ H1 Q I1 q1
theorem pt_not (ha : PT X a tA) : PT X (.UnaryOp .Not a pos) (tNot tA) := by
  intro pins s σ H Q I h
  exact isTrue_not (ha pins s σ H (fun c H1 => Q (!c) H1) I h)
/-- .. as values (bools) -/
def tAndV (ta tb : TE) : TE := fun σ H Q => ta σ H fun x H1 => ∃ c, x = .bl c ∧ if c = true then tb σ H1 Q else Q (.bl false) H1
def tOrV (ta tb : TE) : TE := fun σ H Q => ta σ H fun x H1 => ∃ c, x = .bl c ∧ if c = true then Q (.bl true) H1 else tb σ H1 Q
def tNotV (ta : TE) : TE := fun σ H Q => ta σ H fun x H1 => ∃ c, x = .bl c ∧ Q (.bl (!c)) H1
theorem pe_one {op} {t : TE} (h : PE X a t) : PE X (.BoolOp op [a] pos) t := fun pins s σ H Q I hw => BoolOp_one (h pins s σ H Q I hw)
theorem pe_and (ha : PE X a ta) (hb : PE X (.BoolOp .And (b :: rest) pos) tb) : PE X (.BoolOp .And (a :: b :: rest) pos) (tAndV ta tb) := by
  intro pins s σ H Q I h
  refine BoolOp_and (thn (ha pins s σ H _ I h) fun v s1 ⟨x, H1, I1, r1, q1⟩ => ?_)
  obtain ⟨c, rfl, q1⟩ := q1
  cases r1
  refine wpAny_truthy_bool ?_
  cases c with
  | true => exact hb pins s1 σ H1 Q I1 q1
  | false => exact ⟨.bl false, H1, I1, rfl, q1⟩
theorem pe_not (ha : PE X a ta) : PE X (.UnaryOp .Not a pos) (tNotV ta) := by
  intro pins s σ H Q I h
  refine UnaryOp_ (thn (ha pins s σ H _ I h) fun v s1 ⟨x, H1, I1, r1, q1⟩ => ?_)
  obtain ⟨c, rfl, q1⟩ := q1
  cases r1
  exact not_of (wpAny_truthy_bool ⟨.bl (!c), H1, I1, rfl, q1⟩)
/-- a if t else b -/
def tIf (t : TT) (ta tb : TE) : TE := fun σ H Q => t σ H fun c H1 => if c = true then ta σ H1 Q else tb σ H1 Q
end
end L2

namespace L2
open PySem PySem.Spec PyProof.Rows

/-! ### a list, a tuple that is read: tracked, frozen, or an object of the module -/
def SqL (K : PySem.W.Frag) (H : Hp) (a : Addr) (xs : List V) : Prop :=
  Rd H a (.lst xs) ∨
    ∃ (o : Obj) (its : Array Value) (n : Nat), K.lookup a = some o ∧ o.cls = .type "list" ∧ o.dict = none ∧ o.data = .seq its n ∧ its.size ≤ sizeLine ∧ Vals xs its.toList
def SqT (K : PySem.W.Frag) (H : Hp) (a : Addr) (xs : List V) : Prop :=
  Rd H a (.tup xs) ∨
    ∃ (o : Obj) (its : Array Value) (n : Nat), K.lookup a = some o ∧ o.cls = .type "tuple" ∧ o.data = .seq its n ∧ its.size ≤ sizeLine ∧ Vals xs its.toList
def absV : Value → Option V
  | .none => some .non
  | .bool b => some (.bl b)
  | .int i _ => some (.int i)
  | .str x _ => some (.str x)
  | .bytes b _ => some (.byt b)
  | .float b _ => some (.flt b)
  | .ref a => some (.ref a)
  | .type n => some (.ty n)
  | _ => none
theorem RelV.abs {x : V} {u : Value} (r : RelV x u) : absV u = some x := by
  cases x with
  | non => cases r; rfl
  | bl _ => cases r; rfl
  | int _ => obtain ⟨t, rfl⟩ := r; rfl
  | str _ => obtain ⟨t, rfl⟩ := r; rfl
  | byt _ => obtain ⟨t, rfl⟩ := r; rfl
  | flt _ => obtain ⟨t, rfl⟩ := r; rfl
  | ref _ => cases r; rfl
  | ty _ => cases r; rfl
theorem RelV.inj {x y : V} {u : Value} (r : RelV x u) (q : RelV y u) : x = y := Option.some.inj (r.abs.symm.trans q.abs)
theorem Vals.inj : ∀ {xs ys : List V} {us : List Value}, Vals xs us → Vals ys us → xs = ys
  | _, _, _, .nil, .nil => rfl
  | _, _, _, .cons r t, .cons r' t' => by rw [r.inj r', Vals.inj t t']
section
variable {X : Cx} {pins : List (Addr × Obj)} {σ : St} {H : Hp} {s : Shared} {a : Addr} {xs ys : List V}
theorem SqL.of {K : PySem.W.Frag} (h : H a = some (.lst xs)) : SqL K H a xs := .inl (.inl h)
theorem SqT.of {K : PySem.W.Frag} (h : H a = some (.tup xs)) : SqT K H a xs := .inl (.inl h)
theorem Inv.list (I : Inv X pins σ H s) (h : SqL X.K H a xs) : ∃ its : List Value, Vals xs its ∧ PlainL s.heap a its.toArray ∧ xs.length ≤ sizeLine := by
  rcases h with h | ⟨o, its, n, hk, hc, hd, hs, hz, r⟩
  · obtain ⟨z, its, n, r, e⟩ := h.ok I.hok
    exact ⟨its, r, ⟨_, n, e, rfl, rfl, rfl⟩, z⟩
  · refine ⟨its.toList, r, ⟨o, n, I.kIn a o hk, hc, hd, by simpa using hs⟩, ?_⟩
    have e := r.length
    simp only [Array.length_toList] at e
    omega
theorem Inv.tuple (I : Inv X pins σ H s) (h : SqT X.K H a xs) : ∃ its : List Value, Vals xs its ∧ IsTup s.heap a its.toArray ∧ xs.length ≤ sizeLine := by
  rcases h with h | ⟨o, its, n, hk, hc, hs, hz, r⟩
  · obtain ⟨z, its, r, p⟩ := h.ok I.hok
    exact ⟨its, r, p, z⟩
  · refine ⟨its.toList, r, ⟨o, I.kIn a o hk, hc, n, by simpa using hs⟩, ?_⟩
    have e := r.length
    simp only [Array.length_toList] at e
    omega
theorem Inv.list_inj (I : Inv X pins σ H s) (h : SqL X.K H a xs) (h' : SqL X.K H a ys) : xs = ys := by
  obtain ⟨its, r, ⟨o, n, e, _, _, d⟩, _⟩ := I.list h
  obtain ⟨its', r', ⟨o', n', e', _, _, d'⟩, _⟩ := I.list h'
  rw [e] at e'; cases e'
  rw [d] at d'
  injection d' with d1 _
  have : its = its' := by simpa using congrArg Array.toList d1
  subst this
  exact r.inj r'
end

/-! ### another wish about exceptions -/
abbrev Cx.wish (X : Cx) (E : Value → Shared → Prop) : Cx := { X with xe := E }
/-- no exception leaves -/
abbrev Cx.nox (X : Cx) : Cx := X.wish fun _ _ => False
theorem Cx.Ok.wish {X : Cx} (ok : X.Ok) (E : Value → Shared → Prop) : (X.wish E).Ok :=
  ⟨ok.mod, ok.kind, ok.glob, ok.blt, ok.above, ok.inj, ok.has, ok.cab, ok.hd, ok.frames, ok.stk, ok.exf, ok.bs, ok.bsz, ok.noex, ok.exfs, ok.funs, ok.frf⟩
theorem Cx.Ok.unwish {X : Cx} {E : Value → Shared → Prop} (ok : (X.wish E).Ok) : X.Ok :=
  ⟨ok.mod, ok.kind, ok.glob, ok.blt, ok.above, ok.inj, ok.has, ok.cab, ok.hd, ok.frames, ok.stk, ok.exf, ok.bs, ok.bsz, ok.noex, ok.exfs, ok.funs, ok.frf⟩
section
variable {X : Cx} {pins : List (Addr × Obj)} {σ : St} {H : Hp} {s : Shared} {E : Value → Shared → Prop}
theorem Inv.wish (I : Inv X pins σ H s) (E : Value → Shared → Prop) : Inv (X.wish E) pins σ H s := ⟨I.ok.wish E, I.os, I.bare, I.base, I.loc, I.cell, I.free, I.freeC, I.pin, I.hok, I.len⟩
theorem Inv.unwish (I : Inv (X.wish E) pins σ H s) : Inv X pins σ H s := ⟨I.ok.unwish, I.os, I.bare, I.base, I.loc, I.cell, I.free, I.freeC, I.pin, I.hok, I.len⟩
theorem SP.unwish {D : Ends} {f : Flow} {s' : Shared} (h : SP (X.wish E) pins D f s') : SP X pins D f s' := by
  cases f with
  | next => obtain ⟨σ', H', I, q⟩ := h; exact ⟨σ', H', I.unwish, q⟩
  | brk => obtain ⟨σ', H', I, q⟩ := h; exact ⟨σ', H', I.unwish, q⟩
  | cont => obtain ⟨σ', H', I, q⟩ := h; exact ⟨σ', H', I.unwish, q⟩
  | ret u => obtain ⟨v, σ', H', I, r, q⟩ := h; exact ⟨v, σ', H', I.unwish, r, q⟩
theorem PSs.nox {st : List Stmt} {t : TS} (h : PSs X.nox st t) : PSs X st t := fun pins s σ H D I hw =>
  wpAny_mono (h pins s σ H D (I.wish _) hw) (fun _ _ q => q.unwish) fun _ _ z => False.elim z
end

/-! ### blocks and small statements -/
section
variable {X : Cx} {st : Stmt} {rest : List Stmt} {t u : TS} {e : Expr} {te : TE} {pos : Pos}
def tNext : TS := fun D σ H => D.nx σ H
def tSeq (t u : TS) : TS := fun D σ H => t { D with nx := u D } σ H
theorem pss_nil : PSs X [] tNext := fun _ _ σ H _ I h => wpAny_execs_nil ⟨σ, H, I, h⟩
theorem pss_cons (h1 : PS X st t) (h2 : PSs X rest u) : PSs X (st :: rest) (tSeq t u) := by
  intro pins s σ H D I h
  refine wpAny_execs_cons (thn (h1 pins s σ H { D with nx := u D } I h) fun f s1 q => ?_)
  cases f with
  | next =>
    obtain ⟨σ', H', I', q⟩ := q
    exact h2 pins s1 σ' H' D I' q
  | ret v => exact q
  | brk => exact q
  | cont => exact q
theorem pss_one (h1 : PS X st t) : PSs X [st] t := by
  intro pins s σ H D I h
  refine wpAny_execs_cons (thn (h1 pins s σ H D I h) fun f s1 q => ?_)
  cases f with
  | next => exact wpAny_execs_nil q
  | ret v => exact q
  | brk => exact q
  | cont => exact q
def tBreak : TS := fun D σ H => D.bk σ H
def tCont : TS := fun D σ H => D.ct σ H
/-- in a def's body nothing is shown -/
theorem Inv.quiet {pins : List (Addr × Obj)} {σ : St} {H : Hp} {s : Shared} (I : Inv X pins σ H s) : interactive X.env = false := by simp [interactive, I.ok.kind]
/-- an expression whose value is dropped -/
def tDrop (te : TE) : TS := fun D σ H => te σ H fun _ H1 => D.nx σ H1
theorem ps_expr (he : PE X e te) (hs : swapsWith e none pos.line X.env = pure false := by rfl) : PS X (.Expr e pos) (tDrop te) := by
  intro pins s σ H D I h
  exact wpAny_Expr_any (thn (he pins s σ H _ I h) fun v s1 ⟨x, H1, I1, r1, q1⟩ => ⟨σ, H1, I1, q1⟩) I.quiet hs
def tRet (te : TE) : TS := fun D σ H => te σ H D.rt
theorem ps_ret (he : PE X e te) : PS X (.Return (some e) pos) (tRet te) := by
  intro pins s σ H D I h
  exact wpAny_Return_some (thn (he pins s σ H _ I h) fun v s1 ⟨x, H1, I1, r1, q1⟩ => ⟨x, σ, H1, I1, r1, q1⟩)
def tRetN : TS := fun D _ H => D.rt .non H
def tIfS (c : TT) (t u : TS) : TS := fun D σ H => c σ H fun b H1 => if b = true then t D σ H1 else u D σ H1
theorem ps_if {c : Expr} {a b : List Stmt} {tc : TT} (hc : PT X c tc) (ha : PSs X a t) (hb : PSs X b u) : PS X (.If c a b pos) (tIfS tc t u) := by
  intro pins s σ H D I h
  refine wpAny_If (thn (hc pins s σ H _ I h) fun d s1 ⟨H1, I1, q1⟩ => ?_)
  cases d with
  | true => exact ha pins s1 σ H1 D I1 q1
  | false => exact hb pins s1 σ H1 D I1 q1
/-- code that the proof never comes to -/
def tNever : TS := fun _ _ _ => False
theorem ps_never : PS X st tNever := fun _ _ _ _ _ _ h => h.elim
end

/-! ### targets -/
abbrev TG := V → St → Hp → (St → Hp → Prop) → Prop
abbrev TGs := List V → St → Hp → (St → Hp → Prop) → Prop
def PG (X : Cx) (target : Expr) (t : TG) : Prop :=
  ∀ (pins : List (Addr × Obj)) (s : Shared) (σ : St) (H : Hp) (v : V) (u : Value) (Q : St → Hp → Prop), Inv X pins σ H s → RelV v u → t v σ H Q →
    wpAny (model X.prog X.w) X.A (assign target X.env u) (fun _ s' => ∃ σ' H', Inv X pins σ' H' s' ∧ Q σ' H') X.xe s
/-- several targets, one after another -/
def PGs (X : Cx) (ts : List Expr) (t : TGs) : Prop :=
  ∀ (pins : List (Addr × Obj)) (s : Shared) (σ : St) (H : Hp) (vs : List V) (us : List Value) (Q : St → Hp → Prop), Inv X pins σ H s → Vals vs us → t vs σ H Q →
    wpAny (model X.prog X.w) X.A (assignInOrder ((assignEach ts X.env).map (·.2)) us) (fun _ s' => ∃ σ' H', Inv X pins σ' H' s' ∧ Q σ' H') X.xe s
/-- o[i] = v, by values -/
abbrev TSet := V → V → V → Hp → (Hp → Prop) → Prop
def PSet (X : Cx) (t : TSet) : Prop :=
  ∀ (pins : List (Addr × Obj)) (s : Shared) (σ : St) (H : Hp) (o i v : V) (ov iv u : Value) (Q : Hp → Prop), Inv X pins σ H s → RelV o ov → RelV i iv → RelV v u → t o i v H Q →
    wpAny (model X.prog X.w) X.A (setItem ov iv u) (fun _ s' => ∃ H', Inv X pins σ H' s' ∧ Q H') X.xe s
/-- a op= b, by values -/
abbrev TIp := V → V → Hp → VK → Prop
def PIp (X : Cx) (op : Operator) (t : TIp) : Prop :=
  ∀ (pins : List (Addr × Obj)) (s : Shared) (σ : St) (H : Hp) (x y : V) (v u : Value) (Q : VK), Inv X pins σ H s → RelV x v → RelV y u → t x y H Q →
    wpAny (model X.prog X.w) X.A (inplaceOp op v u) (EP X pins σ Q) X.xe s
section
variable {X : Cx} {pos : Pos}
def gName (i : Nat) : TG := fun v σ H Q => Q (σ.set i (some v)) H
theorem pg_name {i : Nat} {x : Str} (hN : X.N.Nodup) (hi : X.N[i]? = some x) (hx : Loc X.env.scope x) (hf : X.fn x = true ∨ X.env.scope.names.lookup x = some .local := by first | exact .inl rfl | exact .inr rfl | assumption) : PG X (.Name x pos) (gName i) := by
  intro pins s σ H v u Q I r h
  exact wpAny_assign_Name (store_ok I hN hi hx r (fun s' I' => ⟨_, H, I', h⟩) hf)
def gNil : TGs := fun vs σ H Q => vs = [] ∧ Q σ H
def gCons (t : TG) (u : TGs) : TGs := fun vs σ H Q => ∃ v r, vs = v :: r ∧ t v σ H fun σ' H' => u r σ' H' Q
theorem pgs_nil : PGs X [] gNil := by
  intro pins s σ H vs us Q I r h
  obtain ⟨e, h⟩ := h
  subst e
  cases r
  exact assignInOrder_nil ⟨σ, H, I, h⟩
theorem pgs_cons {e : Expr} {es : List Expr} {t : TG} {u : TGs} (h1 : PG X e t) (h2 : PGs X es u)
    (hs : (assignEach (e :: es) X.env).map (·.2) = assign e X.env :: (assignEach es X.env).map (·.2) := by rfl) : PGs X (e :: es) (gCons t u) := by
  intro pins s σ H vs us Q I r h
  obtain ⟨v, vr, e1, h⟩ := h
  subst e1
  cases r with
  | cons r rr =>
    rw [hs]
    refine assignInOrder_cons (thn (h1 pins s σ H _ _ _ I r h) fun _ s1 ⟨σ1, H1, I1, q1⟩ => ?_)
    exact h2 pins s1 σ1 H1 _ _ Q I1 rr q1
/-- (a, b, ..) = a tuple of that length -/
def gTup (K : PySem.W.Frag) (n : Nat) (t : TGs) : TG := fun v σ H Q => ∃ a xs, v = .ref a ∧ SqT K H a xs ∧ xs.length = n ∧ t xs σ H Q
theorem pg_tup {es : List Expr} {k : Nat} {t : TGs} {n : Nat} (hc : X.calm = true) (h : PGs X es t)
    (hn : (assignEach es X.env).length = n := by rfl) (hst : (assignEach es X.env).findIdx? (·.1) = none := by rfl) : PG X (.Tuple es k pos) (gTup X.K n t) := by
  intro pins s σ H v u Q I r hw
  obtain ⟨a, xs, e1, hq, hl, hw⟩ := hw
  subst e1
  cases r
  obtain ⟨its, rv, ht, hz⟩ := I.tuple hq
  refine assign_Tuple_tuple (I.ok.hd hc) ht (by simp [hn, ← hl, rv.length]) hst fun h' hx => ?_
  have I1 : Inv X pins σ H { s with heap := h' } := I.kept (t' := s.toks) fun b o e => hx b o (Nat.ne_of_lt (Heap.lt_size e)) e
  exact h pins _ σ H xs _ Q I1 (by simpa using rv) hw
/-- o[i] = .. -/
def gSub (to ti : TE) (t : TSet) : TG := fun v σ H Q => to σ H fun o H1 => ti σ H1 fun i H2 => t o i v H2 fun H3 => Q σ H3
theorem pg_sub {o i : Expr} {to ti : TE} {t : TSet} (ho : PE X o to) (hi : PE X i ti) (hs : PSet X t)
    (ha : ∀ v, assign (.Subscript o i pos) X.env v = (do
      let ov ← holding [v] (eval o X.env)
      let iv ← holding [v, ov] (eval i X.env)
      standAt pos
      holding [v, ov, iv] (setItem ov iv v)
      release [v, ov, iv] []) := by intro _; rfl) : PG X (.Subscript o i pos) (gSub to ti t) := by
  intro pins s σ H v u Q I r h
  rw [ha]
  refine wpAny_bind (wpAny_holding (thn (ho pins s σ H _ I h) fun ov s1 ⟨x, H1, I1, r1, q1⟩ => ?_))
  refine wpAny_bind (wpAny_holding (thn (hi pins s1 σ H1 _ I1 q1) fun iv s2 ⟨y, H2, I2, r2, q2⟩ => ?_))
  refine wpAny_bind (wpAny_standAt (wpAny_bind (wpAny_holding (thn (hs pins s2 σ H2 x y v ov iv u _ I2 r1 r2 r q2) fun _ s3 ⟨H3, I3, q3⟩ => ?_))))
  exact wpAny_release ⟨σ, H3, I3, q3⟩
/-- target = value -/
def tAsg (te : TE) (g : TG) : TS := fun D σ H => te σ H fun x H1 => g x σ H1 D.nx
theorem ps_asg {tg e : Expr} {te : TE} {g : TG} (he : PE X e te) (hg : PG X tg g) (hs : swapsWithSole [tg] e pos.line X.env = pure false := by rfl) (hw : swappedStores [tg] e X.env = pure none := by rfl)
    (h1 : (assignEach [tg] X.env).map (·.2) = [assign tg X.env] := by rfl) : PS X (.Assign [tg] e pos) (tAsg te g) := by
  intro pins s σ H D I h
  refine wpAny_Assign_stores (thn (he pins s σ H _ I h) fun v s1 ⟨x, H1, I1, r1, q1⟩ => ?_) hs hw
  rw [h1]
  exact thn (hg pins s1 σ H1 x v _ I1 r1 q1) fun _ s2 q => q
/-- name = value -/
theorem ps_set {i : Nat} {x : Str} {e : Expr} {te : TE} {pos' : Pos} (hN : X.N.Nodup) (hi : X.N[i]? = some x) (hx : Loc X.env.scope x) (he : PE X e te) (hs : swapsWith e (some (.Name x pos')) pos.line X.env = pure false := by rfl) (hf : X.fn x = true ∨ X.env.scope.names.lookup x = some .local := by first | exact .inl rfl | exact .inr rfl | assumption) :
    PS X (.Assign [.Name x pos'] e pos) (tAsg te (gName i)) := by
  intro pins s σ H D I h
  refine wpAny_Assign_Name (thn (he pins s σ H _ I h) fun v s1 ⟨y, H1, I1, r1, q1⟩ => ?_) hs
  exact store_ok I1 hN hi hx r1 (fun s2 I2 => ⟨_, H1, I2, q1⟩) hf
/-- a, b = x, y with plain local names: stored from the right; the pair itself is not tracked (the opening rows as in PyProof/Rows/TupAssign.lean:23) -/
def tPar (i j : Nat) (ta : TA) : TS := fun D σ H => ta σ H fun vs H1 => ∃ v w, vs = [v, w] ∧ D.nx ((σ.set i (some v)).set j (some w)) H1
/-- name op= e -/
def tAug (i : Nat) (te : TE) (ti : TIp) : TS := fun D σ H => ∃ x, σ[i]? = some (some x) ∧ te σ H fun y H1 => ti x y H1 fun z H2 => D.nx (σ.set i (some z)) H2
theorem ps_aug {i : Nat} {x : Str} {e : Expr} {te : TE} {op : Operator} {ti : TIp} {pos' : Pos} (hN : X.N.Nodup) (hi : X.N[i]? = some x) (hx : Loc X.env.scope x) (he : PE X e te) (ho : PIp X op ti) (hf : X.fn x = true ∨ X.env.scope.names.lookup x = some .local := by first | exact .inl rfl | exact .inr rfl | assumption) :
    PS X (.AugAssign (.Name x pos') op e pos) (tAug i te ti) := by
  intro pins s σ H D I h
  obtain ⟨v, e1, h⟩ := h
  obtain ⟨m, hn, hl⟩ := I.loc
  have vis : Vis X.env.scope x := by rcases hx with k | k; exact .inl k; exact .inr (.inl k)
  obtain ⟨u, r, l⟩ := hl i x v hi e1 vis
  refine wpAny_AugAssign_Name ?_
  have go : wpAny (model X.prog X.w) X.A (eval e X.env) (fun w s₂ => wpAny (model X.prog X.w) X.A (inplaceOp op u w) (fun r s₃ => wpAny (model X.prog X.w) X.A (storeName X.env x r) (fun _ => SP X pins D .next) X.xe s₃) X.xe s₂) X.xe s := by
    refine thn (he pins s σ H _ I h) fun w s1 ⟨y, H1, I1, r1, q1⟩ => ?_
    refine thn (ho pins s1 σ H1 v y u w _ I1 r r1 q1) fun z s2 ⟨zv, H2, I2, r2, q2⟩ => ?_
    exact store_ok I2 hN hi hx r2 (fun s3 I3 => ⟨_, H2, I3, q2⟩) hf
  rcases l with ⟨hk, hm⟩ | ⟨hk, c, hc, hcell⟩
  · exact wpAny_loadName_local I.ok.kind hk hn hm go
  · rcases hk with hk | hk
    · exact wpAny_loadName_cell I.ok.kind hk hc hcell go
    · rcases hx with k | k
      · have : X.env.scope.names.lookup x = some .free := hk
        rw [k] at this; cases this
      · have : X.env.scope.names.lookup x = some .free := hk
        rw [k] at this; cases this
/-- o[i] op= e -/
def tAugS (to ti te : TE) (tget : V → V → Hp → VK → Prop) (tip : TIp) (tset : TSet) : TS := fun D σ H => to σ H fun o H1 => ti σ H1 fun i H2 => tget o i H2 fun x H3 => te σ H3 fun y H4 => tip x y H4 fun z H5 => tset o i z H5 fun H6 => D.nx σ H6
/-- o[i], by values -/
def PGet (X : Cx) (t : V → V → Hp → VK → Prop) : Prop :=
  ∀ (pins : List (Addr × Obj)) (s : Shared) (σ : St) (H : Hp) (o i : V) (ov iv : Value) (Q : VK), Inv X pins σ H s → RelV o ov → RelV i iv → t o i H Q →
    wpAny (model X.prog X.w) X.A (getItem ov iv) (EP X pins σ Q) X.xe s
/-- ints -/
def ipI (f : Int → Int → Int) : TIp := fun x y H Q => ∃ i j, x = .int i ∧ y = .int j ∧ Q (.int (f i j)) H
theorem ip_add : PIp X .Add (ipI fun i j => i + j) := by
  intro pins s σ H x y v u Q I r1 r2 h
  obtain ⟨i, j, e1, e2, q⟩ := h
  subst e1; subst e2
  obtain ⟨t, rfl⟩ := r1
  obtain ⟨t', rfl⟩ := r2
  exact iadd_int ⟨.int _, H, I.tok _, ⟨_, rfl⟩, q⟩
end

/-! ### while -/
section
variable {X : Cx} {pos : Pos}
/-- the invariant W with its measure -/
def tWhile (c : TT) (tb : TS) : TS := fun D σ H => ∃ W : Nat → St → Hp → Prop, (∃ m, W m σ H) ∧ ∀ m σ H, W m σ H →
  c σ H fun b H1 => if b = true then ∃ N : St → Hp → Prop, (∀ σ' H', N σ' H' → ∃ m', m' < m ∧ W m' σ' H') ∧ tb { D with nx := N, ct := N, bk := D.nx } σ H1 else D.nx σ H1
theorem ps_while {c : Expr} {body : List Stmt} {tc : TT} {tb : TS} (hp : PassesOwn (model X.prog X.w) X.A X.env X.xe) (hc : PT X c tc) (hb : PSs X body tb) : PS X (.While c body [] pos) (tWhile tc tb) := by
  intro pins s σ H D I h
  obtain ⟨W, ⟨m0, w0⟩, turn⟩ := h
  refine wpAny_While (codeAny_whileLoop (fun n s' => ∃ σ' H', Inv X pins σ' H' s' ∧ W n σ' H') ?_ m0 ⟨σ, H, I, w0⟩)
  rintro n s1 ⟨σ1, H1, I1, w1⟩
  refine wpAny_passesOwn hp (thn (hc pins s1 σ1 H1 _ I1 (turn n σ1 H1 w1)) fun b s2 ⟨H2, I2, q2⟩ => ?_)
  cases b with
  | true =>
    obtain ⟨N, hN, q2⟩ := q2
    rw [if_pos rfl]
    refine wpAny_passesOwn hp (thn (hb pins s2 σ1 H2 _ I2 q2) fun f s3 q3 => ?_)
    cases f with
    | next =>
      obtain ⟨σ3, H3, I3, n3⟩ := q3
      obtain ⟨m', hm, w3⟩ := hN σ3 H3 n3
      exact ⟨m', hm, σ3, H3, I3, w3⟩
    | cont =>
      obtain ⟨σ3, H3, I3, n3⟩ := q3
      obtain ⟨m', hm, w3⟩ := hN σ3 H3 n3
      exact ⟨m', hm, σ3, H3, I3, w3⟩
    | brk => exact q3
    | ret v => exact q3
  | false =>
    rw [if_neg Bool.false_ne_true]
    exact wpAny_execs_nil ⟨σ1, H2, I2, q2⟩
end

/-! ### what a loop or a comprehension walks -/
/-- at turn i: it yields x (the heap may grow), or it stops -/
structure It where
  go : Nat → Hp → Prop
  yld : Nat → Hp → V → Hp → Prop
  stop : Nat → Hp → Prop
/-- the iterator's own objects may turn: they are not the frame's, not pinned, younger than the entry (or a comprehension's own) -/
def FpOk (X : Cx) (pins : List (Addr × Obj)) (H : Hp) (b : Addr) : Prop :=
  H b = none ∧ b ≠ X.env.locals ∧ b ∉ X.fs ∧ (b ∈ X.ex ∨ X.s₀.heap.objs.size ≤ b) ∧ (∀ x c, X.env.cells.lookup x = some c → c ≠ b) ∧ ∀ p ∈ X.pn ++ pins, p.1 ≠ b
theorem Inv.fpOk {X : Cx} {pins : List (Addr × Obj)} {σ : St} {H H' : Hp} {s : Shared} {b : Addr} (I : Inv X pins σ H s) (hb : s.heap.objs.size ≤ b) (hn : H' b = none) : FpOk X pins H' b := by
  refine ⟨hn, Nat.ne_of_gt (Nat.lt_of_lt_of_le I.lt hb), I.nofs hb, .inr (Nat.le_trans I.sz hb), fun x c e z => ?_, fun p hp z => ?_⟩
  · obtain ⟨v, q⟩ := I.cell x c e
    exact absurd (Nat.lt_of_lt_of_le q.lt (by rw [z]; exact hb)) (Nat.lt_irrefl _)
  · exact absurd (Nat.lt_of_lt_of_le (Heap.lt_size (I.pin p hp).1) (by rw [z]; exact hb)) (Nat.lt_irrefl _)
structure Turn (P : Program) (w : World) (K : PySem.W.Frag) (tg : Expr) (J : It) (fp : List Addr) (it : Addr) (tn : Nat → Heap → Prop) : Prop where
  mem : it ∈ fp
  obj : ∀ i h, tn i h → ∀ b ∈ fp, ∃ o, h.get? b = some o ∧ ∀ v, o.data ≠ .cell v
  keep : ∀ i h h', tn i h → (∀ b ∈ fp, ∀ o, h.get? b = some o → h'.get? b = some o) → tn i h'
  item : ∀ (X : Cx), X.prog = P → X.w = w → X.K = K → X.calm = true → ∀ (i : Nat) (pins : List (Addr × Obj)) (s : Shared) (σ : St) (H : Hp) (E : Value → Shared → Prop), Inv X pins σ H s → (∀ b ∈ fp, FpOk X pins H b) → tn i s.heap → J.go i H →
    wpAny (model P w) X.A (pyNext (.ref it)) (fun r s1 => ∃ u, r = some u ∧
      wpAny (model P w) X.A (letOwnedTupleGo tg (.ref it) u) (fun _ s2 => ∃ x H', Inv X pins σ H' s2 ∧ RelV x u ∧ J.yld i H x H' ∧ tn (i + 1) s2.heap ∧ ∀ b ∈ fp, H' b = none) E s1) E s
  done : ∀ (X : Cx), X.prog = P → X.w = w → X.K = K → X.calm = true → ∀ (i : Nat) (pins : List (Addr × Obj)) (s : Shared) (σ : St) (H : Hp) (E : Value → Shared → Prop), Inv X pins σ H s → (∀ b ∈ fp, FpOk X pins H b) → tn i s.heap → J.stop i H →
    wpAny (model P w) X.A (pyNext (.ref it)) (fun r s1 => r = none ∧ Inv X pins σ H s1) E s
  self : ∀ (A : Around) (i : Nat) (s : Shared) (Q : Value → Shared → Prop) (E : Value → Shared → Prop), tn i s.heap → Q (.ref it) s → wpAny (model P w) A (pyIter (.ref it)) Q E s
abbrev TI := St → Hp → (It → Hp → Prop) → Prop
/-- an iterator has come -/
def PIE (X : Cx) (pins : List (Addr × Obj)) (σ : St) (tg : Expr) (R : It → Hp → Prop) (itv : Value) (s2 : Shared) : Prop :=
  ∃ (it : Addr) (fp : List Addr) (tn : Nat → Heap → Prop) (J : It) (H' : Hp), itv = .ref it ∧ Inv X pins σ H' s2 ∧ Turn X.prog X.w X.K tg J fp it tn ∧ tn 0 s2.heap ∧ (∀ b ∈ fp, FpOk X pins H' b) ∧ R J H'
def PI (X : Cx) (tg iter : Expr) (wi : TI) : Prop :=
  ∀ (pins : List (Addr × Obj)) (s : Shared) (σ : St) (H : Hp) (R : It → Hp → Prop), Inv X pins σ H s → wi σ H R →
    wpAny (model X.prog X.w) X.A (eval iter X.env) (fun v s1 => wpAny (model X.prog X.w) X.A (pyIter v) (PIE X pins σ tg R) X.xe s1) X.xe s

/-- the step ahead of the store is nothing for an iterator that keeps no tuple -/
theorem go_of {M : Model} {A : Around} {E : Value → Shared → Prop} {s : Shared} {tg : Expr} {it : Addr} {u : Value} {o : Obj} {n : String} {vs : Array Value} {Q : Unit → Shared → Prop} (ho : s.heap.get? it = some o) (hc : o.cls = .type n) (hd : o.data = .fields vs)
    (hn : ["enumerate", "zip", "dict_itemiterator", "dict_reverseitemiterator", "odict_iterator", "itertools.zip_longest", "itertools.pairwise"].contains n = false) (hQ : Q () s) : wpAny M A (letOwnedTupleGo tg (.ref it) u) Q E s := by
  unfold letOwnedTupleGo
  cases tg <;> first
    | exact wpAny_pure hQ
    | (cases u <;> first
        | exact wpAny_pure hQ
        | (refine wpAny_bind (wpAny_load ho ?_)
           rw [hc, hd]
           show wpAny M A (if (["enumerate", "zip", "dict_itemiterator", "dict_reverseitemiterator", "odict_iterator", "itertools.zip_longest", "itertools.pairwise"].contains n && vs[0]? == some (rawInt _)) = true then _ else _) Q E s
           rw [if_neg (by intro h; rw [hn, Bool.false_and] at h; cases h)]
           exact wpAny_pure hQ))

/-- the list at a, as it stands at each turn (a loop may append to it) -/
def Itl (K : PySem.W.Frag) (a : Addr) : It :=
  ⟨fun i H => ∃ xs x, SqL K H a xs ∧ xs[i]? = some x, fun i H x H' => H' = H ∧ ∀ xs, SqL K H a xs → xs[i]? = some x, fun i H => ∃ xs, SqL K H a xs ∧ xs.length ≤ i⟩
def Itt (K : PySem.W.Frag) (a : Addr) : It :=
  ⟨fun i H => ∃ xs x, SqT K H a xs ∧ xs[i]? = some x, fun i H x H' => H' = H ∧ ∀ xs, SqT K H a xs → xs[i]? = some x, fun i H => ∃ xs, SqT K H a xs ∧ xs.length ≤ i⟩
/-- lo, lo + 1, .. (n of them) -/
def Itr (lo : Int) (n : Nat) : It := ⟨fun i _ => i < n, fun i H x H' => H' = H ∧ x = .int (lo + i), fun i _ => n ≤ i⟩
theorem turn_list {P : Program} {w : World} {K : PySem.W.Frag} {tg : Expr} (a it : Addr) : Turn P w K tg (Itl K a) [it] it (fun i h => h.IsListIter it a i) where
  mem := by simp
  obj := fun i h st b hb => by
    have e : b = it := by simpa using hb
    subst e
    obtain ⟨o, e, c, d⟩ := st
    exact ⟨o, e, fun v z => by rw [d] at z; cases z⟩
  keep := fun i h h' st k => st.at fun o e => k it (by simp) o e
  item := by
    intro X hP hw hK hc i pins s σ H E I hf st hg
    subst hP hw hK
    obtain ⟨xs, x, hq, hx⟩ := hg
    obtain ⟨its, rv, p, hz⟩ := I.list hq
    obtain ⟨u, hu, ru⟩ := rv.get hx
    obtain ⟨f0, f1, f2, f3, f4, f5⟩ := hf it (by simp)
    refine wpAny_pyNext_list_item st p.isList (x := u) (by simpa using hu) fun h' st' sb => ?_
    have I1 : Inv X pins σ H { s with heap := h' } := I.turned (t' := s.toks) (fun b o hb e => (sb.2 b hb).trans e) f0 f1 f3 f4 f5
    obtain ⟨o, e, c, d⟩ := id st'
    exact ⟨u, rfl, go_of (s := { s with heap := h' }) e c d (by decide) ⟨x, H, I1, ru, ⟨rfl, fun ys hy => by rw [I.list_inj hy hq]; exact hx⟩, st', fun b hb => (hf b hb).1⟩⟩
  done := by
    intro X hP hw hK hc i pins s σ H E I hf st hg
    subst hP hw hK
    obtain ⟨xs, hq, hx⟩ := hg
    obtain ⟨its, rv, p, hz⟩ := I.list hq
    obtain ⟨f0, f1, f2, f3, f4, f5⟩ := hf it (by simp)
    have hl := rv.length
    exact wpAny_pyNext_list_end (I.ok.hd hc) st p.isList (by simp; omega) fun h' eb => ⟨rfl, I.turned (t' := s.toks) (fun b o hb e => eb b o hb e) f0 f1 f3 f4 f5⟩
  self := fun _ _ _ _ _ st h => wpAny_pyIter_listiter st h
theorem turn_range {P : Program} {w : World} {K : PySem.W.Frag} {tg : Expr} (it : Addr) (lo : Int) (n : Nat) : Turn P w K tg (Itr lo n) [it] it (fun i h => IsRangeIter h it (lo + (i : Nat) * 1) ((n : Int) - (i : Nat)) 1) where
  mem := by simp
  obj := fun i h st b hb => by
    have e : b = it := by simpa using hb
    subst e
    exact ⟨_, st, fun v z => by
      have z' : Data.fields _ = Data.cell v := z
      cases z'⟩
  keep := fun i h h' st k => k it (by simp) _ st
  item := by
    intro X hP hw hK hc i pins s σ H E I hf st hg
    subst hP hw hK
    obtain ⟨f0, f1, f2, f3, f4, f5⟩ := hf it (by simp)
    have W := Walks.range (prog := X.prog) (w := X.w) (I.ok.hd hc) it lo 1 n
    refine W.item i s _ _ hg st fun v h' tk hv st' kk => ?_
    obtain ⟨t, rfl⟩ := hv
    have I1 : Inv X pins σ H { s with heap := h', toks := tk } := I.turned (fun b o hb e => kk b o (by simpa using hb) e) f0 f1 f3 f4 f5
    refine ⟨_, rfl, go_of (s := { s with heap := h', toks := tk }) (n := "range_iterator") st' rfl rfl (by decide) ⟨.int (lo + i), H, I1, ⟨t, ?_⟩, ⟨rfl, rfl⟩, st', fun b hb => (hf b hb).1⟩⟩
    rw [Int.mul_one]
  done := by
    intro X hP hw hK hc i pins s σ H E I hf st hg
    subst hP hw hK
    obtain ⟨f0, f1, f2, f3, f4, f5⟩ := hf it (by simp)
    exact wpAny_pyNext_range_end (I.ok.hd hc) st (by have : n ≤ i := hg; omega) fun h' eb => ⟨rfl, I.turned (t' := s.toks) (fun b o hb e => eb b o hb e) f0 f1 f3 f4 f5⟩
  self := fun _ _ _ _ _ st h => wpAny_pyIter_rangeiter st h
end L2

namespace L2
open PySem PySem.Spec PyProof.Rows
section
variable {X : Cx} {tg : Expr}
def iList (K : PySem.W.Frag) (tl : TE) : TI := fun σ H R => tl σ H fun x H1 => ∃ a, x = .ref a ∧ (∃ xs, SqL K H1 a xs) ∧ R (Itl K a) H1
def iTup (K : PySem.W.Frag) (tl : TE) : TI := fun σ H R => tl σ H fun x H1 => ∃ a, x = .ref a ∧ (∃ xs, SqT K H1 a xs) ∧ R (Itt K a) H1
theorem pi_list {l : Expr} {tl : TE} (hl : PE X l tl) : PI X tg l (iList X.K tl) := by
  intro pins s σ H R I h
  refine thn (hl pins s σ H _ I h) fun v s1 ⟨x, H1, I1, r1, q1⟩ => ?_
  obtain ⟨a, e, ⟨xs, hq⟩, q⟩ := q1
  subst e
  cases r1
  obtain ⟨its, rv, p, hz⟩ := I1.list hq
  refine wpAny_pyIter_list p.isList ?_
  refine ⟨s1.heap.objs.size, [s1.heap.objs.size], _, _, H1, rfl, I1.kept (t' := s1.toks) fun b o e => Heap.get?_push_of_some _ e, turn_list a _, ⟨_, Heap.get?_push_size _ rfl, rfl, rfl⟩, fun b hb => ?_, q⟩
  have e : b = s1.heap.objs.size := by simpa using hb
  subst e
  exact I1.fpOk (Nat.le_refl _) (I1.hok.fresh (Nat.le_refl _))
/-- a range object just made, walked -/
theorem range_it {pins : List (Addr × Obj)} {σ : St} {H : Hp} {s : Shared} {R : It → Hp → Prop} {E : Value → Shared → Prop} {lo hi : Int} {t u v : Tok} {tk : Nat} (I : Inv X pins σ H s) (h1 : -(2 ^ 62) ≤ lo) (h2 : lo < 2 ^ 62) (h3 : -(2 ^ 62) ≤ hi) (h4 : hi < 2 ^ 62)
    (q : R (Itr lo (hi - lo).toNat) H) : wpAny (model X.prog X.w) X.A (pyIter (.ref s.heap.objs.size)) (PIE X pins σ tg R) E { s with heap := s.heap.push { cls := .type "range", data := .fields #[.int lo t, .int hi u, .int 1 v] }, toks := tk } := by
  refine wpAny_pyIter_range (IsRange.new ..) (small_one h1 h2 h3 h4) ?_
  have I1 : Inv X pins σ H { s with heap := s.heap.push { cls := .type "range", data := .fields #[.int lo t, .int hi u, .int 1 v] }, toks := tk } := I.kept fun b o e => Heap.get?_push_of_some _ e
  refine ⟨(s.heap.push { cls := .type "range", data := .fields #[.int lo t, .int hi u, .int 1 v] }).objs.size, [(s.heap.push { cls := .type "range", data := .fields #[.int lo t, .int hi u, .int 1 v] }).objs.size], _, _, H, rfl,
    I1.kept (t' := tk) fun b o e => Heap.get?_push_of_some _ e, turn_range _ lo (hi - lo).toNat, ?_, fun b hb => ?_, q⟩
  · have e1 : lo + ((0 : Nat) : Int) * 1 = lo := by simp
    have e2 : (((hi - lo).toNat : Nat) : Int) - ((0 : Nat) : Int) = Builtin.Range.rangeSize lo hi 1 := by rw [rangeSize_one]; split <;> omega
    show IsRangeIter _ _ (lo + ((0 : Nat) : Int) * 1) ((((hi - lo).toNat : Nat) : Int) - ((0 : Nat) : Int)) 1
    rw [e1, e2]
    exact Heap.get?_push_size _ rfl
  · have e : b = (s.heap.push { cls := .type "range", data := .fields #[.int lo t, .int hi u, .int 1 v] }).objs.size := by simpa using hb
    subst e
    exact I1.fpOk (Nat.le_refl _) (I1.hok.fresh (Nat.le_refl _))
def iRng1 (ta : TA) : TI := fun σ H R => ta σ H fun vs H1 => ∃ j : Int, vs = [.int j] ∧ -(2 ^ 62) ≤ j ∧ j < 2 ^ 62 ∧ R (Itr 0 j.toNat) H1
def iRng2 (ta : TA) : TI := fun σ H R => ta σ H fun vs H1 => ∃ i j : Int, vs = [.int i, .int j] ∧ (-(2 ^ 62) ≤ i ∧ i < 2 ^ 62 ∧ -(2 ^ 62) ≤ j ∧ j < 2 ^ 62) ∧ R (Itr i (j - i).toNat) H1
theorem pi_range1 {a : Expr} {ta : TA} {p pos : Pos} (hg : Gl X "range") (hm : X.mg "range" = none) (ha : PA X [a] ta) (hs : starEach [a] X.env = [(false, eval a X.env)] := by rfl) : PI X tg (.Call (.Name "range" p) [a] [] pos) (iRng1 ta) := by
  intro pins s σ H R I h
  refine Call_ (ld_blt I hg hm boot_range (PyProof.Rows.callWith_type1 (thn (ha pos pins s σ H _ I h) fun us s1 ⟨vs, H1, I1, r1, q1⟩ => ?_) hs rfl))
  obtain ⟨j, e, q1, q2, q⟩ := q1
  subst e
  cases r1 with
  | cons r rr =>
    cases rr
    obtain ⟨t, rfl⟩ := r
    exact call_range_1 (range_it I1 (by omega) (by omega) q1 q2 (by simpa using q))
theorem pi_range2 {a b : Expr} {ta : TA} {p pos : Pos} (hg : Gl X "range") (hm : X.mg "range" = none) (ha : PA X [a, b] ta) (hs : starEach [a, b] X.env = [(false, eval a X.env), (false, eval b X.env)] := by rfl) (hs2 : starEach [b] X.env = [(false, eval b X.env)] := by rfl) :
    PI X tg (.Call (.Name "range" p) [a, b] [] pos) (iRng2 ta) := by
  intro pins s σ H R I h
  refine Call_ (ld_blt I hg hm boot_range (PyProof.Rows.callWith_type1 (thn (ha pos pins s σ H _ I h) fun us s1 ⟨vs, H1, I1, r1, q1⟩ => ?_) (by rw [hs, hs2]) (by rw [hs2]; rfl)))
  obtain ⟨i, j, e, ⟨q1, q2, q3, q4⟩, q⟩ := q1
  subst e
  cases r1 with
  | cons r rr =>
    cases rr with
    | cons r' rr =>
      cases rr
      obtain ⟨t, rfl⟩ := r
      obtain ⟨t', rfl⟩ := r'
      exact call_range_2 (range_it I1 q1 q2 q3 q4 q)

/-! ### for -/
/-- W: the invariant by the turn and a measure; N: what the body is to reach -/
def tFor (wi : TI) (g : TG) (tb : TS) : TS := fun D σ H => wi σ H fun J H1 => ∃ W : Nat → Nat → St → Hp → Prop, (∃ m, W 0 m σ H1) ∧ ∀ i m σ H, W i m σ H →
  (J.stop i H ∧ D.nx σ H) ∨ (J.go i H ∧ ∃ N : St → Hp → Prop, (∀ σ' H', N σ' H' → ∃ m', m' < m ∧ W (i + 1) m' σ' H') ∧ ∀ x H', J.yld i H x H' → g x σ H' fun σ2 H2 => tb { D with nx := N, ct := N, bk := D.nx } σ2 H2)
/-- the records at fp as they stand -/
def pinsAt (fp : List Addr) (h : Heap) : List (Addr × Obj) := fp.filterMap fun b => (h.get? b).map fun o => (b, o)
theorem mem_pinsAt {fp : List Addr} {h : Heap} {b : Addr} {o : Obj} (hb : b ∈ fp) (e : h.get? b = some o) : (b, o) ∈ pinsAt fp h := List.mem_filterMap.mpr ⟨b, hb, by rw [e]; rfl⟩
theorem of_pinsAt {fp : List Addr} {h : Heap} {p : Addr × Obj} (hp : p ∈ pinsAt fp h) : p.1 ∈ fp ∧ h.get? p.1 = some p.2 := by
  obtain ⟨b, hb, e⟩ := List.mem_filterMap.mp hp
  cases q : h.get? b with
  | none => rw [q] at e; cases e
  | some o =>
    rw [q] at e
    have e' : (b, o) = p := Option.some.inj e
    subst e'
    exact ⟨hb, q⟩
theorem Inv.pinned {pins : List (Addr × Obj)} {σ : St} {H : Hp} {s : Shared} {fp : List Addr} (I : Inv X pins σ H s) (hf : ∀ b ∈ fp, FpOk X pins H b) (ho : ∀ b ∈ fp, ∃ o, s.heap.get? b = some o ∧ ∀ v, o.data ≠ .cell v) : Inv X (pins ++ pinsAt fp s.heap) σ H s :=
  I.pins_of fun p hp => (List.mem_append.mp hp).elim (fun z => I.pin p (List.mem_append_right _ z)) fun z => by
    obtain ⟨hb, e⟩ := of_pinsAt z
    obtain ⟨f0, f1, f2, _⟩ := hf p.1 hb
    obtain ⟨o, e', d⟩ := ho p.1 hb
    rw [e] at e'; cases e'
    exact ⟨e, f0, f1, f2, d⟩
theorem Inv.unpinned {pins pl : List (Addr × Obj)} {σ : St} {H : Hp} {s : Shared} (I : Inv X (pins ++ pl) σ H s) : Inv X pins σ H s := I.pins_of fun p hp => I.pin p (List.mem_append_right _ (List.mem_append_left _ hp))
theorem ps_for {iter : Expr} {body : List Stmt} {wi : TI} {g : TG} {tb : TS} {pos : Pos} (hp : PassesOwn (model X.prog X.w) X.A X.env X.xe) (hc : X.calm = true) (hi : PI X tg iter wi) (hg : PG X tg g) (hb : PSs X body tb)
    (hs : ∀ x, foldedSetIterable iter X.env x = pure x := by intro _; rfl) : PS X (.For tg iter body [] pos) (tFor wi g tb) := by
  intro pins s σ H D I h
  refine wpAny_For (thn (hi pins s σ H _ I h) fun v s1 h1 => thn h1 fun itv s2 h2 => ?_) hs
  obtain ⟨it, fp, tn, J, H2, e, I2, T, st2, f2, W, ⟨m0, w0⟩, turn⟩ := h2
  subst e
  -- what stays true of the iterator's objects through the loop
  have stat : ∀ {H' : Hp}, (∀ b ∈ fp, H' b = none) → ∀ b ∈ fp, FpOk X pins H' b := fun hn b hb => ⟨hn b hb, (f2 b hb).2⟩
  refine codeAny_forLoop_any (fun n s' => ∃ i σ' H', Inv X pins σ' H' s' ∧ tn i s'.heap ∧ (∀ b ∈ fp, H' b = none) ∧ W i n σ' H') ?_ m0 ⟨0, σ, H2, I2, st2, fun b hb => (f2 b hb).1, w0⟩
  rintro n s3 ⟨i, σ3, H3, I3, st3, fr3, w3⟩
  rcases turn i n σ3 H3 w3 with ⟨stop, qn⟩ | ⟨go, N, hN, step⟩
  · refine wpAny_passesOwn hp (thn (T.done X rfl rfl rfl hc i pins s3 σ3 H3 X.xe I3 (stat fr3) st3 stop) fun r s4 ⟨hr, I4⟩ => ?_)
    subst hr
    exact wpAny_execs_nil ⟨σ3, H3, I4, qn⟩
  · refine wpAny_passesOwn hp (thn (T.item X rfl rfl rfl hc i pins s3 σ3 H3 X.xe I3 (stat fr3) st3 go) fun r s4 ⟨u, hr, h4⟩ => ?_)
    subst hr
    refine wpAny_passesOwn hp (thn h4 fun _ s5 ⟨x, H5, I5, r5, y5, st5, fr5⟩ => ?_)
    have I5' := I5.pinned (stat fr5) (T.obj _ _ st5)
    refine wpAny_passesOwn hp (thn (hg _ s5 σ3 H5 x u _ I5' r5 (step x H5 y5)) fun _ s6 ⟨σ6, H6, I6, q6⟩ => ?_)
    refine wpAny_passesOwn hp (thn (hb _ s6 σ6 H6 _ I6 q6) fun f s7 q7 => ?_)
    have again : ∀ {σ7 : St} {H7 : Hp}, Inv X (pins ++ pinsAt fp s5.heap) σ7 H7 s7 → N σ7 H7 → ∃ m, m < n ∧ ∃ i σ' H', Inv X pins σ' H' s7 ∧ tn i s7.heap ∧ (∀ b ∈ fp, H' b = none) ∧ W i m σ' H' := fun {σ7 H7} I7 n7 => by
      obtain ⟨m', hm, w7⟩ := hN σ7 H7 n7
      refine ⟨m', hm, i + 1, σ7, H7, I7.unpinned, T.keep _ _ _ st5 fun b hb o e => (I7.pin (b, o) (List.mem_append_right _ (List.mem_append_right _ (mem_pinsAt hb e)))).1, fun b hb => ?_, w7⟩
      obtain ⟨o, e, d⟩ := T.obj _ _ st5 b hb
      exact (I7.pin (b, o) (List.mem_append_right _ (List.mem_append_right _ (mem_pinsAt hb e)))).2.1
    cases f with
    | next => obtain ⟨σ7, H7, I7, n7⟩ := q7; exact again I7 n7
    | cont => obtain ⟨σ7, H7, I7, n7⟩ := q7; exact again I7 n7
    | brk => obtain ⟨σ7, H7, I7, q7⟩ := q7; exact ⟨σ7, H7, I7.unpinned, q7⟩
    | ret v => obtain ⟨x7, σ7, H7, I7, r7, q7⟩ := q7; exact ⟨x7, σ7, H7, I7.unpinned, r7, q7⟩
end

/-! ### the forms one uses -/
/-- over a list that the body leaves as it is -/
theorem for_list {K : PySem.W.Frag} {a : Addr} {xs : List V} {g : TG} {tb : TS} {D : Ends} {σ : St} {H : Hp} (Pv : Nat → St → Hp → Prop) (h0 : Pv 0 σ H) (hl : ∀ i σ H, i ≤ xs.length → Pv i σ H → SqL K H a xs)
    (hs : ∀ i x σ H, xs[i]? = some x → Pv i σ H → g x σ H fun σ2 H2 => tb { D with nx := Pv (i + 1), ct := Pv (i + 1), bk := D.nx } σ2 H2) (hd : ∀ σ H, Pv xs.length σ H → D.nx σ H) :
    ∃ W : Nat → Nat → St → Hp → Prop, (∃ m, W 0 m σ H) ∧ ∀ i m σ H, W i m σ H →
      ((Itl K a).stop i H ∧ D.nx σ H) ∨ ((Itl K a).go i H ∧ ∃ N : St → Hp → Prop, (∀ σ' H', N σ' H' → ∃ m', m' < m ∧ W (i + 1) m' σ' H') ∧ ∀ x H', (Itl K a).yld i H x H' → g x σ H' fun σ2 H2 => tb { D with nx := N, ct := N, bk := D.nx } σ2 H2) := by
  refine ⟨fun i m σ H => m = xs.length - i ∧ i ≤ xs.length ∧ Pv i σ H, ⟨xs.length, by simp, Nat.zero_le _, h0⟩, ?_⟩
  rintro i m σ H ⟨rfl, hi, p⟩
  have q := hl i σ H hi p
  by_cases hlt : i < xs.length
  · refine .inr ⟨⟨xs, xs[i], q, by simp [hlt]⟩, Pv (i + 1), fun σ' H' p' => ⟨xs.length - (i + 1), by omega, rfl, hlt, p'⟩, fun x H' y => ?_⟩
    obtain ⟨e, y⟩ := y
    subst e
    exact hs i x σ _ (y xs q) p
  · have e : i = xs.length := by omega
    subst e
    exact .inl ⟨⟨xs, q, Nat.le_refl _⟩, hd σ H p⟩
theorem for_range {lo : Int} {n : Nat} {g : TG} {tb : TS} {D : Ends} {σ : St} {H : Hp} (Pv : Nat → St → Hp → Prop) (h0 : Pv 0 σ H)
    (hs : ∀ i σ H, i < n → Pv i σ H → g (.int (lo + i)) σ H fun σ2 H2 => tb { D with nx := Pv (i + 1), ct := Pv (i + 1), bk := D.nx } σ2 H2) (hd : ∀ σ H, Pv n σ H → D.nx σ H) :
    ∃ W : Nat → Nat → St → Hp → Prop, (∃ m, W 0 m σ H) ∧ ∀ i m σ H, W i m σ H →
      ((Itr lo n).stop i H ∧ D.nx σ H) ∨ ((Itr lo n).go i H ∧ ∃ N : St → Hp → Prop, (∀ σ' H', N σ' H' → ∃ m', m' < m ∧ W (i + 1) m' σ' H') ∧ ∀ x H', (Itr lo n).yld i H x H' → g x σ H' fun σ2 H2 => tb { D with nx := N, ct := N, bk := D.nx } σ2 H2) := by
  refine ⟨fun i m σ H => m = n - i ∧ i ≤ n ∧ Pv i σ H, ⟨n, by simp, Nat.zero_le _, h0⟩, ?_⟩
  rintro i m σ H ⟨rfl, hi, p⟩
  by_cases hlt : i < n
  · refine .inr ⟨hlt, Pv (i + 1), fun σ' H' p' => ⟨n - (i + 1), by omega, rfl, hlt, p'⟩, fun x H' y => ?_⟩
    obtain ⟨e, y⟩ := y
    subst e y
    exact hs i σ _ hlt p
  · have e : i = n := by omega
    subst e
    exact .inl ⟨Nat.le_refl _, hd σ H p⟩
end L2

namespace L2
open PySem PySem.Spec PyProof.Rows

abbrev R2 := V → V → Hp → VK → Prop
/-- a two-place operation on values: f is binaryOp op, inplaceOp op or compareOp op -/
def OpR (X : Cx) (f : Value → Value → Sem Value) (r : R2) : Prop :=
  ∀ (pins : List (Addr × Obj)) (s : Shared) (σ : St) (H : Hp) (x y : V) (v u : Value) (Q : VK), Inv X pins σ H s → RelV x v → RelV y u → r x y H Q →
    wpAny (model X.prog X.w) X.A (f v u) (EP X pins σ Q) X.xe s
/-- a one-place operation -/
def UnR (X : Cx) (f : Value → Sem Value) (r : V → Hp → VK → Prop) : Prop :=
  ∀ (pins : List (Addr × Obj)) (s : Shared) (σ : St) (H : Hp) (x : V) (v : Value) (Q : VK), Inv X pins σ H s → RelV x v → r x H Q →
    wpAny (model X.prog X.w) X.A (f v) (EP X pins σ Q) X.xe s
/-- a call of a value that is known (a builtin, a type) with values -/
def CallR (X : Cx) (f : Value) (r : List V → Hp → VK → Prop) : Prop :=
  ∀ (pins : List (Addr × Obj)) (s : Shared) (σ : St) (H : Hp) (xs : List V) (us : List Value) (Q : VK), Inv X pins σ H s → Vals xs us → r xs H Q →
    wpAny (model X.prog X.w) X.A (call f us) (EP X pins σ Q) X.xe s
/-- a value's truth -/
def TruR (X : Cx) (r : V → Hp → (Bool → Hp → Prop) → Prop) : Prop :=
  ∀ (pins : List (Addr × Obj)) (s : Shared) (σ : St) (H : Hp) (x : V) (v : Value) (Q : Bool → Hp → Prop), Inv X pins σ H s → RelV x v → r x H Q →
    wpAny (model X.prog X.w) X.A (truthy v) (TP X pins σ Q) X.xe s

def tOp (r : R2) (ta tb : TE) : TE := fun σ H Q => ta σ H fun x H1 => tb σ H1 fun y H2 => r x y H2 Q
def tUn (r : V → Hp → VK → Prop) (ta : TE) : TE := fun σ H Q => ta σ H fun x H1 => r x H1 Q
/-- ints in, under C, and a value out -/
def rI (C : Int → Int → Prop) (g : Int → Int → V) : R2 := fun x y H Q => ∃ i j, x = .int i ∧ y = .int j ∧ C i j ∧ Q (g i j) H
def rI0 (g : Int → Int → V) : R2 := fun x y H Q => ∃ i j, x = .int i ∧ y = .int j ∧ Q (g i j) H
def rU (g : Int → V) : V → Hp → VK → Prop := fun x H Q => ∃ i, x = .int i ∧ Q (g i) H

section
variable {X : Cx} {a b c : Expr} {ta tb tc : TE} {pos : Pos}

theorem binT (ha : PE X a ta) (hb : PE X b tb) {pins : List (Addr × Obj)} {s : Shared} {σ : St} {H : Hp} {R : V → V → Hp → Prop} (I : Inv X pins σ H s)
    (h : ta σ H fun x H1 => tb σ H1 fun y H2 => R x y H2) {Q : Value → Shared → Prop} {f : Value → Value → Sem Value}
    (hf : ∀ v u s2 x y H2, Inv X pins σ H2 s2 → RelV x v → RelV y u → R x y H2 → wpAny (model X.prog X.w) X.A (f v u) Q X.xe s2) :
    wpAny (model X.prog X.w) X.A (eval a X.env) (fun v s₁ => wpAny (model X.prog X.w) X.A (eval b X.env) (fun u s₂ => wpAny (model X.prog X.w) X.A (f v u) Q X.xe s₂) X.xe s₁) X.xe s := by
  refine thn (ha pins s σ H _ I h) fun v s1 ⟨x, H1, I1, r1, q1⟩ => ?_
  refine thn (hb pins s1 σ H1 _ I1 q1) fun u s2 ⟨y, H2, I2, r2, q2⟩ => ?_
  exact hf v u s2 x y H2 I2 r1 r2 q2

theorem pe_op {op : Operator} {r : R2} (ho : OpR X (binaryOp op) r) (ha : PE X a ta) (hb : PE X b tb) : PE X (.BinOp a op b pos) (tOp r ta tb) := by
  intro pins s σ H Q I h
  exact wpAny_BinOp (binT ha hb I h fun v u s2 x y H2 I2 rx ry q => ho pins s2 σ H2 x y v u Q I2 rx ry q)
theorem pe_un {op : UnaryOp} {r : V → Hp → VK → Prop} (ho : UnR X (unaryOp op) r) (ha : PE X a ta) : PE X (.UnaryOp op a pos) (tUn r ta) := by
  intro pins s σ H Q I h
  exact UnaryOp_ (thn (ha pins s σ H _ I h) fun v s1 ⟨x, H1, I1, r1, q1⟩ => ho pins s1 σ H1 x v Q I1 r1 q1)

/-! ### ints -/
theorem opI {f : Value → Value → Sem Value} {C : Int → Int → Prop} {g : Int → Int → Int}
    (rule : ∀ (i j : Int) (t u : Tok) (s : Shared) (Q : Value → Shared → Prop) (E : Value → Shared → Prop), C i j → Q (.int (g i j) s.toks) { s with toks := s.toks + 1 } → wpAny (model X.prog X.w) X.A (f (.int i t) (.int j u)) Q E s) :
    OpR X f (rI C fun i j => .int (g i j)) := by
  intro pins s σ H x y v u Q I rx ry h
  obtain ⟨i, j, rfl, rfl, hc, q⟩ := h
  obtain ⟨t, rfl⟩ := rx
  obtain ⟨t', rfl⟩ := ry
  exact rule i j t t' s _ _ hc ⟨.int (g i j), H, I.tok _, ⟨_, rfl⟩, q⟩
theorem opI0 {f : Value → Value → Sem Value} {g : Int → Int → Int}
    (rule : ∀ (i j : Int) (t u : Tok) (s : Shared) (Q : Value → Shared → Prop) (E : Value → Shared → Prop), Q (.int (g i j) s.toks) { s with toks := s.toks + 1 } → wpAny (model X.prog X.w) X.A (f (.int i t) (.int j u)) Q E s) :
    OpR X f (rI0 fun i j => .int (g i j)) := by
  intro pins s σ H x y v u Q I rx ry h
  obtain ⟨i, j, rfl, rfl, q⟩ := h
  obtain ⟨t, rfl⟩ := rx
  obtain ⟨t', rfl⟩ := ry
  exact rule i j t t' s _ _ ⟨.int (g i j), H, I.tok _, ⟨_, rfl⟩, q⟩
theorem opB0 {f : Value → Value → Sem Value} {g : Int → Int → Bool}
    (rule : ∀ (i j : Int) (t u : Tok) (s : Shared) (Q : Value → Shared → Prop) (E : Value → Shared → Prop), Q (.bool (g i j)) s → wpAny (model X.prog X.w) X.A (f (.int i t) (.int j u)) Q E s) :
    OpR X f (rI0 fun i j => .bl (g i j)) := by
  intro pins s σ H x y v u Q I rx ry h
  obtain ⟨i, j, rfl, rfl, q⟩ := h
  obtain ⟨t, rfl⟩ := rx
  obtain ⟨t', rfl⟩ := ry
  exact rule i j t t' s _ _ ⟨.bl (g i j), H, I, rfl, q⟩

def CDiv (i j : Int) : Prop := 0 < j ∧ j < 1073741824
def CDivN (i j : Int) : Prop := j ≠ 0 ∧ j.natAbs < 1073741824
def CPow (i j : Int) : Prop := 0 ≤ j ∧ j ≤ 1000000 ∧ i.natAbs < 2 ^ 64
def CMul (i j : Int) : Prop := (-(2 ^ 64) < i ∧ i < 2 ^ 64) ∨ (-(2 ^ 64) < j ∧ j < 2 ^ 64)
theorem CMul.ok {i j : Int} (h : CMul i j) : IntMulOk i j := by
  rcases h with ⟨h1, h2⟩ | ⟨h1, h2⟩
  · exact .of_left (intBits_le_64 h1 h2)
  · exact .of_right (intBits_le_64 h1 h2)

theorem op_add : OpR X (binaryOp .Add) (rI0 fun i j => .int (i + j)) := opI0 fun _ _ _ _ _ _ _ q => add_int q
theorem op_sub : OpR X (binaryOp .Sub) (rI0 fun i j => .int (i - j)) := opI0 fun _ _ _ _ _ _ _ q => sub_int q
theorem op_mul : OpR X (binaryOp .Mult) (rI CMul fun i j => .int (i * j)) := opI fun _ _ _ _ _ _ _ hc q => mul_int q hc.ok
/-- // by a positive divisor -/
theorem op_fdiv : OpR X (binaryOp .FloorDiv) (rI CDiv fun i j => .int (i / j)) := opI fun i j _ _ _ _ _ hc q => by
  have h1 : (0 : Int) < j := hc.1
  have h2 : j < 1073741824 := hc.2
  exact floordiv_int (by omega) (by rw [Int.fdiv_eq_ediv_of_nonneg i (by omega)]; exact q) (.inl (PyProof.noPylong_small (by omega)))
/-- % by a positive divisor of any size -/
theorem op_mod : OpR X (binaryOp .Mod) (rI (fun _ j => 0 < j) fun i j => .int (i % j)) := opI fun i j _ _ _ _ _ hc q => by
  have h1 : (0 : Int) < j := hc
  exact mod_int' (by omega) (by rw [Int.fmod_eq_emod_of_nonneg i (by omega)]; exact q)
theorem op_pow : OpR X (binaryOp .Pow) (rI CPow fun i j => .int (i ^ j.toNat)) := opI fun _ _ _ _ _ _ _ hc q => pow_int_small hc.1 hc.2.1 hc.2.2 q


theorem unI {f : Value → Sem Value} {g : Int → Int}
    (rule : ∀ (i : Int) (t : Tok) (s : Shared) (Q : Value → Shared → Prop) (E : Value → Shared → Prop), Q (.int (g i) s.toks) { s with toks := s.toks + 1 } → wpAny (model X.prog X.w) X.A (f (.int i t)) Q E s) :
    UnR X f (rU fun i => .int (g i)) := by
  intro pins s σ H x v Q I rx h
  obtain ⟨i, rfl, q⟩ := h
  obtain ⟨t, rfl⟩ := rx
  exact rule i t s _ _ ⟨.int (g i), H, I.tok _, ⟨_, rfl⟩, q⟩
theorem un_neg : UnR X (unaryOp .USub) (rU fun i => .int (-i)) := unI fun _ _ _ _ _ q => neg_int q

/-! ### bools among ints: n += (a < b) -/
end

/-! ### comparisons -/
/-- the scalars that == tells apart as data does -/
def scal : V → V → Bool
  | .non, .non => true | .non, .int _ => true | .int _, .non => true | .non, .bl _ => true | .bl _, .non => true | .non, .str _ => true | .str _, .non => true
  | .int _, .int _ => true | .bl _, .bl _ => true | .str _, .str _ => true | .byt _, .byt _ => true
  | .int _, .str _ => true | .str _, .int _ => true | .bl _, .str _ => true | .str _, .bl _ => true
  | _, _ => false
def rEq : R2 := fun x y H Q => scal x y = true ∧ Q (.bl (decide (x = y))) H
def rNe : R2 := fun x y H Q => scal x y = true ∧ Q (.bl (!decide (x = y))) H

theorem dec_int {i j : Int} : decide (V.int i = V.int j) = (i == j) := by
  rw [Bool.eq_iff_iff]
  simp
theorem dec_bl {i j : Bool} : decide (V.bl i = V.bl j) = (i == j) := by
  rw [Bool.eq_iff_iff]
  simp
theorem dec_str {i j : Str} : decide (V.str i = V.str j) = (i == j) := by
  rw [Bool.eq_iff_iff]
  simp
theorem dec_byt {i j : Array UInt8} : decide (V.byt i = V.byt j) = (i.toList == j.toList) := by
  rw [Bool.eq_iff_iff]
  cases i
  cases j
  simp

section
variable {X : Cx} {a b c : Expr} {ta tb tc : TE} {pos : Pos}
theorem fin_bl {pins : List (Addr × Obj)} {σ : St} {H : Hp} {s : Shared} {Q : VK} {k k' : Bool} (I : Inv X pins σ H s) (q : Q (.bl k) H) (e : k = k') : EP X pins σ Q (.bool k') s := by
  subst e
  exact ⟨.bl k, H, I, rfl, q⟩
theorem op_eq : OpR X (compareOp .Eq) rEq := by
  intro pins s σ H x y v u Q I rx ry h
  obtain ⟨hs, q⟩ := h
  cases x with
  | non =>
    cases rx
    cases y with
    | non => cases ry; exact PySem.EqNone.eq_none_none (fin_bl I q (by simp))
    | bl j => cases ry; exact PySem.EqNone.eq_none_bool (fin_bl I q (by simp))
    | int j => obtain ⟨t', rfl⟩ := ry; exact PySem.EqNone.eq_none_int (fin_bl I q (by simp))
    | str j => obtain ⟨t', rfl⟩ := ry; exact PySem.EqNone.eq_none_str (fin_bl I q (by simp))
    | _ => exact absurd (show false = true from hs) Bool.false_ne_true
  | bl i =>
    cases rx
    cases y with
    | non => cases ry; exact PySem.EqNone.eq_bool_none (fin_bl I q (by simp))
    | bl j => cases ry; exact eq_bool (fin_bl I q dec_bl)
    | str j => obtain ⟨t', rfl⟩ := ry; exact PySem.EqMixed.eq_bool_str (fin_bl I q (by simp))
    | _ => exact absurd (show false = true from hs) Bool.false_ne_true
  | int i =>
    obtain ⟨t, rfl⟩ := rx
    cases y with
    | non => cases ry; exact PySem.EqNone.eq_int_none (fin_bl I q (by simp))
    | int j => obtain ⟨t', rfl⟩ := ry; exact eq_int (fin_bl I q dec_int)
    | str j => obtain ⟨t', rfl⟩ := ry; exact PySem.EqMixed.eq_int_str (fin_bl I q (by simp))
    | _ => exact absurd (show false = true from hs) Bool.false_ne_true
  | str i =>
    obtain ⟨t, rfl⟩ := rx
    cases y with
    | non => cases ry; exact PySem.EqNone.eq_str_none (fin_bl I q (by simp))
    | bl j => cases ry; exact PySem.EqMixed.eq_str_bool (fin_bl I q (by simp))
    | int j => obtain ⟨t', rfl⟩ := ry; exact PySem.EqMixed.eq_str_int (fin_bl I q (by simp))
    | str j => obtain ⟨t', rfl⟩ := ry; exact eq_str (fin_bl I q dec_str)
    | _ => exact absurd (show false = true from hs) Bool.false_ne_true
  | byt i =>
    obtain ⟨t, rfl⟩ := rx
    cases y with
    | byt j => obtain ⟨t', rfl⟩ := ry; exact PySem.W.eq_bytes (fin_bl I q dec_byt)
    | _ => exact absurd (show false = true from hs) Bool.false_ne_true
  | _ => cases y <;> exact absurd (show false = true from hs) Bool.false_ne_true
theorem op_ne : OpR X (compareOp .NotEq) rNe := by
  intro pins s σ H x y v u Q I rx ry h
  obtain ⟨hs, q⟩ := h
  cases x with
  | non =>
    cases rx
    cases y with
    | non => cases ry; exact PySem.EqNone.ne_none_none (fin_bl I q (by simp))
    | bl j => cases ry; exact PySem.EqNone.ne_none_bool (fin_bl I q (by simp))
    | int j => obtain ⟨t', rfl⟩ := ry; exact PySem.EqNone.ne_none_int (fin_bl I q (by simp))
    | str j => obtain ⟨t', rfl⟩ := ry; exact PySem.EqNone.ne_none_str (fin_bl I q (by simp))
    | _ => exact absurd (show false = true from hs) Bool.false_ne_true
  | bl i =>
    cases rx
    cases y with
    | non => cases ry; exact PySem.EqNone.ne_bool_none (fin_bl I q (by simp))
    | bl j => cases ry; exact ne_bool (fin_bl I q (congrArg not dec_bl))
    | str j => obtain ⟨t', rfl⟩ := ry; exact PySem.EqMixed.ne_bool_str (fin_bl I q (by simp))
    | _ => exact absurd (show false = true from hs) Bool.false_ne_true
  | int i =>
    obtain ⟨t, rfl⟩ := rx
    cases y with
    | non => cases ry; exact PySem.EqNone.ne_int_none (fin_bl I q (by simp))
    | int j => obtain ⟨t', rfl⟩ := ry; exact ne_int (fin_bl I q (congrArg not dec_int))
    | str j => obtain ⟨t', rfl⟩ := ry; exact PySem.EqMixed.ne_int_str (fin_bl I q (by simp))
    | _ => exact absurd (show false = true from hs) Bool.false_ne_true
  | str i =>
    obtain ⟨t, rfl⟩ := rx
    cases y with
    | non => cases ry; exact PySem.EqNone.ne_str_none (fin_bl I q (by simp))
    | bl j => cases ry; exact PySem.EqMixed.ne_str_bool (fin_bl I q (by simp))
    | int j => obtain ⟨t', rfl⟩ := ry; exact PySem.EqMixed.ne_str_int (fin_bl I q (by simp))
    | str j => obtain ⟨t', rfl⟩ := ry; exact ne_str (fin_bl I q (congrArg not dec_str))
    | _ => exact absurd (show false = true from hs) Bool.false_ne_true
  | byt i =>
    obtain ⟨t, rfl⟩ := rx
    cases y with
    | byt j => obtain ⟨t', rfl⟩ := ry; exact PySem.W.ne_bytes (fin_bl I q (congrArg not dec_byt))
    | _ => exact absurd (show false = true from hs) Bool.false_ne_true
  | _ => cases y <;> exact absurd (show false = true from hs) Bool.false_ne_true

theorem op_lt : OpR X (compareOp .Lt) (rI0 fun i j => .bl (decide (i < j))) := opB0 fun _ _ _ _ _ _ _ q => lt_int q
theorem op_le : OpR X (compareOp .LtE) (rI0 fun i j => .bl (decide (i ≤ j))) := opB0 fun _ _ _ _ _ _ _ q => le_int q
theorem op_gt : OpR X (compareOp .Gt) (rI0 fun i j => .bl (decide (j < i))) := opB0 fun _ _ _ _ _ _ _ q => gt_int q


/-- is, is not of two objects that are tracked lists or instances -/
def isObj : HO → Bool
  | .lst _ => true
  | .ins _ _ _ => true
  | _ => false


theorem nomark (b : Expr) {op : CmpOp} (h : op ≠ .In := by decide) (h2 : op ≠ .NotIn := by decide) : behindInMarks op b = false := by
  have e1 : (op == CmpOp.In) = false := by cases op <;> first | rfl | exact absurd rfl h
  have e2 : (op == CmpOp.NotIn) = false := by cases op <;> first | rfl | exact absurd rfl h2
  cases b <;> simp [behindInMarks, e1, e2]
/-- a comparison as a value; hm: nomark b, or (for in, not in) by with_unfolding_all rfl -/
theorem pe_cmpR {op : CmpOp} {r : R2} (ho : OpR X (compareOp op) r) (ha : PE X a ta) (hb : PE X b tb) (hm : behindInMarks op b = false) : PE X (.Compare a [op] [b] pos) (tOp r ta tb) := by
  intro pins s σ H Q I h
  exact wpAny_Compare1 (binT ha hb I h fun v u s2 x y H2 I2 rx ry q => ho pins s2 σ H2 x y v u Q I2 rx ry q) hm
/-- a reading of a value as a test -/
def tTest (t : TE) : TT := fun σ H Q => t σ H fun x H' => ∃ k, x = .bl k ∧ Q k H'
theorem pt_cmpR {op : CmpOp} {r : R2} (ho : OpR X (compareOp op) r) (ha : PE X a ta) (hb : PE X b tb) (hm : behindInMarks op b = false) : PT X (.Compare a [op] [b] pos) (tTest (tOp r ta tb)) := by
  intro pins s σ H Q I h
  refine wpAny_isTrue_Compare1 (thn (ha pins s σ H _ I h) fun v s1 ⟨x, H1, I1, r1, q1⟩ => thn (hb pins s1 σ H1 _ I1 q1) fun u s2 ⟨y, H2, I2, r2, q2⟩ =>
    thn (ho pins s2 σ H2 x y v u _ I2 r1 r2 q2) fun c s3 ⟨z, H3, I3, r3, k, e, q3⟩ => ?_) hm
  subst e
  cases r3
  exact wpAny_truthy_bool ⟨H3, I3, q3⟩
/-- a op1 b op2 c -/
def tChain (r r' : R2) (ta tb tc : TE) : TE := fun σ H Q => ta σ H fun x H1 => tb σ H1 fun y H2 => r x y H2 fun z H3 => ∃ k, z = .bl k ∧
  (if k = true then tc σ H3 fun w' H4 => r' y w' H4 Q else Q (.bl false) H3)
theorem pe_chain {op op' : CmpOp} {r r' : R2} (ho : OpR X (compareOp op) r) (ho' : OpR X (compareOp op') r') (ha : PE X a ta) (hb : PE X b tb) (hc : PE X c tc)
    (hm : lastMarks [op, op'] [b, c] = false := by with_unfolding_all rfl) : PE X (.Compare a [op, op'] [b, c] pos) (tChain r r' ta tb tc) := by
  intro pins s σ H Q I h
  refine Compare_chain (thn (ha pins s σ H _ I h) fun v s1 ⟨x, H1, I1, r1, q1⟩ => chain_link (thn (hb pins s1 σ H1 _ I1 q1) fun u s2 ⟨y, H2, I2, r2, q2⟩ =>
    thn (ho pins s2 σ H2 x y v u _ I2 r1 r2 q2) fun d s3 ⟨z, H3, I3, r3, k, e, q3⟩ => ?_)) hm
  subst e
  cases r3
  refine wpAny_truthy_bool ?_
  cases k with
  | false => exact ite_ff ⟨.bl false, H3, I3, rfl, q3⟩
  | true => exact ite_tt (chain_last (thn (hc pins s3 σ H3 _ I3 q3) fun w' s4 ⟨z', H4, I4, r4, q4⟩ => ho' pins s4 σ H4 y z' u w' Q I4 r2 r4 q4))
theorem pt_chain {op op' : CmpOp} {r r' : R2} (ho : OpR X (compareOp op) r) (ho' : OpR X (compareOp op') r') (ha : PE X a ta) (hb : PE X b tb) (hc : PE X c tc)
    (hm : lastMarks [op, op'] [b, c] = false := by with_unfolding_all rfl) : PT X (.Compare a [op, op'] [b, c] pos) (tTest (tChain r r' ta tb tc)) := by
  intro pins s σ H Q I h
  refine isTrue_chain (thn (ha pins s σ H _ I h) fun v s1 ⟨x, H1, I1, r1, q1⟩ => test_link (thn (hb pins s1 σ H1 _ I1 q1) fun u s2 ⟨y, H2, I2, r2, q2⟩ =>
    thn (ho pins s2 σ H2 x y v u _ I2 r1 r2 q2) fun d s3 ⟨z, H3, I3, r3, k, e, q3⟩ => ?_)) hm
  subst e
  cases r3
  refine wpAny_truthy_bool ?_
  cases k with
  | false =>
    obtain ⟨k', e', q'⟩ := q3
    cases e'
    exact ite_ff ⟨H3, I3, q'⟩
  | true =>
    refine ite_tt (test_last (thn (hc pins s3 σ H3 _ I3 q3) fun w' s4 ⟨z', H4, I4, r4, q4⟩ => thn (ho' pins s4 σ H4 y z' u w' _ I4 r2 r4 q4) fun d' s5 ⟨z2, H5, I5, r5, k2, e2, q5⟩ => ?_))
    subst e2
    cases r5
    exact wpAny_truthy_bool ⟨H5, I5, q5⟩

/-! ### truth -/
/-- a value's truth by the abstract heap -/
def TruV (K : PySem.W.Frag) (x : V) (H : Hp) (k : Bool) : Prop :=
  match x with
  | .non => k = false
  | .bl b => k = b
  | .int i => k = (i != 0)
  | .str y => y.length ≤ sizeLine ∧ k = ((y.length : Int) != 0)
  | .byt y => y.size ≤ sizeLine ∧ k = ((y.size : Int) != 0)
  | .ref p => (∃ xs, SqL K H p xs ∧ k = !xs.isEmpty) ∨ (∃ xs, SqT K H p xs ∧ k = !xs.isEmpty) ∨ ∃ kvs, H p = some (.dK kvs) ∧ k = !kvs.isEmpty
  | _ => False
theorem isEmpty_kv {κ : Type} {kvs : List (κ × V)} {vs : List (κ × Value)} (r : KV kvs vs) : (!vs.isEmpty) = !kvs.isEmpty := by
  cases r <;> rfl
theorem isEmpty_of {xs : List V} {its : List Value} (r : Vals xs its) : (!its.toArray.isEmpty) = !xs.isEmpty := by
  cases r <;> simp
theorem line63 : (sizeLine : Nat) < 2 ^ 63 := by rw [sizeLine_eq]; decide
theorem tru_ok : TruR X (fun x H Q => ∃ k, TruV X.K x H k ∧ Q k H) := by
  intro pins s σ H x v Q I rx h
  obtain ⟨k, e, q⟩ := h
  have hl := line63
  have hs : sizeLine = 16777216 := sizeLine_eq
  cases x with
  | non =>
    cases rx
    have e' : k = false := e
    subst e'
    exact truthy_none ⟨H, I, q⟩
  | bl b =>
    cases rx
    have e' : k = b := e
    subst e'
    exact wpAny_truthy_bool ⟨H, I, q⟩
  | int i =>
    obtain ⟨t, rfl⟩ := rx
    have e' : k = (i != 0) := e
    subst e'
    exact PySem.P.truthy_int ⟨H, I, q⟩
  | str y =>
    obtain ⟨t, rfl⟩ := rx
    obtain ⟨hy, e'⟩ : y.length ≤ sizeLine ∧ k = ((y.length : Int) != 0) := e
    subst e'
    exact PySem.P.truthy_str (by omega) ⟨H, I.tok _, q⟩
  | byt y =>
    obtain ⟨t, rfl⟩ := rx
    obtain ⟨hy, e'⟩ : y.size ≤ sizeLine ∧ k = ((y.size : Int) != 0) := e
    subst e'
    exact PySem.W.truthy_bytes (by omega) ⟨H, I.tok _, q⟩
  | ref p =>
    cases rx
    have e' : (∃ xs, SqL X.K H p xs ∧ k = !xs.isEmpty) ∨ (∃ xs, SqT X.K H p xs ∧ k = !xs.isEmpty) ∨ ∃ kvs, H p = some (.dK kvs) ∧ k = !kvs.isEmpty := e
    rcases e' with ⟨xs, hx, e'⟩ | ⟨xs, hx, e'⟩ | ⟨kvs, hx, e'⟩
    · subst e'
      obtain ⟨its, r, pl, hz⟩ := I.list hx
      have hlen := r.length
      exact wpAny_truthy_list pl.isList (by simp only [List.size_toArray]; omega) ⟨H, I.tok _, by rw [isEmpty_of r]; exact q⟩
    · subst e'
      obtain ⟨its, r, pl, hz⟩ := I.tuple hx
      have hlen := r.length
      exact truthy_tuple pl (by simp only [List.size_toArray]; omega) ⟨H, I.tok _, by rw [isEmpty_of r]; exact q⟩
    · subst e'
      obtain ⟨hz, hS, vs, r, m⟩ : kvs.length ≤ sizeLine ∧ (p == sysModules) = false ∧ ∃ vs, KV kvs vs ∧ s.heap.DictOf (mixKind X.prog X.w) p vs := I.hok p _ hx
      have hlen : kvs.length = vs.length := Paired.length r
      exact wpAny_truthy_dict hS m (by omega) ⟨H, I.tok _, by rw [isEmpty_kv r]; exact q⟩
  | _ => exact (show False from e).elim
/-- any expression whose test is its value's truth (a name, a call, a subscript, a field ..: he by fun _ => rfl) -/
theorem pt_truth (ha : PE X a ta) (he : ∀ whole, isTrue a X.env whole = (do let v ← whole; standAt a.pos; holding [v] (truthy v))) :
    PT X a (fun σ H Q => ta σ H fun x H' => ∃ k, TruV X.K x H' k ∧ Q k H') := by
  intro pins s σ H Q I h
  exact isTrue_plain (thn (ha pins s σ H _ I h) fun v s1 ⟨x, H1, I1, r1, q1⟩ => tru_ok pins s1 σ H1 x v Q I1 r1 q1) (he _)

/-! ### strs and bytes -/

def PlainIxT (b : Expr) : Prop := ∀ o i, subscripted b false o i = operate [o, i] (getItem o i)

/-! ### scalar builtins, by CallR -/
theorem vals1 {x : V} {us : List Value} (r : Vals [x] us) : ∃ u, us = [u] ∧ RelV x u := by
  cases r with
  | cons r1 r2 => cases r2; exact ⟨_, rfl, r1⟩
theorem vals2 {x y : V} {us : List Value} (r : Vals [x, y] us) : ∃ u w', us = [u, w'] ∧ RelV x u ∧ RelV y w' := by
  cases r with
  | cons r1 r2 =>
    cases r2 with
    | cons r3 r4 => cases r4; exact ⟨_, _, rfl, r1, r3⟩
theorem call_max2 (hc : X.calm = true) : CallR X (.builtin "max") (fun xs H Q => ∃ i j, xs = [.int i, .int j] ∧ Q (.int (if j > i then j else i)) H) := by
  intro pins s σ H xs us Q I r h
  obtain ⟨i, j, rfl, q⟩ := h
  obtain ⟨u, w', rfl, ⟨t, rfl⟩, ⟨t', rfl⟩⟩ := vals2 r
  refine max_two_ints (I.ok.hd hc) fun h' tk k => ⟨_, H, I.kept k, ?_, q⟩
  by_cases hj : j > i
  · rw [if_pos hj, if_pos hj]; exact ⟨_, rfl⟩
  · rw [if_neg hj, if_neg hj]; exact ⟨_, rfl⟩
theorem call_min2 (hc : X.calm = true) : CallR X (.builtin "min") (fun xs H Q => ∃ i j, xs = [.int i, .int j] ∧ Q (.int (if j < i then j else i)) H) := by
  intro pins s σ H xs us Q I r h
  obtain ⟨i, j, rfl, q⟩ := h
  obtain ⟨u, w', rfl, ⟨t, rfl⟩, ⟨t', rfl⟩⟩ := vals2 r
  refine min_two_ints (I.ok.hd hc) fun h' tk k => ⟨_, H, I.kept k, ?_, q⟩
  by_cases hj : j < i
  · rw [if_pos hj, if_pos hj]; exact ⟨_, rfl⟩
  · rw [if_neg hj, if_neg hj]; exact ⟨_, rfl⟩
/-- len of a str, a bytes, a list, a tuple -/
def LenV (K : PySem.W.Frag) (x : V) (H : Hp) (n : Nat) : Prop :=
  match x with
  | .str y => y.length ≤ sizeLine ∧ n = y.length
  | .byt y => y.size ≤ sizeLine ∧ n = y.size
  | .ref p => (∃ xs, SqL K H p xs ∧ n = xs.length) ∨ ∃ xs, SqT K H p xs ∧ n = xs.length
  | _ => False
end
end L2

namespace L2
open PySem PySem.Spec PyProof.Rows

/-! ### an instance, its attributes a map -/
structure ObjM (h : Heap) (x dx C : Addr) (mA : Str → Option Value) : Prop where
  obj : h.get? x = some (PySem.W.instObj C dx)
  ns : h.Ns1 dx mA
  ne : dx ≠ x

theorem lookIn_ns {h : Heap} {dx : Addr} {mA : Str → Option Value} (n : h.Ns1 dx mA) : ∃ od, h.get? dx = some od ∧ ∀ name, PySem.W.lookIn name od = some (mA name) := by
  obtain ⟨o, es, ep, ho, hd, hk, _, hm⟩ := n
  refine ⟨o, ho, fun name => ?_⟩
  have e := hm name
  unfold nsFind findBy at e
  rw [← Array.find?_toList] at e
  unfold PySem.W.lookIn
  rw [hd]
  dsimp only
  split
  · rename_i y q
    rw [q] at e
    exact congrArg some e
  · rename_i q
    rw [q] at e
    have a : es.toList.any (·.refKey) = false := by
      rw [List.any_eq_false]
      intro y hy
      obtain ⟨z, t, hkey⟩ := hk y (Array.mem_toList_iff.mp hy)
      simp [DictEntry.refKey, hkey]
    have a' : ¬ es.toList.any (·.refKey) = true := by rw [a]; exact Bool.false_ne_true
    rw [if_neg a']
    exact congrArg some e

theorem ObjM.look {h : Heap} {x dx C : Addr} {mA : Str → Option Value} (I : ObjM h x dx C mA) : ∃ od, PySem.W.InstAt h x (PySem.W.instObj C dx) C (some od) ∧ ∀ name, PySem.W.lookIn name od = some (mA name) :=
  let ⟨od, ho, hl⟩ := lookIn_ns I.ns
  ⟨od, ⟨I.obj, rfl, rfl, ho⟩, hl⟩

section
variable {prog : Program} {w : World} {A : Around} {E : Value → Shared → Prop} {s : Shared} {K : PySem.W.Frag} {x dx C f : Addr} {mA : Str → Option Value} {name : Str} {v : Value}

theorem get_map {expr : Bool} {Q : Value → Shared → Prop} (X : K.In s.heap) (I : ObjM s.heap x dx C mA) (hg : PySem.W.plainGet K C name = true) (hh : PySem.W.hasDictIn K C = true)
    (ha : PySem.W.findIn K (.ref C) name = some none) (hv : mA name = some v) (hv' : PySem.W.handedIn v = true) (h : Q v { s with toks := s.toks + 1 }) :
    wpAny (model prog w) A (getAttr (.ref x) name expr) Q E s := by
  obtain ⟨od, J, hl⟩ := I.look
  exact PySem.W.get_value X J (PySem.W.plainGet_of hg).1 (PySem.W.findObj_own hh ha rfl (by rw [hl, hv])) hv' h


theorem get_meth {pl : Sem Bool} {Q : Value × List Value → Shared → Prop} (X : K.In s.heap) (I : ObjM s.heap x dx C mA) (hg : PySem.W.plainGet K C name = true)
    (hf : PySem.W.findIn K (.ref C) name = some (some (.ref f))) (ht : PySem.W.isFn K (.ref f) = true) (hv : mA name = none) (h : Q (.ref f, [.ref x]) s) :
    wpAny (model prog w) A (getMethod (.ref x) name pl) Q E s := by
  obtain ⟨od, J, hl⟩ := I.look
  exact PySem.W.method_fn X J (PySem.W.plainGet_of hg).1 (PySem.W.plainGet_of hg).2 hf (beq_iff_eq.mp ht) (by show (PySem.W.lookIn name od).map (·.isSome) = some false; rw [hl, hv]; rfl) h

theorem set_map {ns : List Str} {Q : Unit → Shared → Prop} (X : K.In s.heap) (I : ObjM s.heap x dx C mA)
    (hs : PySem.W.findIn K (.ref C) "__setattr__" = some (some (.builtin "object.__setattr__"))) (hp : PySem.W.plainOver K C = true) (ht : PySem.W.takerIn K C name = some none) (hh : PySem.W.hasDictIn K C = true)
    (hw : PySem.Within mA ns) (hsz : ns.length ≤ sizeLine)
    (h : ∀ h', ObjM h' x dx C (fun y => if y = name then some v else mA y) → Heap.SameBut dx s.heap h' → Q () { s with heap := h', toks := s.toks + 2 }) :
    wpAny (model prog w) A (setAttr (.ref x) name v) Q E s := by
  obtain ⟨od, J, hl⟩ := I.look
  refine PySem.W.set_plain X J hs (PySem.W.osa_open (s := { s with toks := s.toks + 1 }) (r := none) X J hp ht fun b => ?_)
  obtain ⟨cd, hc, hd'⟩ := PySem.W.any_some hh
  have hx : s.heap.get? x = some ⟨.ref C, some dx, .plain, #[]⟩ := I.obj
  refine wpAny_bind (wpAny_pure (wpAny_bind (wpAny_bind (wpAny_loadPart hx (wpAny_bind (PySem.W.Looks.here (s := { s with toks := s.toks + 1 }) (PySem.W.looks_clsIn X hc) ?_))))))
  rw [hd']
  refine wpAny_pure (a := some dx) (wpAny_bind (wpAny_pure (wpAny_bind ?_)))
  refine wpAny_nsSet1 (s := { s with toks := s.toks + 1 }) I.ns fun h' hn2 hs2 => ?_
  obtain ⟨oD, esD, epD, hoD, hdD, hcD⟩ := hn2.count (PySem.Within.cons name v hw)
  refine wpAny_bind (wpAny_lookBehind hoD (by rw [hdD]; exact pastItsLine_dict (Nat.le_trans hcD (by rw [List.length_cons]; omega))) ?_)
  exact wpAny_pure (h _ ⟨(hs2.2 _ (Ne.symm I.ne)).trans I.obj, hn2, I.ne⟩ hs2)

/-- C(..): the dict at the heap's end, the instance behind it; then its __init__ -/
theorem make_map {R : Result → Shared → Prop} {vs : List Value} {kw : List (Str × Value)} (X : K.In s.heap) (hm : PySem.W.makesIn K C = true)
    (hi : PySem.W.findIn K (.ref C) "__init__" = some (some (.ref f))) (hf : PySem.W.typeIn K (.ref f) = some (.type "function"))
    (h : codeAny (model prog w) (A.under (.builtin "type.__call__" ⟨.ref C :: vs, kw⟩)) (.call (.ref f) ⟨.ref (s.heap.objs.size + 1) :: vs, kw⟩) (PySem.W.InitBack (s.heap.objs.size + 1) R)
      { s with heap := (s.heap.push PySem.W.emptyDict).push (PySem.W.instObj C s.heap.objs.size) }) :
    codeAny (model prog w) A (.call (.ref C) ⟨vs, kw⟩) R s := by
  obtain ⟨hh, g, d, t, os⟩ := s
  exact PySem.W.make_core (PySem.W.makes_of X hm) (PySem.W.looks_findIn X hi) (fun self => PySem.W.bind_fn X self hf) (.inl rfl) h
end

/-! ### the attributes as a list of pairs -/
def putF (f : Str) (v : V) : List (Str × V) → List (Str × V)
  | [] => [(f, v)]
  | (g, x) :: r => if g = f then (g, v) :: r else (g, x) :: putF f v r
theorem lookup_putF (f g : Str) (v : V) : ∀ fs : List (Str × V), (putF f v fs).lookup g = if g = f then some v else fs.lookup g
  | [] => by
    show List.lookup g [(f, v)] = _
    by_cases h : g = f
    · have hb : (g == f) = true := beq_iff_eq.mpr h
      simp only [List.lookup, hb, if_pos h]
    · have hb : (g == f) = false := beq_eq_false_iff_ne.mpr h
      simp only [List.lookup, hb, if_neg h]
  | (k, x) :: r => by
    have ih := lookup_putF f g v r
    rw [show putF f v ((k, x) :: r) = (if k = f then (k, v) :: r else (k, x) :: putF f v r) from rfl]
    by_cases hk : k = f
    · rw [if_pos hk]
      by_cases h : g = k
      · have hb : (g == k) = true := beq_iff_eq.mpr h
        simp only [List.lookup, hb, if_pos (h.trans hk)]
      · have hb : (g == k) = false := beq_eq_false_iff_ne.mpr h
        simp only [List.lookup, hb, if_neg (fun e : g = f => h (e.trans hk.symm))]
    · rw [if_neg hk]
      by_cases h : g = k
      · have hb : (g == k) = true := beq_iff_eq.mpr h
        simp only [List.lookup, hb, if_neg (fun e : g = f => hk (h.symm.trans e))]
      · have hb : (g == k) = false := beq_eq_false_iff_ne.mpr h
        simp only [List.lookup, hb]
        exact ih
theorem keys_putF (f : Str) (v : V) : ∀ fs : List (Str × V), f ∈ (putF f v fs).map (·.1) ∧ ∀ g, g ∈ fs.map (·.1) → g ∈ (putF f v fs).map (·.1)
  | [] => ⟨by simp [putF], fun g h => by simp at h⟩
  | (k, x) :: r => by
    obtain ⟨i1, i2⟩ := keys_putF f v r
    rw [show putF f v ((k, x) :: r) = (if k = f then (k, v) :: r else (k, x) :: putF f v r) from rfl]
    by_cases hk : k = f
    · rw [if_pos hk]
      subst hk
      exact ⟨by simp, fun g h => by simpa using h⟩
    · rw [if_neg hk]
      refine ⟨?_, fun g h => ?_⟩
      · rw [List.map_cons]
        exact List.mem_cons_of_mem _ i1
      · rw [List.map_cons] at h ⊢
        rcases List.mem_cons.mp h with e | e
        · exact List.mem_cons.mpr (.inl e)
        · exact List.mem_cons_of_mem _ (i2 g e)
theorem length_putF (f : Str) (v : V) : ∀ fs : List (Str × V), (putF f v fs).length ≤ fs.length + 1
  | [] => by simp [putF]
  | (k, x) :: r => by
    have ih := length_putF f v r
    rw [show putF f v ((k, x) :: r) = (if k = f then (k, v) :: r else (k, x) :: putF f v r) from rfl]
    by_cases hk : k = f
    · rw [if_pos hk, List.length_cons, List.length_cons]; omega
    · rw [if_neg hk, List.length_cons, List.length_cons]; omega

theorem RelO.some_of {v : V} {o : Option Value} (r : RelO (some v) o) : ∃ u, o = some u ∧ RelV v u := by
  cases o with
  | none => exact (show False from r).elim
  | some u => exact ⟨u, rfl, r⟩
theorem RelO.none_of {o : Option Value} (r : RelO none o) : o = none := by
  cases o with
  | none => rfl
  | some u => exact (show False from r).elim
theorem handed_of {v : V} {u : Value} (r : RelV v u) : PySem.W.handedIn u = true := by
  cases v with
  | non => cases (show u = Value.none from r); rfl
  | bl b => cases (show u = Value.bool b from r); rfl
  | int i => obtain ⟨t, e⟩ := (show ∃ t, u = Value.int i t from r); cases e; rfl
  | str x => obtain ⟨t, e⟩ := (show ∃ t, u = Value.str x t from r); cases e; rfl
  | byt b => obtain ⟨t, e⟩ := (show ∃ t, u = Value.bytes b t from r); cases e; rfl
  | flt b => obtain ⟨t, e⟩ := (show ∃ t, u = Value.float b t from r); cases e; rfl
  | ref a => cases (show u = Value.ref a from r); rfl
  | ty n => cases (show u = Value.type n from r); rfl

section
variable {P : Program} {w : World} {H H' : Hp} {h h' : Heap} {a C dx : Addr} {fs fs' : List (Str × V)}
theorem ins_get (hok : HOk P w H h) (e : H a = some (.ins C dx fs)) : ∃ mA, ObjM h a dx C mA ∧ (∀ f, RelO (fs.lookup f) (mA f)) ∧ PySem.Within mA (fs.map (·.1)) ∧ fs.length ≤ 1000 ∧ H dx = some (.own a) := by
  obtain ⟨d, z, ne, ob, mA, n, r, q⟩ := (show ObjOk P w H h a (.ins C dx fs) from hok a _ e)
  exact ⟨mA, ⟨ob, n, ne⟩, r, q, z, d⟩
end

/-! ### what of the text a class must have -/
structure Cls (K : PySem.W.Frag) (C : Addr) : Prop where
  pg : PySem.W.plainGet K C Str.empty = true
  hd : PySem.W.hasDictIn K C = true
  po : PySem.W.plainOver K C = true
  sa : PySem.W.findIn K (.ref C) "__setattr__" = some (some (.builtin "object.__setattr__"))
theorem Cls.get {K : PySem.W.Frag} {C : Addr} (c : Cls K C) (f : Str) : PySem.W.plainGet K C f = true := c.pg
/-- no class of it has the name -/
def NoAttr (K : PySem.W.Frag) (C : Addr) (f : Str) : Prop := PySem.W.findIn K (.ref C) f = some none
theorem NoAttr.taker {K : PySem.W.Frag} {C : Addr} {f : Str} (n : NoAttr K C f) : PySem.W.takerIn K C f = some none := by
  unfold PySem.W.takerIn
  rw [show PySem.W.findIn K (.ref C) f = some none from n]
  rfl
/-- a constant of the class -/
structure Con (K : PySem.W.Frag) (C : Addr) (f : Str) (v : V) (u : Value) : Prop where
  at_ : PySem.W.findIn K (.ref C) f = some (some u)
  rel : RelV v u
  get : PySem.W.specialIn K u "__get__" = some none
  cp : PySem.W.copiedNames.contains f = false
/-- a method: a plain def of the class or of one above it -/
structure Meth (K : PySem.W.Frag) (C : Addr) (m : Str) (f : Addr) : Prop where
  at_ : PySem.W.findIn K (.ref C) m = some (some (.ref f))
  fn : PySem.W.isFn K (.ref f) = true
  kp : PySem.W.keepIn K (.ref f) = true

section
variable {X : Cx} {pins : List (Addr × Obj)} {σ : St} {H : Hp} {s : Shared} {a C dx : Addr} {fs : List (Str × V)} {f : Str} {v : V} {A : Around} {E : Value → Shared → Prop}

theorem getattr_ok {b : Bool} {Q : Value → Shared → Prop} (I : Inv X pins σ H s) (e : H a = some (.ins C dx fs)) (c : Cls X.K C) (n : NoAttr X.K C f) (l : fs.lookup f = some v)
    (h : ∀ u s', Inv X pins σ H s' → RelV v u → Q u s') : wpAny (model X.prog X.w) A (getAttr (.ref a) f b) Q E s := by
  obtain ⟨mA, O, r, _, _, _⟩ := ins_get I.hok e
  obtain ⟨u, hu, ru⟩ := RelO.some_of (v := v) (o := mA f) (by rw [← l]; exact r f)
  exact get_map I.kIn O (c.get f) c.hd n hu (handed_of ru) (h u _ (I.tok _) ru)


theorem getmeth_ok {m : Str} {g : Addr} {pl : Sem Bool} {Q : Value × List Value → Shared → Prop} (I : Inv X pins σ H s) (e : H a = some (.ins C dx fs)) (c : Cls X.K C) (k : Meth X.K C m g) (l : fs.lookup m = none)
    (h : Q (.ref g, [.ref a]) s) : wpAny (model X.prog X.w) A (getMethod (.ref a) m pl) Q E s := by
  obtain ⟨mA, O, r, _, _, _⟩ := ins_get I.hok e
  have hn : mA m = none := RelO.none_of (by rw [← l]; exact r m)
  exact get_meth I.kIn O (c.get m) k.at_ k.fn hn h

theorem setattr_ok {y : V} {u : Value} {Q : Unit → Shared → Prop} (I : Inv X pins σ H s) (e : H a = some (.ins C dx fs)) (c : Cls X.K C) (n : NoAttr X.K C f) (hl : fs.length < 1000) (ry : RelV y u)
    (h : ∀ s', Inv X pins σ (upd H a (.ins C dx (putF f y fs))) s' → Q () s') : wpAny (model X.prog X.w) A (setAttr (.ref a) f u) Q E s := by
  obtain ⟨mA, O, r, wi, _, ho⟩ := ins_get I.hok e
  have hz : (fs.map (·.1)).length ≤ sizeLine := by rw [List.length_map, sizeLine_eq]; omega
  refine set_map I.kIn O c.sa c.po n.taker c.hd wi hz fun h' O' sb => h _ ?_
  have hd : ∃ o, h'.get? dx = some o := let ⟨o, _, _, e', _⟩ := O'.ns; ⟨o, e'⟩
  refine I.write (x := a) (e := dx) (by rw [e]; exact True.intro) (.inr ho) (fun b q hb z => (sb.2 b hb).trans z) hd ?_
  refine ⟨by rw [upd_ne O.ne]; exact ho, ?_, O.ne, O'.obj, _, O'.ns, fun g => ?_, fun g hg => ?_⟩
  · have := length_putF f y fs; omega
  · show RelO ((putF f y fs).lookup g) (if g = f then some u else mA g)
    rw [lookup_putF]
    by_cases q : g = f
    · rw [if_pos q, if_pos q]; exact ry
    · rw [if_neg q, if_neg q]; exact r g
  · by_cases q : g = f
    · rw [q]; exact (keys_putF f y fs).1
    · refine (keys_putF f y fs).2 g (wi g fun z => hg ?_)
      show (if g = f then some u else mA g) = none
      rw [if_neg q]; exact z

/-- a new instance, tracked, without attributes -/
theorem Inv.made (I : Inv X pins σ H s) : Inv X pins σ (upd (upd H s.heap.objs.size (.own (s.heap.objs.size + 1))) (s.heap.objs.size + 1) (.ins C s.heap.objs.size []))
    { s with heap := (s.heap.push PySem.W.emptyDict).push (PySem.W.instObj C s.heap.objs.size) } := by
  have e1 : (s.heap.push PySem.W.emptyDict).get? s.heap.objs.size = some PySem.W.emptyDict := Heap.get?_push_size s.heap rfl
  have e2 : ((s.heap.push PySem.W.emptyDict).push (PySem.W.instObj C s.heap.objs.size)).get? (s.heap.objs.size + 1) = some (PySem.W.instObj C s.heap.objs.size) := by
    have := Heap.get?_push_size (s.heap.push PySem.W.emptyDict) (o := PySem.W.instObj C s.heap.objs.size) rfl
    rwa [Heap.size_push] at this
  have e3 : (s.heap.push PySem.W.emptyDict).Ns s.heap.objs.size (fun _ => none) := ⟨PySem.W.emptyDict, #[], _, e1, rfl, (fun e he => absurd he (by simp)), fun _ => rfl⟩
  have I1 := I.laid (a := s.heap.objs.size) (o := .own (s.heap.objs.size + 1)) (h' := s.heap.push PySem.W.emptyDict) (t' := s.toks) (fun b u q => Heap.get?_push_of_some _ q) (Nat.le_refl _) ⟨_, e1⟩
  refine I1.laid (a := s.heap.objs.size + 1) (o := .ins C s.heap.objs.size []) (t' := s.toks) (fun b u q => Heap.get?_push_of_some _ q) (Nat.le_of_eq (Heap.size_push _ _)) ?_
  have ne : s.heap.objs.size ≠ s.heap.objs.size + 1 := Nat.ne_of_lt (Nat.lt_succ_self _)
  refine ⟨by rw [upd_ne ne, upd_same], Nat.zero_le _, ne, e2, fun _ => none, (Heap.Ns1.of_empty e3).at fun o q => Heap.get?_push_of_some _ q, fun _ => True.intro, fun y hy => absurd rfl hy⟩

/-- e.f where nothing but the object is asked: through attributeBase (super) and the last hold -/
theorem attr_of {prog : Program} {w : World} {env : Env} {e : Expr} {f : Str} {pos : Pos} {s : Shared} {Q : Value → Shared → Prop} (hb : attributeBase e f env (eval e env) = eval e env)
    (h : wpAny (model prog w) A (eval e env) (fun o s₁ => wpAny (model prog w) A (getAttr o f true) Q E s₁) E s) : wpAny (model prog w) A (eval (.Attribute e f pos) env) Q E s :=
  Attribute_any_ h (by rw [arm_eval_Attribute, hb])
end

/-! ### readings and rules -/
/-- e.f, an attribute of the instance -/
def tFld (K : PySem.W.Frag) (ta : TE) (f : Str) : TE := fun σ H Q => ta σ H fun x H1 => ∃ a C dx fs v, x = .ref a ∧ H1 a = some (.ins C dx fs) ∧ Cls K C ∧ NoAttr K C f ∧ fs.lookup f = some v ∧ Q v H1
/-- e.f, a constant of the class -/
def tCon (K : PySem.W.Frag) (ta : TE) (f : Str) : TE := fun σ H Q => ta σ H fun x H1 => ∃ a C dx fs v u, x = .ref a ∧ H1 a = some (.ins C dx fs) ∧ Cls K C ∧ Con K C f v u ∧ fs.lookup f = none ∧ Q v H1
/-- e.f = value -/
def sFld (K : PySem.W.Frag) (ta tv : TE) (f : Str) : TS := fun D σ H => tv σ H fun y H1 => ta σ H1 fun x H2 => ∃ a C dx fs, x = .ref a ∧ H2 a = some (.ins C dx fs) ∧ Cls K C ∧ NoAttr K C f ∧ fs.length < 1000 ∧
  D.nx σ (upd H2 a (.ins C dx (putF f y fs)))
/-- an augmented operator on two values -/
def InOp (X : Cx) (op : Operator) (rd : V → V → Hp → VK → Prop) : Prop :=
  ∀ (pins : List (Addr × Obj)) (s : Shared) (σ : St) (H : Hp) (x y : V) (u v : Value) (Q : VK), Inv X pins σ H s → RelV x u → RelV y v → rd x y H Q → wpAny (model X.prog X.w) X.A (inplaceOp op u v) (EP X pins σ Q) X.xe s
/-- e.f op= value -/
def sFldAug (K : PySem.W.Frag) (ta tv : TE) (rd : V → V → Hp → VK → Prop) (f : Str) : TS := fun D σ H => ta σ H fun x H1 => ∃ a C dx fs v, x = .ref a ∧ H1 a = some (.ins C dx fs) ∧ Cls K C ∧ NoAttr K C f ∧ fs.lookup f = some v ∧
  tv σ H1 fun y H2 => rd v y H2 fun z H3 => ∃ dx' fs', H3 a = some (.ins C dx' fs') ∧ fs'.length < 1000 ∧ D.nx σ (upd H3 a (.ins C dx' (putF f z fs')))

section
variable {X : Cx} {o e value : Expr} {f : Str} {pos pos' tpos : Pos} {ta tv : TE}
theorem pe_fld (he : PE X e ta) (hb : attributeBase e f X.env (eval e X.env) = eval e X.env) : PE X (.Attribute e f pos) (tFld X.K ta f) := by
  intro pins s σ H Q I h
  refine attr_of hb (thn (he pins s σ H _ I h) fun u s1 ⟨x, H1, I1, rx, a, C, dx, fs, v, ex, ea, c, n, l, q⟩ => ?_)
  subst ex
  obtain rfl : u = Value.ref a := rx
  exact getattr_ok I1 ea c n l fun u' s2 I2 ru => ⟨v, H1, I2, ru, q⟩
theorem ps_fld (ha : PE X o ta) (hv : PE X value tv) (hs : swapsWith value (some (.Attribute o f pos')) pos.line X.env = pure false) : PS X (.Assign [.Attribute o f pos'] value pos) (sFld X.K ta tv f) := by
  intro pins s σ H D I h
  refine plainObj_wpAny_Assign_Attribute (thn (hv pins s σ H _ I h) fun u s1 ⟨y, H1, I1, ry, q⟩ => thn (ha pins s1 σ H1 _ I1 q) fun ov s2 ⟨x, H2, I2, rx, a, C, dx, fs, ex, ea, c, n, l, q2⟩ => ?_) hs
  subst ex
  obtain rfl : ov = Value.ref a := rx
  exact setattr_ok I2 ea c n l ry fun s3 I3 => ⟨σ, _, I3, q2⟩
def rAdd : V → V → Hp → VK → Prop := fun x y H Q => ∃ i j, x = .int i ∧ y = .int j ∧ Q (.int (i + j)) H
def rSub : V → V → Hp → VK → Prop := fun x y H Q => ∃ i j, x = .int i ∧ y = .int j ∧ Q (.int (i - j)) H

end

/-! ### isinstance -/
section
variable {X : Cx} {pins : List (Addr × Obj)} {σ : St} {H : Hp} {s : Shared} {A : Around} {E : Value → Shared → Prop} {Q : Value → Shared → Prop} {c : Value} {b : Bool}
/-- the type of a value, as the fragment's deciders take it; for an instance its class -/
inductive TyOf (K : PySem.W.Frag) (H : Hp) : V → Value → Prop where
  | non : TyOf K H .non (.type "NoneType")
  | bl (x : Bool) : TyOf K H (.bl x) (.type "bool")
  | int (i : Int) : TyOf K H (.int i) (.type "int")
  | str (x : Str) : TyOf K H (.str x) (.type "str")
  | flt (x : UInt64) : TyOf K H (.flt x) (.type "float")
  | lst {a : Addr} {xs : List V} (e : H a = some (.lst xs)) : TyOf K H (.ref a) (.type "list")
  | frz {a : Addr} {o : Obj} {xs : List V} (e : H a = some (.frz o (.lst xs))) : TyOf K H (.ref a) (.type "list")
  | tup {a : Addr} {xs : List V} (e : H a = some (.tup xs)) : TyOf K H (.ref a) (.type "tuple")
  | dK {a : Addr} {kvs : List (Key × V)} (e : H a = some (.dK kvs)) : TyOf K H (.ref a) (.type "dict")
  | dT {a : Addr} {kvs : List (List Key × V)} (e : H a = some (.dT kvs)) : TyOf K H (.ref a) (.type "dict")
  | ins {a C dx : Addr} {fs : List (Str × V)} (e : H a = some (.ins C dx fs)) (cl : Cls K C) (ha : PySem.W.findIn K (.ref C) "__class__" = some (some (.builtin "object.__class__")))
      (hn : PySem.W.specialIn K (.builtin "object.__class__") "__get__" = some (some (.builtin "getset_descriptor.__get__"))) (htk : PySem.W.takesIn K (.builtin "object.__class__") = some true)
      (hm : PySem.W.mroIn K C (.type "object") = some true) : TyOf K H (.ref a) (.ref C)
/-- isinstance(x, c) for one class c, a built-in or an own one: kitOne's answer -/
theorem isinst_ok {x : V} {u t : Value} (I : Inv X pins σ H s) (rx : RelV x u) (ty : TyOf X.K H x t) (e : PySem.W.kitOne X.K t c = some b) (h : ∀ tk, Q (.bool b) { s with toks := tk }) :
    wpAny (model X.prog X.w) A (call (.builtin "isinstance") [u, c]) Q E s := by
  cases ty with
  | non => cases (show u = Value.none from rx); exact PySem.W.kia_one PySem.W.kitx_none I.kIn True.intro e (fun z => nomatch z) h
  | bl y => cases (show u = Value.bool y from rx); exact PySem.W.kia_one PySem.W.kitx_bool I.kIn True.intro e (fun z => nomatch z) h
  | int i => obtain ⟨t, q⟩ := (show ∃ t, u = Value.int i t from rx); cases q; exact PySem.W.kia_one PySem.W.kitx_int I.kIn True.intro e (fun z => nomatch z) h
  | str y => obtain ⟨t, q⟩ := (show ∃ t, u = Value.str y t from rx); cases q; exact PySem.W.kia_one PySem.W.kitx_str I.kIn True.intro e (fun z => nomatch z) h
  | flt y => obtain ⟨t, q⟩ := (show ∃ t, u = Value.float y t from rx); cases q; exact PySem.W.kia_one PySem.W.kitx_float I.kIn True.intro e (fun z => nomatch z) h
  | @lst a xs ea =>
    cases (show u = Value.ref a from rx)
    obtain ⟨_, _, n, _, h1⟩ := (show ObjOk X.prog X.w H s.heap a (.lst xs) from I.hok a _ ea)
    exact PySem.W.kia_one PySem.W.kitx_list I.kIn ⟨_, h1, rfl⟩ e (fun z => nomatch z) h
  | @frz a ob xs ea =>
    cases (show u = Value.ref a from rx)
    obtain ⟨_, _, _, n, _, h1⟩ := (show ObjOk X.prog X.w H s.heap a (.frz ob (.lst xs)) from I.hok a _ ea)
    exact PySem.W.kia_one PySem.W.kitx_list I.kIn ⟨_, h1, rfl⟩ e (fun z => nomatch z) h
  | @tup a xs ea =>
    cases (show u = Value.ref a from rx)
    obtain ⟨_, _, _, p⟩ := (show ObjOk X.prog X.w H s.heap a (.tup xs) from I.hok a _ ea)
    obtain ⟨o, h1, h2, _⟩ := p
    exact PySem.W.kia_one PySem.W.kitx_tuple I.kIn ⟨o, h1, h2⟩ e (fun z => nomatch z) h
  | @dK a kvs ea =>
    cases (show u = Value.ref a from rx)
    obtain ⟨_, _, vs, _, p⟩ := (show ObjOk X.prog X.w H s.heap a (.dK kvs) from I.hok a _ ea)
    obtain ⟨o, es, ep, h1, h2, _⟩ := p
    exact PySem.W.kia_one PySem.W.kitx_dict I.kIn ⟨o, h1, h2.1⟩ e (fun z => nomatch z) h
  | @dT a kvs ea =>
    cases (show u = Value.ref a from rx)
    obtain ⟨_, _, xs, _, o, es, ep, h1, h2, _⟩ := (show ObjOk X.prog X.w H s.heap a (.dT kvs) from I.hok a _ ea)
    exact PySem.W.kia_one PySem.W.kitx_dict I.kIn ⟨o, h1, h2.1⟩ e (fun z => nomatch z) h
  | @ins a C dx fs ea cl ha hn htk hm =>
    cases (show u = Value.ref a from rx)
    obtain ⟨mA, O, _⟩ := ins_get I.hok ea
    obtain ⟨od, J, _⟩ := O.look
    exact PySem.W.kia_one (PySem.W.kitx_own (cl.get _) cl.hd ha hn htk hm) I.kIn J e (fun z => nomatch z) h
end
end L2

namespace L2
open PySem PySem.Spec PyProof.Rows

/-! ### room -/
structure Room (k : Nat) (A : Around) : Prop where
  hd : A.handled = none
  dp : A.depth + 3 * k + 5 < recursionLimit
  un : A.units + 16 * k + 200 < cLine
theorem Room.mono {j k : Nat} {A : Around} (r : Room k A) (h : j ≤ k) : Room j A := ⟨r.hd, by have := r.dp; omega, by have := r.un; omega⟩
theorem Room.deeper {k : Nat} {A : Around} (r : Room (k + 1) A) (env : Env) : Room k (A.deeper env) :=
  ⟨r.hd, by have := r.dp; show A.depth + 1 + 3 * k + 5 < _; omega, by have := r.un; show A.units + 3 + 16 * k + 200 < _; omega⟩
theorem make_depth {A : Around} {C : Addr} {us : List Value} {kw : List (Str × Value)} : (A.under (.builtin "type.__call__" ⟨.ref C :: us, kw⟩)).depth = A.depth + 1 := by
  first | rfl | simp [Around.under, Code.weight, Code.isCreation, Code.isGuard, Code.isCaller, Code.frames, Code.isFrame, guardIds]
theorem make_units {A : Around} {C : Addr} {us : List Value} {kw : List (Str × Value)} : (A.under (.builtin "type.__call__" ⟨.ref C :: us, kw⟩)).units = A.units + 1 := by
  first | rfl | simp [Around.under, Code.cUnits, Code.frames, Code.isFrame]
theorem Room.make {k : Nat} {A : Around} (r : Room (k + 1) A) (C : Addr) (us : List Value) (kw : List (Str × Value)) : Room k (A.under (.builtin "type.__call__" ⟨.ref C :: us, kw⟩)) :=
  ⟨r.hd, by have := r.dp; rw [make_depth]; omega, by have := r.un; rw [make_units]; omega⟩
theorem Room.depth {k : Nat} {A : Around} (r : Room k A) : A.depth < recursionLimit := by have := r.dp; omega
theorem Room.units {k : Nat} {A : Around} (r : Room k A) : A.units + 64 < cLine := by have := r.un; omega

/-! ### argument lists and displays -/
def tNil : TA := fun _ H Q => Q [] H
def tCons (ta : TE) (tr : TA) : TA := fun σ H Q => ta σ H fun x H1 => tr σ H1 fun xs H2 => Q (x :: xs) H2
section
variable {X : Cx} {e : Expr} {es : List Expr} {te : TE} {t : TA} {pos : Pos}
theorem pa_nil : PA X [] tNil := fun _ _ _ _ H Q I h => Calls.spliced_nil ⟨[], H, I, .nil, h⟩
theorem pa_cons (ha : PE X e te) (hr : PA X es t) (hs : starEach (e :: es) X.env = (false, eval e X.env) :: starEach es X.env := by rfl) : PA X (e :: es) (tCons te t) := by
  intro pos pins s σ H Q I h
  rw [hs]
  show wpAny _ _ (spliced ((false, eval e X.env) :: backTo pos (starEach es X.env))) _ _ s
  refine Calls.spliced_cons (thn (ha pins s σ H _ I h) fun u s1 ⟨x, H1, I1, r1, q1⟩ => ?_)
  exact thn (hr pos pins s1 σ H1 _ I1 q1) fun us s2 ⟨xs, H2, I2, r2, q2⟩ => ⟨x :: xs, H2, I2, .cons r1 r2, q2⟩

/-- a tuple, a list of written items -/
def tTup (t : TA) : TE := fun σ H Q => t σ H fun xs H1 => xs.length ≤ sizeLine ∧ ∀ p, H1 p = none → Q (.ref p) (upd H1 p (.tup xs))
def tLst (t : TA) : TE := fun σ H Q => t σ H fun xs H1 => xs.length ≤ sizeLine ∧ ∀ p, H1 p = none → Q (.ref p) (upd H1 p (.lst xs))
theorem pe_tup {x1} (h : PA X es t) : PE X (.Tuple es x1 pos) (tTup t) := by
  intro pins s σ H Q I hq
  refine wpAny_Tuple_spliced (thn (h pos pins s σ H _ I hq) fun us s1 ⟨xs, H1, I1, r, z, q⟩ => ⟨by rw [← r.length]; exact z, ?_⟩)
  have hf : H1 s1.heap.objs.size = none := I1.hok.fresh (Nat.le_refl _)
  refine ⟨.ref s1.heap.objs.size, upd H1 s1.heap.objs.size (.tup xs), I1.laid (t' := s1.toks) (fun b u e => Heap.get?_push_of_some _ e) (Nat.le_refl _) ?_, rfl, q _ hf⟩
  exact ⟨z, us, r, ⟨_, Heap.get?_push_size _ rfl, rfl, _, rfl⟩⟩
theorem pe_lst (h : PA X es t) : PE X (.List es pos) (tLst t) := by
  intro pins s σ H Q I hq
  refine wpAny_List_spliced (thn (h pos pins s σ H _ I hq) fun us s1 ⟨xs, H1, I1, r, z, q⟩ => ⟨by rw [← r.length]; exact z, ?_⟩)
  have hf : H1 s1.heap.objs.size = none := I1.hok.fresh (Nat.le_refl _)
  refine ⟨.ref s1.heap.objs.size, upd H1 s1.heap.objs.size (.lst xs), I1.laid (t' := s1.toks) (fun b u e => Heap.get?_push_of_some _ e) (Nat.le_refl _) ?_, rfl, q _ hf⟩
  exact ⟨z, us, 0, r, Heap.get?_push_size _ rfl⟩
end

/-! ### what a def promises -/
/-- a def's promise: the bound arguments in the parameters' order, the heap, the wanted end, the wanted exception -/
abbrev Sp := List V → Hp → VK → XK → Prop
/-- how an exception lies behind a call (file 08 gives it): the callers' frames, abstract heap and state ahead of the call, the wish, the exception, the state -/
abbrev CXT := List Env → Hp → Shared → XK → Value → Shared → Prop

/-- the state at a call -/
structure Env0 (P : Program) (w : World) (K : PySem.W.Frag) (mg : Str → Option Value) (base : Heap) (A : Around) (outer : List Env) (s : Shared) (H : Hp) : Prop where
  frames : A.frames = some outer
  mod : Mod K mg base
  bs : ∀ b o, base.get? b = some o → s.heap.get? b = some o ∧ H b = none
  bsz : base.objs.size ≤ s.heap.objs.size
  funs : s.heap.FunFrames base outer
  frf : ∀ b ∈ frs outer, H b = none
  hok : HOk P w H s.heap
  bare : AllBare s.gens
/-- a call's end -/
def CE (outer : List Env) (P : Program) (w : World) (H : Hp) (s : Shared) (Q : VK) (u : Value) (s' : Shared) : Prop :=
  ∃ v H', s'.os = s.os ∧ AllBare s'.gens ∧ Un (frs outer) [] H H' s.heap s'.heap ∧ HOk P w H' s'.heap ∧ RelV v u ∧ Q v H'
def CR (CX : CXT) (outer : List Env) (P : Program) (w : World) (H : Hp) (s : Shared) (Q : VK) (E : XK) (r : Result) (s' : Shared) : Prop :=
  match r with
  | .ok (.ret u) => CE outer P w H s Q u s'
  | .ok _ => False
  | .error e => CX outer H s E e s'
structure FnOk (P : Program) (w : World) (K : PySem.W.Frag) (mg : Str → Option Value) (base : Heap) (CX : CXT) (k : Nat) (f : Addr) (fd : FuncData) (ps : List Str) (sp : Sp) : Prop where
  len : ∀ vs H Q E, sp vs H Q E → vs.length = ps.length
  run : ∀ (A : Around) (outer : List Env) (s : Shared) (H : Hp) (args : Args) (us : List Value) (vs : List V) (Q : VK) (E : XK), Room k A → Env0 P w K mg base A outer s H → BindsTo s fd args (ps.zip us) → Vals vs us → sp vs H Q E →
    codeAny (model P w) A (.call (.ref f) args) (CR CX outer P w H s Q E) s

theorem Env0.make {P : Program} {w : World} {K : PySem.W.Frag} {mg : Str → Option Value} {base : Heap} {A : Around} {outer : List Env} {s : Shared} {H : Hp} (e : Env0 P w K mg base A outer s H) (C : Addr) (us : List Value) (kw : List (Str × Value)) :
    Env0 P w K mg base (A.under (.builtin "type.__call__" ⟨.ref C :: us, kw⟩)) outer s H := ⟨by first | exact e.frames | (simpa [Around.under, Code.envs, Code.isFrame, pushEnvs] using e.frames), e.mod, e.bs, e.bsz, e.funs, e.frf, e.hok, e.bare⟩

section
variable {X : Cx} {pins : List (Addr × Obj)} {σ : St} {H : Hp} {s s' : Shared}
/-- from a body: what a callee wants -/
theorem Inv.env0 (I : Inv X pins σ H s) : Env0 X.prog X.w X.K X.mg X.base X.A X.stack s H :=
  ⟨I.ok.frames, I.ok.mod, I.bs, Nat.le_trans I.ok.bsz I.sz, I.stack, I.stkFree, I.hok, I.bare⟩
/-- behind a call -/
theorem Inv.after {Q : VK} {u : Value} (I : Inv X pins σ H s) (h : CE X.stack X.prog X.w H s Q u s') : EP X pins σ Q u s' := by
  obtain ⟨v, H', os, bare, un, hok, r, q⟩ := h
  obtain ⟨hh, g, d, t, os'⟩ := s'
  obtain rfl : os' = s.os := os
  exact ⟨v, H', I.call (h' := hh) (g' := g) (d' := d) (t' := t) (ch := []) un hok bare (fun b z => absurd z (by simp)), r, q⟩
end

/-! ### calls -/
/-- f(..): the written arguments, then the defaults dvs; E: what is wanted of an exception -/
def tCall (sp : Sp) (dvs : List V) (E : XK) (t : TA) : TE := fun σ H Q => t σ H fun vs H1 => sp (vs ++ dvs) H1 Q E
/-- o.m(..) of an instance of the class at C -/
def tMeth (C : Addr) (m : Str) (sp : Sp) (dvs : List V) (E : XK) (ta : TE) (t : TA) : TE := fun σ H Q => ta σ H fun x H1 => ∃ a dx fs, x = .ref a ∧ H1 a = some (.ins C dx fs) ∧ fs.lookup m = none ∧
  t σ H1 fun vs H2 => sp (x :: (vs ++ dvs)) H2 Q E
/-- C(..): a new instance and its dict, then __init__ -/
def tMake (C : Addr) (sp : Sp) (dvs : List V) (E : XK) (t : TA) : TE := fun σ H Q => t σ H fun vs H1 => ∀ x dx, H1 x = none → H1 dx = none → dx ≠ x →
  sp (.ref x :: (vs ++ dvs)) (upd (upd H1 dx (.own x)) x (.ins C dx [])) (fun v H2 => v = .non ∧ Q (.ref x) H2) E

/-- how the parameters are bound: us the positional arguments, kw the keywords' values by name, ds the defaults that fill up -/
def Binds (K : PySem.W.Frag) (fd : FuncData) (ps : List Str) (ds : List Value) : Prop :=
  ∀ (s : Shared) (us : List Value), K.In s.heap → (us ++ ds).length = ps.length → BindsTo s fd ⟨us, []⟩ (ps.zip (us ++ ds))
/-- every parameter is given -/
theorem Binds.all {K : PySem.W.Frag} {fd : FuncData} {ps : List Str} (h : ∀ us : List Value, us.length = ps.length → bindArgs fd ⟨us, []⟩ = pure (ps.zip us)) : Binds K fd ps [] := fun s us _ hl => by
  rw [List.append_nil] at hl ⊢
  exact .of_eq (h us hl)

/-- an exception of a callee reaches what this body wants of exceptions -/
def Passes (CX : CXT) (X : Cx) (E : XK) : Prop := ∀ (pins : List (Addr × Obj)) (σ : St) (H : Hp) (s : Shared) (e : Value) (s' : Shared), Inv X pins σ H s → CX X.stack H s E e s' → X.xe e s'

section
variable {X : Cx} {CX : CXT} {k : Nat} {f C : Addr} {fd : FuncData} {ps : List Str} {sp : Sp} {dvs : List V} {ds : List Value} {E : XK} {x m : Str} {p pos apos : Pos} {e o : Expr} {es : List Expr} {ta : TE} {t : TA}

/-- the callee runs -/
theorem run_fn {pins : List (Addr × Obj)} {σ : St} {H : Hp} {s : Shared} {Q : VK} {us : List Value} {vs : List V} (F : FnOk X.prog X.w X.K X.mg X.base CX k f fd ps sp) (hr : Room k X.A) (hb : Binds X.K fd ps ds) (hd : Vals dvs ds) (hx : Passes CX X E)
    (I : Inv X pins σ H s) (r : Vals vs us) (h : sp (vs ++ dvs) H Q E) : wpAny (model X.prog X.w) X.A (call (.ref f) us) (EP X pins σ Q) X.xe s := by
  have r2 : Vals (vs ++ dvs) (us ++ ds) := r.append hd
  have hl : (us ++ ds).length = ps.length := by rw [← r2.length]; exact F.len _ _ _ _ h
  refine wpAny_call (codeAny_mono (F.run X.A X.stack s H ⟨us, []⟩ (us ++ ds) (vs ++ dvs) Q E hr I.env0 (hb s us I.kIn hl) r2 h) fun r s' hq => ?_)
  cases r with
  | error e => exact hx pins σ H s e s' I hq
  | ok fl =>
    cases fl with
    | ret u => exact I.after hq
    | next => exact False.elim hq
    | brk => exact False.elim hq
    | cont => exact False.elim hq

theorem pe_call (F : FnOk X.prog X.w X.K X.mg X.base CX k f fd ps sp) (hr : Room k X.A) (hg : Gl X x) (hm : X.mg x = some (.ref f)) (hk : PySem.W.keepIn X.K (.ref f) = true) (hb : Binds X.K fd ps ds) (hd : Vals dvs ds) (hx : Passes CX X E)
    (ha : PA X (e :: es) t) (hdb : (x == ("__debug__" : Str)) = false := by decide) (he : starEach (e :: es) X.env = (false, eval e X.env) :: starEach es X.env := by rfl) (hpl : (backTo pos (starEach es X.env)).any (·.1) = false := by rfl) :
    PE X (.Call (.Name x p) (e :: es) [] pos) (tCall sp dvs E t) := by
  intro pins s σ H Q I h
  refine wpAny_Call_Name_kw (ld_glob I hg hm ?_ hdb)
  refine PySem.W.callWith_K (h₀ := X.base) I.ok.mod.kin hk (thn (ha pos pins s σ H _ I h) fun us s1 ⟨vs, H1, I1, r, q⟩ => ⟨I1.kIn, ?_⟩) he hpl
  exact run_fn F hr hb hd hx I1 r q

/-- o.m(e, ..) -/
theorem pe_meth {pl : Sem Bool} (he : PE X o ta) (c : Cls X.K C) (hm : Meth X.K C m f) (F : FnOk X.prog X.w X.K X.mg X.base CX k f fd ps sp) (hr : Room k X.A) (hb : Binds X.K fd ps ds) (hd : Vals dvs ds) (hx : Passes CX X E) (ha : PA X (e :: es) t)
    (hst : starEach (e :: es) X.env = (false, eval e X.env) :: starEach es X.env := by rfl) (hpl : (backTo pos (starEach es X.env)).any (·.1) = false := by rfl)
    (ht : eval (.Call (.Attribute o m apos) (e :: es) [] pos) X.env = (do
      let ov ← eval o X.env
      standAt apos.atName
      let (f, first) ← holding [ov] (getMethod ov m pl)
      callWith pos f first (backTo pos (starEach (e :: es) X.env)) (backToKw pos (keywordEach [] X.env))) := by rfl) :
    PE X (.Call (.Attribute o m apos) (e :: es) [] pos) (tMeth C m sp dvs E ta t) := by
  intro pins s σ H Q I h
  refine PySem.W.methodCall_KW (pl := pl) (thn (he pins s σ H _ I h) fun u s1 ⟨x, H1, I1, rx, a, dx, fs, ex, ea, l, q⟩ => ?_) ht
  subst ex
  obtain rfl : u = Value.ref a := rx
  refine getmeth_ok I1 ea c hm l ?_
  refine PySem.W.callWith_K (first := [.ref a]) (h₀ := X.base) I.ok.mod.kin hm.kp (thn (ha pos pins s1 σ H1 _ I1 q) fun us s2 ⟨vs, H2, I2, r, q2⟩ => ⟨I2.kIn, ?_⟩) hst hpl
  exact run_fn (us := .ref a :: us) (vs := .ref a :: vs) F hr hb hd hx I2 (.cons rfl r) q2
/-- o.m() -/
theorem pe_meth0 {pl : Sem Bool} (he : PE X o ta) (c : Cls X.K C) (hm : Meth X.K C m f) (F : FnOk X.prog X.w X.K X.mg X.base CX k f fd ps sp) (hr : Room k X.A) (hb : Binds X.K fd ps ds) (hd : Vals dvs ds) (hx : Passes CX X E)
    (ht : eval (.Call (.Attribute o m apos) [] [] pos) X.env = (do
      let ov ← eval o X.env
      standAt apos.atName
      let (f, first) ← holding [ov] (getMethod ov m pl)
      callWith pos f first (backTo pos (starEach [] X.env)) (backToKw pos (keywordEach [] X.env))) := by rfl) :
    PE X (.Call (.Attribute o m apos) [] [] pos) (tMeth C m sp dvs E ta tNil) := by
  intro pins s σ H Q I h
  refine PySem.W.methodCall_KW (pl := pl) (thn (he pins s σ H _ I h) fun u s1 ⟨x, H1, I1, rx, a, dx, fs, ex, ea, l, q⟩ => ?_) ht
  subst ex
  obtain rfl : u = Value.ref a := rx
  refine getmeth_ok I1 ea c hm l ?_
  exact PySem.W.callWith_K0 (first := [.ref a]) I1.kIn hm.kp (run_fn (us := [.ref a]) (vs := [.ref a]) F hr hb hd hx I1 (.cons rfl .nil) q)

/-- what a class must have to be made -/
structure Mk (K : PySem.W.Frag) (C f : Addr) : Prop where
  makes : PySem.W.makesIn K C = true
  init : PySem.W.findIn K (.ref C) "__init__" = some (some (.ref f))
  fn : PySem.W.isFn K (.ref f) = true
  kp : PySem.W.keepIn K (.ref C) = true

theorem run_make {pins : List (Addr × Obj)} {σ : St} {H : Hp} {s : Shared} {Q : VK} {us : List Value} {vs : List V} (M : Mk X.K C f) (F : FnOk X.prog X.w X.K X.mg X.base CX k f fd ps sp) (hr : Room (k + 1) X.A) (hb : Binds X.K fd ps ds) (hd : Vals dvs ds)
    (hx : Passes CX X E) (I : Inv X pins σ H s) (r : Vals vs us)
    (h : ∀ x dx, H x = none → H dx = none → dx ≠ x → sp (.ref x :: (vs ++ dvs)) (upd (upd H dx (.own x)) x (.ins C dx [])) (fun v H2 => v = .non ∧ Q (.ref x) H2) E) :
    wpAny (model X.prog X.w) X.A (call (.ref C) us) (EP X pins σ Q) X.xe s := by
  have hq := h (s.heap.objs.size + 1) s.heap.objs.size (I.hok.fresh (Nat.le_succ _)) (I.hok.fresh (Nat.le_refl _)) (Nat.ne_of_lt (Nat.lt_succ_self _))
  have I2 := Inv.made (C := C) I
  have r2 : Vals (V.ref (s.heap.objs.size + 1) :: (vs ++ dvs)) (Value.ref (s.heap.objs.size + 1) :: (us ++ ds)) := .cons rfl (r.append hd)
  have hl : (Value.ref (s.heap.objs.size + 1) :: us ++ ds).length = ps.length := by
    have e := r2.length
    rw [F.len _ _ _ _ hq] at e
    exact e.symm
  refine wpAny_call (make_map (f := f) I.kIn M.makes M.init (beq_iff_eq.mp M.fn) (codeAny_mono (F.run _ X.stack _ _ ⟨Value.ref (s.heap.objs.size + 1) :: us, []⟩ (Value.ref (s.heap.objs.size + 1) :: (us ++ ds)) _ _ E (hr.make C us [])
    (I2.env0.make C us []) (hb _ (Value.ref (s.heap.objs.size + 1) :: us) I2.kIn hl) r2 hq) fun r s' hq' => ?_))
  cases r with
  | error e => exact hx pins σ _ _ e s' I2 hq'
  | ok fl =>
    cases fl with
    | ret u =>
      obtain ⟨v, H', I3, rv, ev, q3⟩ := I2.after hq'
      subst ev
      exact ⟨rv, ⟨V.ref (s.heap.objs.size + 1), H', I3, rfl, q3⟩⟩
    | next => exact False.elim hq'
    | brk => exact False.elim hq'
    | cont => exact False.elim hq'
theorem pe_make (M : Mk X.K C f) (F : FnOk X.prog X.w X.K X.mg X.base CX k f fd ps sp) (hr : Room (k + 1) X.A) (hg : Gl X x) (hm : X.mg x = some (.ref C)) (hb : Binds X.K fd ps ds) (hd : Vals dvs ds) (hx : Passes CX X E)
    (ha : PA X (e :: es) t) (hdb : (x == ("__debug__" : Str)) = false := by decide) (he : starEach (e :: es) X.env = (false, eval e X.env) :: starEach es X.env := by rfl) (hpl : (backTo pos (starEach es X.env)).any (·.1) = false := by rfl) :
    PE X (.Call (.Name x p) (e :: es) [] pos) (tMake C sp dvs E t) := by
  intro pins s σ H Q I h
  refine wpAny_Call_Name_kw (ld_glob I hg hm ?_ hdb)
  refine PySem.W.callWith_K (h₀ := X.base) I.ok.mod.kin M.kp (thn (ha pos pins s σ H _ I h) fun us s1 ⟨vs, H1, I1, r, q⟩ => ⟨I1.kIn, ?_⟩) he hpl
  exact run_make M F hr hb hd hx I1 r q
end

/-! ### keywords -/
/-- the values of the keywords, from the left -/
def PK (X : Cx) (kws : List Keyword) (t : TA) : Prop :=
  ∀ (pos : Pos) (pins : List (Addr × Obj)) (s : Shared) (σ : St) (H : Hp) (Q : List V → Hp → Prop), Inv X pins σ H s → t σ H Q → wpAny (model X.prog X.w) X.A (evalAll ((backToKw pos (keywordEach kws X.env)).map (·.2))) (AP X pins σ Q) X.xe s
section
variable {X : Cx} {CX : CXT} {k : Nat} {f C : Addr} {fd : FuncData} {ps ks : List Str} {sp : Sp} {E : XK} {x m : Str} {p pos apos kpos : Pos} {e o : Expr} {es : List Expr} {kws : List Keyword} {te ta : TE} {t tk : TA} {nm : Option Str}

/-- how a call with keywords binds: g puts the positional values us and the keywords' values ws (names ks) in the parameters' order, defaults among them -/
structure KBinds (K : PySem.W.Frag) (fd : FuncData) (ps ks : List Str) (g : List Value → List Value → List Value) (gV : List V → List V → List V) : Prop where
  to : ∀ (s : Shared) (us ws : List Value), K.In s.heap → (g us ws).length = ps.length → BindsTo s fd ⟨us, ks.zip ws⟩ (ps.zip (g us ws))
  rel : ∀ {vs : List V} {us : List Value} {zs : List V} {ws : List Value}, Vals vs us → Vals zs ws → Vals (gV vs zs) (g us ws)
def tCallK (sp : Sp) (gV : List V → List V → List V) (E : XK) (t tk : TA) : TE := fun σ H Q => t σ H fun vs H1 => tk σ H1 fun zs H2 => sp (gV vs zs) H2 Q E
variable {g : List Value → List Value → List Value} {gV : List V → List V → List V}
end

/-! ### a def's body keeps its promise -/
/-- names: the parameters first -/
structure FnScope (N P : List Str) (sc : Scope) : Prop where
  kind : sc.kind = .function
  co : sc.isCoroutine = false
  gen : sc.isGenerator = false
  nd : N.Nodup
  pre : N.take P.length = P
  par : ∀ x ∈ P, sc.names.lookup x = some .local ∨ sc.names.lookup x = some .cell
  nofree : ∀ y ∈ sc.names, y.2 ≠ .free

theorem bindL_out {kindOf : Str → Option NameKind} {x : Str} : ∀ {binds : List (Str × Value)} {m : Str → Option Value}, (∀ v, (x, v) ∉ binds) → bindL kindOf binds m x = m x
  | [], _, _ => rfl
  | (n, v) :: r, m, h => by
    unfold bindL
    rw [bindL_out fun w hw => h w (List.mem_cons_of_mem _ hw)]
    split
    · have : x ≠ n := by rintro rfl; exact h v List.mem_cons_self
      simp [this]
    · rfl
theorem bindC_out {kindOf : Str → Option NameKind} {x : Str} : ∀ {binds : List (Str × Value)} {m : Str → Option Value}, (∀ v, (x, v) ∉ binds) → bindC kindOf binds m x = m x
  | [], _, _ => rfl
  | (n, v) :: r, m, h => by
    unfold bindC
    rw [bindC_out fun w hw => h w (List.mem_cons_of_mem _ hw)]
    split
    · rfl
    · have : x ≠ n := by rintro rfl; exact h v List.mem_cons_self
      simp [this]
theorem bindL_get {kindOf : Str → Option NameKind} {x : Str} {v : Value} : ∀ {P : List Str} {vs : List Value} {i : Nat} {m : Str → Option Value}, P.Nodup → P[i]? = some x → vs[i]? = some v → kindOf x = some .local →
    bindL kindOf (P.zip vs) m x = some v
  | [], _, _, _, _, h, _, _ => by simp at h
  | _ :: _, [], _, _, _, _, h, _ => by simp at h
  | p :: P, w :: vs, 0, m, nd, h1, h2, hk => by
    simp at h1 h2; subst h1; subst h2
    show bindL kindOf ((p, w) :: P.zip vs) m p = _
    unfold bindL
    rw [bindL_out fun v hv => (List.nodup_cons.mp nd).1 (List.of_mem_zip hv).1, if_pos hk]
    simp
  | p :: P, w :: vs, i + 1, m, nd, h1, h2, hk => by
    show bindL kindOf ((p, w) :: P.zip vs) m x = _
    unfold bindL
    exact bindL_get (i := i) (List.nodup_cons.mp nd).2 (by simpa using h1) (by simpa using h2) hk
theorem bindC_get {kindOf : Str → Option NameKind} {x : Str} {v : Value} : ∀ {P : List Str} {vs : List Value} {i : Nat} {m : Str → Option Value}, P.Nodup → P[i]? = some x → vs[i]? = some v → kindOf x ≠ some .local →
    bindC kindOf (P.zip vs) m x = some v
  | [], _, _, _, _, h, _, _ => by simp at h
  | _ :: _, [], _, _, _, _, h, _ => by simp at h
  | p :: P, w :: vs, 0, m, nd, h1, h2, hk => by
    simp at h1 h2; subst h1; subst h2
    show bindC kindOf ((p, w) :: P.zip vs) m p = _
    unfold bindC
    rw [bindC_out fun v hv => (List.nodup_cons.mp nd).1 (List.of_mem_zip hv).1, if_neg hk]
    simp
  | p :: P, w :: vs, i + 1, m, nd, h1, h2, hk => by
    show bindC kindOf ((p, w) :: P.zip vs) m x = _
    unfold bindC
    exact bindC_get (i := i) (List.nodup_cons.mp nd).2 (by simpa using h1) (by simpa using h2) hk

/-- the names' values at the entry -/
def start (N : List Str) (vs : List V) : St := vs.map some ++ List.replicate (N.length - vs.length) none

/-- the context of a def's body, at its entry; an exception leaves the frame, then lies as CX says -/
def cxOf (CX : CXT) (P : Program) (w : World) (K : PySem.W.Frag) (mg : Str → Option Value) (base : Heap) (N : List Str) (qual : Str) (scope : Scope) (f : Addr) (cd : Value) (A : Around) (outer : List Env) (s : Shared) (H : Hp) (E : XK) : Cx where
  prog := P
  w := w
  K := K
  mg := mg
  base := base
  A := A.deeper (envOfC qual scope s.heap.objs.size f cd)
  N := N
  s₀ := s
  H₀ := H
  env := envOfC qual scope s.heap.objs.size f cd
  outer := outer
  stack := envOfC qual scope s.heap.objs.size f cd :: outer
  ex := []
  calm := true
  fn := fun _ => true
  pn := []
  xe := fun e s' => wpAny (model P w) (A.deeper (envOfC qual scope s.heap.objs.size f cd)) (leaving (envOfC qual scope s.heap.objs.size f cd) e) (fun _ s'' => CX outer H s E e s'') (fun e' s'' => CX outer H s E e' s'') s'

theorem cell_has {sc : Scope} {n : Nat} {x : Str} (h : sc.names.lookup x = some .cell) : ∃ c, (cellsFrom n sc.names []).lookup x = some c := by
  have q := PySem.W.cellsFrom_some sc.names n [] (.inl h)
  exact Option.isSome_iff_exists.mp q

theorem inv_start {CX : CXT} {P : Program} {w : World} {K : PySem.W.Frag} {mg : Str → Option Value} {base : Heap} {N ps : List Str} {qual : Str} {scope : Scope} {f : Addr} {cd : Value} {A : Around} {outer : List Env} {s s1 : Shared} {H : Hp} {E : XK} {us : List Value} {vs : List V}
    (S : FnScope N ps scope) (hd : A.handled = none) (e0 : Env0 P w K mg base A outer s H) (hl : vs.length = ps.length) (r : Vals vs us)
    (x : InCallC s s.heap.objs.size (bindL (envOfC qual scope s.heap.objs.size f cd).kindOf (ps.zip us) fun _ => none) (cellsFrom (s.heap.objs.size + 1) scope.names []) (bindC (envOfC qual scope s.heap.objs.size f cd).kindOf (ps.zip us) fun _ => none) s1) :
    Inv (cxOf CX P w K mg base N qual scope f cd A outer s H E) [] (start N vs) H s1 := by
  have hpl : ps.length ≤ N.length := by have := congrArg List.length S.pre; rw [List.length_take] at this; omega
  obtain ⟨h1, tk, rfl, hk⟩ := x.done
  have noA : ∀ b : Addr, b ∉ (cxOf CX P w K mg base N qual scope f cd A outer s H E).ex := fun b z => absurd (show b ∈ ([] : List Addr) from z) (by simp)
  refine ⟨⟨e0.mod, S.kind, rfl, rfl, Nat.le_refl _, fun y z c h1 h2 => ?_, fun y hy => ?_, fun y c _ h => ?_, fun _ => hd, Around.frames_deeper e0.frames, .inr ⟨rfl, rfl⟩, fun b z => absurd z (noA b), e0.bs, e0.bsz, fun b _ _ => noA b, fun b z => absurd z (noA b), e0.funs, e0.frf⟩,
    rfl, e0.bare, Un.kept hk, ⟨_, x.toInCall.ns, fun i y v h1 h2 h3 => ?_⟩, fun y c h => ⟨_, x.cell y c h⟩, e0.hok.fresh (Nat.le_refl _), fun y c h => ?_, fun p hp => absurd (show p ∈ ([] : List (Addr × Obj)) from hp) (by simp), e0.hok.kept hk, ?_⟩
  · exact name_of_addr x.apart (PySem.mem_of_lookup h1) (PySem.mem_of_lookup h2)
  · have hy : scope.names.lookup y = some .cell ∨ scope.names.lookup y = some .free := hy
    rcases hy with hy | hy
    · exact cell_has hy
    · exact absurd rfl (S.nofree _ (PySem.mem_of_lookup hy))
  · exact Nat.le_of_lt (x.above y c (PySem.mem_of_lookup h))
  · have hi : i < vs.length := by
      unfold start at h2
      by_cases hi : i < vs.length
      · exact hi
      · rw [List.getElem?_append_right (by simpa using hi)] at h2
        rw [List.getElem?_replicate] at h2
        split at h2 <;> cases h2
    have ha : vs[i]? = some v := by
      unfold start at h2
      rw [List.getElem?_append_left (by simpa using hi), List.getElem?_map] at h2
      cases e : vs[i]? with
      | none => rw [e] at h2; cases h2
      | some a => rw [e] at h2; cases h2; rfl
    obtain ⟨u, hu, rv⟩ := r.get ha
    have hp : ps[i]? = some y := by
      rw [← S.pre, List.getElem?_take_of_lt (by omega)]; exact h1
    have ndP : ps.Nodup := by rw [← S.pre]; exact S.nd.sublist (List.take_sublist _ _)
    refine ⟨u, rv, ?_⟩
    rcases S.par y (List.mem_of_getElem? hp) with k | k
    · exact .inl ⟨k, bindL_get ndP hp hu k⟩
    · obtain ⟨c, e⟩ := cell_has (n := s.heap.objs.size + 1) k
      refine .inr ⟨.inl k, c, e, ?_⟩
      have q := x.cell y c e
      rw [bindC_get ndP hp hu (by show scope.names.lookup y ≠ _; rw [k]; decide)] at q
      exact q
  · exact e0.hok.fresh (Nat.le_of_lt (x.above y c (PySem.mem_of_lookup h)))
  · unfold start
    show _ = N.length
    rw [List.length_append, List.length_map, List.length_replicate]
    omega

/-- THE RULE: a def (or a method) of the text, by its body. The body's reading t is chosen for each entry; it is run at the parameters' values -/
theorem fn_of {CX : CXT} {P : Program} {w : World} {K : PySem.W.Frag} {mg : Str → Option Value} {base : Heap} {k : Nat} {f : Addr} {name qual : Str} {params : Arguments} {body : List Stmt} {scope : Scope} {dV kV doc pm cdv ct oc : Value} {an od : Option Addr}
    {osl : Array (Option Value)} {N ps : List Str} {sp : Sp} (lk : K.lookup f = some ⟨oc, od, .func (PySem.W.fnOf name qual params body scope dV kV doc pm an cdv ct), osl⟩) (hcd : PySem.W.codeIn K cdv qual = true) (S : FnScope N ps scope)
    (len : ∀ vs H Q E, sp vs H Q E → vs.length = ps.length)
    (hbody : ∀ (A : Around) (outer : List Env) (s : Shared) (H : Hp) (vs : List V) (Q : VK) (E : XK), Room k (A.deeper (envOfC qual scope s.heap.objs.size f cdv)) → sp vs H Q E →
      ∃ t, PSs (cxOf CX P w K mg base N qual scope f cdv A outer s H E) body t ∧ t { nx := fun _ H' => Q .non H', rt := Q } (start N vs) H) :
    FnOk P w K mg base CX (k + 1) f (PySem.W.fnOf name qual params body scope dV kV doc pm an cdv ct) ps sp := by
  refine ⟨len, fun A outer s H args us vs Q E hr e0 hb r hsp => ?_⟩
  have hl := len _ _ _ _ hsp
  have KX : K.In s.heap := e0.mod.kin.keeps fun b o e => (e0.bs b o e).1
  have lim : s.heap.NoLimit := e0.mod.nolimit.keeps fun b o e => (e0.bs b o e).1
  have hkind : ∀ y ∈ ps.zip us, scope.names.lookup y.1 = some .local ∨ (scope.names.lookup y.1 = some .cell ∧ ((cellsFrom (s.heap.objs.size + 1) scope.names []).lookup y.1).isSome = true) := fun ⟨n, v⟩ hy => by
    rcases S.par n (List.of_mem_zip hy).1 with q | q
    · exact .inl q
    · exact .inr ⟨q, PySem.W.cellsFrom_some _ _ _ (.inl q)⟩
  refine codeAny_call_function hr.depth (KX _ _ lk) rfl S.co S.gen rfl (PySem.W.codeRec_of KX hcd) (hb _ _ _ _ ?_)
  refine wpAny_newFunctionEnv_cells S.kind hkind fun env he s1 x => ?_
  subst he
  refine ⟨lim.keeps x.toInCall.keep, codeAny_func ?_⟩
  obtain ⟨t, ht, hq⟩ := hbody A outer s H vs Q E (hr.deeper _) hsp
  have I : Inv (cxOf CX P w K mg base N qual scope f cdv A outer s H E) [] (start N vs) H s1 := inv_start S hr.hd e0 hl r x
  refine wpAny_mono (ht [] s1 (start N vs) H _ I hq) (fun fl s' hs => ?_) fun e s' hs => hs
  have fin : ∀ {σ' : St} {H' : Hp} {v : V} {u : Value}, Inv (cxOf CX P w K mg base N qual scope f cdv A outer s H E) [] σ' H' s' → RelV v u → Q v H' → CE outer P w H s Q u s' :=
    fun {σ' H' v u} J rv q => ⟨v, H', J.os, J.bare, J.base, J.hok, rv, q⟩
  cases fl with
  | ret u =>
    obtain ⟨v, σ', H', J, rv, q⟩ := hs
    exact fin J rv q
  | next =>
    obtain ⟨σ', H', J, q⟩ := hs
    exact fin (v := V.non) (u := Value.none) J rfl q
  | brk =>
    obtain ⟨_, _, _, q⟩ := hs
    exact False.elim q
  | cont =>
    obtain ⟨_, _, _, q⟩ := hs
    exact False.elim q
end L2

namespace L2
open PySem PySem.Spec PyProof.Rows
section
variable {X : Cx} {x : Str} {p pos : Pos} {e : Expr} {es : List Expr} {t : TA} {id T : String} {r : List V → Hp → VK → Prop}

def tCB (r : List V → Hp → VK → Prop) (t : TA) : TE := fun σ H Q => t σ H fun vs H1 => r vs H1 Q
/-- f(e, ..), f a built-in function -/
theorem pe_callB (hc : CallR X (.builtin id) r) (hg : Gl X x) (hm : X.mg x = none) (hv : bootBuiltins x = some (.builtin id)) (ha : PA X (e :: es) t) (hn : x ≠ "__name__" := by decide) (hdb : (x == ("__debug__" : Str)) = false := by decide)
    (he : starEach (e :: es) X.env = (false, eval e X.env) :: starEach es X.env := by rfl) (hpl : (backTo pos (starEach es X.env)).any (·.1) = false := by rfl) : PE X (.Call (.Name x p) (e :: es) [] pos) (tCB r t) := by
  intro pins s σ H Q I h
  refine wpAny_Call_Name_kw (ld_blt I hg hm hv ?_ hn hdb)
  exact PyProof.Rows.callWith_builtin1 (thn (ha pos pins s σ H _ I h) fun us s1 ⟨vs, H1, I1, r1, q1⟩ => hc pins s1 σ H1 vs us Q I1 r1 q1) he hpl
/-- T(e, ..), T a built-in type -/
theorem pe_callTy (hc : CallR X (.type T) r) (hg : Gl X x) (hm : X.mg x = none) (hv : bootBuiltins x = some (.type T)) (ha : PA X (e :: es) t) (hn : x ≠ "__name__" := by decide) (hdb : (x == ("__debug__" : Str)) = false := by decide)
    (he : starEach (e :: es) X.env = (false, eval e X.env) :: starEach es X.env := by rfl) (hpl : (backTo pos (starEach es X.env)).any (·.1) = false := by rfl) : PE X (.Call (.Name x p) (e :: es) [] pos) (tCB r t) := by
  intro pins s σ H Q I h
  refine wpAny_Call_Name_kw (ld_blt I hg hm hv ?_ hn hdb)
  exact PyProof.Rows.callWith_type1 (thn (ha pos pins s σ H _ I h) fun us s1 ⟨vs, H1, I1, r1, q1⟩ => hc pins s1 σ H1 vs us Q I1 r1 q1) he hpl
end
end L2

namespace HT
open PySem PyProof.Rows

/-- t < u of tuples of ints -/
def lexLt : List Int → List Int → Bool
  | [], [] => false
  | [], _ :: _ => true
  | _ :: _, [] => false
  | x :: xs, y :: ys => if x = y then lexLt xs ys else decide (x < y)


section
open PySem.SeqAt
open PySem.AutoSeq1 (wpAny_loadPart')
open PySem.MeetsSeq PySem.MeetsSeq2 PySem.MeetsSeq3

end

section
variable {prog : Program} {w : World} {A : Around} {E : Value → Shared → Prop} {s : Shared}



/-! ### t[a:b], not the whole -/
/-- a slice's bound as a place among n (d where it is left out) -/
def sIx (n d : Nat) : Option Int → Nat
  | none => d
  | some v => if v < 0 then (v + (n : Int)).toNat else min v.toNat n

end
end HT

namespace L2
open PySem PySem.Spec PyProof.Rows

/-! ### the parts of a slice -/
abbrev TO := St → Hp → (Option Int → Hp → Prop) → Prop
/-- a slice's part (left out, or an int) -/
def PO (X : Cx) (e : Option Expr) (t : TO) : Prop :=
  ∀ (pins : List (Addr × Obj)) (s : Shared) (σ : St) (H : Hp) (Q : Option Int → Hp → Prop), Inv X pins σ H s → t σ H Q →
    wpAny (model X.prog X.w) X.A (evalPart e X.env) (fun u s' => ∃ o H', Inv X pins σ H' s' ∧ IsPart u o ∧ Q o H') X.xe s
def tNoPart : TO := fun _ H Q => Q none H
def tPart (t : TE) : TO := fun σ H Q => t σ H fun x H1 => ∃ i, x = .int i ∧ Q (some i) H1


section
variable {X : Cx} {e : Expr} {te : TE} {lo hi : Option Expr} {tl th : TO} {pos p2 : Pos}

theorem po_none : PO X none tNoPart := by
  intro pins s σ H Q I h
  rw [evalPart_none]
  exact wpAny_pure ⟨none, H, I, .none, h⟩
theorem po_some (h : PE X e te) : PO X (some e) (tPart te) := by
  intro pins s σ H Q I hw
  rw [evalPart_some]
  refine thn (h pins s σ H _ I hw) fun u s1 ⟨x, H1, I1, r1, q1⟩ => ?_
  obtain ⟨i, rfl, q⟩ := q1
  obtain ⟨t, rfl⟩ := r1
  exact ⟨some i, H1, I1, .int i t, q⟩

/-- what a slice of a value is, by values: the slice object stands at sl -/
def SlR (X : Cx) (r : V → Option Int → Option Int → Hp → VK → Prop) : Prop :=
  ∀ (pins : List (Addr × Obj)) (s : Shared) (σ : St) (H : Hp) (x : V) (v vl vu : Value) (lo hi : Option Int) (sl : Addr) (Q : VK), Inv X pins σ H s → RelV x v → s.heap.IsSliceOf sl vl vu .none → IsPart vl lo → IsPart vu hi → r x lo hi H Q →
    ∃ T id, typeLookup (.type T) "__getitem__" = pure (some (.builtin id)) ∧ s.TypeIs v T ∧ wpAny (model X.prog X.w) X.A (getItem v (.ref sl)) (EP X pins σ Q) X.xe s
def tSl (r : V → Option Int → Option Int → Hp → VK → Prop) (te : TE) (tl th : TO) : TE := fun σ H Q => te σ H fun x H1 => tl σ H1 fun l H2 => th σ H2 fun u H3 => r x l u H3 Q
/-- a[lo:hi], any a -/
theorem pe_slice {r : V → Option Int → Option Int → Hp → VK → Prop} (hr : SlR X r) (he : PE X e te) (hl : PO X lo tl) (hu : PO X hi th) : PE X (.Subscript e (.Slice lo hi none p2) pos) (tSl r te tl th) := by
  intro pins s σ H Q I h
  refine Subscript_ (thn (he pins s σ H _ I h) fun v s1 ⟨x, H1, I1, r1, q1⟩ => ?_)
  refine wpAny_Slice (thn (hl pins s1 σ H1 _ I1 q1) fun vl s2 ⟨l, H2, I2, pl, q2⟩ => thn (hu pins s2 σ H2 _ I2 q2) fun vu s3 ⟨u, H3, I3, pu, q3⟩ => ?_)
  rw [evalPart_none]
  refine wpAny_pure ?_
  have I4 : Inv X pins σ H3 { s3 with heap := s3.heap.push { cls := .type "slice", data := .fields #[vl, vu, .none] } } := I3.kept (t' := s3.toks) fun b ob q => Heap.get?_push_of_some _ q
  obtain ⟨T, id, hT, ht, hg⟩ := hr pins { s3 with heap := s3.heap.push { cls := .type "slice", data := .fields #[vl, vu, .none] } } σ H3 x v vl vu l u s3.heap.objs.size Q I4 r1 (Heap.IsSliceOf.new ..) pl pu q3
  show wpAny (model X.prog X.w) X.A (subscriptTail e (.Slice lo hi none p2) v (.ref s3.heap.objs.size)) (EP X pins σ Q) X.xe { s3 with heap := s3.heap.push { cls := .type "slice", data := .fields #[vl, vu, .none] } }
  exact tail_any (ops := [.ref s3.heap.objs.size, v]) ht hT hg (by with_unfolding_all rfl)

/-- the items of xs[lo:hi] -/
def cutV (xs : List V) (lo hi : Option Int) : List V := (xs.drop (HT.sIx xs.length 0 lo)).take (HT.sIx xs.length xs.length hi - HT.sIx xs.length 0 lo)
theorem cutV_length (xs : List V) (lo hi : Option Int) : (cutV xs lo hi).length ≤ xs.length := by
  unfold cutV
  rw [List.length_take, List.length_drop]
  omega
/-- t[lo:hi], not the whole of it (the whole would be t itself) -/
def rSlT (K : PySem.W.Frag) : V → Option Int → Option Int → Hp → VK → Prop := fun x lo hi H Q => ∃ a xs, x = .ref a ∧ SqT K H a xs ∧
  ¬ (HT.sIx xs.length 0 lo = 0 ∧ HT.sIx xs.length xs.length hi = xs.length) ∧ ∀ p, H p = none → Q (.ref p) (upd H p (.tup (cutV xs lo hi)))

/-! ### t < u, t + u -/
def rLtT (K : PySem.W.Frag) : R2 := fun x y H Q => ∃ a b ns ms, x = .ref a ∧ y = .ref b ∧ SqT K H a (ns.map V.int) ∧ SqT K H b (ms.map V.int) ∧ Q (.bl (HT.lexLt ns ms)) H
/-- t + u, t not empty: u empty gives t itself -/
def rCatT (K : PySem.W.Frag) : R2 := fun x y H Q => ∃ a b xs ys, x = .ref a ∧ y = .ref b ∧ SqT K H a xs ∧ SqT K H b ys ∧ xs ≠ [] ∧ xs.length + ys.length ≤ sizeLine ∧
  (ys = [] → Q (.ref a) H) ∧ (ys ≠ [] → ∀ p, H p = none → Q (.ref p) (upd H p (.tup (xs ++ ys))))
end
end L2

namespace L2
open PySem PySem.Spec PyProof.Rows

/-! ### places -/
/-- the place that an index of any sign means -/
def ixN (n : Nat) (i : Int) : Option Nat := if 0 ≤ i then (if i < n then some i.toNat else none) else if -(n : Int) ≤ i then some (i + n).toNat else none
def atI {α : Type} (xs : List α) (i : Int) : Option α := (ixN xs.length i).bind fun j => xs[j]?
theorem ixN_seq {n : Nat} {i : Int} {j : Nat} (h : ixN n i = some j) : seqIndex? i n = some j ∧ j < n ∧ -(n : Int) ≤ i ∧ i < n := by
  unfold ixN at h
  by_cases h0 : 0 ≤ i
  · rw [if_pos h0] at h
    by_cases h1 : i < n
    · rw [if_pos h1] at h
      have e : i.toNat = j := Option.some.inj h
      exact ⟨by rw [seqIndex_of h0 h1, e], by omega, by omega, h1⟩
    · rw [if_neg h1] at h; cases h
  · rw [if_neg h0] at h
    by_cases h1 : -(n : Int) ≤ i
    · rw [if_pos h1] at h
      have e : (i + n).toNat = j := Option.some.inj h
      exact ⟨by rw [seqIndex_neg (by omega) h1, e], by omega, h1, by omega⟩
    · rw [if_neg h1] at h; cases h
theorem atI_get {α : Type} {xs : List α} {i : Int} {v : α} (h : atI xs i = some v) : ∃ j, seqIndex? i xs.length = some j ∧ xs[j]? = some v ∧ j < xs.length ∧ -(xs.length : Int) ≤ i ∧ i < xs.length := by
  unfold atI at h
  cases e : ixN xs.length i with
  | none => rw [e] at h; cases h
  | some j =>
    rw [e] at h
    obtain ⟨h1, h2, h3, h4⟩ := ixN_seq e
    exact ⟨j, h1, h, h2, h3, h4⟩
theorem atI_nat {α : Type} {xs : List α} {j : Nat} {v : α} (h : xs[j]? = some v) : atI xs (j : Int) = some v := by
  have hj : j < xs.length := (List.getElem?_eq_some_iff.mp h).1
  have e : ixN xs.length (j : Int) = some j := by
    unfold ixN
    rw [if_pos (by omega), if_pos (by omega)]; simp
  unfold atI; rw [e]; exact h
theorem atI_last {α : Type} (xs : List α) (v : α) : atI (xs ++ [v]) (-1) = some v := by
  have hl : (xs ++ [v]).length = xs.length + 1 := by simp
  have e : ixN (xs ++ [v]).length (-1) = some xs.length := by
    unfold ixN
    rw [hl, if_neg (by decide), if_pos (by omega)]
    congr 1
    omega
  unfold atI
  rw [e]
  show (xs ++ [v])[xs.length]? = some v
  simp

/-! ### what may be subscripted -/
/-- what stands as an index of a plain subscript -/
def PlainIx (b : Expr) : Prop := ∀ o i, subscripted b false o i = operate [o, i] (getItem o i)
/-- a subscript by values -/
def IxR (X : Cx) (r : R2) : Prop :=
  ∀ (value slice : Expr) (pins : List (Addr × Obj)) (s : Shared) (σ : St) (H : Hp) (x y : V) (v u : Value) (Q : VK), Inv X pins σ H s → RelV x v → RelV y u → r x y H Q →
    subscripted slice false v u = operate [v, u] (getItem v u) → wpAny (model X.prog X.w) X.A (subscriptTail value slice v u) (EP X pins σ Q) X.xe s
/-- a call of a builtin's method by values: the receiver, the arguments -/
def MtR (X : Cx) (id : String) (r : V → List V → Hp → VK → Prop) : Prop :=
  ∀ (pins : List (Addr × Obj)) (s : Shared) (σ : St) (H : Hp) (x : V) (xs : List V) (v : Value) (us : List Value) (Q : VK), Inv X pins σ H s → RelV x v → Vals xs us → r x xs H Q →
    wpAny (model X.prog X.w) X.A (call (.builtin id) (v :: us)) (EP X pins σ Q) X.xe s
section
variable {X : Cx} {a b : Expr} {ta tb : TE} {pos : Pos}
/-- a[b] -/
theorem pe_ix {r : R2} (hr : IxR X r) (ha : PE X a ta) (hb : PE X b tb) (hs : PlainIx b) : PE X (.Subscript a b pos) (tOp r ta tb) := by
  intro pins s σ H Q I h
  exact Subscript_ (binT ha hb I h fun v u s2 x y H2 I2 rx ry q => hr a b pins s2 σ H2 x y v u Q I2 rx ry q (hs _ _))

def rIxL (K : PySem.W.Frag) : R2 := fun x y H Q => ∃ p xs i v, x = .ref p ∧ y = .int i ∧ SqL K H p xs ∧ atI xs i = some v ∧ Q v H
def rIxT (K : PySem.W.Frag) : R2 := fun x y H Q => ∃ p xs i v, x = .ref p ∧ y = .int i ∧ SqT K H p xs ∧ atI xs i = some v ∧ Q v H
def rIxS : R2 := fun x y H Q => ∃ z i c, x = .str z ∧ y = .int i ∧ z.length ≤ sizeLine ∧ atI z.cps.toList i = some c ∧ Q (.str ⟨#[c]⟩) H
theorem ix_list : IxR X (rIxL X.K) := by
  intro value slice pins s σ H x y v u Q I rx ry h hs
  obtain ⟨p, xs, i, z, rfl, rfl, hq, he, q⟩ := h
  cases rx
  obtain ⟨t, rfl⟩ := ry
  obtain ⟨its, r, pl, hz⟩ := I.list hq
  obtain ⟨j, h1, h2, h3, h4, h5⟩ := atI_get he
  obtain ⟨w, ew, rw'⟩ := r.get h2
  have hl := r.length
  have hn := line63
  have fin : EP X pins σ Q w s := ⟨z, H, I, rw', q⟩
  by_cases h0 : 0 ≤ i
  · have hj : i.toNat = j := by
      rw [seqIndex_of h0 h5] at h1
      exact Option.some.inj h1
    exact item_listR pl.isList h0 (by omega) (by rw [hj]; simpa using ew) fin hs
  · have hj : (i + (its.toArray.size : Int)).toNat = j := by
      rw [seqIndex_neg (by omega) h4] at h1
      rw [List.size_toArray, ← hl]
      exact Option.some.inj h1
    exact subscriptTail_builtinR (x := w) pl.isList.typeIs slot_list_getitem.lookup
      (wpAny_getItem_list_neg (Q := fun r s' => r = w ∧ EP X pins σ Q r s') pl.isList (by omega) (by rw [List.size_toArray] <;> omega) (by omega) (by rw [hj]; simpa using ew) ⟨rfl, fin⟩) hs
theorem ix_tup : IxR X (rIxT X.K) := by
  intro value slice pins s σ H x y v u Q I rx ry h hs
  obtain ⟨p, xs, i, z, rfl, rfl, hq, he, q⟩ := h
  cases rx
  obtain ⟨t, rfl⟩ := ry
  obtain ⟨its, r, pl, hz⟩ := I.tuple hq
  obtain ⟨j, h1, h2, h3, h4, h5⟩ := atI_get he
  obtain ⟨w, ew, rw'⟩ := r.get h2
  have hl := r.length
  have hn := line63
  have fin : EP X pins σ Q w s := ⟨z, H, I, rw', q⟩
  exact subscriptTail_builtinR (x := w) pl.typeIs slot_tuple_getitem.lookup
    (getItem_tuple (j := j) (Q := fun r s' => r = w ∧ EP X pins σ Q r s') pl (by omega) (by omega) (by rw [List.size_toArray, ← hl]; exact h1) (by simpa using ew) ⟨rfl, fin⟩) hs
/-- list, tuple or str -/
def rIx (K : PySem.W.Frag) : R2 := fun x y H Q => rIxL K x y H Q ∨ rIxT K x y H Q ∨ rIxS x y H Q

/-! ### xs[i] = v, any sign -/
/-- the list's object behind a store -/
theorem mapSeq_set (its : List Value) (n j : Nat) (u : Value) : Obj.mapSeq (·.setIfInBounds j u) { cls := .type "list", data := .seq its.toArray n } = { cls := .type "list", data := .seq (its.set j u).toArray n } := by
  simp [Obj.mapSeq]
theorem Inv.lst {pins : List (Addr × Obj)} {σ : St} {H : Hp} {s : Shared} {p : Addr} {xs : List V} (I : Inv X pins σ H s) (h : H p = some (.lst xs)) :
    ∃ (its : List Value) (n : Nat), Vals xs its ∧ s.heap.get? p = some { cls := .type "list", data := .seq its.toArray n } ∧ xs.length ≤ sizeLine := by
  obtain ⟨z, its, n, r, e⟩ := I.hok p _ h
  exact ⟨its, n, r, e, z⟩
/-- the list at p is written by an update of its object -/
theorem Inv.lstUpd {pins : List (Addr × Obj)} {σ : St} {H : Hp} {s : Shared} {p : Addr} {xs ys : List V} {its its' : List Value} {n n' : Nat} {f : Obj → Obj} (I : Inv X pins σ H s) (h : H p = some (.lst xs))
    (ho : s.heap.get? p = some { cls := .type "list", data := .seq its.toArray n }) (hf : f { cls := .type "list", data := .seq its.toArray n } = { cls := .type "list", data := .seq its'.toArray n' }) (r : Vals ys its') (hz : ys.length ≤ sizeLine) (t : Nat) :
    Inv X pins σ (upd H p (.lst ys)) { s with heap := s.heap.update p f, toks := t } := by
  have e : (s.heap.update p f).get? p = some { cls := .type "list", data := .seq its'.toArray n' } := by
    rw [Heap.get?_update_self f ho (by rw [hf] <;> rfl), hf]
  refine I.write (x := p) (e := p) (by rw [h]; trivial) (.inl rfl) (fun b u hb q => (Heap.get?_update_other _ _ (Ne.symm hb)).trans q) ⟨_, e⟩ ?_
  exact ⟨hz, its', n', r, e⟩
def rSetL : V → V → V → Hp → (Hp → Prop) → Prop := fun o i v H Q => ∃ p xs k j, o = .ref p ∧ i = .int k ∧ H p = some (.lst xs) ∧ ixN xs.length k = some j ∧ Q (upd H p (.lst (xs.set j v)))
theorem set_list : PSet X rSetL := by
  intro pins s σ H o i v ov iv u Q I ro ri rv h
  obtain ⟨p, xs, k, j, rfl, rfl, hp, hj, q⟩ := h
  cases ro
  obtain ⟨t, rfl⟩ := ri
  obtain ⟨its, n, r, ho, hz⟩ := I.lst hp
  obtain ⟨h1, h2, h3, h4⟩ := ixN_seq hj
  have hl := r.length
  have hn := line63
  have I' : Inv X pins σ (upd H p (.lst (xs.set j v))) { s with heap := s.heap.update p (Obj.mapSeq (·.setIfInBounds j u)) } :=
    I.lstUpd hp ho (mapSeq_set its n j u) (r.set rv j) (by rw [List.length_set]; exact hz) s.toks
  by_cases h0 : 0 ≤ k
  · have hk : k.toNat = j := by
      rw [seqIndex_of h0 h4] at h1
      exact Option.some.inj h1
    exact PySem.W.ki_setAt ho h0 (by omega) (by rw [List.size_toArray, ← hl]; exact h4) (by rw [hk]; exact ⟨_, I', q⟩)
  · have hk : (k + (its.toArray.size : Int)).toNat = j := by
      rw [seqIndex_neg (by omega) h3] at h1
      rw [List.size_toArray, ← hl]
      exact Option.some.inj h1
    exact PySem.W.ki_setBack ho (by omega) (by rw [List.size_toArray, ← hl]; exact h3) (by omega) (by rw [hk]; exact ⟨_, I', q⟩)

/-! ### slices -/
theorem slice_bounds (lo hi : Option Int) (n : Nat) : (sliceBounds lo hi none n).1 = ((HT.sIx n 0 lo : Nat) : Int) ∧ (sliceBounds lo hi none n).2.1 = ((HT.sIx n n hi : Nat) : Int) ∧ (sliceBounds lo hi none n).2.2 = 1 := by
  refine ⟨?_, ?_, rfl⟩
  · cases lo with
    | none => simp [sliceBounds, HT.sIx]
    | some i =>
      simp only [sliceBounds, HT.sIx, Option.getD_none, show (1 : Int) > 0 by decide, if_true]
      by_cases h : i < 0
      · simp only [h, if_true] <;> omega
      · simp only [h, if_false] <;> omega
  · cases hi with
    | none => simp [sliceBounds, HT.sIx]
    | some i =>
      simp only [sliceBounds, HT.sIx, Option.getD_none, show (1 : Int) > 0 by decide, if_true]
      by_cases h : i < 0
      · simp only [h, if_true] <;> omega
      · simp only [h, if_false] <;> omega
theorem slicePick_cut (its : List Value) (lo hi : Option Int) : slicePick its.toArray lo hi none = ((its.drop (HT.sIx its.length 0 lo)).take (HT.sIx its.length its.length hi - HT.sIx its.length 0 lo)).toArray := by
  obtain ⟨h1, h2, h3⟩ := slice_bounds lo hi its.toArray.size
  unfold slicePick
  rw [h1, h2, h3]
  simp only [sliceRange_one, pick_run, List.size_toArray] <;> rfl
/-- xs[lo:hi] of a list: a new list -/
def rSlL (K : PySem.W.Frag) : V → Option Int → Option Int → Hp → VK → Prop := fun x lo hi H Q => ∃ a xs, x = .ref a ∧ SqL K H a xs ∧ ∀ p, H p = none → Q (.ref p) (upd H p (.lst (cutV xs lo hi)))
theorem sl_list : SlR X (rSlL X.K) := by
  intro pins s σ H x v vl vu lo hi sl Q I rx hs pl pu h
  obtain ⟨a, xs, rfl, hx, q⟩ := h
  cases rx
  obtain ⟨its, r, ht, hz⟩ := I.list hx
  have hlen := r.length
  refine ⟨"list", _, slot_list_getitem.lookup, ht.isList.typeIs, ?_⟩
  refine wpAny_getItem_list_slice ht.isList hs pl pu .none (by simp) ?_ (by rw [List.size_toArray] <;> omega)
  rw [slicePick_cut, ← hlen]
  refine ⟨.ref s.heap.objs.size, _, I.laid (t' := s.toks) (o := .lst (cutV xs lo hi)) (fun b ob q => Heap.get?_push_of_some _ q) (Nat.le_refl _) ?_, rfl, q _ (I.hok.fresh (Nat.le_refl _))⟩
  exact ⟨Nat.le_trans (cutV_length xs lo hi) hz, _, 0, (r.drop (HT.sIx xs.length 0 lo)).take (HT.sIx xs.length xs.length hi - HT.sIx xs.length 0 lo), Heap.get?_push_size _ rfl⟩

/-! ### in, not in: flat items -/
def flatV : V → Bool
  | .non => true
  | .bl _ => true
  | .int _ => true
  | .str _ => true
  | _ => false
/-- == of flat values -/
def eqV : V → V → Bool
  | .non, .non => true
  | .bl a, .bl b => a == b
  | .bl a, .int b => (if a then 1 else 0) == b
  | .int a, .bl b => a == (if b then 1 else 0)
  | .int a, .int b => a == b
  | .str a, .str b => a == b
  | _, _ => false
theorem eqAt_V {A : Around} {s : Shared} {y x : V} {u v : Value} (ry : RelV y u) (rx : RelV x v) (fy : flatV y = true) (fx : flatV x = true) : SeqAt.EqAt A s u v (eqV y x) := by
  cases y with
  | non =>
    cases ry
    cases x with
    | non => cases rx; exact SeqAt.EqAt.same _
    | bl b => cases rx; exact SeqAt.EqAt.none_bool b
    | int b => obtain ⟨t, rfl⟩ := rx; exact SeqAt.EqAt.none_int b t
    | str b => obtain ⟨t, rfl⟩ := rx; exact SeqAt.EqAt.none_str b t
    | _ => exact absurd (show false = true from fx) Bool.false_ne_true
  | bl a =>
    cases ry
    cases x with
    | non => cases rx; exact SeqAt.EqAt.bool_none a
    | bl b => cases rx; exact SeqAt.EqAt.bool_bool a b
    | int b => obtain ⟨t, rfl⟩ := rx; exact SeqAt.EqAt.bool_int a b t
    | str b => obtain ⟨t, rfl⟩ := rx; exact SeqAt.EqAt.bool_str a b t
    | _ => exact absurd (show false = true from fx) Bool.false_ne_true
  | int a =>
    obtain ⟨t', rfl⟩ := ry
    cases x with
    | non => cases rx; exact SeqAt.EqAt.int_none a t'
    | bl b => cases rx; exact SeqAt.EqAt.int_bool a t' b
    | int b => obtain ⟨t, rfl⟩ := rx; exact SeqAt.EqAt.int_int a t' b t
    | str b => obtain ⟨t, rfl⟩ := rx; exact SeqAt.EqAt.int_str a t' b t
    | _ => exact absurd (show false = true from fx) Bool.false_ne_true
  | str a =>
    obtain ⟨t', rfl⟩ := ry
    cases x with
    | non => cases rx; exact SeqAt.EqAt.str_none a t'
    | bl b => cases rx; exact SeqAt.EqAt.str_bool a t' b
    | int b => obtain ⟨t, rfl⟩ := rx; exact SeqAt.EqAt.str_int a t' b t
    | str b => obtain ⟨t, rfl⟩ := rx; exact SeqAt.EqAt.str_str a t' b t
    | _ => exact absurd (show false = true from fx) Bool.false_ne_true
  | _ => exact absurd (show false = true from fy) Bool.false_ne_true
/-- the items' answers, read off the values (a value's own answer does not lean on its token) -/
def eqU (x : V) (u : Value) : Bool := match u with
  | .none => eqV .non x
  | .bool b => eqV (.bl b) x
  | .int i _ => eqV (.int i) x
  | .str z _ => eqV (.str z) x
  | _ => false
def inV (x : V) (xs : List V) : Bool := xs.any fun y => eqV y x
/-- x in a list or tuple of flat items -/
def rIn (K : PySem.W.Frag) (neg : Bool) : R2 := fun x y H Q => ∃ p xs, y = .ref p ∧ (SqL K H p xs ∨ SqT K H p xs) ∧ flatV x = true ∧ xs.all flatV = true ∧ Q (.bl (if neg then !inV x xs else inV x xs)) H

/-! ### len, list(x), tuple(x) of any list or tuple that is read -/
theorem call_len_seq : CallR X (.builtin "len") (fun xs H Q => ∃ p ys, xs = [.ref p] ∧ (SqL X.K H p ys ∨ SqT X.K H p ys) ∧ Q (.int ys.length) H) := by
  intro pins s σ H xs us Q I r h
  obtain ⟨p, ys, rfl, hq, q⟩ := h
  obtain ⟨u, rfl, rx⟩ := vals1 r
  cases rx
  have hn := line63
  rcases hq with hq | hq
  · obtain ⟨its, r', pl, hz⟩ := I.list hq
    have hlen := r'.length
    exact Calls.call_len_list pl.isList (by simp only [List.size_toArray] <;> omega) ⟨.int ys.length, H, I.tok _, ⟨s.toks + 1, by rw [List.size_toArray, hlen]⟩, q⟩
  · obtain ⟨its, r', pl, hz⟩ := I.tuple hq
    have hlen := r'.length
    exact len_tuple pl (by simp only [List.size_toArray] <;> omega) ⟨.int ys.length, H, I.tok _, ⟨s.toks + 1, by rw [List.size_toArray, hlen]⟩, q⟩
theorem call_list_of : CallR X (.type "list") (fun xs H Q => ∃ p ys, xs = [.ref p] ∧ (SqL X.K H p ys ∨ SqT X.K H p ys) ∧ ∀ l, H l = none → Q (.ref l) (upd H l (.lst ys))) := by
  intro pins s σ H xs us Q I r h
  obtain ⟨p, ys, rfl, hq, q⟩ := h
  obtain ⟨u, rfl, rx⟩ := vals1 r
  cases rx
  have fin : ∀ (its : List Value), Vals ys its → ys.length ≤ sizeLine → ∀ (h' : Heap) (c' : Nat), (∀ b o', s.heap.get? b = some o' → h'.get? b = some o') →
      h'.get? s.heap.objs.size = some { cls := .type "list", dict := none, data := .seq its.toArray c', slots := #[] } → EP X pins σ Q (.ref s.heap.objs.size) { s with heap := h' } := fun its r' hz h' c' kp e =>
    ⟨.ref s.heap.objs.size, _, I.laid (t' := s.toks) kp (Nat.le_refl _) (show ObjOk X.prog X.w _ h' _ (.lst ys) from ⟨hz, its, c', r', e⟩), rfl, q _ (I.hok.fresh (Nat.le_refl _))⟩
  rcases hq with hq | hq
  · obtain ⟨its, r', pl, hz⟩ := I.list hq
    have hlen := r'.length
    obtain ⟨o, ho, hc, n, hd⟩ := pl.isList
    exact call_list_seq p (.inl rfl) ho hc hd (fun h' c' kp e => fin its r' hz h' c' kp e) (by simp only [List.size_toArray] <;> omega)
  · obtain ⟨its, r', pl, hz⟩ := I.tuple hq
    have hlen := r'.length
    obtain ⟨o, ho, hc, n, hd⟩ := pl
    exact call_list_seq p (.inr rfl) ho hc hd (fun h' c' kp e => fin its r' hz h' c' kp e) (by simp only [List.size_toArray] <;> omega)

/-! ### the call of a builtin's method: o.m(..) -/
/-- the value is of that builtin type -/
def tyV (K : PySem.W.Frag) (T : String) (x : V) (H : Hp) : Prop := match x with
  | .str _ => T = "str"
  | .int _ => T = "int"
  | .ref p => (T = "list" ∧ ∃ xs, SqL K H p xs) ∨ (T = "tuple" ∧ ∃ o, K.lookup p = some o ∧ o.cls = .type "tuple" ∧ o.dict = none) ∨
      (T = "dict" ∧ ((∃ kvs, H p = some (.dK kvs)) ∨ ∃ kvs, H p = some (.dT kvs))) ∨ (T = "set" ∧ ∃ S n, H p = some (.set S n))
  | _ => False
theorem tyV_is {pins : List (Addr × Obj)} {σ : St} {H : Hp} {s : Shared} {T : String} {x : V} {v : Value} (I : Inv X pins σ H s) (r : RelV x v) (ty : tyV X.K T x H) :
    s.TypeIs v T ∧ ∀ a, v = .ref a → ∃ ob, s.heap.get? a = some ob ∧ ob.dict = none := by
  cases x with
  | str z =>
    obtain ⟨t, rfl⟩ := r
    cases (show T = "str" from ty)
    exact ⟨typeIs_str s z t, fun _ e => nomatch e⟩
  | int i =>
    obtain ⟨t, rfl⟩ := r
    cases (show T = "int" from ty)
    exact ⟨typeIs_int s i t, fun _ e => nomatch e⟩
  | ref p =>
    cases r
    rcases ty with ⟨rfl, xs, hq⟩ | ⟨rfl, o, hk, hc, hd⟩ | ⟨rfl, hk⟩ | ⟨rfl, S, n, hk⟩
    · obtain ⟨its, _, pl, _⟩ := I.list hq
      refine ⟨pl.isList.typeIs, fun a e => ?_⟩
      cases e
      obtain ⟨o, n, e, c, hd, _⟩ := pl
      exact ⟨o, e, hd⟩
    · refine ⟨⟨o, I.kIn p o hk, hc⟩, fun a e => ?_⟩
      cases e
      exact ⟨o, I.kIn _ o hk, hd⟩
    · have z : ∃ o, s.heap.get? p = some o ∧ o.ExactDict := by
        rcases hk with ⟨kvs, hk⟩ | ⟨kvs, hk⟩
        · obtain ⟨_, _, _, _, o, _, _, e, ex, _⟩ := I.hok p _ hk
          exact ⟨o, e, ex⟩
        · obtain ⟨_, _, _, _, o, _, _, e, ex, _⟩ := I.hok p _ hk
          exact ⟨o, e, ex⟩
      obtain ⟨o, e, ex⟩ := z
      refine ⟨⟨o, e, ex.1⟩, fun a e2 => ?_⟩
      cases e2
      exact ⟨o, e, ex.2.1⟩
    · obtain ⟨o, _, _, _, e, ex, _⟩ := I.hok p _ hk
      refine ⟨⟨o, e, ex.1⟩, fun a e2 => ?_⟩
      cases e2
      exact ⟨o, e, ex.2.1⟩
  | _ => exact False.elim ty
def tBM0 (K : PySem.W.Frag) (T : String) (r : V → List V → Hp → VK → Prop) (to : TE) : TE := fun σ H Q => to σ H fun x H1 => tyV K T x H1 ∧ r x [] H1 Q
def tBM (K : PySem.W.Frag) (T : String) (r : V → List V → Hp → VK → Prop) (to : TE) (t : TA) : TE := fun σ H Q => to σ H fun x H1 => tyV K T x H1 ∧ t σ H1 fun xs H2 => r x xs H2 Q
variable {o e : Expr} {es : List Expr} {to : TE} {t : TA} {name : Str} {apos cpos : Pos} {T id : String} {r : V → List V → Hp → VK → Prop}
theorem pe_bm0 (pa : PlainAttrs T) (slot : Slot T name id) (hty : typeOf (.builtin id) = pure (.type "method_descriptor")) (hm : MtR X id r) (ho : PE X o to)
    (hbase : attributeBase o name X.env (eval o X.env) = eval o X.env := by rfl) (hline : (apos.endLine == cpos.line) = true := by rfl) : PE X (.Call (.Attribute o name apos) [] [] cpos) (tBM0 X.K T r to) := by
  intro pins s σ H Q I h
  refine wpAny_Call_method0_late hbase hline (thn (ho pins s σ H _ I h) fun v s1 ⟨x, H1, I1, r1, ty, q1⟩ => ?_)
  obtain ⟨h1, h2⟩ := tyV_is I1 r1 ty
  exact ⟨T, id, pa, slot, hty, h1, h2, Calls.callWith_builtin rfl (PySem.evalArgs_none (hm pins s1 σ H1 x [] v [] Q I1 r1 .nil q1))⟩
theorem pe_bm (pa : PlainAttrs T) (slot : Slot T name id) (hty : typeOf (.builtin id) = pure (.type "method_descriptor")) (hm : MtR X id r) (ho : PE X o to) (ha : PA X (e :: es) t)
    (hbase : attributeBase o name X.env (eval o X.env) = eval o X.env := by rfl)
    (hfew : ((backTo cpos (starEach (e :: es) X.env)).all (fun x => !x.1) && (backToKw cpos (keywordEach [] X.env)).all (fun x => x.1.isSome)
      && decide ((e :: es).length + ([] : List Keyword).length + (if ([] : List Keyword).isEmpty then 0 else 1) < 30)) = true := by rfl)
    (hline : (apos.endLine == cpos.line) = true := by rfl) (hs : starEach (e :: es) X.env = (false, eval e X.env) :: starEach es X.env := by rfl) (hplain : (backTo cpos (starEach es X.env)).any (·.1) = false := by rfl) :
    PE X (.Call (.Attribute o name apos) (e :: es) [] cpos) (tBM X.K T r to t) := by
  intro pins s σ H Q I h
  refine wpAny_Call_method_late hbase hfew hline rfl (thn (ho pins s σ H _ I h) fun v s1 ⟨x, H1, I1, r1, ty, q1⟩ => ?_)
  obtain ⟨h1, h2⟩ := tyV_is I1 r1 ty
  refine ⟨T, id, pa, slot, hty, h1, h2, ?_⟩
  have hA := ha cpos pins s1 σ H1 _ I1 q1
  rw [hs] at hA ⊢
  refine Calls.callWith_builtin (by show (false || (backTo cpos (starEach es X.env)).any (·.1)) = false; rw [hplain] <;> rfl) (Calls.evalArgs_plain ?_)
  exact thn hA fun us s2 ⟨vs, H2, I2, r2, q2⟩ => hm pins s2 σ H2 x vs v us Q I2 r1 r2 q2
/- xs.append(e), list.index on a module's tuple .. are MtR facts of 06m -/
end
end L2

namespace L2
open PySem PySem.Spec PyProof.Rows

def MtM (X : Cx) (id : String) (r : V → List V → Hp → VK → Prop) : Prop :=
  ∀ (pins : List (Addr × Obj)) (s : Shared) (σ : St) (H : Hp) (x : V) (xs : List V) (v : Value) (us : List Value) (Q : VK), Inv X pins σ H s → RelV x v → Vals xs us → r x xs H Q →
    wpAny (model X.prog X.w) X.A (call (.builtin id) (v :: us)) (EP X pins σ Q) X.xe s

/-! ### lists of values -/
theorem Vals.one : ∀ {x : V} {us : List Value}, Vals [x] us → ∃ u, us = [u] ∧ RelV x u
  | _, _, .cons r .nil => ⟨_, rfl, r⟩
theorem Vals.zero : ∀ {us : List Value}, Vals [] us → us = []
  | _, .nil => rfl
theorem Vals.dropLast {xs : List V} {us : List Value} (h : Vals xs us) : Vals xs.dropLast us.dropLast := by
  induction h with
  | nil => exact .nil
  | cons r t ih =>
    cases t with
    | nil => exact .nil
    | cons q t' => exact .cons r ih
theorem Vals.rep {xs : List V} {us : List Value} (h : Vals xs us) : ∀ k : Nat, Vals (List.replicate k xs).flatten (List.replicate k us).flatten
  | 0 => .nil
  | k + 1 => by
    rw [List.replicate_succ, List.replicate_succ, List.flatten_cons, List.flatten_cons]
    exact Vals.append h (Vals.rep h k)
theorem erase_last {α : Type} (l : List α) : l.eraseIdx (l.length - 1) = l.dropLast := by
  induction l with
  | nil => rfl
  | cons a r ih =>
    cases r with
    | nil => rfl
    | cons b r =>
      have e : (a :: b :: r).length - 1 = ((b :: r).length - 1) + 1 := by
        have h1 : (a :: b :: r).length = r.length + 2 := rfl
        have h2 : (b :: r).length = r.length + 1 := rfl
        omega
      rw [e, List.eraseIdx_cons_succ, ih]
      all_goals rfl
theorem foldl_rep (its : List Value) : ∀ (k : Nat) (acc : List Value),
    List.foldl (fun x1 x2 => x1 ++ x2) acc.toArray (List.replicate k its.toArray) = (acc ++ (List.replicate k its).flatten).toArray
  | 0, acc => by simp
  | k + 1, acc => by
    have e : acc.toArray ++ its.toArray = (acc ++ its).toArray := by simp
    have e2 : (acc ++ its) ++ (List.replicate k its).flatten = acc ++ (List.replicate (k + 1) its).flatten := by
      rw [List.replicate_succ, List.flatten_cons, List.append_assoc]
    rw [← e2, ← foldl_rep its k (acc ++ its), ← e, List.replicate_succ, List.foldl_cons]

section
variable {X : Cx} {pins : List (Addr × Obj)} {σ : St} {H : Hp} {s : Shared} {l b : Addr} {xs ys zs : List V}

/-! ### the two steps: a tracked list is rewritten, a new list is laid -/
theorem Inv.lset {its its' : List Value} {n : Nat} {f : Array Value → Array Value} {t' : Nat} (I : Inv X pins σ H s) (hH : H l = some (.lst xs))
    (e : s.heap.get? l = some { cls := .type "list", data := .seq its.toArray n }) (hf : f its.toArray = its'.toArray) (hv : Vals ys its') (hz : ys.length ≤ sizeLine) :
    Inv X pins σ (upd H l (.lst ys)) { s with heap := s.heap.update l (Obj.mapSeq f), toks := t' } := by
  have q := PySem.IsL.update e f
  rw [hf] at q
  refine I.write (x := l) (e := l) (by rw [hH]; exact trivial) (.inl rfl) (fun b' u hb hu => (Heap.get?_update_other s.heap (Obj.mapSeq f) (Ne.symm hb)).trans hu) ⟨_, q⟩ ?_
  exact ⟨hz, its', _, hv, q⟩
theorem Inv.lnew {its : List Value} {t' : Nat} (I : Inv X pins σ H s) (hv : Vals ys its) (hz : ys.length ≤ sizeLine) :
    Inv X pins σ (upd H s.heap.objs.size (.lst ys)) { s with heap := s.heap.push { cls := .type "list", data := .seq its.toArray }, toks := t' } :=
  I.laid (fun _ _ q => Heap.get?_push_of_some _ q) (Nat.le_refl _) ⟨hz, its, 0, hv, Heap.get?_push_size _ rfl⟩
theorem Inv.fresh (I : Inv X pins σ H s) : H s.heap.objs.size = none := I.hok.fresh (Nat.le_refl _)
theorem Inv.lstM (I : Inv X pins σ H s) (hH : H l = some (.lst xs)) : xs.length ≤ sizeLine ∧ ∃ (its : List Value) (n : Nat), Vals xs its ∧ xs.length = its.length ∧ s.heap.get? l = some { cls := .type "list", data := .seq its.toArray n } := by
  obtain ⟨z, its, n, r, e⟩ := I.hok l _ hH
  exact ⟨z, its, n, r, r.length, e⟩

theorem notLongL {n : Nat} (h : n ≤ sizeLine) : Builtin.List.listTooLong n = false := by
  unfold Builtin.List.listTooLong
  exact decide_eq_false (by omega)
end

section
variable {X : Cx}

/-! ### methods -/
def rAppend : V → List V → Hp → VK → Prop := fun x vs H Q => ∃ l xs y, x = .ref l ∧ vs = [y] ∧ H l = some (.lst xs) ∧ xs.length < sizeLine ∧ Q .non (upd H l (.lst (xs ++ [y])))
theorem mt_append : MtM X "list.append" rAppend := by
  intro pins s σ H x vs v us Q I rx rv h
  obtain ⟨l, xs, y, rfl, rfl, hH, hz, q⟩ := h
  cases rx
  obtain ⟨u, rfl, ru⟩ := rv.one
  obtain ⟨z, its, n, r, hl, e⟩ := I.lstM hH
  refine call_meets F.slot_list_append ⟨_, e, rfl⟩ F.entry_list_append (F.args_list_append_2 _ _) (PySem.list_append l its.toArray n u (by rw [List.size_toArray]; omega)) ⟨e, ?_⟩
  refine ⟨.non, _, I.lset (its' := its ++ [u]) hH e (by simp) (r.append (.cons ru .nil)) ?_, rfl, q⟩
  rw [List.length_append, List.length_singleton]
  omega

def rExtend : V → List V → Hp → VK → Prop := fun x vs H Q => ∃ l b xs zs, x = .ref l ∧ vs = [.ref b] ∧ H l = some (.lst xs) ∧ H b = some (.lst zs) ∧ xs.length + zs.length ≤ sizeLine ∧ Q .non (upd H l (.lst (xs ++ zs)))
theorem mt_extend : MtM X "list.extend" rExtend := by
  intro pins s σ H x vs v us Q I rx rv h
  obtain ⟨l, b, xs, zs, rfl, rfl, hH, hB, hz, q⟩ := h
  cases rx
  obtain ⟨u, rfl, ru⟩ := rv.one
  cases ru
  obtain ⟨z, its, n, r, hl, e⟩ := I.lstM hH
  obtain ⟨z2, its2, n2, r2, hl2, e2⟩ := I.lstM hB
  have hsz : its.toArray.size + its2.toArray.size ≤ sizeLine := by rw [List.size_toArray, List.size_toArray]; omega
  have hlong : ¬ (!its.toArray.isEmpty && Builtin.List.listTooLong (its.toArray.size + its2.toArray.size)) = true := by
    rw [notLongL hsz, Bool.and_false]
    exact Bool.false_ne_true
  refine call_meets F.slot_list_extend ⟨_, e, rfl⟩ F.entry_list_extend (F.args_list_extend_2 _ _)
    (AutoSeq1.list_extend_list_list_0 l its.toArray n b its2.toArray n2 hlong (by rw [List.size_toArray]; omega) (by omega)) ⟨e, e2, ?_⟩
  refine ⟨.non, _, I.lset (its' := its ++ its2) hH e (by simp) (r.append r2) ?_, rfl, q⟩
  rw [List.length_append]
  omega

def rPop : V → List V → Hp → VK → Prop := fun x vs H Q => ∃ l xs y, x = .ref l ∧ vs = [] ∧ H l = some (.lst xs) ∧ xs[xs.length - 1]? = some y ∧ Q y (upd H l (.lst xs.dropLast))
theorem mt_pop : MtM X "list.pop" rPop := by
  intro pins s σ H x vs v us Q I rx rv h
  obtain ⟨l, xs, y, rfl, rfl, hH, hy, q⟩ := h
  cases rx
  have hus := rv.zero
  subst hus
  obtain ⟨z, its, n, r, hl, e⟩ := I.lstM hH
  obtain ⟨u, hu, ru⟩ := r.get hy
  have hy' : its.toArray[its.toArray.size - 1]? = some u := by
    show its.toArray[its.length - 1]? = some u
    rw [← Array.getElem?_toList, ← hl]
    exact hu
  refine call_meets F.slot_list_pop ⟨_, e, rfl⟩ F.entry_list_pop (F.args_list_pop_1 _) (MeetsSeq.list_pop_last l its.toArray n u hy' (by rw [List.size_toArray]; omega)) ⟨e, ?_⟩
  refine ⟨y, _, I.lset (its' := its.dropLast) hH e ?_ r.dropLast ?_, ru, q⟩
  · show its.toArray.eraseIdxIfInBounds (its.toArray.size - 1) = its.dropLast.toArray
    rw [List.size_toArray, List.eraseIdxIfInBounds_toArray, erase_last]
  · rw [List.length_dropLast]
    omega

def rPopAt : V → List V → Hp → VK → Prop := fun x vs H Q => ∃ l xs i k y, x = .ref l ∧ vs = [.int i] ∧ H l = some (.lst xs) ∧ -(2 ^ 63) ≤ i ∧ i < 2 ^ 63 ∧ seqIndex? i xs.length = some k ∧ xs[k]? = some y ∧ Q y (upd H l (.lst (xs.eraseIdx k)))

def rReverse : V → List V → Hp → VK → Prop := fun x vs H Q => ∃ l xs, x = .ref l ∧ vs = [] ∧ H l = some (.lst xs) ∧ Q .non (upd H l (.lst xs.reverse))

def rClear : V → List V → Hp → VK → Prop := fun x vs H Q => ∃ l xs, x = .ref l ∧ vs = [] ∧ H l = some (.lst xs) ∧ Q .non (upd H l (.lst []))

/-! ### list + list, list += list, list * int -/
def rCat : R2 := fun x y H Q => ∃ l b xs zs, x = .ref l ∧ y = .ref b ∧ H l = some (.lst xs) ∧ H b = some (.lst zs) ∧ xs.length + zs.length ≤ sizeLine ∧ ∀ p, H p = none → Q (.ref p) (upd H p (.lst (xs ++ zs)))
theorem op_cat : OpR X (binaryOp .Add) rCat := by
  intro pins s σ H x y v u Q I rx ry h
  obtain ⟨l, b, xs, zs, rfl, rfl, hH, hB, hz, q⟩ := h
  cases rx
  cases ry
  obtain ⟨z, its, n, r, hl, e⟩ := I.lstM hH
  obtain ⟨z2, its2, n2, r2, hl2, e2⟩ := I.lstM hB
  refine PySem.P.add_list e e2 ?_ (by rw [List.size_toArray, List.size_toArray]; omega)
  have ea : its.toArray ++ its2.toArray = (its ++ its2).toArray := by simp
  rw [ea]
  exact ⟨.ref _, _, I.lnew (t' := s.toks) (r.append r2) (by rw [List.length_append]; omega), rfl, q _ I.fresh⟩
/-- a list times an int (a negative one is nothing) -/
def rRep : R2 := fun x y H Q => ∃ l k xs, x = .ref l ∧ y = .int k ∧ H l = some (.lst xs) ∧ -(2 ^ 63) ≤ k ∧ k < 2 ^ 63 ∧ xs.length * k.toNat ≤ sizeLine ∧
  ∀ p, H p = none → Q (.ref p) (upd H p (.lst (List.replicate k.toNat xs).flatten))
theorem len_rep {α : Type} (xs : List α) (k : Nat) : (List.replicate k xs).flatten.length = k * xs.length := by
  induction k with
  | zero => simp
  | succ k ih => rw [List.replicate_succ, List.flatten_cons, List.length_append, ih, Nat.succ_mul, Nat.add_comm]
theorem op_rep : OpR X (binaryOp .Mult) rRep := by
  intro pins s σ H x y v u Q I rx ry h
  obtain ⟨l, k, xs, rfl, rfl, hH, h1, h2, hz, q⟩ := h
  cases rx
  obtain ⟨t, rfl⟩ := ry
  obtain ⟨z, its, n, r, hl, e⟩ := I.lstM hH
  have hlen : its.toArray.size * k.toNat ≤ sizeLine := by rw [List.size_toArray, ← hl]; exact hz
  have hcap : ¬ its.toArray.size * k.toNat > (2 ^ 63 - 1) / 8 := by
    have : (sizeLine : Nat) ≤ (2 ^ 63 - 1) / 8 := by decide
    omega
  have hfit : ¬ (!Builtin.List.listFitsIndex k) = true := by
    rw [fitsIndex_both h1 h2]
    exact Bool.false_ne_true
  have hlong : ¬ Builtin.List.listTooLong (its.toArray.size * k.toNat) = true := by
    rw [notLongL hlen]
    exact Bool.false_ne_true
  have hnew : List.foldl (fun x1 x2 => x1 ++ x2) #[] (List.replicate (if its.toArray.isEmpty = true then 0 else k.toNat) its.toArray) = (List.replicate k.toNat its).flatten.toArray := by
    have f0 : ∀ m : Nat, List.foldl (fun x1 x2 => x1 ++ x2) #[] (List.replicate m its.toArray) = (List.replicate m its).flatten.toArray := fun m => by
      have := foldl_rep its m []
      rw [List.nil_append] at this
      exact this
    rw [f0]
    cases its with
    | nil => simp
    | cons a r' => rw [if_neg (by simp)]
  refine wpAny_binaryOp_repeat_ref (T := "list") (U := "int") (by decide) ⟨_, e, rfl⟩ (fun s' => typeIs_int s' k t) noFill_list_mul F.fills_int_mul F.slot_int_rmul repeat_list F.slot_int_index.lookup
    (call_meets F.slot_int_rmul (typeIs_int s k t) F.entry_int_rmul (F.args_int_rmul_2 _ _) (int___rmul___int_list k t l its.toArray n)
      ⟨e, rfl, ⟨_, e, rfl⟩, call_meets F.slot_list_mul ⟨_, e, rfl⟩ F.entry_list_mul (F.args_list_mul_2 _ _) (AutoListH.list___mul___list_int_3 l its.toArray n k t hfit hcap hlong) ⟨e, ?_⟩⟩)
  rw [hnew]
  exact ⟨.ref _, _, I.lnew (t' := s.toks) (r.rep k.toNat) (by rw [len_rep, Nat.mul_comm]; exact hz), rfl, q _ I.fresh⟩

/-! ### del xs[i] -/
end

/-! ### xs[a:b] = ys -/
section
variable {prog : Program} {w : World} {A : Around} {E : Value → Shared → Prop} {s : Shared}
set_option maxRecDepth 100000 in
end

section
variable {X : Cx}
end
end L2

namespace Att
open PySem PySem.W PySem.Calls PyProof.Rows

/-! ### the script -/
theorem ints_of_wellAll {P : Params} {h : Heap} : ∀ (ns : List Int) (vs : List Value), WellAll P h vs (ns.map WData.int) → IntsAre vs ns := by
  intro ns
  induction ns with
  | nil =>
    intro vs w
    rw [List.map_nil] at w
    cases w
    exact .nil
  | cons n ns ih =>
    intro vs w
    rw [List.map_cons] at w
    cases w with
    | cons a b =>
      cases a
      exact .cons _ _ (ih _ b)

theorem script_of {l : OpenLaw} {n : Nat} (hn : l.most = some n) {P : Params} {h : Heap} {args : List WData} {vals : List Value}
    (hpre : l.row.toRowW.claim.pre args = true) (hwl : WellAll P h vals args) :
    ∃ a vs ns, vals = [Value.ref a] ∧ args = [WData.list (ns.map WData.int)] ∧ h.get? a = some { cls := .type "list", data := .seq vs.toArray } ∧ IntsAre vs ns ∧ ns.length ≤ n := by
  have hsh : WShape.hasAll [] args [.list .int] = true := (pre_splitW hpre).1
  have hc : l.pre.holds [] { args := args } = true := (pre_splitW hpre).2
  obtain ⟨d, r, rfl, h1, h2⟩ := hasAllW_cons hsh
  obtain rfl := hasAllW_nil h2
  obtain ⟨xs, rfl, h3⟩ := hasW_list h1
  obtain ⟨ns, rfl⟩ := items_int h3
  have hlen : ns.length ≤ n := by
    unfold OpenLaw.pre at hc
    have h4 : (WTm.not (.lt (.lit (.int (n : Int))) (.len (.arg 0)))).holds [] { args := [.list (ns.map .int)] } = true := by
      have h4 := (holds_andW hc).1
      rw [hn] at h4
      exact h4
    have h5 := condW_of h4 (w_not (w_lt w_lit (w_len_list (w_arg rfl))))
    rw [List.length_map] at h5
    refine Nat.le_of_not_lt fun q => ?_
    have q' : (n : Int) < ((ns.length : Nat) : Int) := by omega
    first
      | (rw [decide_eq_true q'] at h5; exact absurd h5 (by decide))
      | (simp at h5; omega)
  cases hwl with
  | cons w1 w2 =>
    cases w2
    cases w1 with
    | list ho hall => exact ⟨_, _, ns, rfl, rfl, ho, ints_of_wellAll ns _ hall, hlen⟩

theorem post_true (l : OpenLaw) (args : List WData) : l.row.toRowW.claim.post args (.bool true) args = true :=
  postW_of (r := l.row.toRowW) (X := (true == true))
    (show WShape.has [] (.bool true) .bool = true by first | rfl | decide | simp [WShape.has, WShape.arms, WShape.armsAll])
    (show (WTm.eq .res (.lit (.bool true))).value [] { args := args, res := some (.bool true), after := args } = some (.bool (true == true)) from w_eq_bool (w_res rfl) w_lit) rfl

/-! ### the attachment: holds_open's last premise (the goal 'hc' behind k_head) from a wpAny of the law's body -/

/-- the same from a codeAny of the CALL (for a layer whose function contracts speak of calls) -/
theorem attach_call {l : OpenLaw} {n : Nat} {q : Program} {loose : List Str} {XP : (Str → Option Value) → Heap → Prop} {YP : World → Heap → Prop} {d : DefRec}
    (hn : l.most = some n) (hdf : d.params.defaults = [])
    (call : ∀ (w : World) (s₀ s₁ : Shared) (mg mb : Str → Option Value) (fa : Addr) (o : Obj) (pm cd doc : Value) (a : Addr) (vs : List Value) (ns : List Int),
      Ground q loose [] XP w s₀ mg mb s₁.heap → YP w s₁.heap →
      s₁.heap.get? fa = some o → o.data = .func (docDef d.name d.params d.body d.scope pm cd doc) → s₁.heap.CodeRec cd d.name → mg d.name = some (.ref fa) →
      s₁.heap.get? a = some { cls := .type "list", data := .seq vs.toArray } → IntsAre vs ns → ns.length ≤ n → s₁.gens = #[] →
      codeAny (model l.prog w) callerA (.call (.ref fa) ⟨[.ref a], []⟩) (fun r s' => r = .ok (.ret (.bool true)) ∧ OldK s₁.heap s'.heap ∧ s'.os = s₁.os ∧ AllBare s'.gens) s₁) :
    WalkO q loose XP YP l.row.toRowW d [] (fun f vs => PySem.call f vs) := by
  intro w s₀ s₁ mg mb G Y fa o pm cd doc dV kV ho hd hcd hD hmg hg args vals as hpre hlay hrd hwl hlo
  obtain rfl : dV = .none := Dflts.none hD hdf
  obtain rfl : kV = .none := Dflts.noKw hD
  obtain ⟨a, vs, ns, rfl, rfl, hobj, hints, hlen⟩ := script_of hn hpre hwl
  refine enter_call (codeAny_mono (call w s₀ s₁ mg mb fa o pm cd doc a vs ns G Y ho (fd_plain hd) hcd hmg hobj hints hlen hg) fun r s' hq => ?_)
  obtain ⟨rfl, h2, h3, h4⟩ := hq
  exact ⟨.inl ⟨.bool true, .bool true, [], rfl, fun _ => rfl, .bool true, post_true l _, fun _ => ⟨List.Pairwise.nil, fun _ hm => (nomatch hm)⟩⟩, h2, h3, h4⟩


/-! ### rules over ANY heap (no ledger) from facts about the written part K: the library's own take a ledger (News) for what they write -/
section
variable {prog : Program} {w : World} {A : Around} {E : Value → Shared → Prop} {s : Shared} {K : Frag}





/-! the whole heap as the ledger: makes every rule that writes through a ledger a rule over any heap -/
def noObjs (h : Heap) : Heap := { h with objs := #[] }
def ledger (h : Heap) (L d : Addr) : List (Addr × Obj) := (List.range h.objs.size).filterMap fun a => if a = L ∨ a = d then none else (h.get? a).map fun o => (a, o)

end
end Att

namespace L2
open PySem PySem.Spec PyProof.Rows

theorem vals_ints : ∀ {vs : List Value} {ns : List Int}, IntsAre vs ns → Vals (ns.map V.int) vs
  | _, _, .nil => .nil
  | _, _, .cons n t h => .cons ⟨t, rfl⟩ (vals_ints h)

/-- nothing is tracked but the script, known to the object (or it is an object of the module) -/
def Only (H : Hp) : Prop := ∀ b, H b = none ∨ ∃ o xs, H b = some (.frz o (.lst xs))

/-- THE HEAD: the law's promise, at the heap behind the top. F, the promise of the law's def, may use that base is part of the heap (so K.In base, base.Ns mainGlobals mg stand in Mod) -/
theorem law_call {P : Program} {w : World} {K : PySem.W.Frag} {mg mb : Str → Option Value} {CX : CXT} {k : Nat} {fa a : Addr} {fd : FuncData} {x : Str} {sp : Sp} {s₁ : Shared} {vs : List Value} {ns : List Int}
    (KX : K.In s₁.heap) (hns : s₁.heap.Ns mainGlobals mg) (hb : s₁.heap.Ns builtinsNs mb) (hbb : ∀ x : Str, x ≠ "__name__" → mb x = bootBuiltins x) (hlim : s₁.heap.NoLimit) (hg : s₁.gens = #[])
    (ha : s₁.heap.get? a = some { cls := .type "list", data := .seq vs.toArray }) (hi : IntsAre vs ns) (hl : ns.length ≤ sizeLine) (hr : Room k callerA)
    (F : ∀ base : Heap, K.In base → base.Ns mainGlobals mg → FnOk P w K mg base CX k fa fd [x] sp) (hbind : ∀ (s : Shared) (u : Value), BindsTo s fd ⟨[u], []⟩ [(x, u)])
    (hsp : ∀ H : Hp, Only H → SqL K H a (ns.map V.int) → sp [.ref a] H (fun v _ => v = .bl true) fun _ _ _ => False)
    (hCX : ∀ H e s', CX [] H s₁ (fun _ _ _ => False) e s' → False) :
    codeAny (model P w) callerA (.call (.ref fa) ⟨[.ref a], []⟩) (fun r s' => r = .ok (.ret (.bool true)) ∧ OldK s₁.heap s'.heap ∧ s'.os = s₁.os ∧ AllBare s'.gens) s₁ := by
  have rv := vals_ints hi
  have lenV := hi.length
  -- from an abstract heap in which nothing but the script may be tracked
  have core : ∀ H : Hp, Only H → SqL K H a (ns.map V.int) → HOk P w H s₁.heap → (∀ b, H b ≠ none → b = a) → (H a ≠ none → K.lookup a = none) →
      codeAny (model P w) callerA (.call (.ref fa) ⟨[.ref a], []⟩) (fun r s' => r = .ok (.ret (.bool true)) ∧ OldK s₁.heap s'.heap ∧ s'.os = s₁.os ∧ AllBare s'.gens) s₁ := by
    intro H hO hS hok hA hK
    have base_of : ∀ {b : Addr} {o : Obj}, s₁.heap.get? b = some o → H b = none → (hidT s₁.heap H).get? b = some o := fun e n => hidT_get e n
    have noA : ∀ {b : Addr} {o : Obj} {es : Array DictEntry} {ep : Nat}, s₁.heap.get? b = some o → o.data = .dict es ep → H b = none := fun {b o es ep} e d => by
      cases q : H b with
      | none => rfl
      | some u =>
        have e' : b = a := hA b (by rw [q]; simp)
        subst e'
        rw [ha] at e; cases e
        have d' : Data.seq vs.toArray _ = Data.dict es ep := d
        cases d'
    have nsK : ∀ {b : Addr} {m : Str → Option Value}, s₁.heap.Ns b m → (hidT s₁.heap H).Ns b m := fun {b m} ⟨o, es, ep, e, d, r⟩ => ⟨o, es, ep, base_of e (noA e d), d, r⟩
    have hKb : K.In (hidT s₁.heap H) := fun b o e => base_of (KX b o e) (by
      cases q : H b with
      | none => rfl
      | some u =>
        have e' : b = a := hA b (by rw [q]; simp)
        subst e'
        rw [hK (by rw [q]; simp)] at e; cases e)
    have hM : Mod K mg (hidT s₁.heap H) := ⟨hKb, nsK hns, ⟨mb, nsK hb, hbb⟩, let ⟨mc, h1, h2⟩ := hlim; ⟨mc, nsK h1, h2⟩⟩
    have e0 : Env0 P w K mg (hidT s₁.heap H) callerA [] s₁ H := ⟨rfl, hM, fun b o e => of_hidT e, Nat.le_of_eq (hidT_size _ _), trivial, fun b hb => absurd (show b ∈ ([] : List Addr) from hb) (by simp), hok, .of_eq hg⟩
    refine codeAny_mono ((F _ hKb (nsK hns)).run callerA [] s₁ H ⟨[.ref a], []⟩ [.ref a] [.ref a] _ _ hr e0 (hbind s₁ (.ref a)) (.cons rfl .nil) (hsp H hO hS)) fun r s' h => ?_
    cases r with
    | error e => exact (hCX H e s' h).elim
    | ok fl =>
      cases fl with
      | next => exact False.elim h
      | brk => exact False.elim h
      | cont => exact False.elim h
      | ret u =>
        obtain ⟨v, H', os, bare, un, hok', r', q⟩ := h
        have q' : v = .bl true := q
        subst q'
        obtain rfl : u = Value.bool true := r'
        refine ⟨rfl, OldK.of_keep fun b o e => ?_, os, bare⟩
        cases q : H b with
        | none => exact un.keep b o e q (by intro z; exact absurd (show b ∈ ([] : List Addr) from z) (by simp)) (by simp)
        | some u =>
          rcases hO b with z | ⟨ob, xs, z⟩
          · rw [q] at z; cases z
          · have z2 := un.frzs b ob _ z
            obtain ⟨e1, _⟩ := hok b _ z
            obtain ⟨e2, _⟩ := hok' b _ z2
            rw [e] at e1; cases e1
            exact e2
  cases hk : K.lookup a with
  | some o =>
    -- the script is one of the module's own objects
    have e := KX a o hk
    rw [ha] at e
    cases e
    refine core (fun _ => none) (fun _ => .inl rfl) (.inr ⟨_, vs.toArray, _, hk, rfl, rfl, rfl, by rw [List.size_toArray, lenV]; exact hl, by simpa using rv⟩) (fun b u z => by have z' : (none : Option HO) = some u := z; cases z') (fun b z => absurd rfl z) fun z => absurd rfl z
  | none =>
    refine core (fun b => if b = a then some (.frz { cls := .type "list", data := .seq vs.toArray } (.lst (ns.map V.int))) else none) (fun b => ?_) (.inl (.inr ⟨{ cls := .type "list", data := .seq vs.toArray }, if_pos rfl⟩)) (fun b u z => ?_) (fun b z => ?_) fun _ => hk
    · by_cases hb : b = a
      · exact .inr ⟨_, _, if_pos hb⟩
      · exact .inl (if_neg hb)
    · by_cases hb : b = a
      · have z' := (if_pos hb).symm.trans z
        cases z'
        subst hb
        exact ⟨ha, by rw [List.length_map]; exact hl, vs, _, rv, ha⟩
      · have z' := (if_neg hb).symm.trans z
        cases z'
    · by_cases hb : b = a
      · exact hb
      · exact absurd (if_neg hb) z
end L2

namespace L2
open PySem PySem.Spec PyProof.Rows

abbrev KOf {K : PySem.W.Frag} {h : Heap} (_ : K.In h) : PySem.W.Frag := K

/-- the goal that k_head leaves (case hc), from the law's promise. F gives the function object fd (K's own) once, then the promise over every base -/
theorem walk_of {l : PySem.W.OpenLaw} {n k : Nat} {q : Program} {loose : List Str} {XP : (Str → Option Value) → Heap → Prop} {YP : World → Heap → Prop} {d : DefRec} {K : Params → PySem.W.Frag} {CX : World → CXT} {sp : World → Sp} {x : Str}
    (hn : l.most = some n) (hn2 : n ≤ sizeLine) (hdf : d.params.defaults = []) (hr : Room k callerA)
    (hY : ∀ (w : World) (h : Heap), YP w h → (K w.params).In h)
    (F : ∀ (w : World) (mg : Str → Option Value) (fa : Addr) (h : Heap), (K w.params).In h → h.Ns mainGlobals mg → mg d.name = some (.ref fa) →
      ∃ fd : FuncData, (∀ (s : Shared) (u : Value), BindsTo s fd ⟨[u], []⟩ [(x, u)]) ∧
        ∀ base : Heap, (K w.params).In base → base.Ns mainGlobals mg → FnOk l.prog w (K w.params) mg base (CX w) k fa fd [x] (sp w))
    (hsp : ∀ (w : World) (H : Hp) (a : Addr) (ns : List Int), ns.length ≤ n → Only H → SqL (K w.params) H a (ns.map V.int) → sp w [.ref a] H (fun v _ => v = .bl true) fun _ _ _ => False)
    (hCX : ∀ (w : World) (H : Hp) (s : Shared) (e : Value) (s' : Shared), CX w [] H s (fun _ _ _ => False) e s' → False) :
    PySem.W.WalkO q loose XP YP l.row.toRowW d [] (fun f vs => PySem.call f vs) := by
  refine Att.attach_call hn hdf fun w s₀ s₁ mg mb fa o pm cd doc a vs ns G Y ho hd hcd hmg hobj hints hlen hg => ?_
  have KX := hY w _ Y
  obtain ⟨fd, hb, hF⟩ := F w mg fa _ KX G.T.g hmg
  exact law_call KX G.T.g G.T.b G.T.builtins G.T.nolimit hg hobj hints (Nat.le_trans hlen hn2) hr hF hb (fun H hO hS => hsp w H a ns hlen hO hS) fun H e s' => hCX w H s₁ e s'
end L2

/- THE LAST THEOREM (shape; LID, My.* are yours):
   My.Adr: a structure of the addresses that your layer names (classes, functions); My.Txt K t: a structure (Prop) of the equations over K;
   My.txt_mk : {K} {implicit addresses ..} (e1 : nsIn K mainGlobals "law" = some (some (.ref f))) (e2 : K.lookup f = some ⟨oc, od, .func (fnOf "law" "law" params body scope dV kV doc pm an cdv ct), sl⟩) (e3 : codeIn K cdv "law" = true) .. : ∃ t, My.Txt K t

set_option maxRecDepth 100000 in
set_option maxHeartbeats 0 in
theorem PySem.Challenge.cw_LID_holds : PySem.Challenge.rw_LID.Holds := by
  w_on; o_law; k_head; (case hw => w_witness2)
  k_fill
  refine L2.walk_of (l := PySem.Challenge.rw_LID) (n := 63) (k := 40) (x := "script") (CX := fun w => ..) (sp := fun _ => My.sp_law) rfl (by decide) rfl ⟨rfl, by decide, by decide⟩ (fun w h Y => PySem.W.kIn_of Y) ?F ?S ?C
  case F =>
    intro w mg fa h KX G hmg
    have T : ∃ t, My.Txt (L2.KOf KX) t := by
      dsimp only [L2.KOf]                          -- K must stand as «<heap const> w.params» for k_is
      refine' My.txt_mk ?e1 ?e2 ?e3 ..
      (case e1 => PySem.W.k_is)                    -- in the order: a name -> its address -> its object -> its parts
      (case e2 => PySem.W.k_is)
      ..
    obtain ⟨t, T⟩ := T
    have e0 := hmg.symm.trans (PySem.W.mg_of KX G T.law)
    cases e0                                       -- fa is the law's own address
    exact ⟨_, fun s u => .of_eq rfl, fun base kb nb => My.law_fn T kb nb⟩     -- if «.of_eq rfl» comes too early: refine' ⟨_, ?b, fun base kb nb => My.law_fn T kb nb⟩; exact fun s u => .of_eq rfl
  case S => exact fun w H a ns hl hO hS => ..
  case C => exact ..
(the tactic k_is has no namespace: write k_is) -/

/-! SHORT WORDS over the layer: a def of the text, its body, what a loop and a test want. -/
namespace L2
open PySem PySem.Spec PyProof.Rows

/-! ### the text by places -/
/-- the j-th statement of a class's body -/
def inClass (s : Stmt) (j : Nat) : Stmt := match s with
  | .ClassDef _ _ _ body _ _ _ _ _ _ _ => body.getD j (.Pass ⟨0, 0, 0, 0⟩)
  | _ => .Pass ⟨0, 0, 0, 0⟩
def defArgs (s : Stmt) : Arguments := match s with
  | .FunctionDef _ a _ _ _ _ _ _ _ _ => a
  | _ => { posonlyargs := [], args := [], vararg := none, kwonlyargs := [], kw_defaults := [], kwarg := none, defaults := [] }
def defBody (s : Stmt) : List Stmt := match s with
  | .FunctionDef _ _ b _ _ _ _ _ _ _ => b
  | _ => []
def defScope (s : Stmt) : Scope := match s with
  | .FunctionDef _ _ _ _ _ _ sc _ _ _ => sc
  | _ => { kind := .function, names := [], isGenerator := false, isCoroutine := false }

/-! ### no exception leaves a def -/
abbrev CX0 : CXT := fun _ _ _ _ _ _ => False
abbrev E0 : XK := fun _ _ _ => False
theorem pass0 {X : Cx} : Passes CX0 X E0 := fun _ _ _ _ _ _ _ h => h.elim

/-! ### a def (or method) of the text as it stands behind the top -/
structure Fun (K : PySem.W.Frag) (x qual : Str) (st : Stmt) (f : Addr) (fd : FuncData) : Prop where
  ex : ∃ (oc : Value) (od : Option Addr) (kV doc pm : Value) (an : Option Addr) (cdv ct : Value) (osl : Array (Option Value)),
    fd = PySem.W.fnOf x qual (defArgs st) (defBody st) (defScope st) .none kV doc pm an cdv ct ∧ K.lookup f = some ⟨oc, od, .func fd, osl⟩ ∧ PySem.W.codeIn K cdv qual = true
  kp : PySem.W.keepIn K (.ref f) = true
section
variable {P : Program} {w : World} {K : PySem.W.Frag} {mg : Str → Option Value} {base : Heap}
/-- THE RULE for a def: its body as a term of rules, and the reading of that term -/
theorem Fun.ok {x qual : Str} {st : Stmt} {f : Addr} {fd : FuncData} {N ps : List Str} {k : Nat} {sp : Sp} (F : Fun K x qual st f fd) (S : FnScope N ps (defScope st)) (len : ∀ vs H Q E, sp vs H Q E → vs.length = ps.length)
    (hbody : ∀ (cdv : Value) (A : Around) (outer : List Env) (s : Shared) (H : Hp) (vs : List V) (Q : VK) (E : XK), Room k (A.deeper (envOfC qual (defScope st) s.heap.objs.size f cdv)) → sp vs H Q E →
      ∃ t, PSs (cxOf CX0 P w K mg base N qual (defScope st) f cdv A outer s H E).nox (defBody st) t ∧ t { nx := fun _ H' => Q .non H', rt := Q } (start N vs) H) : FnOk P w K mg base CX0 (k + 1) f fd ps sp := by
  obtain ⟨oc, od, kV, doc, pm, an, cdv, ct, osl, rfl, lk, hcd⟩ := F.ex
  refine fn_of lk hcd S len fun A outer s H vs Q E hr hsp => ?_
  obtain ⟨t, h, q⟩ := hbody cdv A outer s H vs Q E hr hsp
  exact ⟨t, h.nox, q⟩
/-- how its arguments bind (no defaults): h is «fun _ _ _ _ _ _ us hl => match us, hl with | [_, _], _ => rfl», one _ a parameter -/
theorem Fun.binds {x qual : Str} {st : Stmt} {f : Addr} {fd : FuncData} {ps : List Str} (F : Fun K x qual st f fd)
    (h : ∀ (kV doc pm : Value) (an : Option Addr) (cdv ct : Value) (us : List Value), us.length = ps.length → bindArgs (PySem.W.fnOf x qual (defArgs st) (defBody st) (defScope st) .none kV doc pm an cdv ct) ⟨us, []⟩ = pure (ps.zip us)) : Binds K fd ps [] := by
  obtain ⟨oc, od, kV, doc, pm, an, cdv, ct, osl, rfl, lk, hcd⟩ := F.ex
  exact .all (h kV doc pm an cdv ct)
theorem fun_mk {x qual : Str} {st : Stmt} {f : Addr} {oc : Value} {od an : Option Addr} {osl : Array (Option Value)} {kV doc pm cdv ct : Value} (l : K.lookup f = some ⟨oc, od, .func (PySem.W.fnOf x qual (defArgs st) (defBody st) (defScope st) .none kV doc pm an cdv ct), osl⟩)
    (c : PySem.W.codeIn K cdv qual = true) (k : PySem.W.keepIn K (.ref f) = true) : Fun K x qual st f (PySem.W.fnOf x qual (defArgs st) (defBody st) (defScope st) .none kV doc pm an cdv ct) := ⟨⟨oc, od, kV, doc, pm, an, cdv, ct, osl, rfl, l, c⟩, k⟩
end
theorem hu_of {A : Around} {k : Nat} (hr : Room k A) : A.units + 1 < cLine := Nat.lt_of_le_of_lt (Nat.add_le_add_left (by decide : 1 ≤ 64) _) hr.units
theorem small1000 {n : Nat} (h : n ≤ 1000) : n < sizeLine := Nat.lt_of_le_of_lt h (by decide)

/-! ### expressions in short: the name that stands in the i-th slot -/
section
variable {X : Cx}
theorem pv (i : Nat) {x : Str} {pos : Pos} (hN : X.N[i]? = some x := by rfl) (hv : Vis X.env.scope x := by first | exact Or.inl rfl | exact Or.inr (Or.inl rfl) | exact Or.inr (Or.inr rfl)) (hd : (x == ("__debug__" : Str)) = false := by decide)
    (hcd : (x == ("__classdict__" : Str)) = false := by decide) : PE X (.Name x pos) (tVar i) := pe_var hN hv hd hcd
end

/-! ### tests -/
theorem iteF {A B : Prop} (h : B) : if false = true then A else B := by
  rw [if_neg Bool.false_ne_true]
  exact h
theorem iteT {A B : Prop} (h : A) : if true = true then A else B := by
  rw [if_pos rfl]
  exact h
theorem ite2 {c A B : Prop} [Decidable c] (h1 : c → A) (h2 : ¬ c → B) : if c then A else B := by
  by_cases h : c
  · rw [if_pos h]
    exact h1 h
  · rw [if_neg h]
    exact h2 h
theorem iteNS {c A B : Prop} [Decidable c] (hc : c) (h : B) : if (!decide c) = true then A else B := by
  rw [decide_eq_true hc]
  exact iteF h

/-! ### heaps -/
/-- all that was tracked is as it was -/
def Same (H H' : Hp) : Prop := ∀ b o, H b = some o → H' b = some o
theorem Same.refl (H : Hp) : Same H H := fun _ _ h => h
theorem Same.trans {H H1 H2 : Hp} (a : Same H H1) (b : Same H1 H2) : Same H H2 := fun c o h => b c o (a c o h)
theorem Same.free {H H' : Hp} (e : Same H H') {l : Addr} (h : H' l = Option.none) : H l = Option.none := by
  cases q : H l with
  | none => rfl
  | some o =>
    rw [e l o q] at h
    cases h
theorem Same.seq {K : PySem.W.Frag} {H H' : Hp} {a : Addr} {xs : List V} (e : Same H H') (h : SqL K H a xs) : SqL K H' a xs := by
  rcases h with (h | ⟨o, h⟩) | h
  · exact .inl (.inl (e _ _ h))
  · exact .inl (.inr ⟨o, e _ _ h⟩)
  · exact .inr h

end L2

set_option Elab.async false
set_option linter.all false
set_option maxRecDepth 100000
set_option maxHeartbeats 4000000
/-! Comprehensions over the hand layer. -/
namespace L2
open PySem PySem.Spec PyProof.Rows

/-- the block of a comprehension as a context of its own -/
def cxComp (X : Cx) (N : List Str) (scope : Scope) (cl : List (Str × Addr)) (C : Addr) (s : Shared) (H : Hp) (ex : List Addr) : Cx where
  prog := X.prog
  w := X.w
  K := X.K
  mg := X.mg
  base := X.base
  A := X.A
  N := N
  s₀ := s
  H₀ := H
  env := compEnvC scope cl C X.env
  outer := X.stack
  stack := X.stack
  ex := ex
  fn := fun _ => false
  calm := X.calm
  pn := []
  xe := fun _ _ => False


/-- the closure of a block: a cell for each free name -/
theorem closure_of {env : Env} : ∀ (names : List (Str × NameKind)) (acc : List (Str × Addr)), (∀ y ∈ names, y.2 = .free → ∃ c, env.cells.lookup y.1 = some c) →
    ∃ cl, (forIn names acc (fun x cs => match x with | (name, kind) => if (kind == NameKind.free) = true then (do let a ← cellOf env name; pure (ForInStep.yield ((name, a) :: cs))) else pure (ForInStep.yield cs)) : Sem (List (Str × Addr))) = pure cl ∧
      (∀ p ∈ cl, p ∈ acc ∨ env.cells.lookup p.1 = some p.2) ∧ (∀ y ∈ names, y.2 = .free → ∃ c, (y.1, c) ∈ cl) ∧ ∀ p ∈ acc, p ∈ cl
  | [], acc, _ => ⟨acc, by rw [List.forIn_nil], fun p hp => .inl hp, fun _ h => (nomatch h), fun _ h => h⟩
  | (n, k) :: r, acc, h => by
    rw [List.forIn_cons]
    by_cases hk : k = .free
    · subst hk
      obtain ⟨c, hc⟩ := h (n, .free) List.mem_cons_self rfl
      obtain ⟨cl, e, h1, h2, h3⟩ := closure_of r ((n, c) :: acc) fun y hy => h y (List.mem_cons_of_mem _ hy)
      have ec : cellOf env n = pure c := by unfold cellOf; rw [hc]
      refine ⟨cl, ?_, fun p hp => ?_, fun y hy hf => ?_, fun p hp => h3 p (List.mem_cons_of_mem _ hp)⟩
      · simp only [beq_self_eq_true, if_true, ec, pure_bind]
        exact e
      · rcases h1 p hp with q | q
        · rcases List.mem_cons.mp q with rfl | q
          · exact .inr hc
          · exact .inl q
        · exact .inr q
      · rcases List.mem_cons.mp hy with rfl | hy
        · exact ⟨c, h3 _ List.mem_cons_self⟩
        · exact h2 y hy hf
    · obtain ⟨cl, e, h1, h2, h3⟩ := closure_of r acc fun y hy => h y (List.mem_cons_of_mem _ hy)
      have hb : (k == NameKind.free) = false := by simpa using hk
      refine ⟨cl, ?_, h1, fun y hy hf => ?_, h3⟩
      · simp only [hb, Bool.false_eq_true, if_false, pure_bind]
        exact e
      · rcases List.mem_cons.mp hy with rfl | hy
        · exact absurd hf hk
        · exact h2 y hy hf

theorem mem_lookup_some {α : Type} : ∀ {l : List (Str × α)} {x : Str} {c : α}, (x, c) ∈ l → ∃ d, l.lookup x = some d
  | (y, e) :: r, x, c, h => by
    rw [List.lookup_cons]
    cases hb : x == y with
    | true => exact ⟨e, rfl⟩
    | false =>
      rcases List.mem_cons.mp h with q | q
      · cases q; simp at hb
      · exact mem_lookup_some q
theorem closureFor_of {scope : Scope} {env : Env} (h : ∀ y ∈ scope.names, y.2 = .free → ∃ c, env.cells.lookup y.1 = some c) :
    ∃ cl, closureFor scope env = pure cl ∧ (∀ x c, cl.lookup x = some c → env.cells.lookup x = some c) ∧ ∀ y ∈ scope.names, y.2 = .free → ∃ c, cl.lookup y.1 = some c := by
  obtain ⟨cl, e, h1, h2, _⟩ := closure_of (env := env) scope.names [] h
  refine ⟨cl, ?_, fun x c q => ?_, fun y hy hf => ?_⟩
  · simp only [closureFor]
    rw [e]
    rfl
  · rcases h1 _ (PySem.mem_of_lookup q) with z | z
    · cases z
    · exact z
  · obtain ⟨c, hc⟩ := h2 y hy hf
    exact mem_lookup_some hc

section
variable {prog : Program} {w : World} {A : Around} {R : Result → Shared → Prop} {s : Shared}
theorem comp_loop {elt target iter : Expr} {ifs : List Expr} {scope : Scope} {pos : Pos} {it acc : Value} {env : Env} (I : Nat → Shared → Prop)
    (turn : ∀ n s, I n s → wpAny (model prog w) A (pyNext it) (fun r s₁ => match r with
      | none => R (.ok .next) s₁
      | some v => wpAny (model prog w) A (letOwnedTupleGo target it v) (fun _ s₁' => wpAny (model prog w) A (assign target env v) (fun _ s₂ =>
          wpAny (model prog w) A (forIn ifs true fun c r => if r = true then do let ok ← isTrue c env (eval c env); pure (ForInStep.yield ok) else pure (ForInStep.yield r)) (fun ok s₃ =>
            if ok = true then wpAny (model prog w) A (eval elt env) (fun x s₄ =>
              wpAny (model prog w) A (call (.builtin "list.append") [acc, x]) (fun _ s₅ => ∃ m, m < n ∧ I m s₅) (fun _ _ => False) s₄) (fun _ _ => False) s₃
            else ∃ m, m < n ∧ I m s₃) (fun _ _ => False) s₂) (fun _ _ => False) s₁') (fun _ _ => False) s₁) (fun _ _ => False) s)
    (n : Nat) (h : I n s) : codeAny (model prog w) A (.compLoop (.ListComp elt [⟨target, iter, ifs, 0⟩] scope pos) 0 it acc env) R s := by
  refine codeAny_loop rfl I (fun n s hI => ?_) n h
  show wpAny _ A ((compTurn (.ListComp elt [⟨target, iter, ifs, 0⟩] scope pos) 0 it acc env).onRaise (fun x => do noteFrame x env; theTreesLotGoes x)) _ _ s
  refine wpAny_noted ?_
  rw [compTurn_list]
  refine wpAny_bind (wpAny_standAt (wpAny_bind (wpAny_mono (turn n s hI) (fun r s₁ h₁ => ?_) fun _ _ f => f.elim)))
  cases r with
  | none => exact wpAny_pure h₁
  | some v =>
    refine wpAny_bind (wpAny_mono h₁ (fun _ s₁' h₁' => ?_) fun _ _ f => f.elim)
    refine wpAny_bind (wpAny_mono h₁' (fun _ s₂ h₂ => wpAny_bind (wpAny_mono h₂ (fun ok s₃ h₃ => ?_) fun _ _ f => f.elim)) fun _ _ f => f.elim)
    cases ok with
    | false => exact wpAny_pure ⟨rfl, h₃⟩
    | true =>
      exact wpAny_bind (wpAny_bind (wpAny_mono h₃ (fun x s₄ h₄ => wpAny_bind (wpAny_mono h₄ (fun _ s₅ h₅ => wpAny_pure (wpAny_pure ⟨rfl, h₅⟩)) fun _ _ f => f.elim)) fun _ _ f => f.elim))
end

/-- the free names' values, as the frame around has them -/
def cst (k : Nat) (fr : List Nat) (σ : St) : St := List.replicate k none ++ fr.map fun j => (σ[j]?).join

/-- what is asked of a block's scope: k own names first, then the free ones, which stand in the frame around at fr -/
structure CompScope (X : Cx) (loc free : List Str) (fr : List Nat) (scope : Scope) : Prop where
  kind : scope.kind = .function
  cell : ∀ y ∈ scope.names, y.2 ≠ .cell
  names : ∀ y ∈ scope.names, y.2 = .local → scope.names.lookup y.1 = some .local
  frees : ∀ y ∈ scope.names, y.2 = .free → X.env.kindOf y.1 = some .cell ∨ X.env.kindOf y.1 = some .free
  at_ : ∀ (i j : Nat) (x : Str), fr[i]? = some j → free[i]? = some x → X.N[j]? = some x ∧ scope.names.lookup x = some .free
  len : fr.length = free.length

theorem lookup_relabel_free {env : Env} : ∀ {names : List (Str × NameKind)} {x : Str}, (∀ y ∈ names, y.2 ≠ .cell) →
    ((names.map fun (n, k) => if (k == NameKind.free && env.scope.kind == .function && env.kindOf n == some .cell) then (n, NameKind.cell) else (n, k)).lookup x = some .cell ∨
     (names.map fun (n, k) => if (k == NameKind.free && env.scope.kind == .function && env.kindOf n == some .cell) then (n, NameKind.cell) else (n, k)).lookup x = some .free) → names.lookup x = some .free
  | [], _, _, h => by simp at h
  | (n, k) :: r, x, hc, h => by
    have ih := @lookup_relabel_free env r x fun y hy => hc y (List.mem_cons_of_mem _ hy)
    rw [List.map_cons] at h
    rw [List.lookup_cons]
    cases hx : x == n with
    | true =>
      have hk : k ≠ .cell := hc (n, k) List.mem_cons_self
      dsimp only at h ⊢
      by_cases hb : (k == NameKind.free && env.scope.kind == .function && env.kindOf n == some .cell) = true
      · have : k = .free := by
          rw [Bool.and_eq_true, Bool.and_eq_true] at hb
          simpa using hb.1.1
        rw [this]
      · rw [if_neg hb, List.lookup_cons, hx] at h
        rcases h with h | h
        · have : k = .cell := Option.some.inj h
          exact absurd this hk
        · exact h
    | false =>
      dsimp only at h ⊢
      refine ih ?_
      by_cases hb : (k == NameKind.free && env.scope.kind == .function && env.kindOf n == some .cell) = true
      · rw [if_pos hb, List.lookup_cons, hx] at h; exact h
      · rw [if_neg hb, List.lookup_cons, hx] at h; exact h
theorem lookup_relabel_back {env : Env} : ∀ {names : List (Str × NameKind)} {x : Str}, names.lookup x = some .free →
    ((names.map fun (n, k) => if (k == NameKind.free && env.scope.kind == .function && env.kindOf n == some .cell) then (n, NameKind.cell) else (n, k)).lookup x = some .cell ∨
     (names.map fun (n, k) => if (k == NameKind.free && env.scope.kind == .function && env.kindOf n == some .cell) then (n, NameKind.cell) else (n, k)).lookup x = some .free)
  | [], _, h => by simp at h
  | (n, k) :: r, x, h => by
    have ih := @lookup_relabel_back env r x
    rw [List.map_cons]
    rw [List.lookup_cons] at h
    cases hx : x == n with
    | true =>
      rw [hx] at h
      have hk : k = .free := Option.some.inj h
      subst hk
      dsimp only
      by_cases hb : (NameKind.free == NameKind.free && env.scope.kind == .function && env.kindOf n == some .cell) = true
      · rw [if_pos hb, List.lookup_cons, hx]; exact .inl rfl
      · rw [if_neg hb, List.lookup_cons, hx]; exact .inr rfl
    | false =>
      rw [hx] at h
      have := ih h
      dsimp only
      by_cases hb : (k == NameKind.free && env.scope.kind == .function && env.kindOf n == some .cell) = true
      · rw [if_pos hb, List.lookup_cons, hx]; exact this
      · rw [if_neg hb, List.lookup_cons, hx]; exact this

section
variable {X : Cx} {pins : List (Addr × Obj)} {σ : St} {H : Hp} {s : Shared}
/-- at the block's entry -/
theorem inv_comp {loc free : List Str} {fr : List Nat} {scope : Scope} {cl : List (Str × Addr)} {h1 : Heap} {t1 : Nat} {fp : List Addr} (S : CompScope X loc free fr scope) (I : Inv X pins σ H s)
    (hc1 : ∀ x c, cl.lookup x = some c → X.env.cells.lookup x = some c) (hc2 : ∀ y ∈ scope.names, y.2 = .free → ∃ c, cl.lookup y.1 = some c)
    (hns : h1.Ns s.heap.objs.size (fun _ => none)) (hk : ∀ b o, s.heap.get? b = some o → h1.get? b = some o)
    (hfp : ∀ b ∈ fp, FpOk X pins H b) (hfo : ∀ b ∈ fp, ∃ o, s.heap.get? b = some o) :
    Inv (cxComp X (loc ++ free) scope cl s.heap.objs.size s H fp) [] (cst loc.length fr σ) H { s with heap := h1, toks := t1 } := by
  have fpb : ∀ b ∈ fp, b < s.heap.objs.size := fun b hb => let ⟨o, e⟩ := hfo b hb; Heap.lt_size e
  refine ⟨⟨I.ok.mod, S.kind, I.ok.glob, I.ok.blt, Nat.le_refl _, fun x y c e1 e2 => I.ok.inj x y c (hc1 _ _ e1) (hc1 _ _ e2), fun x hx => ?_, fun x c f => (nomatch f), I.ok.hd, I.ok.frames, .inl rfl, fun b hb => ?_, I.bs, Nat.le_trans I.ok.bsz I.sz, fun b o e hb => ?_, fun b hb z => ?_, I.stack, I.stkFree⟩,
    rfl, I.bare, Un.kept hk, ⟨_, hns, fun i x v e1 e2 e3 => ?_⟩, fun x c e => ?_, I.hok.fresh (Nat.le_refl _), fun x c e => I.freeC x c (hc1 x c e), fun p hp => absurd (show p ∈ ([] : List (Addr × Obj)) from hp) (by simp), I.hok.kept hk, ?_⟩
  · have q : scope.names.lookup x = some .free := lookup_relabel_free S.cell hx
    exact hc2 (x, .free) (PySem.mem_of_lookup q) rfl
  · exact ⟨Nat.ne_of_lt (fpb b hb), fun x c e => (hfp b hb).2.2.2.2.1 x c (hc1 x c e)⟩
  · rcases (hfp b hb).2.2.2.1 with z | z
    · exact I.ok.noex b o e z
    · exact absurd (Nat.lt_of_lt_of_le (Heap.lt_size e) (Nat.le_trans I.ok.bsz z)) (Nat.lt_irrefl _)
  · rcases List.mem_cons.mp (I.stkSub b z) with e | e
    · exact (hfp b hb).2.1 e
    · exact (hfp b hb).2.2.1 e
  · have e1' : (loc ++ free)[i]? = some x := e1
    unfold cst at e2
    by_cases hi : i < loc.length
    · rw [List.getElem?_append_left (by simpa using hi), List.getElem?_replicate] at e2
      rw [if_pos hi] at e2
      cases e2
    · have hi' : loc.length ≤ i := Nat.le_of_not_lt hi
      rw [List.getElem?_append_right (by simpa using hi'), List.length_replicate, List.getElem?_map] at e2
      rw [List.getElem?_append_right hi'] at e1'
      cases hj : fr[i - loc.length]? with
      | none => rw [hj] at e2; cases e2
      | some j =>
        rw [hj] at e2
        have e2' : (σ[j]?).join = some v := Option.some.inj e2
        obtain ⟨n1, n2⟩ := S.at_ _ j x hj e1'
        have e4 : σ[j]? = some (some v) := by
          cases q : σ[j]? with
          | none => rw [q] at e2'; cases e2'
          | some z => rw [q] at e2'; exact congrArg some e2'
        have kf := S.frees (x, .free) (PySem.mem_of_lookup n2) rfl
        obtain ⟨m, hn, hl⟩ := I.loc
        obtain ⟨u, r, l⟩ := hl j x v n1 e4 (kf.elim (fun z => .inr (.inl z)) fun z => .inr (.inr z))
        refine ⟨u, r, .inr ⟨lookup_relabel_back n2, ?_⟩⟩
        obtain ⟨c, hc⟩ := hc2 (x, .free) (PySem.mem_of_lookup n2) rfl
        have hcx := hc1 x c hc
        rcases l with ⟨hk', _⟩ | ⟨_, c', hc', hcell⟩
        · rcases kf with z | z <;> (rw [hk'] at z; cases z)
        · rw [hcx] at hc'
          cases hc'
          obtain ⟨o, ho, hd⟩ := hcell
          exact ⟨c, hc, o, hk _ _ ho, hd⟩
  · obtain ⟨v, o, ho, hd⟩ := I.cell x c (hc1 x c e)
    exact ⟨v, o, hk _ _ ho, hd⟩
  · show (cst loc.length fr σ).length = (loc ++ free).length
    unfold cst
    rw [List.length_append, List.length_replicate, List.length_map, List.length_append, S.len]

/-- what tComp asks behind the new list, over J -/
abbrev CompW (J : It) (g : TG) (tc : TT) (te : TE) (σ0 : St) (H : Hp) (Q : VK) (D : Addr) : Prop :=
  ∃ W : Nat → Nat → List V → St → Hp → Prop, (∃ m, W 0 m [] σ0 (upd H D (.lst []))) ∧ ∀ i m acc σ' H', W i m acc σ' H' → H' D = some (.lst acc) ∧
    ((J.stop i H' ∧ Q (.ref D) H') ∨ (J.go i H' ∧ ∃ N : List V → St → Hp → Prop, (∀ acc' σ3 H5, N acc' σ3 H5 → ∃ m', m' < m ∧ W (i + 1) m' acc' σ3 H5) ∧ ∀ x H2, J.yld i H' x H2 → g x σ' H2 fun σ3 H3 => tc σ3 H3 fun b H4 =>
      if b = true then te σ3 H4 fun v H5 => H5 D = some (.lst acc) ∧ acc.length < sizeLine ∧ N (acc ++ [v]) σ3 (upd H5 D (.lst (acc ++ [v])))
      else N acc σ3 H4))
def tComp (wi : TI) (k : Nat) (fr : List Nat) (g : TG) (tc : TT) (te : TE) : TE := fun σ H Q => wi σ H fun J H1 => ∀ D, H1 D = none → CompW J g tc te (cst k fr σ) H1 Q D
def tTrue : TT := fun _ H Q => Q true H

/-- the tests of a comprehension's clause -/
def PTs (X : Cx) (ifs : List Expr) (t : TT) : Prop :=
  ∀ (pins : List (Addr × Obj)) (s : Shared) (σ : St) (H : Hp) (Q : Bool → Hp → Prop), Inv X pins σ H s → t σ H Q →
    wpAny (model X.prog X.w) X.A (forIn ifs true fun c r => if r = true then do let ok ← isTrue c X.env (eval c X.env); pure (ForInStep.yield ok) else pure (ForInStep.yield r)) (TP X pins σ Q) X.xe s
theorem pts_nil : PTs X [] tTrue := fun pins s σ H Q I h => wpAny_tests_nil ⟨H, I, h⟩
theorem pts_one {c : Expr} {t : TT} (h : PT X c t) : PTs X [c] t := fun pins s σ H Q I q => wpAny_tests_one (h pins s σ H Q I q)

/-- what stands where the block has come to its end -/
structure CompEnd (X : Cx) (pins : List (Addr × Obj)) (σ : St) (Q : VK) (D C : Addr) (s6 : Shared) : Prop where
  inv : ∃ H5, Inv X pins σ H5 s6 ∧ H5 C = none ∧ Q (.ref D) H5
  ns : ∃ m, s6.heap.Ns C m
  neL : C ≠ X.env.locals
  nfs : C ∉ X.fs
  new : X.s₀.heap.objs.size ≤ C
  cel : ∀ x c, X.env.cells.lookup x = some c → c ≠ C
  pin : ∀ p ∈ X.pn ++ pins, p.1 ≠ C

theorem comp_run {elt tg iter : Expr} {ifs : List Expr} {loc free : List Str} {fr : List Nat} {scope : Scope} {pos : Pos} {wi : TI} {g : TG} {tc : TT} {te : TE} (hc : X.calm = true) (S : CompScope X loc free fr scope) (hi : PI X tg iter wi)
    (hg : ∀ cl C s H ex, PG (cxComp X (loc ++ free) scope cl C s H ex) tg g) (ht : ∀ cl C s H ex, PTs (cxComp X (loc ++ free) scope cl C s H ex) ifs tc) (he : ∀ cl C s H ex, PE (cxComp X (loc ++ free) scope cl C s H ex) elt te)
    (I : Inv X pins σ H s) {Q : VK} (h : tComp wi loc.length fr g tc te σ H Q) {cl : List (Str × Addr)} (hc1 : ∀ x c, cl.lookup x = some c → X.env.cells.lookup x = some c) (hc2 : ∀ y ∈ scope.names, y.2 = .free → ∃ c, cl.lookup y.1 = some c)
    {RR : Value → Addr → Result → Shared → Prop} (hRR : ∀ D C s6, CompEnd X pins σ Q D C s6 → RR (.ref D) C (.ok .next) s6) :
    wpAny (model X.prog X.w) X.A (eval iter X.env) (fun x s1 => wpAny (model X.prog X.w) X.A (pyIter x) (fun it s2 => wpAny (model X.prog X.w) X.A (newList []) (fun acc s3 =>
      wpAny (model X.prog X.w) X.A (newFunctionEnv scope X.env.globals cl [] X.env.qual none .none (some X.env)) (fun cenv s4 =>
        codeAny (model X.prog X.w) X.A (.compStart (.ListComp elt [⟨tg, iter, ifs, 0⟩] scope pos) 0 it acc { cenv with scope := relabel scope X.env }) (RR acc cenv.locals) s4) X.xe s3) X.xe s2) X.xe s1) X.xe s := by
  refine thn (hi pins s σ H _ I h) fun v s1 h1 => thn h1 fun itv s2 h2 => ?_
  obtain ⟨it, fp, tn, J, H2, e, I2, T, st2, f2, q2⟩ := h2
  subst e
  have hD : H2 s2.heap.objs.size = none := I2.hok.fresh (Nat.le_refl _)
  obtain ⟨W, ⟨m0, w0⟩, turn⟩ := q2 s2.heap.objs.size hD
  refine wpAny_newObj_type ?_
  generalize hs3 : ({ s2 with heap := s2.heap.push { cls := .type "list", dict := none, data := .seq ([] : List Value).toArray } } : Shared) = s3
  have I3 : Inv X pins σ (upd H2 s2.heap.objs.size (.lst [])) s3 := by
    rw [← hs3]
    exact I2.lnew (its := []) (t' := s2.toks) .nil (Nat.zero_le _)
  have k23 : ∀ b o, s2.heap.get? b = some o → s3.heap.get? b = some o := fun b o q => by rw [← hs3]; exact Heap.get?_push_of_some _ q
  have f3 : ∀ b ∈ fp, FpOk X pins (upd H2 s2.heap.objs.size (.lst [])) b := fun b hb => by
    obtain ⟨o, e, _⟩ := T.obj _ _ st2 b hb
    exact ⟨by rw [upd_ne (Nat.ne_of_lt (Heap.lt_size e))]; exact (f2 b hb).1, (f2 b hb).2⟩
  have o3 : ∀ b ∈ fp, ∃ o, s3.heap.get? b = some o := fun b hb => let ⟨o, e, _⟩ := T.obj _ _ st2 b hb; ⟨o, k23 b o e⟩
  have st3 : tn 0 s3.heap := T.keep _ _ _ st2 fun b _ o e => k23 b o e
  refine wpAny_newFunctionEnv S.cell (by intro y hy; simp at hy) (fun h4 hns hsb => ?_) S.kind
  try dsimp only at hns hsb ⊢
  have k34 : ∀ b o, s3.heap.get? b = some o → h4.get? b = some o := fun b o q => hsb.extBut b o (Nat.ne_of_lt (Heap.lt_size q)) (Heap.get?_push_of_some _ q)
  have I4 := inv_comp (t1 := s3.toks + ([] : List (Str × Value)).length) S I3 hc1 hc2 hns k34 f3 o3
  have hgC := hg cl s3.heap.objs.size s3 (upd H2 s2.heap.objs.size (.lst [])) fp
  have htC := ht cl s3.heap.objs.size s3 (upd H2 s2.heap.objs.size (.lst [])) fp
  have heC := he cl s3.heap.objs.size s3 (upd H2 s2.heap.objs.size (.lst [])) fp
  have st4 : tn 0 h4 := T.keep _ _ _ st3 fun b _ o e => k34 b o e
  generalize hY : cxComp X (loc ++ free) scope cl s3.heap.objs.size s3 (upd H2 s2.heap.objs.size (.lst [])) fp = Y at I4 hgC htC heC
  have fY : ∀ {H' : Hp}, (∀ b ∈ fp, H' b = none) → ∀ b ∈ fp, FpOk Y [] H' b := fun hn b hb => by
    subst hY
    refine ⟨hn b hb, ?_, fun z => ?_, .inl hb, fun x c e => (f3 b hb).2.2.2.2.1 x c (hc1 x c e), fun p hp => absurd (show p ∈ ([] : List (Addr × Obj)) from hp) (by simp)⟩
    · obtain ⟨o, e⟩ := o3 b hb
      exact Nat.ne_of_lt (Heap.lt_size e)
    · rcases List.mem_cons.mp (I3.stkSub b z) with e | e
      · exact (f3 b hb).2.1 e
      · exact (f3 b hb).2.2.1 e
  have hYp : Y.prog = X.prog := by rw [← hY]; rfl
  have hYw : Y.w = X.w := by rw [← hY]; rfl
  have hYK : Y.K = X.K := by rw [← hY]; rfl
  have hYA : Y.A = X.A := by rw [← hY]; rfl
  have hYe : Y.env = compEnvC scope cl s3.heap.objs.size X.env := by rw [← hY]; rfl
  have hYx : Y.xe = fun _ _ => False := by rw [← hY]; rfl
  have hYc : Y.calm = true := by rw [← hY]; exact hc
  have loop : codeAny (model X.prog X.w) X.A (.compLoop (.ListComp elt [⟨tg, iter, ifs, 0⟩] scope pos) 0 (.ref it) (.ref s2.heap.objs.size) (compEnvC scope cl s3.heap.objs.size X.env))
      (RR (.ref s2.heap.objs.size) s3.heap.objs.size) { s3 with heap := h4, toks := s3.toks + ([] : List (Str × Value)).length } := by
    refine comp_loop (fun n s' => ∃ i acc σ' H', Inv Y [] σ' H' s' ∧ tn i s'.heap ∧ (∀ b ∈ fp, H' b = none) ∧ W i n acc σ' H') ?_ m0 ⟨0, [], _, _, I4, st4, fun b hb => (f3 b hb).1, w0⟩
    rintro n s5 ⟨i, acc, σ5, H5, I5, st5, fr5, w5⟩
    obtain ⟨hacc, turn5⟩ := turn i n acc σ5 H5 w5
    rcases turn5 with ⟨stop, qn⟩ | ⟨go, N, hN, step⟩
    · have d := T.done Y hYp hYw hYK hYc i [] s5 σ5 H5 (fun _ _ => False) I5 (fY fr5) st5 stop
      rw [hYA] at d
      refine thn d fun r s6 ⟨hr, I6⟩ => ?_
      subst hr
      -- the block is left
      obtain ⟨m, hn, _⟩ := id I6.loc
      rw [hYe] at hn
      have fC : H5 s3.heap.objs.size = none := by
        have := I6.free
        rw [hYe] at this
        exact this
      have hok6 : HOk X.prog X.w H5 s6.heap := by
        have := I6.hok
        rw [hYp, hYw] at this
        exact this
      have un6 : Un (frs X.stack) fp (upd H2 s2.heap.objs.size (.lst [])) H5 s3.heap s6.heap := by
        have := I6.base
        subst hY
        exact this
      have os6 : s6.os = s3.os := by
        have := I6.os
        subst hY
        exact this
      have IX : Inv X pins σ H5 s6 := I3.call' (ch := fp) os6 un6 hok6 I6.bare fun b hb => ⟨(f3 b hb).2.2.2.1, (f3 b hb).2.1, (f3 b hb).2.2.2.2.1, (f3 b hb).2.2.2.2.2⟩
      refine hRR _ _ s6 ⟨⟨H5, IX, fC, qn⟩, ⟨m, hn⟩, Nat.ne_of_gt I3.lt, I3.nofs (Nat.le_refl _), I3.sz, fun x c e z => ?_, fun p hp z => ?_⟩
      · obtain ⟨v, q⟩ := I3.cell x c e
        exact absurd q.lt (by rw [z]; exact Nat.lt_irrefl _)
      · exact absurd (Heap.lt_size (I3.pin p hp).1) (by rw [z]; exact Nat.lt_irrefl _)
    · have d := T.item Y hYp hYw hYK hYc i [] s5 σ5 H5 (fun _ _ => False) I5 (fY fr5) st5 go
      rw [hYA] at d
      refine thn d fun r s6 ⟨u, hr, h6⟩ => ?_
      subst hr
      refine thn h6 fun _ s7 ⟨x, H7, I7, r7, y7, st7, fr7⟩ => ?_
      have I7' := I7.pinned (fY fr7) (T.obj _ _ st7)
      have g7 := hgC _ s7 σ5 H7 x u _ I7' r7 (step x H7 y7)
      rw [hYp, hYw, hYA, hYe, hYx] at g7
      refine thn g7 fun _ s8 ⟨σ8, H8, I8, q8⟩ => ?_
      have t8 := htC _ s8 σ8 H8 _ I8 q8
      rw [hYp, hYw, hYA, hYe, hYx] at t8
      have back : ∀ {σ9 : St} {H9 : Hp} {s9 : Shared} {acc' : List V}, Inv Y ([] ++ pinsAt fp s7.heap) σ9 H9 s9 → N acc' σ9 H9 → ∃ m, m < n ∧ ∃ i acc σ' H', Inv Y [] σ' H' s9 ∧ tn i s9.heap ∧ (∀ b ∈ fp, H' b = none) ∧ W i m acc σ' H' := fun {σ9 H9 s9 acc'} I9 w9 => by
        obtain ⟨m', hm, w9⟩ := hN _ _ _ w9
        refine ⟨m', hm, i + 1, acc', σ9, H9, I9.unpinned, T.keep _ _ _ st7 fun b hb o e => (I9.pin (b, o) (List.mem_append_right _ (List.mem_append_right _ (mem_pinsAt hb e)))).1, fun b hb => ?_, w9⟩
        obtain ⟨o, e, d⟩ := T.obj _ _ st7 b hb
        exact (I9.pin (b, o) (List.mem_append_right _ (List.mem_append_right _ (mem_pinsAt hb e)))).2.1
      refine thn t8 fun ok s9 ⟨H9, I9, q9⟩ => ?_
      cases ok with
      | false =>
        rw [if_neg (by simp)] at q9 ⊢
        exact back I9 q9
      | true =>
        rw [if_pos rfl] at q9 ⊢
        have e9 := heC _ s9 σ8 H9 _ I9 q9
        rw [hYp, hYw, hYA, hYe, hYx] at e9
        refine thn e9 fun y s10 ⟨z, H10, I10, r10, hacc10, hlen, w10⟩ => ?_
        have a10 := mt_append (X := Y) _ s10 σ8 H10 (.ref s2.heap.objs.size) [z] (.ref s2.heap.objs.size) [y] (fun _ H' => N (acc ++ [z]) σ8 H') I10 rfl (.cons r10 .nil) ⟨_, _, z, rfl, rfl, hacc10, hlen, w10⟩
        rw [hYp, hYw, hYA, hYx] at a10
        exact thn a10 fun _ s11 ⟨_, H11, I11, _, w11⟩ => back I11 w11
  exact codeAny_compStart_list loop (T.self X.A 0 _ _ _ st4 loop)

theorem pe_comp {elt tg iter : Expr} {ifs : List Expr} {loc free : List Str} {fr : List Nat} {scope : Scope} {pos : Pos} {wi : TI} {g : TG} {tc : TT} {te : TE} (hc : X.calm = true) (S : CompScope X loc free fr scope) (hi : PI X tg iter wi)
    (hg : ∀ cl C s H ex, PG (cxComp X (loc ++ free) scope cl C s H ex) tg g) (ht : ∀ cl C s H ex, PTs (cxComp X (loc ++ free) scope cl C s H ex) ifs tc) (he : ∀ cl C s H ex, PE (cxComp X (loc ++ free) scope cl C s H ex) elt te)
    (hs : ∀ x, foldedSetIterable iter X.env x = pure x := by intro _; rfl) : PE X (.ListComp elt [⟨tg, iter, ifs, 0⟩] scope pos) (tComp wi loc.length fr g tc te) := by
  intro pins s σ H Q I h
  rw [eval_ListComp]
  obtain ⟨cl, hcl, hc1, hc2⟩ := closureFor_of (scope := scope) (env := X.env) fun y hy hf => I.ok.has y.1 (S.frees y hy hf)
  refine wpAny_comprehension_free (use := none) rfl hs hcl S.kind S.names ?_
  refine comp_run (RR := fun acc C => compPost (model X.prog X.w) X.A X.xe none (EP X pins σ Q) acc C) hc S hi hg ht he I h hc1 hc2 fun D C s6 ce => ?_
  obtain ⟨H5, IX, fC, q⟩ := ce.inv
  obtain ⟨m, hn⟩ := ce.ns
  exact ⟨m, hn, fun h7 hs7 => ⟨.ref D, H5, IX.turned (t' := s6.toks) (fun b o hb e => hs7.extBut b o hb e) fC ce.neL (.inr ce.new) ce.cel ce.pin, rfl, q⟩⟩
/-- name = [.. for ..]: the name is stored ahead of the block's end -/
theorem ps_setComp {i : Nat} {y : Str} {py : Pos} {spos : Pos} {elt tg iter : Expr} {ifs : List Expr} {loc free : List Str} {fr : List Nat} {scope : Scope} {pos : Pos} {wi : TI} {g : TG} {tc : TT} {te : TE} (hN : X.N.Nodup) (hi' : X.N[i]? = some y) (hx : X.env.scope.names.lookup y = some .local)
    (hc : X.calm = true) (S : CompScope X loc free fr scope) (hi : PI X tg iter wi)
    (hg : ∀ cl C s H ex, PG (cxComp X (loc ++ free) scope cl C s H ex) tg g) (ht : ∀ cl C s H ex, PTs (cxComp X (loc ++ free) scope cl C s H ex) ifs tc) (he : ∀ cl C s H ex, PE (cxComp X (loc ++ free) scope cl C s H ex) elt te)
    (hs : ∀ x, foldedSetIterable iter X.env x = pure x := by intro _; rfl)
    (hsw : swapsWith (.ListComp elt [⟨tg, iter, ifs, 0⟩] scope pos) (some (.Name y py)) spos.line X.env = pure true := by rfl) :
    PS X (.Assign [.Name y py] (.ListComp elt [⟨tg, iter, ifs, 0⟩] scope pos) spos) (tAsg (tComp wi loc.length fr g tc te) (gName i)) := by
  intro pins s σ H D I h
  obtain ⟨cl, hcl, hc1, hc2⟩ := closureFor_of (scope := scope) (env := X.env) fun y hy hf => I.ok.has y.1 (S.frees y hy hf)
  rw [exec_Assign_Name_used _ _ _ _ hsw]
  refine wpAny_bind (wpAny_standAt (wpAny_bind ?_))
  show wpAny _ X.A (do let _ ← comprehension (.ListComp elt [⟨tg, iter, ifs, 0⟩] scope pos) scope X.env _ (newList []) false (eval iter X.env) (some (assign (.Name y py) X.env))) _ _ s
  refine wpAny_bind (wpAny_mono (wpAny_comprehension_free (use := some (assign (.Name y py) X.env)) (Q := fun _ s' => SP X pins D .next s') rfl hs hcl S.kind S.names ?_) (fun _ s' hq => wpAny_pure (wpAny_pure hq)) fun _ _ e => e)
  refine comp_run (RR := fun acc C => compPost (model X.prog X.w) X.A X.xe (some (assign (.Name y py) X.env)) (fun _ s' => SP X pins D .next s') acc C) hc S hi hg ht he I h hc1 hc2 fun L C s6 ce => ?_
  obtain ⟨H5, IX, fC, q⟩ := ce.inv
  obtain ⟨m, oC, es, ep, ho, hd, hk⟩ := ce.ns
  show wpAny _ X.A (assign (.Name y py) X.env (.ref L)) _ _ s6
  have IP : Inv X (pins ++ [(C, oC)]) σ H5 s6 := IX.pins_of fun p hp => (List.mem_append.mp hp).elim (fun z => IX.pin p (List.mem_append_right _ z)) fun z => by
    rw [List.mem_singleton.mp z]
    exact ⟨ho, fC, ce.neL, ce.nfs, fun v e => by rw [hd] at e; cases e⟩
  refine wpAny_assign_Name (store_ok IP hN hi' (.inl hx) (v := .ref L) rfl (fun s' I' => ?_) (.inr hx))
  have pc := I'.pin (C, oC) (List.mem_append_right _ (List.mem_append_right _ List.mem_cons_self))
  refine ⟨m, ⟨oC, es, ep, pc.1, hd, hk⟩, fun h7 hs7 => ?_⟩
  exact ⟨_, H5, I'.unpinned.turned (t' := s'.toks) (fun b o hb e => hs7.extBut b o hb e) fC ce.neL (.inr ce.new) ce.cel ce.pin, q⟩
end

/-! ### the forms one uses -/
section
variable {g : TG} {tc : TT} {te : TE} {k : Nat} {fr : List Nat} {σ : St} {H : Hp} {Q : VK} {D : Addr}
theorem comp_list {K : PySem.W.Frag} {a : Addr} {xs : List V} {σ0 : St} (Pv : Nat → List V → St → Hp → Prop) (h0 : Pv 0 [] σ0 (upd H D (.lst [])))
    (hD : ∀ i acc σ H, Pv i acc σ H → H D = some (.lst acc)) (hl : ∀ i acc σ H, i ≤ xs.length → Pv i acc σ H → SqL K H a xs)
    (hs : ∀ i x acc σ H, xs[i]? = some x → Pv i acc σ H → g x σ H fun σ3 H3 => tc σ3 H3 fun b H4 => if b = true then te σ3 H4 fun v H5 => H5 D = some (.lst acc) ∧ acc.length < sizeLine ∧ Pv (i + 1) (acc ++ [v]) σ3 (upd H5 D (.lst (acc ++ [v]))) else Pv (i + 1) acc σ3 H4)
    (hd : ∀ acc σ H, Pv xs.length acc σ H → Q (.ref D) H) : CompW (Itl K a) g tc te σ0 H Q D := by
  refine ⟨fun i m acc σ H => m = xs.length - i ∧ i ≤ xs.length ∧ Pv i acc σ H, ⟨xs.length, by simp, Nat.zero_le _, h0⟩, ?_⟩
  rintro i m acc σ H ⟨rfl, hi, p⟩
  refine ⟨hD i acc σ H p, ?_⟩
  have q := hl i acc σ H hi p
  by_cases hlt : i < xs.length
  · refine .inr ⟨⟨xs, xs[i], q, by simp [hlt]⟩, Pv (i + 1), fun acc' σ' H' p' => ⟨xs.length - (i + 1), by omega, rfl, hlt, p'⟩, fun x H' y => ?_⟩
    obtain ⟨e, y⟩ := y
    subst e
    exact hs i x acc σ _ (y xs q) p
  · have e : i = xs.length := by omega
    subst e
    exact .inl ⟨⟨xs, q, Nat.le_refl _⟩, hd acc σ H p⟩
theorem comp_range {lo : Int} {n : Nat} {σ0 : St} (Pv : Nat → List V → St → Hp → Prop) (h0 : Pv 0 [] σ0 (upd H D (.lst [])))
    (hD : ∀ i acc σ H, Pv i acc σ H → H D = some (.lst acc))
    (hs : ∀ i acc σ H, i < n → Pv i acc σ H → g (.int (lo + i)) σ H fun σ3 H3 => tc σ3 H3 fun b H4 => if b = true then te σ3 H4 fun v H5 => H5 D = some (.lst acc) ∧ acc.length < sizeLine ∧ Pv (i + 1) (acc ++ [v]) σ3 (upd H5 D (.lst (acc ++ [v]))) else Pv (i + 1) acc σ3 H4)
    (hd : ∀ acc σ H, Pv n acc σ H → Q (.ref D) H) : CompW (Itr lo n) g tc te σ0 H Q D := by
  refine ⟨fun i m acc σ H => m = n - i ∧ i ≤ n ∧ Pv i acc σ H, ⟨n, by simp, Nat.zero_le _, h0⟩, ?_⟩
  rintro i m acc σ H ⟨rfl, hi, p⟩
  refine ⟨hD i acc σ H p, ?_⟩
  by_cases hlt : i < n
  · refine .inr ⟨hlt, Pv (i + 1), fun acc' σ' H' p' => ⟨n - (i + 1), by omega, rfl, hlt, p'⟩, fun x H' y => ?_⟩
    obtain ⟨e, y⟩ := y
    subst e y
    exact hs i acc σ _ hlt p
  · have e : i = n := by omega
    subst e
    exact .inl ⟨Nat.le_refl _, hd acc σ H p⟩
end
end L2

set_option Elab.async false
set_option linter.all false
set_option maxRecDepth 100000
set_option maxHeartbeats 4000000
/-! The sort of fewer than 64 items, by an order: sorted, and a permutation. -/
namespace Srt
open PySem PySem.W PyProof.Rows

def Spec {α : Type} (lt : Nat → Nat → Bool) (n : Nat) : KasT α → (α → Prop) → Prop
  | .ret a, Q => Q a
  | .ask i j k, Q => i < n ∧ j < n ∧ Spec lt n (k (lt i j)) Q


/-- what is asked of the order -/
structure Ord {κ : Type} (lt : κ → κ → Bool) : Prop where
  trans : ∀ a b c, lt b a = false → lt c b = false → lt c a = false
  asym : ∀ a b, lt a b = true → lt b a = false

section
variable {κ : Type} {lt : κ → κ → Bool} (O : Ord lt) (f : Nat → κ) {n : Nat}
/-- the key of the item at place i of p -/
abbrev ky (p : Array Nat) (i : Nat) : κ := f (p.getD i 0)
def Le (lt : κ → κ → Bool) (a b : κ) : Prop := lt b a = false
def Up (lt : κ → κ → Bool) (f : Nat → κ) (p : Array Nat) (m : Nat) : Prop := ∀ i j, i ≤ j → j < m → lt (ky f p j) (ky f p i) = false
def Dn (lt : κ → κ → Bool) (f : Nat → κ) (p : Array Nat) (m : Nat) : Prop := ∀ i j, i ≤ j → j < m → lt (ky f p i) (ky f p j) = false
/-- p holds the numbers below n, each once -/
structure Pm (n : Nat) (p : Array Nat) : Prop where
  perm : p.toList.Perm (List.range n)

include O

/-- all of a stretch are alike -/
def Alike (lt : κ → κ → Bool) (f : Nat → κ) (p : Array Nat) (a b : Nat) : Prop := ∀ i j, a ≤ i → i < b → a ≤ j → j < b → lt (ky f p i) (ky f p j) = false

end
end Srt

set_option Elab.async false
set_option linter.all false
set_option maxRecDepth 100000
set_option maxHeartbeats 4000000
/-! Built-in calls over the hand layer: isinstance, all, any, sum, sorted of rows, zip, == of lists. -/
namespace L2
open PySem PySem.Spec PyProof.Rows

/-! ### records of ours have turned, and perhaps a new object is tracked -/
section
variable {X : Cx} {pins : List (Addr × Obj)} {σ : St} {H : Hp} {s : Shared} {h' : Heap}
theorem Inv.turnLay {ch : List Addr} {a : Addr} {o : HO} {t' : Nat} (I : Inv X pins σ H s) (k : ∀ b u, b ∉ ch → s.heap.get? b = some u → h'.get? b = some u) (hch : ∀ b ∈ ch, FpOk X pins H b)
    (hp : s.heap.objs.size ≤ a) (new : ObjOk X.prog X.w (upd H a o) h' a o) : Inv X pins σ (upd H a o) { s with heap := h', toks := t' } := by
  have hn : H a = none := I.hok.fresh hp
  have ne : ∀ b u, s.heap.get? b = some u → b ≠ a := fun b u e => Nat.ne_of_lt (Nat.lt_of_lt_of_le (Heap.lt_size e) hp)
  have nc : ∀ b u, H b = some u → b ∉ ch := fun b u e hb => by have := (hch b hb).1; rw [e] at this; cases this
  refine I.step (g' := s.gens) (d' := s.drawn) (ch := ch) (fun b hb => ⟨(hch b hb).2.2.2.1, (hch b hb).2.1, (hch b hb).2.2.2.2.1, (hch b hb).2.2.2.2.2⟩) (fun b u _ _ hc e _ => k b u hc e) (fun b u _ _ hc e _ => ⟨u.slots, k b u hc e⟩)
    (fun b u _ e n => by rw [upd_ne (ne b u e)]; exact n) (fun b u hc e => ⟨u, k b u hc e⟩) (fun b xs e => by rw [upd_ne (ne_of_none e hn)]; exact e) (fun b u v e => by rw [upd_ne (ne_of_none e hn)]; exact e)
    (fun b ps e => ⟨#[], by rw [upd_ne (ne_of_none e hn)]; rw [e]; simp⟩) (fun m hm => ?_) (fun b u e => ?_) I.bare
  · obtain ⟨ob, es, ep, ho, r⟩ := hm
    refine ⟨ob, es, ep, k _ ob (fun hb => (hch _ hb).2.1 rfl) ho, r⟩
  · by_cases hb : b = a
    · subst hb; rw [upd_same] at e; cases e; exact new
    · rw [upd_ne hb] at e
      refine (I.hok b u e).stay (fun c v hc q => k c v ?_ q) (fun c q => by rw [upd_ne (ne_of_none q hn)]; exact q) fun c xs q => by rw [upd_ne (ne_of_none q hn)]; exact q
      rcases hc with z | z
      · rw [z]; exact nc b u e
      · exact nc c _ z
theorem Inv.turnedL {ch : List Addr} {t' : Nat} (I : Inv X pins σ H s) (k : ∀ b u, b ∉ ch → s.heap.get? b = some u → h'.get? b = some u) (hch : ∀ b ∈ ch, FpOk X pins H b) : Inv X pins σ H { s with heap := h', toks := t' } := by
  have nc : ∀ b u, H b = some u → b ∉ ch := fun b u e hb => by have := (hch b hb).1; rw [e] at this; cases this
  refine I.step (g' := s.gens) (d' := s.drawn) (ch := ch) (fun b hb => ⟨(hch b hb).2.2.2.1, (hch b hb).2.1, (hch b hb).2.2.2.2.1, (hch b hb).2.2.2.2.2⟩) (fun b u _ _ hc e _ => k b u hc e) (fun b u _ _ hc e _ => ⟨u.slots, k b u hc e⟩)
    (fun b u _ e n => n) (fun b u hc e => ⟨u, k b u hc e⟩) (fun b xs e => e) (fun b u v e => e) (fun b ps e => ⟨#[], by rw [e]; simp⟩) (fun m hm => ?_) (fun b u e => ?_) I.bare
  · obtain ⟨ob, es, ep, ho, r⟩ := hm
    refine ⟨ob, es, ep, k _ ob (fun hb => (hch _ hb).2.1 rfl) ho, r⟩
  · refine (I.hok b u e).stay (fun c v hc q => k c v ?_ q) (fun c q => q) fun c xs q => q
    rcases hc with z | z
    · rw [z]; exact nc b u e
    · exact nc c _ z
end

/-! ### isinstance -/
section
variable {X : Cx}
theorem call_isinst : CallR X (.builtin "isinstance") (fun xs H Q => ∃ x T t b, xs = [x, .ty T] ∧ TyOf X.K H x t ∧ PySem.W.kitOne X.K t (.type T) = some b ∧ Q (.bl b) H) := by
  intro pins s σ H xs us Q I r h
  obtain ⟨x, T, t, b, rfl, ty, e, q⟩ := h
  obtain ⟨u, v, rfl, rx, ry⟩ := vals2 r
  cases ry
  exact isinst_ok I rx ty e fun tk => ⟨.bl b, H, I.tok tk, rfl, q⟩

/-! ### all, any, sum of a list -/
theorem calm_in1 {A : Around} (h : A.handled = none) : A.in1.handled = none := h
theorem call_all (hc : X.calm = true) : CallR X (.builtin "all") (fun xs H Q => ∃ (p : Addr) (bs : List Bool), xs = [.ref p] ∧ SqL X.K H p (bs.map V.bl) ∧ Q (.bl (bs.all id)) H) := by
  intro pins s σ H xs us Q I r h
  obtain ⟨p, bs, rfl, hq, q⟩ := h
  obtain ⟨u, rfl, rx⟩ := vals1 r
  cases rx
  obtain ⟨its, rv, pl, hz⟩ := I.list hq
  refine call_all_walk (wpAny_pyIter_list pl.isList ?_)
  have hp : p < s.heap.objs.size := by obtain ⟨o, n, e, _⟩ := pl; exact Heap.lt_size e
  have hlen : its.length = bs.length := by rw [← rv.length, List.length_map]
  refine ⟨s.heap.objs.size, _, _, _, _, _, fun i => bs.getD i true, rfl, Walks.list (calm_in1 (I.ok.hd hc)) _ p (Nat.ne_of_lt hp) its.toArray, ⟨⟨_, Heap.get?_push_size _ rfl, rfl, rfl⟩, pl.isList.push _⟩, ?_, fun h' tk k => ?_⟩
  · intro i v s' Q' E' hv hQ
    have hv' : its[i]? = some v := by simpa using hv
    have hi : i < bs.length := by rw [← hlen]; exact (List.getElem?_eq_some_iff.mp hv').1
    obtain ⟨u, hu, ru⟩ := rv.get (i := i) (x := .bl bs[i]) (by simp [hi])
    rw [hv'] at hu; cases hu
    cases ru
    refine wpAny_truthy_bool ?_
    have e : bs.getD i true = bs[i] := by simp [hi]
    dsimp only at hQ
    rw [e] at hQ
    exact hQ
  · refine ⟨.bl _, H, I.kept (t' := tk) (fun b o e => k b o (by simpa using Nat.ne_of_lt (Heap.lt_size e)) (Heap.get?_push_of_some _ e)), ?_, q⟩
    show Value.bool _ = Value.bool _
    congr 1
    rw [List.size_toArray, hlen]
    have : ∀ (bs : List Bool) (n : Nat), n = bs.length → (List.range n).all (fun i => bs.getD i true) = bs.all id := by
      intro bs n hn
      rw [Bool.eq_iff_iff, List.all_eq_true, List.all_eq_true]
      constructor
      · intro h x hx
        obtain ⟨i, hi, rfl⟩ := List.mem_iff_getElem.mp hx
        have := h i (List.mem_range.mpr (by omega))
        simpa [hi] using this
      · intro h i hi
        have hi' : i < bs.length := by have := List.mem_range.mp hi; omega
        have := h bs[i] (List.getElem_mem hi')
        simpa [hi'] using this
    exact this bs _ rfl
theorem preSum_eq (ns : List Int) : ∀ k, k ≤ ns.length → preSum (fun i => ns.getD i 0) k = (ns.take k).sum
  | 0, _ => by simp [preSum]
  | k + 1, h => by
    have hk : k < ns.length := h
    have e : ns.take (k + 1) = ns.take k ++ [ns[k]] := by rw [List.take_add_one]; simp [hk]
    rw [preSum, preSum_eq ns k (by omega), e, List.sum_append]
    simp [hk]
/-- all partial sums stay within the long -/
def SumOk (ns : List Int) : Prop := ∀ j, j < ns.length → InLong (ns.getD j 0) ∧ InLong ((ns.take (j + 1)).sum)
theorem call_sum (hc : X.calm = true) : CallR X (.builtin "sum") (fun xs H Q => ∃ (p : Addr) (ns : List Int), xs = [.ref p] ∧ SqL X.K H p (ns.map V.int) ∧ SumOk ns ∧ Q (.int ns.sum) H) := by
  intro pins s σ H xs us Q I r h
  obtain ⟨p, ns, rfl, hq, ok, q⟩ := h
  obtain ⟨u, rfl, rx⟩ := vals1 r
  cases rx
  obtain ⟨its, rv, pl, hz⟩ := I.list hq
  refine call_sum_walk (wpAny_pyIter_list pl.isList ?_)
  have hp : p < s.heap.objs.size := by obtain ⟨o, n, e, _⟩ := pl; exact Heap.lt_size e
  have hlen : its.length = ns.length := by rw [← rv.length, List.length_map]
  refine ⟨s.heap.objs.size, _, _, _, _, _, fun i => ns.getD i 0, rfl, Walks.list (calm_in1 (I.ok.hd hc)) _ p (Nat.ne_of_lt hp) its.toArray, ⟨⟨_, Heap.get?_push_size _ rfl, rfl, rfl⟩, pl.isList.push _⟩, ?_, ?_, ?_, fun h' tk t' k => ?_⟩
  · intro b hb
    have hs : (s.heap.push { cls := .type "list_iterator", data := .fields #[.ref p, .int 0 0] }).objs.size = s.heap.objs.size + 1 := Heap.size_push ..
    show b < (s.heap.push { cls := .type "list_iterator", data := .fields #[.ref p, .int 0 0] }).objs.size
    rw [hs]
    rcases List.mem_cons.mp hb with rfl | hb
    · exact Nat.lt_succ_self _
    · have : b = p := by simpa using hb
      subst this; exact Nat.lt_succ_of_lt hp
  · intro i v hv
    have hv' : its[i]? = some v := by simpa using hv
    have hi : i < ns.length := by rw [← hlen]; exact (List.getElem?_eq_some_iff.mp hv').1
    obtain ⟨u, hu, ru⟩ := rv.get (i := i) (x := .int ns[i]) (by simp [hi])
    rw [hv'] at hu; cases hu
    obtain ⟨t, e⟩ := ru
    exact ⟨t, by rw [e]; simp [hi]⟩
  · intro j hj
    have hj' : j < ns.length := by rw [← hlen]; simpa using hj
    rw [preSum_eq ns (j + 1) hj']
    exact ok j hj'
  · refine ⟨.int _, H, I.kept (t' := tk) (fun b o e => k b o (by simpa using Nat.ne_of_lt (Heap.lt_size e)) (Heap.get?_push_of_some _ e)), ⟨t', ?_⟩, q⟩
    show Value.int _ _ = Value.int _ _
    congr 1
    rw [List.size_toArray, hlen, preSum_eq ns _ (Nat.le_refl _), List.take_length]

/-! ### == and != of two lists, by what their items are worth -/
/-- items that compare as their data -/
def EqR (X : Cx) {α : Type} [DecidableEq α] (R : Hp → V → α → Prop) : Prop :=
  ∀ (pins : List (Addr × Obj)) (s : Shared) (σ : St) (H : Hp) (x y : V) (v u : Value) (a b : α) (A : Around), Inv X pins σ H s → RelV x v → RelV y u → R H x a → R H y b → A.units < cLine → SeqAt.EqAt A s v u (decide (a = b))
theorem range_all_decide {α : Type} [DecidableEq α] {as bs : List α} {n : Nat} (d : α) (hl : as.length = n) (hb : bs.length = n) : (List.range n).all (fun j => decide (as.getD j d = bs.getD j d)) = decide (as = bs) := by
  rw [Bool.eq_iff_iff, List.all_eq_true, decide_eq_true_iff]
  constructor
  · intro h
    apply List.ext_getElem (by omega)
    intro i h1 h2
    have := h i (List.mem_range.mpr (by omega))
    simpa [h1, h2] using this
  · intro h i _
    simp [h]
theorem Paired.getL {α β : Type} {F : α → β → Prop} : ∀ {l₁ : List α} {l₂ : List β} {i : Nat} {a : α}, Paired F l₁ l₂ → l₁[i]? = some a → ∃ b, l₂[i]? = some b ∧ F a b
  | _, _, _, _, .nil, e => by simp at e
  | _, _, 0, _, .cons r _, e => by simp at e; subst e; exact ⟨_, rfl, r⟩
  | _, _, i + 1, a, .cons _ t, e => by
    obtain ⟨u, h1, h2⟩ := Paired.getL (i := i) (a := a) t (by simpa using e)
    exact ⟨u, by simpa using h1, h2⟩
theorem eq_items {α : Type} [DecidableEq α] {R : Hp → V → α → Prop} (hR : EqR X R) {pins : List (Addr × Obj)} {s : Shared} {σ : St} {H : Hp} {xs ys : List V} {vs us : List Value} {as bs : List α} {A : Around} (d : α) (I : Inv X pins σ H s) (hv : Vals xs vs) (hu : Vals ys us)
    (pa : Paired (R H) xs as) (pb : Paired (R H) ys bs) (hun : A.units < cLine) : ∀ j (h1 : j < vs.toArray.size) (h2 : j < us.toArray.size), SeqAt.EqAt A s vs.toArray[j] us.toArray[j] (decide (as.getD j d = bs.getD j d)) := by
  intro j h1 h2
  have h1' : j < xs.length := by rw [hv.length]; simpa using h1
  have h2' : j < ys.length := by rw [hu.length]; simpa using h2
  obtain ⟨v, ev, rv⟩ := hv.get (i := j) (x := xs[j]) (by simp [h1'])
  obtain ⟨u, eu, ru⟩ := hu.get (i := j) (x := ys[j]) (by simp [h2'])
  obtain ⟨a, ea, ra⟩ := Paired.getL pa (i := j) (a := xs[j]) (by simp [h1'])
  obtain ⟨b, eb, rb⟩ := Paired.getL pb (i := j) (a := ys[j]) (by simp [h2'])
  have e1 : vs.toArray[j] = v := by
    have := (List.getElem?_eq_some_iff.mp ev).2
    simpa using this
  have e2 : us.toArray[j] = u := by
    have := (List.getElem?_eq_some_iff.mp eu).2
    simpa using this
  have e3 : as.getD j d = a := by rw [List.getD_eq_getElem?_getD, ea]; rfl
  have e4 : bs.getD j d = b := by rw [List.getD_eq_getElem?_getD, eb]; rfl
  rw [e1, e2, e3, e4]
  exact hR pins s σ H _ _ v u a b A I rv ru ra rb hun
def rEqL {α : Type} [DecidableEq α] (K : PySem.W.Frag) (R : Hp → V → α → Prop) (neg : Bool) : R2 := fun x y H Q => ∃ (p q : Addr) (xs ys : List V) (as bs : List α), x = .ref p ∧ y = .ref q ∧ SqL K H p xs ∧ SqL K H q ys ∧ Paired (R H) xs as ∧ Paired (R H) ys bs ∧ Q (.bl (if neg then !decide (as = bs) else decide (as = bs))) H
theorem op_neL {α : Type} [DecidableEq α] [Inhabited α] {R : Hp → V → α → Prop} (hR : EqR X R) (hu : X.A.units + 1 < cLine) : OpR X (compareOp .NotEq) (rEqL X.K R true) := by
  intro pins s σ H x y v u Q I rx ry h
  obtain ⟨p, q, xs, ys, as, bs, rfl, rfl, hp, hq, pa, pb, h⟩ := h
  cases rx
  cases ry
  obtain ⟨vs, rv, pl, _⟩ := I.list hp
  obtain ⟨us, ru, pu, _⟩ := I.list hq
  have la : as.length = vs.length := by rw [← Paired.length pa, rv.length]
  have lb : bs.length = us.length := by rw [← Paired.length pb, ru.length]
  by_cases hl : vs.length = us.length
  · refine SeqAt.RcNeAt.lists pl.isList pu.isList (by simpa using hl) (by omega) (eq_items hR default I rv ru pa pb (A := X.A.in1) (by show X.A.units + 1 < cLine; exact hu)) X.prog X.w X.xe _ ⟨.bl _, H, I, rfl, ?_⟩
    rw [List.size_toArray, range_all_decide default la (by omega)]
    exact h
  · refine SeqAt.RcNeAt.lists_lengths pl.isList pu.isList (by simpa using hl) (by omega) X.prog X.w X.xe _ ⟨.bl true, H, I, rfl, ?_⟩
    have e : decide (as = bs) = false := decide_eq_false fun z => hl (by rw [← la, ← lb, z])
    rw [e] at h
    exact h
/-- ints, bools, texts -/
def IsI (H : Hp) (x : V) (i : Int) : Prop := x = .int i
def IsB (H : Hp) (x : V) (b : Bool) : Prop := x = .bl b
def IsS (H : Hp) (x : V) (z : Str) : Prop := x = .str z
theorem eqR_int : EqR X IsI := by
  intro pins s σ H x y v u a b A I rv ru ra rb hun
  cases ra; cases rb
  have := eqAt_V (A := A) (s := s) rv ru rfl rfl
  have e : eqV (.int a) (.int b) = decide (a = b) := by show (a == b) = _; rw [Bool.eq_iff_iff]; simp
  rw [e] at this
  exact this
/-- flat values of ints and texts -/
def plainV : V → Bool
  | .int _ => true
  | .str _ => true
  | _ => false
/-- a tuple of plain values -/
def IsTp (K : PySem.W.Frag) (H : Hp) (x : V) (r : List V) : Prop := ∃ t, x = .ref t ∧ SqT K H t r ∧ r.all plainV = true
end
end L2

set_option Elab.async false
set_option linter.all false
set_option maxRecDepth 100000
set_option maxHeartbeats 4000000
/-! sorted of rows of ints; zip in a for -/
namespace L2
open PySem PySem.W PySem.Spec PyProof.Rows

section
variable {prog : Program} {w : World} {A : Around} {E : Value → Shared → Prop} {s : Shared}



/-! ### rows of ints -/

end

/-- a row of ints -/
def IsR (K : PySem.W.Frag) (H : Hp) (x : V) (r : List Int) : Prop := ∃ t, x = .ref t ∧ SqT K H t (r.map V.int)
section
variable {X : Cx}
end

/-! ### zip -/
def Itz (K : PySem.W.Frag) (a b : Addr) : It :=
  ⟨fun i H => ∃ (xs ys : List V) (x y : V), SqL K H a xs ∧ SqL K H b ys ∧ xs[i]? = some x ∧ ys[i]? = some y,
   fun i H v H' => ∃ (T : Addr) (x y : V), v = .ref T ∧ H T = none ∧ H' = upd H T (.tup [x, y]) ∧ (∀ xs, SqL K H a xs → xs[i]? = some x) ∧ ∀ ys, SqL K H b ys → ys[i]? = some y,
   fun i H => ∃ xs ys, SqL K H a xs ∧ SqL K H b ys ∧ (xs.length ≤ i ∨ ys.length ≤ i)⟩
/-- what stands of the zip object at turn i -/
def ZipSt (z TI TO i1 i2 a b : Addr) (i : Nat) (h : Heap) : Prop :=
  IsZip h z TI TO .none ∧ IsPair h TI (.ref i1) (.ref i2) ∧ (∃ u v, IsPair h TO u v) ∧ h.IsListIter i1 a i ∧ h.IsListIter i2 b i
theorem turn_zip {P : Program} {w : World} {K : PySem.W.Frag} {elts : List Expr} {x1} {tp : Pos} {z TI TO i1 i2 a b : Addr} (D : ZipApart z TI TO i1 i2 a b) :
    Turn P w K (.Tuple elts x1 tp) (Itz K a b) [z, TI, TO, i1, i2] z (ZipSt z TI TO i1 i2 a b) where
  mem := by simp
  obj := fun i h st c hc => by
    obtain ⟨hz, hTI, ⟨u, v, hTO⟩, ⟨o1, e1, _, d1⟩, ⟨o2, e2, _, d2⟩⟩ := st
    simp only [List.mem_cons, List.not_mem_nil, or_false] at hc
    rcases hc with rfl | rfl | rfl | rfl | rfl
    · exact ⟨_, hz, fun v e => by cases e⟩
    · exact ⟨_, hTI, fun v e => by cases e⟩
    · exact ⟨_, hTO, fun v e => by cases e⟩
    · exact ⟨_, e1, fun v e => by rw [d1] at e; cases e⟩
    · exact ⟨_, e2, fun v e => by rw [d2] at e; cases e⟩
  keep := fun i h h' st k => by
    obtain ⟨hz, hTI, ⟨u, v, hTO⟩, h1, h2⟩ := st
    exact ⟨k z (by simp) _ hz, k TI (by simp) _ hTI, ⟨u, v, k TO (by simp) _ hTO⟩, h1.at fun o e => k i1 (by simp) o e, h2.at fun o e => k i2 (by simp) o e⟩
  item := fun X hp hw hK hc i pins s σ H E I fp st go => by
    subst hp hw hK
    obtain ⟨hz, hTI, ⟨u, v, hTO⟩, h1, h2⟩ := st
    obtain ⟨xs, ys, x, y, qa, qb, ex, ey⟩ := go
    obtain ⟨vs, rv, pv, _⟩ := I.list qa
    obtain ⟨us, ru, pu, _⟩ := I.list qb
    obtain ⟨vx, evx, rvx⟩ := rv.get ex
    obtain ⟨uy, euy, ruy⟩ := ru.get ey
    refine wpAny_pyNext_zip_item D hz hTI hTO h1 h2 pv.isList pu.isList (x := vx) (y := uy) (by simpa using evx) (by simpa using euy) fun h' a1 a2 a3 a4 a5 a6 hk => ?_
    refine ⟨_, rfl, wpAny_letOwnedTupleGo_zip a1 fun h'' b1 b2 => ?_⟩
    have nz : s.heap.objs.size ≠ z := Nat.ne_of_gt (Heap.lt_size hz)
    have k2 : ∀ c o, c ∉ [z, TO, i1, i2] → s.heap.get? c = some o → h''.get? c = some o := fun c o hcn e => by
      simp only [List.mem_cons, List.not_mem_nil, or_false, not_or] at hcn
      exact b2.extBut _ _ hcn.1 (hk c o hcn.1 hcn.2.1 hcn.2.2.1 hcn.2.2.2 e)
    have I' : Inv X pins σ (upd H s.heap.objs.size (.tup [x, y])) { s with heap := h'', toks := s.toks } :=
      I.turnLay (ch := [z, TO, i1, i2]) k2 (fun c hcn => fp c (by simp only [List.mem_cons, List.not_mem_nil, or_false] at hcn ⊢; rcases hcn with h | h | h | h <;> simp [h])) (Nat.le_refl _)
        ⟨by show 2 ≤ sizeLine; decide, [vx, uy], .cons rvx (.cons ruy .nil), ⟨_, b2.extBut _ _ nz a5, rfl, _, rfl⟩⟩
    have nf : H s.heap.objs.size = none := I.hok.fresh (Nat.le_refl _)
    refine ⟨.ref s.heap.objs.size, _, I', rfl, ⟨_, x, y, rfl, nf, rfl, fun xs' q => ?_, fun ys' q => ?_⟩, ⟨b1, b2.extBut _ _ D.TIz (hk _ _ D.TIz D.TITO D.TIi1 D.TIi2 hTI), ⟨_, _, b2.extBut _ _ D.TOz a2⟩, a3.extBut b2.extBut D.i1z, a4.extBut b2.extBut D.i2z⟩, fun c hcn => ?_⟩
    · rw [I.list_inj q qa]; exact ex
    · rw [I.list_inj q qb]; exact ey
    · have hc1 := fp c hcn
      have : c ≠ s.heap.objs.size := by
        have hlt : c < s.heap.objs.size := by
          simp only [List.mem_cons, List.not_mem_nil, or_false] at hcn
          rcases hcn with rfl | rfl | rfl | rfl | rfl
          · exact Heap.lt_size hz
          · exact Heap.lt_size hTI
          · exact Heap.lt_size hTO
          · obtain ⟨_, e, _⟩ := h1; exact Heap.lt_size e
          · obtain ⟨_, e, _⟩ := h2; exact Heap.lt_size e
        exact Nat.ne_of_lt hlt
      rw [upd_ne this]
      exact hc1.1
  done := fun X hp hw hK hc i pins s σ H E I fp st stop => by
    subst hp hw hK
    obtain ⟨hz, hTI, ⟨u, v, hTO⟩, h1, h2⟩ := st
    obtain ⟨xs, ys, qa, qb, hend⟩ := stop
    obtain ⟨vs, rv, pv, _⟩ := I.list qa
    obtain ⟨us, ru, pu, _⟩ := I.list qb
    have l1 := rv.length
    have l2 := ru.length
    refine wpAny_pyNext_zip_end (I.ok.hd hc) D hz hTI hTO h1 h2 pv.isList pu.isList ?_ fun h' hk => ⟨rfl, ?_⟩
    · rcases hend with h | h
      · exact .inl (by rw [Array.getElem?_eq_none_iff, List.size_toArray]; omega)
      · exact .inr (by rw [Array.getElem?_eq_none_iff, List.size_toArray]; omega)
    · refine I.turnedL (ch := [z, TO, i1, i2]) (t' := s.toks) (fun c o hcn e => ?_) (fun c hcn => fp c (by simp only [List.mem_cons, List.not_mem_nil, or_false] at hcn ⊢; rcases hcn with h | h | h | h <;> simp [h]))
      simp only [List.mem_cons, List.not_mem_nil, or_false, not_or] at hcn
      exact hk c o hcn.1 hcn.2.1 hcn.2.2.1 hcn.2.2.2 e
  self := fun A i s Q E st h => wpAny_pyIter_zip st.1 h

def iZip (K : PySem.W.Frag) (ta : TA) : TI := fun σ H R => ta σ H fun vs H1 => ∃ (a b : Addr) (xs ys : List V), vs = [.ref a, .ref b] ∧ SqL K H1 a xs ∧ SqL K H1 b ys ∧ R (Itz K a b) H1
theorem pi_zip {X : Cx} {elts : List Expr} {x1} {tp : Pos} {e1 e2 : Expr} {ta : TA} {p pos : Pos} (hg : Gl X "zip") (hm : X.mg "zip" = none) (ha : PA X [e1, e2] ta) (hs : starEach [e1, e2] X.env = [(false, eval e1 X.env), (false, eval e2 X.env)] := by rfl) (hs2 : starEach [e2] X.env = [(false, eval e2 X.env)] := by rfl) :
    PI X (.Tuple elts x1 tp) (.Call (.Name "zip" p) [e1, e2] [] pos) (iZip X.K ta) := by
  intro pins s σ H R I h
  refine Call_ (ld_blt I hg hm (by rfl) (PyProof.Rows.callWith_type1 (thn (ha pos pins s σ H _ I h) fun us s1 ⟨vs, H1, I1, r1, q1⟩ => ?_) (by rw [hs, hs2]) (by rw [hs2]; rfl)))
  obtain ⟨a, b, xs, ys, rfl, qa, qb, q⟩ := q1
  obtain ⟨u, v, rfl, ru, rv⟩ := vals2 r1
  cases ru
  cases rv
  obtain ⟨vs, rva, pa, _⟩ := I1.list qa
  obtain ⟨us, rvb, pb, _⟩ := I1.list qb
  have la : a < s1.heap.objs.size := by obtain ⟨o, n, e, _⟩ := pa; exact Heap.lt_size e
  have lb : b < s1.heap.objs.size := by obtain ⟨o, n, e, _⟩ := pb; exact Heap.lt_size e
  refine call_zip_2 pa.isList pb.isList fun h' hz hTI hTO hi1 hi2 hsz hk => ?_
  refine wpAny_pyIter_zip hz ?_
  have I2 : Inv X pins σ H1 { s1 with heap := h' } := I1.kept (t' := s1.toks) hk
  refine ⟨_, [s1.heap.objs.size + 4, s1.heap.objs.size + 2, s1.heap.objs.size + 3, s1.heap.objs.size, s1.heap.objs.size + 1], _, _, H1, rfl, I2, turn_zip (zipApart_new la lb), ⟨hz, hTI, ⟨_, _, hTO⟩, hi1, hi2⟩, fun c hc => ?_, q⟩
  have hge : s1.heap.objs.size ≤ c := by
    simp only [List.mem_cons, List.not_mem_nil, or_false] at hc
    rcases hc with rfl | rfl | rfl | rfl | rfl
    all_goals first | exact Nat.le_refl _ | exact Nat.le_add_right _ _
  exact I1.fpOk hge (I1.hok.fresh hge)

/-! ### scopes of blocks, by computation -/
def compOk (sc : Scope) (N loc free : List Str) (fr : List Nat) (scope : Scope) : Bool :=
  decide (scope.kind = .function) && scope.names.all (fun y => decide (y.2 ≠ .cell)) && scope.names.all (fun y => decide (y.2 ≠ .local) || decide (scope.names.lookup y.1 = some .local)) &&
  scope.names.all (fun y => decide (y.2 ≠ .free) || (decide (sc.names.lookup y.1 = some .cell) || decide (sc.names.lookup y.1 = some .free))) && decide (fr.length = free.length) &&
  (List.range fr.length).all fun i => match fr[i]?, free[i]? with
    | some j, some x => decide (N[j]? = some x) && decide (scope.names.lookup x = some .free)
    | _, _ => true
theorem compScope_of {X : Cx} {sc : Scope} {N loc free : List Str} {fr : List Nat} {scope : Scope} (e1 : X.env.scope = sc) (e2 : X.N = N) (h : compOk sc N loc free fr scope = true) : CompScope X loc free fr scope := by
  unfold compOk at h
  simp only [Bool.and_eq_true, List.all_eq_true, Bool.or_eq_true, decide_eq_true_eq] at h
  obtain ⟨⟨⟨⟨⟨h1, h2⟩, h3⟩, h4⟩, h5⟩, h6⟩ := h
  refine ⟨h1, fun y hy => h2 y hy, fun y hy hl => (h3 y hy).elim (fun z => absurd hl z) id, fun y hy hf => ?_, fun i j x a b => ?_, h5⟩
  · show X.env.scope.names.lookup y.1 = some .cell ∨ X.env.scope.names.lookup y.1 = some .free
    rw [e1]
    exact (h4 y hy).elim (fun z => absurd hf z) id
  · have hi : i < fr.length := (List.getElem?_eq_some_iff.mp a).1
    have := h6 i (List.mem_range.mpr hi)
    rw [a, b] at this
    simp only [Bool.and_eq_true, decide_eq_true_eq] at this
    rw [e2]
    exact this
theorem pgc {X : Cx} {x : Str} {pos : Pos} (i : Nat) (N : List Str) (nd : N.Nodup) (eN : X.N = N) (hi : N[i]? = some x) (hx : Loc X.env.scope x) (hl : X.env.scope.names.lookup x = some .local) : PG X (.Name x pos) (gName i) :=
  pg_name (eN ▸ nd) (by rw [eN]; exact hi) hx (.inr hl)
/-- a def as it stands behind the top -/
structure Dfn (K : PySem.W.Frag) (mg : Str → Option Value) (x : Str) (st : Stmt) (ps : List Str) (f : Addr) (fd : FuncData) : Prop where
  F : Fun K x x st f fd
  b : Binds K fd ps []
  g : mg x = some (.ref f)

/-- a method -/
structure DfnM (K : PySem.W.Frag) (x qual : Str) (st : Stmt) (ps : List Str) (f : Addr) (fd : FuncData) : Prop where
  F : Fun K x qual st f fd
  b : Binds K fd ps []

/-! ### rows of ints, tracked -/
def Row (H : Hp) (x : V) (r : List Int) : Prop := ∃ t, x = .ref t ∧ H t = some (.tup (r.map V.int))
abbrev pr2 (rows : List (Int × Int)) : List (List Int) := rows.map fun p => [p.1, p.2]
def Rows (H : Hp) (xs : List V) (rows : List (Int × Int)) : Prop := Paired (Row H) xs (pr2 rows)
theorem Row.mono {H H' : Hp} (s : Same H H') {x : V} {r : List Int} (h : Row H x r) : Row H' x r := let ⟨t, e, q⟩ := h; ⟨t, e, s _ _ q⟩
theorem Rows.mono {H H' : Hp} (s : Same H H') {xs : List V} {rows : List (Int × Int)} (h : Rows H xs rows) : Rows H' xs rows := Paired.imp' (fun _ _ q => Row.mono s q) h
theorem Rows.len {H : Hp} {xs : List V} {rows : List (Int × Int)} (h : Rows H xs rows) : xs.length = rows.length := by
  have := Paired.length h
  rw [this, List.length_map]
theorem Rows.nil {H : Hp} : Rows H [] [] := Paired.nil
theorem Rows.get {H : Hp} {xs : List V} {rows : List (Int × Int)} {i : Nat} {x : V} (h : Rows H xs rows) (e : xs[i]? = some x) : ∃ p t, rows[i]? = some p ∧ x = .ref t ∧ H t = some (.tup [.int p.1, .int p.2]) := by
  obtain ⟨r, er, t, rfl, ht⟩ := Paired.getL h e
  rw [List.getElem?_map] at er
  cases q : rows[i]? with
  | none => rw [q] at er; cases er
  | some p =>
    rw [q] at er
    cases er
    exact ⟨p, t, rfl, rfl, ht⟩
theorem Paired.append' {α β : Type} {F : α → β → Prop} : ∀ {a : List α} {b : List β} {c : List α} {d : List β}, Paired F a b → Paired F c d → Paired F (a ++ c) (b ++ d)
  | _, _, _, _, .nil, h => h
  | _, _, _, _, .cons r t, h => .cons r (Paired.append' t h)
theorem Rows.append {H : Hp} {xs ys : List V} {a b : List (Int × Int)} (h : Rows H xs a) (h' : Rows H ys b) : Rows H (xs ++ ys) (a ++ b) := by
  unfold Rows pr2 at *
  rw [List.map_append]
  exact Paired.append' h h'
theorem Rows.snoc {H : Hp} {xs : List V} {a : List (Int × Int)} {t : Addr} {p : Int × Int} (h : Rows H xs a) (ht : H t = some (.tup [.int p.1, .int p.2])) : Rows H (xs ++ [.ref t]) (a ++ [p]) :=
  h.append (.cons ⟨t, rfl, ht⟩ .nil)
theorem Paired.dropLast' {α β : Type} {F : α → β → Prop} : ∀ {a : List α} {b : List β}, Paired F a b → Paired F a.dropLast b.dropLast
  | _, _, .nil => .nil
  | _, _, .cons r .nil => .nil
  | _, _, .cons r (.cons r' t) => .cons r (Paired.dropLast' (.cons r' t))
theorem Rows.dropLast {H : Hp} {xs : List V} {a : List (Int × Int)} (h : Rows H xs a) : Rows H xs.dropLast a.dropLast := by
  unfold Rows pr2 at *
  rw [List.map_dropLast]
  exact Paired.dropLast' h
theorem same_upd {H : Hp} {a : Addr} {o : HO} (h : H a = none) : Same H (upd H a o) := fun b u e => by rw [upd_ne (ne_of_none e h)]; exact e
/-- all that stood is as it was, but for a -/
theorem same_set {H0 H : Hp} {a : Addr} {o : HO} (s : Same H0 H) (h : H0 a = none) : Same H0 (upd H a o) := fun b u e => by rw [upd_ne (ne_of_none e h)]; exact s b u e

/-! ### the rules with the fragment by its name (for blocks) -/
section
variable {X : Cx} {K : PySem.W.Frag}
theorem pgT {pos : Pos} {es : List Expr} {k : Nat} {t : TGs} (n : Nat) (hK : X.K = K) (hc : X.calm = true) (h : PGs X es t) (hn : (assignEach es X.env).length = n := by rfl) (hst : (assignEach es X.env).findIdx? (·.1) = none := by rfl) : PG X (.Tuple es k pos) (gTup K n t) := by
  subst hK; exact pg_tup hc h hn hst
theorem ix_listK (hK : X.K = K) : IxR X (rIxL K) := by subst hK; exact ix_list
theorem ix_tupK (hK : X.K = K) : IxR X (rIxT K) := by subst hK; exact ix_tup
end

end L2

set_option Elab.async false
set_option linter.all false
namespace L2
open PySem PySem.Spec PyProof.Rows
section
variable {X : Cx} {pos : Pos}
/-- a, b = a list of that length -/
def gLst (K : PySem.W.Frag) (n : Nat) (t : TGs) : TG := fun v σ H Q => ∃ a xs, v = .ref a ∧ SqL K H a xs ∧ xs.length = n ∧ t xs σ H Q
theorem pg_lst {es : List Expr} {k : Nat} {t : TGs} {n : Nat} (hc : X.calm = true) (h : PGs X es t)
    (hn : (assignEach es X.env).length = n := by rfl) (hst : (assignEach es X.env).findIdx? (·.1) = none := by rfl) : PG X (.Tuple es k pos) (gLst X.K n t) := by
  intro pins s σ H v u Q I r hw
  obtain ⟨a, xs, e1, hq, hl, hw⟩ := hw
  subst e1
  cases r
  obtain ⟨its, rv, pl, hz⟩ := I.list hq
  rw [assign_Tuple]
  refine wpAny_bind (wpAny_standAt ?_)
  unfold unpack
  rw [hst, hn, show n = its.toArray.size by simp [← hl, rv.length]]
  refine wpAny_bind (wpAny_holding (PySem.W.kun_itemsOf (I.ok.hd hc) pl.isList fun h' hx => ?_))
  have I1 : Inv X pins σ H { s with heap := h' } := I.kept (t' := s.toks) fun b o e => hx b o (Nat.ne_of_lt (Heap.lt_size e)) e
  exact h pins _ σ H xs _ Q I1 (by simpa using rv) hw
end
end L2

/-! Calendars: rows (many, machines), and what they are worth. -/
namespace Cal
abbrev P := Int × Int
def at_ : List P → Int → Int → Int
  | [], rest, _ => rest
  | p :: r, rest, t => if t < p.1 then p.2 else at_ r rest (t - p.1)
def ahead : List P → Int → Int → Int
  | [], rest, t => max 0 t * rest
  | p :: r, rest, t => min p.1 (max 0 t) * p.2 + ahead r rest (t - p.1)
def tot : List P → Int
  | [] => 0
  | p :: r => p.1 + tot r
def cc (a b lo hi : Int) : Int := max 0 (min b hi - max a lo + 1)
def over : List P → Int → Int → Int → Int → Int
  | [], rest, st, f, l => rest * cc st l f l
  | p :: r, rest, st, f, l => p.2 * cc st (st + p.1 - 1) f l + over r rest (st + p.1) f l
def stops : List P → Int → List Int
  | [], _ => []
  | p :: r, st => (st + p.1) :: stops r (st + p.1)
/-- every row has turns -/
def Pos (rows : List P) : Prop := ∀ p ∈ rows, 1 ≤ p.1
theorem Pos.tail {p : P} {r : List P} (h : Pos (p :: r)) : Pos r := fun x hx => h x (List.mem_cons_of_mem _ hx)
theorem Pos.head {p : P} {r : List P} (h : Pos (p :: r)) : 1 ≤ p.1 := h p List.mem_cons_self

theorem over_ahead : ∀ (rows : List P) (rest st f l : Int), Pos rows → over rows rest st f l = if f ≤ l then ahead rows rest (l + 1 - st) - ahead rows rest (f - st) else 0
  | [], rest, st, f, l, _ => by
    unfold over ahead
    by_cases h : f ≤ l
    · rw [if_pos h, ← Int.sub_mul, Int.mul_comm]
      congr 1
      unfold cc; omega
    · rw [if_neg h]
      have : cc st l f l = 0 := by unfold cc; omega
      rw [this, Int.mul_zero]
  | p :: r, rest, st, f, l, hp => by
    unfold over ahead
    rw [over_ahead r rest (st + p.1) f l hp.tail]
    have h1 := hp.head
    by_cases h : f ≤ l
    · rw [if_pos h, if_pos h]
      have e1 : cc st (st + p.1 - 1) f l = min p.1 (max 0 (l + 1 - st)) - min p.1 (max 0 (f - st)) := by unfold cc; omega
      have e2 : l + 1 - (st + p.1) = l + 1 - st - p.1 := by omega
      have e3 : f - (st + p.1) = f - st - p.1 := by omega
      rw [e1, e2, e3, Int.mul_comm, Int.sub_mul]
      omega
    · rw [if_neg h, if_neg h]
      have : cc st (st + p.1 - 1) f l = 0 := by unfold cc; omega
      rw [this, Int.mul_zero]
      rfl

/-! ### the kept form -/
/-- a row of a turns with c machines each, then r -/
def pk (rest : Int) : Int → Int → List P → List P
  | a, c, [] => if c = rest then [] else [(a, c)]
  | a, c, p :: r => if p.2 = c then pk rest (a + p.1) c r else (a, c) :: pk rest p.1 p.2 r
def kform (rest : Int) : List P → List P
  | [] => []
  | p :: r => pk rest p.1 p.2 r
def nstep (acc : List P) (r : P) : List P :=
  match acc.getLast? with
  | some l => if l.2 = r.2 then acc.dropLast ++ [(l.1 + r.1, r.2)] else acc ++ [r]
  | none => acc ++ [r]
theorem nstep_last {acc : List P} {l : P} (h : acc.getLast? = some l) (r : P) : nstep acc r = if l.2 = r.2 then acc.dropLast ++ [(l.1 + r.1, r.2)] else acc ++ [r] := by
  unfold nstep; rw [h]
theorem nstep_empty {acc : List P} (h : acc = []) (r : P) : nstep acc r = acc ++ [r] := by
  rw [h]; rfl
theorem nstep_snoc (i : List P) (l r : P) : nstep (i ++ [l]) r = if l.2 = r.2 then i ++ [(l.1 + r.1, r.2)] else (i ++ [l]) ++ [r] := by
  rw [nstep_last (l := l) (by simp)]
  simp
def drp (rest : Int) (t : List P) : List P :=
  match t.getLast? with
  | some l => if l.2 = rest then t.dropLast else t
  | none => t
theorem drp_last {rest : Int} {t : List P} {l : P} (h : t.getLast? = some l) : drp rest t = if l.2 = rest then t.dropLast else t := by
  unfold drp; rw [h]
theorem drp_empty {rest : Int} {t : List P} (h : t = []) : drp rest t = t := by rw [h]; rfl
theorem fold_pk (rest : Int) : ∀ (r i : List P) (a c : Int), drp rest (r.foldl nstep (i ++ [(a, c)])) = i ++ pk rest a c r
  | [], i, a, c => by
    rw [List.foldl_nil, drp_last (l := (a, c)) (by simp)]
    unfold pk
    by_cases h : c = rest
    · rw [if_pos h, if_pos h]; simp
    · rw [if_neg h, if_neg h]
  | p :: r, i, a, c => by
    rw [List.foldl_cons, nstep_snoc]
    unfold pk
    by_cases h : c = p.2
    · rw [if_pos h, if_pos h.symm]
      have := fold_pk rest r i (a + p.1) p.2
      rw [← h] at this ⊢
      exact this
    · rw [if_neg h, if_neg (Ne.symm h)]
      have := fold_pk rest r (i ++ [(a, c)]) p.1 p.2
      rw [this, List.append_assoc]
      rfl
theorem kept_eq (rest : Int) (rows : List P) : drp rest (rows.foldl nstep []) = kform rest rows := by
  cases rows with
  | nil => rfl
  | cons p r => exact fold_pk rest r [] p.1 p.2
theorem pk_at (rest : Int) : ∀ (r : List P) (a c t : Int), Pos r → at_ (pk rest a c r) rest t = at_ ((a, c) :: r) rest t
  | [], a, c, t, _ => by
    unfold pk
    by_cases h : c = rest
    · rw [if_pos h]
      simp only [at_]
      rw [h]; simp
    · rw [if_neg h]
  | p :: r, a, c, t, h => by
    have h1 := h.head
    unfold pk
    by_cases e : p.2 = c
    · rw [if_pos e, pk_at rest r (a + p.1) c t h.tail]
      simp only [at_]
      by_cases c1 : t < a
      · rw [if_pos c1, if_pos (by omega)]
      · rw [if_neg c1]
        by_cases c2 : t - a < p.1
        · rw [if_pos c2, if_pos (by omega), e]
        · rw [if_neg c2, if_neg (by omega)]
          congr 1; omega
    · rw [if_neg e]
      simp only [at_]
      rw [pk_at rest r p.1 p.2 (t - a) h.tail]
      simp only [at_]
theorem kform_at (rest : Int) (rows : List P) (t : Int) (h : Pos rows) : at_ (kform rest rows) rest t = at_ rows rest t := by
  cases rows with
  | nil => rfl
  | cons p r => exact pk_at rest r p.1 p.2 t h.tail

/-! ### the turns at which the number changes -/
def chg (rest : Int) : List P → Int → List Int
  | [], _ => []
  | p :: r, st => (if at_ r rest 0 = p.2 then [] else [st + p.1]) ++ chg rest r (st + p.1)
/-- rows out of the changes, by the machines F at each begin -/
def bld (F : Int → Int) : Int → List Int → List P
  | _, [] => []
  | b, t :: ts => (t - b, F b) :: bld F t ts
theorem sum_tot (rows : List P) : (rows.map (·.1)).sum = tot rows := by
  induction rows with
  | nil => rfl
  | cons p r ih => rw [List.map_cons, List.sum_cons, ih]; rfl
theorem tot_nonneg : ∀ {rows : List P}, Pos rows → 0 ≤ tot rows
  | [], _ => Int.le_refl _
  | p :: r, h => by
    have := tot_nonneg h.tail
    have := h.head
    unfold tot; omega

/-! ### changed rows -/
def clamp (t lo hi : Int) : Int := max lo (min t hi)
def pieces (st f l by_ : Int) (p : P) : List P :=
  [(clamp f st (st + p.1) - st, p.2), (clamp (l + 1) st (st + p.1) - clamp f st (st + p.1), max 0 (p.2 + by_)), (st + p.1 - clamp (l + 1) st (st + p.1), p.2)]
def chr : List P → Int → Int → Int → Int → List P
  | [], _, _, _, _ => []
  | p :: r, st, f, l, by_ => (pieces st f l by_ p).filter (fun q => decide (0 < q.1)) ++ chr r (st + p.1) f l by_
theorem at_zero {p : P} {r : List P} {rest t : Int} (h : p.1 ≤ 0) (ht : 0 ≤ t) (h0 : 0 ≤ p.1) : at_ (p :: r) rest t = at_ r rest t := by
  simp only [at_]
  rw [if_neg (by omega)]
  congr 1; omega
theorem at_filter : ∀ (q r : List P) (rest t : Int), 0 ≤ t → (∀ x ∈ q, 0 ≤ x.1) → at_ (q.filter (fun x => decide (0 < x.1)) ++ r) rest t = at_ (q ++ r) rest t
  | [], r, rest, t, _, _ => rfl
  | x :: q, r, rest, t, ht, h => by
    have hx := h x List.mem_cons_self
    have hq := fun y hy => h y (List.mem_cons_of_mem _ hy)
    by_cases c : 0 < x.1
    · rw [List.filter_cons_of_pos (by simpa using c), List.cons_append, List.cons_append]
      simp only [at_]
      by_cases c2 : t < x.1
      · rw [if_pos c2, if_pos c2]
      · rw [if_neg c2, if_neg c2]
        exact at_filter q r rest (t - x.1) (by omega) hq
    · rw [List.filter_cons_of_neg (by simpa using c), List.cons_append, at_zero (by omega) ht hx]
      exact at_filter q r rest t ht hq
theorem pieces_pos {st f l by_ : Int} {p : P} (h : 1 ≤ p.1) (hfl : f ≤ l) : ∀ x ∈ pieces st f l by_ p, 0 ≤ x.1 := by
  intro x hx
  unfold pieces at hx
  simp only [List.mem_cons, List.not_mem_nil, or_false] at hx
  rcases hx with rfl | rfl | rfl <;> (simp only [clamp]; omega)
theorem chr_at : ∀ (rows : List P) (rest st f l by_ t : Int), Pos rows → f ≤ l → 0 ≤ t →
    at_ (chr rows st f l by_) rest t = if f ≤ st + t ∧ st + t ≤ l ∧ t < tot rows then max 0 (at_ rows rest t + by_) else at_ rows rest t
  | [], rest, st, f, l, by_, t, _, _, ht => by
    show rest = if f ≤ st + t ∧ st + t ≤ l ∧ t < 0 then max 0 (rest + by_) else rest
    rw [if_neg (by omega)]
  | p :: r, rest, st, f, l, by_, t, h, hfl, ht => by
    have h1 := h.head
    have hp := pieces_pos (st := st) (f := f) (l := l) (by_ := by_) h1 hfl
    simp only [chr]
    rw [at_filter _ _ _ _ ht hp]
    have hts := tot_nonneg h.tail
    have ih := chr_at r rest (st + p.1) f l by_ (t - p.1) h.tail hfl
    unfold pieces
    rw [show tot (p :: r) = p.1 + tot r from rfl]
    simp only [List.cons_append, List.nil_append, at_]
    by_cases c : t < p.1
    · rw [if_pos c]
      by_cases c1 : t < clamp f st (st + p.1) - st
      · rw [if_pos c1, if_neg]
        unfold clamp at c1; omega
      · rw [if_neg c1]
        by_cases c2 : t - (clamp f st (st + p.1) - st) < clamp (l + 1) st (st + p.1) - clamp f st (st + p.1)
        · rw [if_pos c2, if_pos]
          unfold clamp at c1 c2; omega
        · rw [if_neg c2, if_pos (by unfold clamp; omega), if_neg]
          unfold clamp at c1 c2; omega
    · have n1 : ¬ t < clamp f st (st + p.1) - st := by unfold clamp; omega
      have n2 : ¬ t - (clamp f st (st + p.1) - st) < clamp (l + 1) st (st + p.1) - clamp f st (st + p.1) := by unfold clamp; omega
      have n3 : ¬ t - (clamp f st (st + p.1) - st) - (clamp (l + 1) st (st + p.1) - clamp f st (st + p.1)) < st + p.1 - clamp (l + 1) st (st + p.1) := by unfold clamp; omega
      rw [if_neg n1, if_neg n2, if_neg n3, if_neg c]
      have e : t - (clamp f st (st + p.1) - st) - (clamp (l + 1) st (st + p.1) - clamp f st (st + p.1)) - (st + p.1 - clamp (l + 1) st (st + p.1)) = t - p.1 := by omega
      rw [e, ih (by omega)]
      by_cases d : f ≤ st + p.1 + (t - p.1) ∧ st + p.1 + (t - p.1) ≤ l ∧ t - p.1 < tot r
      · rw [if_pos d, if_pos (by omega)]
      · rw [if_neg d, if_neg (by omega)]
theorem chr_pos : ∀ (rows : List P) (st f l by_ : Int), Pos (chr rows st f l by_)
  | [], _, _, _, _ => fun _ h => (nomatch h)
  | p :: r, st, f, l, by_ => by
    intro x hx
    simp only [chr] at hx
    rcases List.mem_append.mp hx with hx | hx
    · have := (List.mem_filter.mp hx).2
      have := of_decide_eq_true this
      omega
    · exact chr_pos r _ _ _ _ x hx
theorem chr_len : ∀ (rows : List P) (st f l by_ : Int), (chr rows st f l by_).length ≤ 3 * rows.length
  | [], _, _, _, _ => Nat.le_refl _
  | p :: r, st, f, l, by_ => by
    simp only [chr]
    rw [List.length_append, List.length_cons]
    have a := chr_len r (st + p.1) f l by_
    have b := List.length_filter_le (fun q : P => decide (0 < q.1)) (pieces st f l by_ p)
    have c : (pieces st f l by_ p).length = 3 := rfl
    omega
theorem at_append_rest : ∀ (rows : List P) (rest m t : Int), at_ (rows ++ [(m, rest)]) rest t = at_ rows rest t
  | [], rest, m, t => by simp [at_]
  | p :: r, rest, m, t => by
    simp only [List.cons_append, at_]
    rw [at_append_rest r rest m]
theorem tot_append : ∀ (a b : List P), tot (a ++ b) = tot a + tot b
  | [], b => by simp [tot]
  | p :: a, b => by simp only [List.cons_append, tot]; rw [tot_append a b]; omega
/-- the rows that are changed: the kept ones, made long enough -/
def longer (rows : List P) (rest l : Int) : List P := if 0 < l + 1 - tot rows then rows ++ [(l + 1 - tot rows, rest)] else rows
def chgd (rows : List P) (rest f l by_ : Int) : List P := kform rest (if f ≤ l then chr (longer rows rest l) 0 f l by_ else rows)
theorem longer_ok {rows : List P} {rest l : Int} (h : Pos rows) : Pos (longer rows rest l) ∧ l + 1 ≤ tot (longer rows rest l) ∧ (∀ t, at_ (longer rows rest l) rest t = at_ rows rest t) ∧ (longer rows rest l).length ≤ rows.length + 1 := by
  unfold longer
  by_cases c : 0 < l + 1 - tot rows
  · rw [if_pos c]
    refine ⟨fun p hp => ?_, ?_, fun t => at_append_rest _ _ _ _, by simp⟩
    · rcases List.mem_append.mp hp with hp | hp
      · exact h p hp
      · rw [List.mem_singleton.mp hp]; show 1 ≤ l + 1 - tot rows; omega
    · rw [tot_append]; simp only [tot]; omega
  · rw [if_neg c]
    exact ⟨h, by omega, fun t => rfl, by omega⟩
theorem chgd_at {rows : List P} {rest f l by_ t : Int} (h : Pos rows) (ht : 0 ≤ t) : at_ (chgd rows rest f l by_) rest t = if f ≤ t ∧ t ≤ l then max 0 (at_ rows rest t + by_) else at_ rows rest t := by
  unfold chgd
  by_cases c : f ≤ l
  · rw [if_pos c]
    obtain ⟨h1, h2, h3, _⟩ := longer_ok (rest := rest) (l := l) h
    rw [kform_at _ _ _ (chr_pos _ _ _ _ _), chr_at _ _ _ _ _ _ _ h1 c ht, h3]
    by_cases d : f ≤ t ∧ t ≤ l
    · rw [if_pos d, if_pos (by omega)]
    · rw [if_neg d, if_neg (by omega)]
  · rw [if_neg c, kform_at _ _ _ h, if_neg (by omega)]
def wide (rows : List P) (k : Int) : List P := rows.map fun p => (p.1, p.2 + k)
theorem wide_at : ∀ (rows : List P) (rest k t : Int), at_ (wide rows k) (rest + k) t = at_ rows rest t + k
  | [], rest, k, t => rfl
  | p :: r, rest, k, t => by
    unfold wide
    simp only [List.map_cons, at_]
    have := wide_at r rest k (t - p.1)
    unfold wide at this
    split
    · rfl
    · exact this
theorem wide_pos {rows : List P} {k : Int} (h : Pos rows) : Pos (wide rows k) := fun p hp => by
  obtain ⟨q, hq, rfl⟩ := List.mem_map.mp hp
  exact h q hq
theorem chr_snoc : ∀ (a : List P) (p : P) (st f l by_ : Int), chr (a ++ [p]) st f l by_ = chr a st f l by_ ++ (pieces (st + tot a) f l by_ p).filter fun q => decide (0 < q.1)
  | [], p, st, f, l, by_ => by
    simp only [List.nil_append, chr, tot, List.append_nil]
    rw [show st + 0 = st by omega]
  | x :: a, p, st, f, l, by_ => by
    simp only [List.cons_append, chr, tot]
    rw [chr_snoc a p (st + x.1) f l by_, List.append_assoc, show st + x.1 + tot a = st + (x.1 + tot a) by omega]
theorem tot_snoc (a : List P) (p : P) : tot (a ++ [p]) = tot a + p.1 := by
  rw [tot_append]; simp [tot]
theorem sum_bounds : ∀ (ns : List Int), (∀ x ∈ ns, 0 ≤ x) → ∀ j, 0 ≤ (ns.take j).sum ∧ (ns.take j).sum ≤ ns.sum
  | [], _, j => by simp
  | x :: ns, h, 0 => by
    have := (sum_bounds ns (fun y hy => h y (List.mem_cons_of_mem _ hy)) ns.length).1
    rw [List.take_length] at this
    have := h x List.mem_cons_self
    rw [List.take_zero, List.sum_nil, List.sum_cons]; omega
  | x :: ns, h, j + 1 => by
    have := sum_bounds ns (fun y hy => h y (List.mem_cons_of_mem _ hy)) j
    have := h x List.mem_cons_self
    rw [List.take_succ_cons, List.sum_cons, List.sum_cons]; omega
theorem mem_le_sum : ∀ (ns : List Int), (∀ x ∈ ns, 0 ≤ x) → ∀ x ∈ ns, x ≤ ns.sum
  | y :: ns, h, x, hx => by
    have h2 := (sum_bounds ns (fun y hy => h y (List.mem_cons_of_mem _ hy)) ns.length).1
    rw [List.take_length] at h2
    have h0 := h y List.mem_cons_self
    rw [List.sum_cons]
    rcases List.mem_cons.mp hx with rfl | hx
    · omega
    · have := mem_le_sum ns (fun y hy => h y (List.mem_cons_of_mem _ hy)) x hx
      omega
end Cal

set_option Elab.async false
set_option linter.all false
namespace Cal
def Kept (rest : Int) : List P → Prop
  | [] => True
  | p :: r => 1 ≤ p.1 ∧ at_ r rest 0 ≠ p.2 ∧ Kept rest r
theorem Kept.pos {rest : Int} : ∀ {rows : List P}, Kept rest rows → Pos rows
  | [], _ => fun _ h => nomatch h
  | p :: r, h => fun q hq => by
    rcases List.mem_cons.mp hq with rfl | hq
    · exact h.1
    · exact (Kept.pos h.2.2) q hq
theorem at_head {p : P} {r : List P} {rest : Int} (h : 1 ≤ p.1) : at_ (p :: r) rest 0 = p.2 := by
  show (if 0 < p.1 then p.2 else _) = _
  rw [if_pos (by omega)]
theorem pk_kept (rest : Int) : ∀ (r : List P) (a c : Int), 1 ≤ a → Pos r → Kept rest (pk rest a c r)
  | [], a, c, ha, _ => by
    simp only [pk]
    split
    · trivial
    · rename_i h
      exact ⟨ha, fun e => h (Eq.symm e), trivial⟩
  | p :: r, a, c, ha, hp => by
    simp only [pk]
    have h1 := hp.head
    split
    · exact pk_kept rest r (a + p.1) c (by omega) hp.tail
    · rename_i h
      refine ⟨ha, ?_, pk_kept rest r p.1 p.2 h1 hp.tail⟩
      rw [pk_at rest r p.1 p.2 0 hp.tail, at_head (p := (p.1, p.2)) h1]
      exact h
theorem kform_kept (rest : Int) (rows : List P) (h : Pos rows) : Kept rest (kform rest rows) := by
  cases rows with
  | nil => trivial
  | cons p r => exact pk_kept rest r p.1 p.2 h.head h.tail
theorem at_lt {p : P} {r : List P} {rest t : Int} (h : t < p.1) : at_ (p :: r) rest t = p.2 := by
  show (if t < p.1 then p.2 else _) = _
  rw [if_pos h]
theorem at_ge {p : P} {r : List P} {rest t : Int} (h : p.1 ≤ t) : at_ (p :: r) rest t = at_ r rest (t - p.1) := by
  show (if t < p.1 then p.2 else _) = _
  rw [if_neg (by omega)]
theorem kept_uniq {rest : Int} : ∀ (a b : List P), Kept rest a → Kept rest b → (∀ t, 0 ≤ t → at_ a rest t = at_ b rest t) → a = b
  | [], [], _, _, _ => rfl
  | [], q :: s, _, hb, h => by
    exfalso
    have h0 := h 0 (Int.le_refl _)
    rw [at_head hb.1] at h0
    have h1 := h q.1 (by have := hb.1; omega)
    rw [at_ge (Int.le_refl _), Int.sub_self] at h1
    exact hb.2.1 (by rw [← h1, ← h0]; rfl)
  | p :: r, [], ha, _, h => by
    exfalso
    have h0 := h 0 (Int.le_refl _)
    rw [at_head ha.1] at h0
    have h1 := h p.1 (by have := ha.1; omega)
    rw [at_ge (Int.le_refl _), Int.sub_self] at h1
    exact ha.2.1 (by rw [h1, h0]; rfl)
  | p :: r, q :: s, ha, hb, h => by
    have h0 := h 0 (Int.le_refl _)
    rw [at_head ha.1, at_head hb.1] at h0
    have a1 := ha.1
    have b1 := hb.1
    have e1 : p.1 = q.1 := by
      rcases Int.lt_trichotomy p.1 q.1 with hlt | e | hgt
      · exfalso
        have h1 := h p.1 (by omega)
        rw [at_ge (Int.le_refl _), Int.sub_self, at_lt hlt] at h1
        exact ha.2.1 (h1.trans h0.symm)
      · exact e
      · exfalso
        have h1 := h q.1 (by omega)
        rw [at_ge (p := q) (Int.le_refl _), Int.sub_self, at_lt hgt] at h1
        exact hb.2.1 (h1.symm.trans h0)
    have e2 : r = s := kept_uniq r s ha.2.2 hb.2.2 fun t ht => by
      have h1 := h (t + p.1) (by omega)
      rw [at_ge (p := p) (by omega), at_ge (p := q) (by omega), ← e1, Int.add_sub_cancel] at h1
      exact h1
    rw [e2, show p = q from Prod.ext e1 h0]
/-- runs of like ones -/
def grp : Int → List Int → List P
  | _, [] => []
  | m, [x] => [(m + 1, x)]
  | m, x :: y :: r => if y = x then grp (m + 1) (y :: r) else (m + 1, x) :: grp 0 (y :: r)
theorem at_grp (rest : Int) : ∀ (r : List Int) (x m t : Int), 0 ≤ m → 0 ≤ t → at_ (grp m (x :: r)) rest t = if t < m then x else (x :: r).getD (t - m).toNat rest
  | [], x, m, t, hm, ht => by
    show (if t < m + 1 then x else rest) = _
    by_cases h : t < m
    · rw [if_pos (by omega), if_pos h]
    · rw [if_neg h]
      by_cases h2 : t < m + 1
      · rw [if_pos h2, show (t - m).toNat = 0 by omega]; rfl
      · rw [if_neg h2, show (t - m).toNat = (t - m - 1).toNat + 1 by omega]; rfl
  | y :: r, x, m, t, hm, ht => by
    simp only [grp]
    by_cases e : y = x
    · rw [if_pos e, at_grp rest r y (m + 1) t (by omega) ht]
      by_cases h : t < m
      · rw [if_pos (by omega), if_pos h, e]
      · rw [if_neg h]
        by_cases h2 : t < m + 1
        · rw [if_pos h2, show (t - m).toNat = 0 by omega, e]; rfl
        · rw [if_neg h2, show (t - m).toNat = (t - (m + 1)).toNat + 1 by omega]; rfl
    · rw [if_neg e]
      by_cases h2 : t < m + 1
      · rw [at_lt (p := (m + 1, x)) h2]
        by_cases h : t < m
        · rw [if_pos h]
        · rw [if_neg h, show (t - m).toNat = 0 by omega]; rfl
      · rw [at_ge (p := (m + 1, x)) (by show m + 1 ≤ t; omega), at_grp rest r y 0 _ (Int.le_refl _) (by show 0 ≤ t - (m + 1); omega), if_neg (by show ¬ t - (m + 1) < 0; omega), if_neg (by omega)]
        show (y :: r).getD (t - (m + 1) - 0).toNat rest = _
        rw [show (t - m).toNat = (t - (m + 1) - 0).toNat + 1 by omega]; rfl
theorem at_grp0 (rest : Int) (z : List Int) (t : Int) (ht : 0 ≤ t) : at_ (grp 0 z) rest t = z.getD t.toNat rest := by
  cases z with
  | nil => rfl
  | cons x r => rw [at_grp rest r x 0 t (Int.le_refl _) ht, if_neg (by omega), Int.sub_zero]
theorem kept_grp (rest : Int) : ∀ (r : List Int) (x m : Int), 0 ≤ m → (x :: r).getLast? ≠ some rest → Kept rest (grp m (x :: r))
  | [], x, m, hm, h => ⟨by show 1 ≤ m + 1; omega, fun e => h (by rw [show rest = x from e]; rfl), trivial⟩
  | y :: r, x, m, hm, h => by
    simp only [grp]
    have h' : (y :: r).getLast? ≠ some rest := fun e => h (by rw [List.getLast?_cons_cons]; exact e)
    split
    · exact kept_grp rest r y (m + 1) (by omega) h'
    · rename_i e
      refine ⟨by show 1 ≤ m + 1; omega, ?_, kept_grp rest r y 0 (Int.le_refl _) h'⟩
      rw [at_grp rest r y 0 0 (Int.le_refl _) (Int.le_refl _), if_neg (by omega)]
      exact e
theorem tot_grp : ∀ (r : List Int) (x m : Int), tot (grp m (x :: r)) = m + (x :: r).length
  | [], x, m => by show m + 1 + 0 = _; simp
  | y :: r, x, m => by
    simp only [grp]
    split
    · rw [tot_grp r y (m + 1)]; simp only [List.length_cons]; omega
    · show m + 1 + tot (grp 0 (y :: r)) = _
      rw [tot_grp r y 0]; simp only [List.length_cons]; omega
theorem tot_grp0 (z : List Int) : tot (grp 0 z) = z.length := by
  cases z with
  | nil => rfl
  | cons x r => rw [tot_grp]; omega
theorem len_grp : ∀ (r : List Int) (x m : Int), (grp m (x :: r)).length ≤ (x :: r).length
  | [], x, m => Nat.le_refl _
  | y :: r, x, m => by
    simp only [grp]
    split
    · have := len_grp r y (m + 1); simp only [List.length_cons] at this ⊢; omega
    · have := len_grp r y 0; simp only [List.length_cons] at this ⊢; omega
theorem mem_grp : ∀ (r : List Int) (x m : Int) (p : P), p ∈ grp m (x :: r) → p.2 ∈ x :: r
  | [], x, m, p, h => by rw [List.mem_singleton.mp h]; exact List.mem_cons_self
  | y :: r, x, m, p, h => by
    simp only [grp] at h
    split at h
    · exact List.mem_cons_of_mem _ (mem_grp r y (m + 1) p h)
    · rcases List.mem_cons.mp h with rfl | h
      · exact List.mem_cons_self
      · exact List.mem_cons_of_mem _ (mem_grp r y 0 p h)
/-- where the last ones that are the rest begin -/
def endN (s : List Int) (rest : Int) : Nat → Nat
  | 0 => 0
  | n + 1 => if s.getD n 0 = rest then endN s rest n else n + 1
theorem endN_le (s : List Int) (rest : Int) : ∀ n, endN s rest n ≤ n
  | 0 => Nat.le_refl _
  | n + 1 => by
    simp only [endN]
    split
    · have := endN_le s rest n; omega
    · omega
theorem endN_rest (s : List Int) (rest : Int) : ∀ n i, endN s rest n ≤ i → i < n → s.getD i 0 = rest
  | 0, i, _, h => absurd h (Nat.not_lt_zero _)
  | n + 1, i, h, h2 => by
    simp only [endN] at h
    split at h
    · rename_i e
      by_cases hi : i = n
      · rw [hi]; exact e
      · exact endN_rest s rest n i h (by omega)
    · omega
theorem endN_last (s : List Int) (rest : Int) : ∀ n, 0 < endN s rest n → s.getD (endN s rest n - 1) 0 ≠ rest
  | 0, h => absurd h (Nat.lt_irrefl _)
  | n + 1, h => by
    simp only [endN] at h ⊢
    split
    · rename_i e
      rw [if_pos e] at h
      exact endN_last s rest n h
    · rename_i e
      exact e
/-- a list of machines, turn by turn, and a calendar's rows -/
structure Sm (s : List Int) (R : List P) (rest : Int) : Prop where
  len : s.length = 67
  last : s.getD 66 0 = rest
  kept : Kept rest R
  at_ : ∀ t : Nat, Cal.at_ R rest t = s.getD (min t 66) 0
theorem Sm.e66 {s : List Int} {R : List P} {rest : Int} (h : Sm s R rest) : endN s rest 67 = endN s rest 66 := by
  show (if s.getD 66 0 = rest then endN s rest 66 else 67) = _
  rw [if_pos h.last]
theorem Sm.rows {s : List Int} {R : List P} {rest : Int} (h : Sm s R rest) : R = grp 0 (s.take (endN s rest 67)) := by
  have he : endN s rest 67 ≤ 66 := by rw [h.e66]; exact endN_le _ _ _
  have hl := h.len
  refine kept_uniq _ _ h.kept ?_ fun t ht => ?_
  · generalize hz : s.take (endN s rest 67) = z
    cases z with
    | nil => trivial
    | cons x r =>
      refine kept_grp rest r x 0 (Int.le_refl _) fun e => ?_
      have h0 : 0 < endN s rest 67 := Nat.pos_of_ne_zero fun z => by rw [z] at hz; cases hz
      have hzl : (x :: r).length = endN s rest 67 := by rw [← hz, List.length_take]; omega
      rw [List.getLast?_eq_getElem?, ← hz, List.getElem?_take_of_lt (by rw [hz, hzl]; omega), hz, hzl] at e
      refine endN_last s rest 67 h0 ?_
      rw [List.getD_eq_getElem?_getD, e]; rfl
  · obtain ⟨n, rfl⟩ := Int.eq_ofNat_of_zero_le ht
    rw [at_grp0 _ _ _ ht, h.at_ n, Int.toNat_natCast]
    by_cases hn : n < endN s rest 67
    · rw [Nat.min_eq_left (by omega), List.getD_eq_getElem?_getD, List.getD_eq_getElem?_getD, List.getElem?_take_of_lt hn, List.getElem?_eq_getElem (by omega)]; rfl
    · rw [endN_rest s rest 67 (min n 66) (by omega) (by omega), List.getD_eq_getElem?_getD, List.getElem?_eq_none (by rw [List.length_take]; omega)]; rfl
theorem Sm.tot {s : List Int} {R : List P} {rest : Int} (h : Sm s R rest) : Cal.tot R = endN s rest 67 := by
  have he := endN_le s rest 67
  have hl := h.len
  rw [h.rows, tot_grp0, List.length_take]
  omega
theorem Sm.len_rows {s : List Int} {R : List P} {rest : Int} (h : Sm s R rest) : R.length ≤ 66 := by
  have he : endN s rest 67 ≤ 66 := by rw [h.e66]; exact endN_le _ _ _
  rw [h.rows]
  generalize hz : s.take (endN s rest 67) = z
  cases z with
  | nil => exact Nat.zero_le _
  | cons x r =>
    have := len_grp r x 0
    rw [← hz, List.length_take] at this
    rw [hz] at this
    omega
theorem Sm.mem {s : List Int} {R : List P} {rest : Int} (h : Sm s R rest) (p : P) (hp : p ∈ R) : p.2 ∈ s := by
  rw [h.rows] at hp
  generalize hz : s.take (endN s rest 67) = z at hp
  cases z with
  | nil => nomatch hp
  | cons x r =>
    have := mem_grp r x 0 p hp
    rw [← hz] at this
    exact List.mem_of_mem_take this
theorem Sm.rest_mem {s : List Int} {R : List P} {rest : Int} (h : Sm s R rest) : rest ∈ s := by
  have hl := h.len
  have e := h.last
  rw [List.getD_eq_getElem?_getD, List.getElem?_eq_getElem (by omega)] at e
  rw [← show s[66] = rest from e]
  exact List.getElem_mem _
theorem ahead_neg : ∀ (R : List P) (rest t : Int), Pos R → t ≤ 0 → ahead R rest t = 0
  | [], rest, t, _, h => by
    show max 0 t * rest = 0
    rw [show max 0 t = 0 by omega, Int.zero_mul]
  | p :: r, rest, t, hp, h => by
    have h1 := hp.head
    show min p.1 (max 0 t) * p.2 + ahead r rest (t - p.1) = 0
    rw [ahead_neg r rest (t - p.1) hp.tail (by omega), show min p.1 (max 0 t) = 0 by omega, Int.zero_mul]; rfl
theorem ahead_succ : ∀ (R : List P) (rest t : Int), Pos R → 0 ≤ t → ahead R rest (t + 1) = ahead R rest t + at_ R rest t
  | [], rest, t, _, h => by
    show max 0 (t + 1) * rest = max 0 t * rest + rest
    rw [show max 0 (t + 1) = t + 1 by omega, show max 0 t = t by omega, Int.add_mul, Int.one_mul]
  | p :: r, rest, t, hp, h => by
    have h1 := hp.head
    show min p.1 (max 0 (t + 1)) * p.2 + ahead r rest (t + 1 - p.1) = min p.1 (max 0 t) * p.2 + ahead r rest (t - p.1) + at_ (p :: r) rest t
    by_cases c : t < p.1
    · rw [at_lt c, ahead_neg r rest (t + 1 - p.1) hp.tail (by omega), ahead_neg r rest (t - p.1) hp.tail (by omega), show min p.1 (max 0 (t + 1)) = t + 1 by omega, show min p.1 (max 0 t) = t by omega, Int.add_mul, Int.one_mul]
      omega
    · rw [at_ge (by omega), show t + 1 - p.1 = t - p.1 + 1 by omega, ahead_succ r rest (t - p.1) hp.tail (by omega), show min p.1 (max 0 (t + 1)) = p.1 by omega, show min p.1 (max 0 t) = p.1 by omega]
      omega
theorem Sm.sum {s : List Int} {R : List P} {rest : Int} (h : Sm s R rest) : ∀ n : Nat, n ≤ 67 → (s.take n).sum = ahead R rest n
  | 0, _ => by
    exact (ahead_neg R rest ((0 : Nat) : Int) h.kept.pos (Int.le_refl _)).symm
  | n + 1, hn => by
    have hl := h.len
    rw [List.take_add_one, List.sum_append, Sm.sum h n (by omega), List.getElem?_eq_getElem (by omega), Int.natCast_add, show ((1 : Nat) : Int) = 1 from rfl, ahead_succ R rest n h.kept.pos (by omega), h.at_ n, Nat.min_eq_left (by omega), List.getD_eq_getElem?_getD, List.getElem?_eq_getElem (by omega)]
    simp
theorem sum_cut (s : List Int) (f n : Nat) : ((s.drop f).take n).sum = (s.take (f + n)).sum - (s.take f).sum := by
  have e : s.take (f + n) = s.take f ++ (s.drop f).take n := by rw [List.take_add]
  rw [e, List.sum_append]
  omega
theorem Sm.over {s : List Int} {R : List P} {rest : Int} (h : Sm s R rest) (f la : Nat) (h1 : f ≤ 67) (h2 : la < 67) : over R rest 0 f la = ((s.drop f).take (la + 1 - f)).sum := by
  rw [over_ahead _ _ _ _ _ h.kept.pos, Int.sub_zero, Int.sub_zero]
  by_cases c : (f : Int) ≤ la
  · rw [if_pos c, sum_cut, show f + (la + 1 - f) = la + 1 by omega, Sm.sum h _ (by omega), Sm.sum h _ h1]
    rfl
  · rw [if_neg c, show la + 1 - f = 0 by omega]; rfl
theorem sorted_ext : ∀ (a b : List Int), a.Pairwise (· < ·) → b.Pairwise (· < ·) → (∀ x, x ∈ a ↔ x ∈ b) → a = b
  | [], [], _, _, _ => rfl
  | [], y :: b, _, _, h => nomatch (h y).mpr List.mem_cons_self
  | x :: a, [], _, _, h => nomatch (h x).mp List.mem_cons_self
  | x :: a, y :: b, ha, hb, h => by
    rw [List.pairwise_cons] at ha hb
    have e : x = y := by
      rcases List.mem_cons.mp ((h x).mp List.mem_cons_self) with e | m
      · exact e
      · rcases List.mem_cons.mp ((h y).mpr List.mem_cons_self) with e | m'
        · exact e.symm
        · have := ha.1 y m'; have := hb.1 x m; omega
    subst e
    rw [sorted_ext a b ha.2 hb.2 fun z => ⟨fun hz => ?_, fun hz => ?_⟩]
    · rcases List.mem_cons.mp ((h z).mp (List.mem_cons_of_mem _ hz)) with e | m
      · have := ha.1 z hz; omega
      · exact m
    · rcases List.mem_cons.mp ((h z).mpr (List.mem_cons_of_mem _ hz)) with e | m
      · have := hb.1 z hz; omega
      · exact m
theorem stops_gt : ∀ (R : List P) (st x : Int), Pos R → x ∈ stops R st → st < x
  | [], st, x, _, h => nomatch h
  | p :: r, st, x, hp, h => by
    have h1 := hp.head
    rcases List.mem_cons.mp (show x ∈ (st + p.1) :: stops r (st + p.1) from h) with rfl | h
    · omega
    · have := stops_gt r _ x hp.tail h; omega
theorem stops_sorted : ∀ (R : List P) (st : Int), Pos R → (stops R st).Pairwise (· < ·)
  | [], _, _ => .nil
  | p :: r, st, hp => .cons (fun x hx => stops_gt r _ x hp.tail hx) (stops_sorted r _ hp.tail)
theorem mem_stops {rest : Int} : ∀ (R : List P) (st t : Int), Kept rest R → (t ∈ stops R st ↔ st < t ∧ at_ R rest (t - st) ≠ at_ R rest (t - st - 1))
  | [], st, t, _ => ⟨fun h => (nomatch h), fun h => absurd rfl h.2⟩
  | p :: r, st, t, hk => by
    have h1 := hk.1
    show t ∈ (st + p.1) :: stops r (st + p.1) ↔ _
    rw [List.mem_cons, mem_stops r (st + p.1) t hk.2.2]
    rcases Int.lt_trichotomy t (st + p.1) with c | c | c
    · constructor
      · rintro (e | e)
        · omega
        · omega
      · rintro ⟨e, n⟩
        rw [at_lt (by omega), at_lt (by omega)] at n
        exact absurd rfl n
    · subst c
      refine ⟨fun _ => ⟨by omega, ?_⟩, fun _ => .inl rfl⟩
      rw [at_ge (by omega), at_lt (p := p) (by omega), show st + p.1 - st - p.1 = 0 by omega]
      exact hk.2.1
    · rw [at_ge (t := t - st) (by omega), at_ge (t := t - st - 1) (by omega), show t - st - p.1 = t - (st + p.1) by omega, show t - st - 1 - p.1 = t - (st + p.1) - 1 by omega]
      constructor
      · rintro (e | e)
        · omega
        · exact ⟨by omega, e.2⟩
      · rintro ⟨e, n⟩
        exact .inr ⟨c, n⟩
/-- the turns of range(f + 1, la + 1) at which the list changes -/
def dues (s : List Int) (f : Int) (n : Nat) : List Int := ((List.range n).map fun j : Nat => f + 1 + (j : Int)).filter fun t => decide (s.getD t.toNat 0 ≠ s.getD (t - 1).toNat 0)
theorem Sm.changes {s : List Int} {R : List P} {rest : Int} (h : Sm s R rest) (f la : Int) (h1 : 0 ≤ f) (h2 : la < 67) : (stops R 0).filter (fun x => decide (f < x) && decide (x ≤ la)) = dues s f (la - f).toNat := by
  refine sorted_ext _ _ (List.Pairwise.filter _ (stops_sorted R 0 h.kept.pos)) (List.Pairwise.filter _ ?_) fun t => ?_
  · rw [List.pairwise_map]
    exact List.Pairwise.imp (fun h => by omega) List.pairwise_lt_range
  · unfold dues
    rw [List.mem_filter, List.mem_filter, mem_stops R 0 t h.kept, Int.sub_zero, List.mem_map]
    simp only [Bool.and_eq_true, decide_eq_true_eq, List.mem_range]
    constructor
    · rintro ⟨⟨a, b⟩, c, d⟩
      refine ⟨⟨(t - f - 1).toNat, by omega, by omega⟩, ?_⟩
      have e1 := h.at_ t.toNat
      have e2 := h.at_ (t - 1).toNat
      rw [Int.toNat_of_nonneg (by omega), Nat.min_eq_left (by omega)] at e1 e2
      rw [← e1, ← e2]
      exact b
    · rintro ⟨⟨j, hj, rfl⟩, n⟩
      have e1 := h.at_ (f + 1 + (j : Int)).toNat
      have e2 := h.at_ (f + 1 + (j : Int) - 1).toNat
      rw [Int.toNat_of_nonneg (by omega), Nat.min_eq_left (by omega)] at e1 e2
      rw [← e1, ← e2] at n
      exact ⟨⟨by omega, n⟩, by omega, by omega⟩
theorem Sm.wide {s : List Int} {R : List P} {rest : Int} (h : Sm s R rest) (m : Int) : Sm (s.map (· + m)) (kform (rest + m) (wide R m)) (rest + m) := by
  have hl := h.len
  have hg : ∀ i, i < 67 → (s.map (· + m)).getD i 0 = s.getD i 0 + m := fun i hi => by
    rw [List.getD_eq_getElem?_getD, List.getD_eq_getElem?_getD, List.getElem?_map, List.getElem?_eq_getElem (by omega)]; rfl
  refine ⟨by rw [List.length_map, hl], by rw [hg 66 (by omega), h.last], kform_kept _ _ (wide_pos h.kept.pos), fun t => ?_⟩
  rw [kform_at _ _ _ (wide_pos h.kept.pos), wide_at, h.at_ t, hg _ (by omega)]
theorem chgd_kept {R : List P} {rest f l by_ : Int} (h : Pos R) : Kept rest (chgd R rest f l by_) := by
  unfold chgd
  refine kform_kept _ _ ?_
  split
  · exact chr_pos _ _ _ _ _
  · exact h
theorem Sm.chgd {s : List Int} {R : List P} {rest : Int} (h : Sm s R rest) {s' : List Int} {f la by_ : Int} (h0 : 0 ≤ f) (h1 : la < 66) (hl : s'.length = 67) (hs : ∀ i : Nat, i < 67 → s'.getD i 0 = if f ≤ i ∧ (i : Int) ≤ la then max 0 (s.getD i 0 + by_) else s.getD i 0) : Sm s' (chgd R rest f la by_) rest := by
  refine ⟨hl, by rw [hs 66 (by omega), if_neg (by omega), h.last], chgd_kept h.kept.pos, fun t => ?_⟩
  rw [chgd_at h.kept.pos (by omega), h.at_ t, hs _ (by omega)]
  by_cases c : t ≤ 66
  · rw [Nat.min_eq_left c]
  · rw [Nat.min_eq_right (by omega), if_neg (by omega), if_neg (by omega)]
/-- each turn's machines, one by one -/
def expd (rows : List P) : List Int := rows.flatMap fun p => List.replicate p.1.toNat p.2
theorem at_exp : ∀ (rows : List P) (rest : Int) (t : Nat), Pos rows → at_ rows rest t = (expd rows).getD t rest
  | [], rest, t, _ => by rfl
  | p :: r, rest, t, hp => by
    have h1 := hp.head
    have e : expd (p :: r) = List.replicate p.1.toNat p.2 ++ expd r := by simp [expd]
    rw [e, List.getD_eq_getElem?_getD]
    by_cases c : (t : Int) < p.1
    · rw [at_lt c, List.getElem?_append_left (by rw [List.length_replicate]; omega), List.getElem?_replicate, if_pos (by omega)]; rfl
    · rw [at_ge (by omega), List.getElem?_append_right (by rw [List.length_replicate]; omega), List.length_replicate, show (t : Int) - p.1 = ((t - p.1.toNat : Nat) : Int) by omega, at_exp r rest _ hp.tail, List.getD_eq_getElem?_getD]
theorem len_exp : ∀ (rows : List P), Pos rows → ((expd rows).length : Int) = tot rows
  | [], _ => rfl
  | p :: r, hp => by
    have h1 := hp.head
    have e : expd (p :: r) = List.replicate p.1.toNat p.2 ++ expd r := by simp [expd]
    rw [e, List.length_append, List.length_replicate, Int.natCast_add, len_exp r hp.tail]
    show _ = p.1 + tot r
    omega
theorem Sm.begun {rows : List P} {rest : Int} (h : Pos rows) (ht : Cal.tot rows ≤ 66) : Sm ((expd rows ++ List.replicate 66 rest).take 66 ++ [rest]) (kform rest rows) rest := by
  have hl := len_exp rows h
  have lt : ((expd rows ++ List.replicate 66 rest).take 66).length = 66 := by rw [List.length_take, List.length_append, List.length_replicate]; omega
  refine ⟨by rw [List.length_append, lt]; rfl, ?_, kform_kept _ _ h, fun t => ?_⟩
  · rw [List.getD_eq_getElem?_getD, List.getElem?_append_right (by omega), lt]; rfl
  · rw [kform_at _ _ _ h, at_exp rows rest t h, List.getD_eq_getElem?_getD, List.getD_eq_getElem?_getD]
    by_cases c : t < 66
    · rw [Nat.min_eq_left (by omega), List.getElem?_append_left (by omega), List.getElem?_take_of_lt c]
      by_cases c2 : t < (expd rows).length
      · rw [List.getElem?_append_left c2, List.getElem?_eq_getElem c2]; rfl
      · rw [List.getElem?_append_right (by omega), List.getElem?_eq_none (by omega), List.getElem?_replicate, if_pos (by omega)]; rfl
    · rw [Nat.min_eq_right (by omega), List.getElem?_append_right (by omega), lt, List.getElem?_eq_none (by omega)]; rfl
theorem exp_snoc (rows : List P) (p : P) : expd (rows ++ [p]) = expd rows ++ List.replicate p.1.toNat p.2 := by
  unfold expd
  rw [List.flatMap_append]; simp
end Cal

set_option Elab.async false
set_option linter.all false
set_option maxRecDepth 100000
set_option maxHeartbeats 4000000
/-! ### the text by places -/
namespace My
open PySem L2
def top (i : Nat) : Stmt := PySem.Challenge.pw_dueyard_k04_whole_calendars_by_deeds.main.body.getD i (.Pass ⟨0, 0, 0, 0⟩)
abbrev s_is_whole : Stmt := top 4
theorem sc_is_whole : FnScope ["thing"] ["thing"] (defScope s_is_whole) := ⟨rfl, rfl, rfl, by decide +kernel, rfl, by decide +kernel, by decide +kernel⟩
abbrev s_is_whole_between : Stmt := top 5
theorem sc_is_whole_between : FnScope ["thing", "low", "high"] ["thing", "low", "high"] (defScope s_is_whole_between) := ⟨rfl, rfl, rfl, by decide +kernel, rfl, by decide +kernel, by decide +kernel⟩
abbrev s_common_count : Stmt := top 6
theorem sc_common_count : FnScope ["first", "last", "low", "high"] ["first", "last", "low", "high"] (defScope s_common_count) := ⟨rfl, rfl, rfl, by decide +kernel, rfl, by decide +kernel, by decide +kernel⟩
abbrev s_is_machines : Stmt := top 11
theorem sc_is_machines : FnScope ["thing"] ["thing"] (defScope s_is_machines) := ⟨rfl, rfl, rfl, by decide +kernel, rfl, by decide +kernel, by decide +kernel⟩
abbrev s_is_rest : Stmt := top 12
theorem sc_is_rest : FnScope ["thing"] ["thing"] (defScope s_is_rest) := ⟨rfl, rfl, rfl, by decide +kernel, rfl, by decide +kernel, by decide +kernel⟩
abbrev s_is_calendar_row : Stmt := top 13
theorem sc_is_calendar_row : FnScope ["thing"] ["thing"] (defScope s_is_calendar_row) := ⟨rfl, rfl, rfl, by decide +kernel, rfl, by decide +kernel, by decide +kernel⟩
abbrev s_are_calendar_rows : Stmt := top 14
theorem sc_are_calendar_rows : FnScope ["thing"] ["thing"] (defScope s_are_calendar_rows) := ⟨rfl, rfl, rfl, by decide +kernel, rfl, by decide +kernel, by decide +kernel⟩
abbrev s_neighbours_as_one : Stmt := top 15
theorem sc_neighbours_as_one : FnScope ["rows", "told", "many", "machines"] ["rows"] (defScope s_neighbours_as_one) := ⟨rfl, rfl, rfl, by decide +kernel, rfl, by decide +kernel, by decide +kernel⟩
abbrev s_kept_rows : Stmt := top 16
theorem sc_kept_rows : FnScope ["rows", "rest", "told"] ["rows", "rest"] (defScope s_kept_rows) := ⟨rfl, rfl, rfl, by decide +kernel, rfl, by decide +kernel, by decide +kernel⟩
abbrev s_clamped : Stmt := top 17
theorem sc_clamped : FnScope ["turn", "low", "high"] ["turn", "low", "high"] (defScope s_clamped) := ⟨rfl, rfl, rfl, by decide +kernel, rfl, by decide +kernel, by decide +kernel⟩
abbrev s_changed_rows : Stmt := top 18
theorem sc_changed_rows : FnScope ["rows", "first", "last", "by", "told", "start", "many", "machines", "stop", "enter", "leave", "changed", "pieces"] ["rows", "first", "last", "by"] (defScope s_changed_rows) := ⟨rfl, rfl, rfl, by decide +kernel, rfl, by decide +kernel, by decide +kernel⟩
abbrev s_calendar_beyond_bounds : Stmt := top 19
theorem sc_calendar_beyond_bounds : FnScope ["rows", "rest", "made"] ["rows", "rest"] (defScope s_calendar_beyond_bounds) := ⟨rfl, rfl, rfl, by decide +kernel, rfl, by decide +kernel, by decide +kernel⟩
abbrev s_changed_calendar : Stmt := top 20
theorem sc_changed_calendar : FnScope ["calendar", "first", "last", "by", "rows", "missing"] ["calendar", "first", "last", "by"] (defScope s_changed_calendar) := ⟨rfl, rfl, rfl, by decide +kernel, rfl, by decide +kernel, by decide +kernel⟩
abbrev s_law_cell_at : Stmt := top 23
theorem sc_law_cell_at : FnScope ["_law_script", "_law_k"] ["_law_script", "_law_k"] (defScope s_law_cell_at) := ⟨rfl, rfl, rfl, by decide +kernel, rfl, by decide +kernel, by decide +kernel⟩
abbrev s_law_whole : Stmt := top 24
theorem sc_law_whole : FnScope ["_law_found", "_law_due"] ["_law_found", "_law_due"] (defScope s_law_whole) := ⟨rfl, rfl, rfl, by decide +kernel, rfl, by decide +kernel, by decide +kernel⟩
abbrev s_law_pairs : Stmt := top 25
theorem sc_law_pairs : FnScope ["_law_found", "_law_due", "_law_one", "_law_other"] ["_law_found", "_law_due"] (defScope s_law_pairs) := ⟨rfl, rfl, rfl, by decide +kernel, rfl, by decide +kernel, by decide +kernel⟩
abbrev s_law_mixed : Stmt := top 26
theorem sc_law_mixed : FnScope ["_law_cell", "_law_k", "_law_number"] ["_law_cell", "_law_k"] (defScope s_law_mixed) := ⟨rfl, rfl, rfl, by decide +kernel, rfl, by decide +kernel, by decide +kernel⟩
abbrev s_law_begun : Stmt := top 27
theorem sc_law_begun : FnScope ["_law_script", "_law_rows_here", "_law_some", "_law_k", "_law_number", "_law_rest"] ["_law_script"] (defScope s_law_begun) := ⟨rfl, rfl, rfl, by decide +kernel, rfl, by decide +kernel, by decide +kernel⟩
abbrev s_law_rows : Stmt := top 28
theorem sc_law_rows : FnScope ["_law_some", "_law_rows_here", "_law_many", "_law_end", "_law_turn"] ["_law_some"] (defScope s_law_rows) := ⟨rfl, rfl, rfl, by decide +kernel, rfl, by decide +kernel, by decide +kernel⟩
abbrev s_law_sums : Stmt := top 29
theorem sc_law_sums : FnScope ["_law_calendar", "_law_some", "_law_number", "_law_first", "_law_last", "_law_due", "_law_spans"] ["_law_calendar", "_law_some", "_law_number"] (defScope s_law_sums) := ⟨rfl, rfl, rfl, by decide +kernel, rfl, by decide +kernel, by decide +kernel⟩
abbrev s_law_right : Stmt := top 30
theorem sc_law_right : FnScope ["_law_calendar", "_law_some", "_law_number", "_law_rows_here", "_law_end", "_law_turn"] ["_law_calendar", "_law_some", "_law_number"] (defScope s_law_right) := ⟨rfl, rfl, rfl, by decide +kernel, rfl, by decide +kernel, by decide +kernel⟩
abbrev s_law_told : Stmt := top 31
theorem sc_law_told : FnScope ["_law_calendar", "_law_some", "_law_number", "_law_first", "_law_last", "_law_many", "_law_way", "_law_found", "_law_turn"] ["_law_calendar", "_law_some", "_law_number"] (defScope s_law_told) := ⟨rfl, rfl, rfl, by decide +kernel, rfl, by decide +kernel, by decide +kernel⟩
abbrev s_law : Stmt := top 32
theorem sc_law : FnScope ["_law_script", "_law_known", "_law_k", "_law_number", "_law_calendar", "_law_some"] ["_law_script"] (defScope s_law) := ⟨rfl, rfl, rfl, by decide +kernel, rfl, by decide +kernel, by decide +kernel⟩
abbrev s_Calendar_init : Stmt := inClass (top 21) 0
theorem sc_Calendar_init : FnScope ["self", "rows", "rest"] ["self", "rows", "rest"] (defScope s_Calendar_init) := ⟨rfl, rfl, rfl, by decide +kernel, rfl, by decide +kernel, by decide +kernel⟩
abbrev s_Calendar_rows : Stmt := inClass (top 21) 1
theorem sc_Calendar_rows : FnScope ["self"] ["self"] (defScope s_Calendar_rows) := ⟨rfl, rfl, rfl, by decide +kernel, rfl, by decide +kernel, by decide +kernel⟩
abbrev s_Calendar_rest : Stmt := inClass (top 21) 2
theorem sc_Calendar_rest : FnScope ["self"] ["self"] (defScope s_Calendar_rest) := ⟨rfl, rfl, rfl, by decide +kernel, rfl, by decide +kernel, by decide +kernel⟩
abbrev s_Calendar_at : Stmt := inClass (top 21) 3
theorem sc_Calendar_at : FnScope ["self", "turn", "stop", "many", "machines"] ["self", "turn"] (defScope s_Calendar_at) := ⟨rfl, rfl, rfl, by decide +kernel, rfl, by decide +kernel, by decide +kernel⟩
abbrev s_Calendar_end : Stmt := inClass (top 21) 4
theorem sc_Calendar_end : FnScope ["self"] ["self"] (defScope s_Calendar_end) := ⟨rfl, rfl, rfl, by decide +kernel, rfl, by decide +kernel, by decide +kernel⟩
abbrev s_Calendar_over : Stmt := inClass (top 21) 5
theorem sc_Calendar_over : FnScope ["self", "first", "last", "total", "start", "many", "machines"] ["self", "first", "last"] (defScope s_Calendar_over) := ⟨rfl, rfl, rfl, by decide +kernel, rfl, by decide +kernel, by decide +kernel⟩
abbrev s_Calendar_over_spans : Stmt := inClass (top 21) 6
theorem sc_Calendar_over_spans : FnScope ["self", "spans"] ["self", "spans"] (defScope s_Calendar_over_spans) := ⟨rfl, rfl, rfl, by decide +kernel, rfl, by decide +kernel, by decide +kernel⟩
abbrev s_Calendar_changes : Stmt := inClass (top 21) 7
theorem sc_Calendar_changes : FnScope ["self", "first", "last", "told", "stop", "many", "machines"] ["self", "first", "last"] (defScope s_Calendar_changes) := ⟨rfl, rfl, rfl, by decide +kernel, rfl, by decide +kernel, by decide +kernel⟩
abbrev s_Calendar_fewer : Stmt := inClass (top 21) 8
theorem sc_Calendar_fewer : FnScope ["self", "first", "last", "many"] ["self", "first", "last", "many"] (defScope s_Calendar_fewer) := ⟨rfl, rfl, rfl, by decide +kernel, rfl, by decide +kernel, by decide +kernel⟩
abbrev s_Calendar_more : Stmt := inClass (top 21) 9
theorem sc_Calendar_more : FnScope ["self", "first", "last", "many"] ["self", "first", "last", "many"] (defScope s_Calendar_more) := ⟨rfl, rfl, rfl, by decide +kernel, rfl, by decide +kernel, by decide +kernel⟩
abbrev s_Calendar_widened : Stmt := inClass (top 21) 10
theorem sc_Calendar_widened : FnScope ["self", "many", "rows"] ["self", "many"] (defScope s_Calendar_widened) := ⟨rfl, rfl, rfl, by decide +kernel, rfl, by decide +kernel, by decide +kernel⟩

structure Txt (K : PySem.W.Frag) (mg : Str → Option Value) where
  f_is_whole : Addr
  fd_is_whole : FuncData
  d_is_whole : Dfn K mg "is_whole" s_is_whole ["thing"] f_is_whole fd_is_whole
  f_is_whole_between : Addr
  fd_is_whole_between : FuncData
  d_is_whole_between : Dfn K mg "is_whole_between" s_is_whole_between ["thing", "low", "high"] f_is_whole_between fd_is_whole_between
  f_common_count : Addr
  fd_common_count : FuncData
  d_common_count : Dfn K mg "common_count" s_common_count ["first", "last", "low", "high"] f_common_count fd_common_count
  f_is_machines : Addr
  fd_is_machines : FuncData
  d_is_machines : Dfn K mg "is_machines" s_is_machines ["thing"] f_is_machines fd_is_machines
  f_is_rest : Addr
  fd_is_rest : FuncData
  d_is_rest : Dfn K mg "is_rest" s_is_rest ["thing"] f_is_rest fd_is_rest
  f_is_calendar_row : Addr
  fd_is_calendar_row : FuncData
  d_is_calendar_row : Dfn K mg "is_calendar_row" s_is_calendar_row ["thing"] f_is_calendar_row fd_is_calendar_row
  f_are_calendar_rows : Addr
  fd_are_calendar_rows : FuncData
  d_are_calendar_rows : Dfn K mg "are_calendar_rows" s_are_calendar_rows ["thing"] f_are_calendar_rows fd_are_calendar_rows
  f_neighbours_as_one : Addr
  fd_neighbours_as_one : FuncData
  d_neighbours_as_one : Dfn K mg "neighbours_as_one" s_neighbours_as_one ["rows"] f_neighbours_as_one fd_neighbours_as_one
  f_kept_rows : Addr
  fd_kept_rows : FuncData
  d_kept_rows : Dfn K mg "kept_rows" s_kept_rows ["rows", "rest"] f_kept_rows fd_kept_rows
  f_clamped : Addr
  fd_clamped : FuncData
  d_clamped : Dfn K mg "clamped" s_clamped ["turn", "low", "high"] f_clamped fd_clamped
  f_changed_rows : Addr
  fd_changed_rows : FuncData
  d_changed_rows : Dfn K mg "changed_rows" s_changed_rows ["rows", "first", "last", "by"] f_changed_rows fd_changed_rows
  f_calendar_beyond_bounds : Addr
  fd_calendar_beyond_bounds : FuncData
  d_calendar_beyond_bounds : Dfn K mg "calendar_beyond_bounds" s_calendar_beyond_bounds ["rows", "rest"] f_calendar_beyond_bounds fd_calendar_beyond_bounds
  f_changed_calendar : Addr
  fd_changed_calendar : FuncData
  d_changed_calendar : Dfn K mg "changed_calendar" s_changed_calendar ["calendar", "first", "last", "by"] f_changed_calendar fd_changed_calendar
  f_law_cell_at : Addr
  fd_law_cell_at : FuncData
  d_law_cell_at : Dfn K mg "_law_cell_at" s_law_cell_at ["_law_script", "_law_k"] f_law_cell_at fd_law_cell_at
  f_law_whole : Addr
  fd_law_whole : FuncData
  d_law_whole : Dfn K mg "_law_whole" s_law_whole ["_law_found", "_law_due"] f_law_whole fd_law_whole
  f_law_pairs : Addr
  fd_law_pairs : FuncData
  d_law_pairs : Dfn K mg "_law_pairs" s_law_pairs ["_law_found", "_law_due"] f_law_pairs fd_law_pairs
  f_law_mixed : Addr
  fd_law_mixed : FuncData
  d_law_mixed : Dfn K mg "_law_mixed" s_law_mixed ["_law_cell", "_law_k"] f_law_mixed fd_law_mixed
  f_law_begun : Addr
  fd_law_begun : FuncData
  d_law_begun : Dfn K mg "_law_begun" s_law_begun ["_law_script"] f_law_begun fd_law_begun
  f_law_rows : Addr
  fd_law_rows : FuncData
  d_law_rows : Dfn K mg "_law_rows" s_law_rows ["_law_some"] f_law_rows fd_law_rows
  f_law_sums : Addr
  fd_law_sums : FuncData
  d_law_sums : Dfn K mg "_law_sums" s_law_sums ["_law_calendar", "_law_some", "_law_number"] f_law_sums fd_law_sums
  f_law_right : Addr
  fd_law_right : FuncData
  d_law_right : Dfn K mg "_law_right" s_law_right ["_law_calendar", "_law_some", "_law_number"] f_law_right fd_law_right
  f_law_told : Addr
  fd_law_told : FuncData
  d_law_told : Dfn K mg "_law_told" s_law_told ["_law_calendar", "_law_some", "_law_number"] f_law_told fd_law_told
  f_law : Addr
  fd_law : FuncData
  d_law : Dfn K mg "law" s_law ["_law_script"] f_law fd_law
  C_Calendar : Addr
  cl_Calendar : Cls K C_Calendar
  g_Calendar : mg "Calendar" = some (.ref C_Calendar)
  f_Calendar_init : Addr
  fd_Calendar_init : FuncData
  d_Calendar_init : DfnM K "__init__" "Calendar.__init__" s_Calendar_init ["self", "rows", "rest"] f_Calendar_init fd_Calendar_init
  m_Calendar_init : Meth K C_Calendar "__init__" f_Calendar_init
  f_Calendar_rows : Addr
  fd_Calendar_rows : FuncData
  d_Calendar_rows : DfnM K "rows" "Calendar.rows" s_Calendar_rows ["self"] f_Calendar_rows fd_Calendar_rows
  m_Calendar_rows : Meth K C_Calendar "rows" f_Calendar_rows
  f_Calendar_rest : Addr
  fd_Calendar_rest : FuncData
  d_Calendar_rest : DfnM K "rest" "Calendar.rest" s_Calendar_rest ["self"] f_Calendar_rest fd_Calendar_rest
  m_Calendar_rest : Meth K C_Calendar "rest" f_Calendar_rest
  f_Calendar_at : Addr
  fd_Calendar_at : FuncData
  d_Calendar_at : DfnM K "at" "Calendar.at" s_Calendar_at ["self", "turn"] f_Calendar_at fd_Calendar_at
  m_Calendar_at : Meth K C_Calendar "at" f_Calendar_at
  f_Calendar_end : Addr
  fd_Calendar_end : FuncData
  d_Calendar_end : DfnM K "end" "Calendar.end" s_Calendar_end ["self"] f_Calendar_end fd_Calendar_end
  m_Calendar_end : Meth K C_Calendar "end" f_Calendar_end
  f_Calendar_over : Addr
  fd_Calendar_over : FuncData
  d_Calendar_over : DfnM K "over" "Calendar.over" s_Calendar_over ["self", "first", "last"] f_Calendar_over fd_Calendar_over
  m_Calendar_over : Meth K C_Calendar "over" f_Calendar_over
  f_Calendar_over_spans : Addr
  fd_Calendar_over_spans : FuncData
  d_Calendar_over_spans : DfnM K "over_spans" "Calendar.over_spans" s_Calendar_over_spans ["self", "spans"] f_Calendar_over_spans fd_Calendar_over_spans
  m_Calendar_over_spans : Meth K C_Calendar "over_spans" f_Calendar_over_spans
  f_Calendar_changes : Addr
  fd_Calendar_changes : FuncData
  d_Calendar_changes : DfnM K "changes" "Calendar.changes" s_Calendar_changes ["self", "first", "last"] f_Calendar_changes fd_Calendar_changes
  m_Calendar_changes : Meth K C_Calendar "changes" f_Calendar_changes
  f_Calendar_fewer : Addr
  fd_Calendar_fewer : FuncData
  d_Calendar_fewer : DfnM K "fewer" "Calendar.fewer" s_Calendar_fewer ["self", "first", "last", "many"] f_Calendar_fewer fd_Calendar_fewer
  m_Calendar_fewer : Meth K C_Calendar "fewer" f_Calendar_fewer
  f_Calendar_more : Addr
  fd_Calendar_more : FuncData
  d_Calendar_more : DfnM K "more" "Calendar.more" s_Calendar_more ["self", "first", "last", "many"] f_Calendar_more fd_Calendar_more
  m_Calendar_more : Meth K C_Calendar "more" f_Calendar_more
  f_Calendar_widened : Addr
  fd_Calendar_widened : FuncData
  d_Calendar_widened : DfnM K "widened" "Calendar.widened" s_Calendar_widened ["self", "many"] f_Calendar_widened fd_Calendar_widened
  m_Calendar_widened : Meth K C_Calendar "widened" f_Calendar_widened
  M_Calendar : Mk K C_Calendar f_Calendar_init
  na_stretches : NoAttr K C_Calendar "stretches"
  na_beyond : NoAttr K C_Calendar "beyond"
  n_all : mg "all" = none
  n_bool : mg "bool" = none
  n_int : mg "int" = none
  n_isinstance : mg "isinstance" = none
  n_len : mg "len" = none
  n_list : mg "list" = none
  n_max : mg "max" = none
  n_min : mg "min" = none
  n_range : mg "range" = none
  n_sum : mg "sum" = none
  n_tuple : mg "tuple" = none
  n_zip : mg "zip" = none
  t_MOST_ROWS : Tok
  c_MOST_ROWS : mg "MOST_ROWS" = some (.int 16 t_MOST_ROWS)
  t_MOST_TURNS_OF_ROW : Tok
  c_MOST_TURNS_OF_ROW : mg "MOST_TURNS_OF_ROW" = some (.int 1000000 t_MOST_TURNS_OF_ROW)
  t_MOST_MACHINES : Tok
  c_MOST_MACHINES : mg "MOST_MACHINES" = some (.int 16 t_MOST_MACHINES)

/-! ### a calendar as an object -/
theorem sb : ¬ (("stretches" : Str) = "beyond") := by decide +kernel
def cf (l : Addr) (z : Int) : List (Str × V) := putF "beyond" (.int z) (putF "stretches" (.ref l) [])
theorem cf_eq (l : Addr) (z : Int) : cf l z = ([("stretches", V.ref l), ("beyond", V.int z)] : List (Str × V)) := by
  show (if ("stretches" : Str) = "beyond" then [(("stretches" : Str), V.int z)] else (("stretches" : Str), V.ref l) :: putF "beyond" (V.int z) []) = ([("stretches", V.ref l), ("beyond", V.int z)] : List (Str × V))
  rw [if_neg sb]
  all_goals rfl
theorem cf_s (l : Addr) (z : Int) : (cf l z).lookup ("stretches" : Str) = some (.ref l) := by
  unfold cf
  rw [lookup_putF, if_neg sb, lookup_putF, if_pos rfl]
theorem cf_b (l : Addr) (z : Int) : (cf l z).lookup ("beyond" : Str) = some (.int z) := by
  unfold cf
  rw [lookup_putF, if_pos rfl]
theorem cf_no (l : Addr) (z : Int) {m : Str} (h1 : ¬ m = "beyond") (h2 : ¬ m = "stretches") : (cf l z).lookup m = none := by
  unfold cf
  rw [lookup_putF, if_neg h1, lookup_putF, if_neg h2]
  all_goals rfl
theorem cf_putS (l l' : Addr) (z : Int) : putF "stretches" (.ref l') (cf l z) = cf l' z := by
  rw [cf_eq, cf_eq]
  show (if ("stretches" : Str) = "stretches" then [(("stretches" : Str), V.ref l'), (("beyond" : Str), V.int z)] else _) = ([("stretches", V.ref l'), ("beyond", V.int z)] : List (Str × V))
  rw [if_pos rfl]
theorem cf_putB (l : Addr) (z y : Int) : putF "beyond" (.int y) (cf l z) = cf l y := by
  rw [cf_eq, cf_eq]
  show (if ("stretches" : Str) = "beyond" then _ else (("stretches" : Str), V.ref l) :: (if ("beyond" : Str) = "beyond" then [(("beyond" : Str), V.int y)] else _)) = ([("stretches", V.ref l), ("beyond", V.int y)] : List (Str × V))
  rw [if_neg sb, if_pos rfl]
theorem cf_len (l : Addr) (z : Int) : (cf l z).length < 1000 := by rw [cf_eq]; show 2 < 1000; decide
structure CalAt (C : Addr) (H : Hp) (p : Addr) (rows : List (Int × Int)) (rest : Int) : Prop where
  ob : ∃ dx l vs, H p = some (.ins C dx (cf l rest)) ∧ H l = some (.lst vs) ∧ Rows H vs rows
theorem CalAt.mono {C : Addr} {H H' : Hp} {p : Addr} {rows : List (Int × Int)} {rest : Int} (h : CalAt C H p rows rest) (s : Same H H') : CalAt C H' p rows rest := by
  obtain ⟨dx, l, vs, h1, h2, h3⟩ := h.ob
  exact ⟨⟨dx, l, vs, s _ _ h1, s _ _ h2, h3.mono s⟩⟩
theorem Rows.stay {H : Hp} {D : Addr} {xs : List V} {rows : List (Int × Int)} {acc acc' : List V} (hD : H D = some (.lst acc)) (h : Rows H xs rows) : Rows (upd H D (.lst acc')) xs rows := Paired.imp' (fun x r z => by
  obtain ⟨t', e', q'⟩ := z
  refine ⟨t', e', ?_⟩
  rw [upd_ne (fun e => by rw [e, hD] at q'; cases q')]
  exact q') h
/-- a change of the instance at p leaves rows as they are -/
theorem Rows.stayI {H : Hp} {p : Addr} {xs : List V} {rows : List (Int × Int)} {C dx : Addr} {fs : List (Str × V)} {o : HO} (hp : H p = some (.ins C dx fs)) (h : Rows H xs rows) : Rows (upd H p o) xs rows := Paired.imp' (fun x r z => by
  obtain ⟨t', e', q'⟩ := z
  refine ⟨t', e', ?_⟩
  rw [upd_ne (fun e => by rw [e, hp] at q'; cases q')]
  exact q') h
theorem atI_lastE {α : Type} (xs : List α) (h : xs ≠ []) : atI xs (-1) = some (xs.getLast h) := by
  have e := List.dropLast_concat_getLast h
  have := atI_last xs.dropLast (xs.getLast h)
  rw [e] at this
  exact this
theorem ixN_last {n : Nat} (h : 0 < n) : ixN n (-1) = some (n - 1) := by
  unfold ixN
  rw [if_neg (by omega), if_pos (by omega)]
  congr 1
  omega
theorem set_last {α : Type} : ∀ (xs : List α) (v : α), xs ≠ [] → xs.set (xs.length - 1) v = xs.dropLast ++ [v]
  | [], _, h => absurd rfl h
  | [x], v, _ => rfl
  | x :: y :: r, v, _ => by
    have := set_last (y :: r) v (by simp)
    rw [List.length_cons] at this ⊢
    rw [show (y :: r).length + 1 - 1 = (y :: r).length - 1 + 1 by simp, List.set_cons_succ, List.dropLast_cons_of_ne_nil (by simp), List.cons_append]
    congr 1
theorem all_rep (n : Nat) : (List.replicate n true).all id = true := by
  rw [List.all_eq_true]
  intro x hx
  rw [List.eq_of_mem_replicate hx]; rfl
theorem map_rep (n : Nat) : (List.replicate n true).map V.bl = List.replicate n (V.bl true) := by rw [List.map_replicate]
theorem dv {n : Int} (k : Int) (hk : 0 < k := by decide) (hk2 : k < 1073741824 := by decide) : CDiv n k := ⟨hk, hk2⟩
section
variable {P : Program} {w : World} {K : PySem.W.Frag} {mg : Str → Option Value} {base : Heap}

def sp_is_whole : Sp := fun vs H Q _ => ∃ i : Int, vs = [.int i] ∧ Q (.bl true) H
theorem G_is_whole (T : Txt K mg) : FnOk P w K mg base CX0 1 T.f_is_whole T.fd_is_whole ["thing"] sp_is_whole := by
  refine T.d_is_whole.F.ok sc_is_whole (fun vs H Q E h => ?_) (fun cdv A outer s H vs Q E hr h => ?_)
  · obtain ⟨i, rfl, _⟩ := h; rfl
  · obtain ⟨i, rfl, k⟩ := h
    refine ⟨_, (pss_one (ps_ret (pe_and (pe_callB call_isinst (by rfl) T.n_isinstance PyProof.Rows.boot_isinstance (pa_cons (pv 0) (pa_cons (pe_bltn (v := .ty "int") (by rfl) T.n_int PyProof.Rows.boot_int rfl) pa_nil))) (pe_one (pe_not (pe_callB call_isinst (by rfl) T.n_isinstance PyProof.Rows.boot_isinstance (pa_cons (pv 0) (pa_cons (pe_bltn (v := .ty "bool") (by rfl) T.n_bool PyProof.Rows.boot_bool rfl) pa_nil)))))))), ?_⟩
    refine ⟨_, rfl, _, _, _, true, rfl, TyOf.int i, rfl, true, rfl, iteT ?_⟩
    refine ⟨_, rfl, _, _, _, false, rfl, TyOf.int i, rfl, false, rfl, ?_⟩
    exact k
def sp_is_whole_between : Sp := fun vs H Q _ => ∃ i a b : Int, vs = [.int i, .int a, .int b] ∧ Q (.bl (decide (a ≤ i) && decide (i ≤ b))) H
theorem G_is_whole_between (T : Txt K mg) : FnOk P w K mg base CX0 2 T.f_is_whole_between T.fd_is_whole_between ["thing", "low", "high"] sp_is_whole_between := by
  refine T.d_is_whole_between.F.ok sc_is_whole_between (fun vs H Q E h => ?_) (fun cdv A outer s H vs Q E hr h => ?_)
  · obtain ⟨i, a, b, rfl, _⟩ := h; rfl
  · obtain ⟨i, a, b, rfl, k⟩ := h
    refine ⟨_, (pss_one (ps_ret (pe_and (pe_call (G_is_whole T) (hr.mono (by decide)) (by rfl) T.d_is_whole.g T.d_is_whole.F.kp T.d_is_whole.b .nil pass0 (pa_cons (pv 0) pa_nil)) (pe_one (pe_chain op_le op_le (pv 1) (pv 0) (pv 2)))))), ?_⟩
    refine ⟨_, rfl, i, rfl, true, rfl, iteT ?_⟩
    refine ⟨_, rfl, _, rfl, _, _, rfl, rfl, _, rfl, ?_⟩
    refine ite2 (fun c => ?_) (fun c => ?_)
    · refine ⟨_, rfl, _, _, rfl, rfl, ?_⟩
      rw [c, Bool.true_and] at k
      exact k
    · rw [Bool.not_eq_true] at c
      rw [c, Bool.false_and] at k
      exact k
theorem max_if (i j : Int) : (if j > i then j else i) = max i j := by
  by_cases c : j > i
  · rw [if_pos c]; omega
  · rw [if_neg c]; omega
theorem min_if (i j : Int) : (if j < i then j else i) = min i j := by
  by_cases c : j < i
  · rw [if_pos c]; omega
  · rw [if_neg c]; omega
def sp_common_count : Sp := fun vs H Q _ => ∃ a b lo hi : Int, vs = [.int a, .int b, .int lo, .int hi] ∧ Q (.int (Cal.cc a b lo hi)) H
theorem G_common_count (T : Txt K mg) : FnOk P w K mg base CX0 1 T.f_common_count T.fd_common_count ["first", "last", "low", "high"] sp_common_count := by
  refine T.d_common_count.F.ok sc_common_count (fun vs H Q E h => ?_) (fun cdv A outer s H vs Q E hr h => ?_)
  · obtain ⟨a, b, lo, hi, rfl, _⟩ := h; rfl
  · obtain ⟨a, b, lo, hi, rfl, k⟩ := h
    refine ⟨_, (pss_one (ps_ret (pe_callB (call_max2 rfl) (by rfl) T.n_max PyProof.Rows.boot_max (pa_cons pe_int (pa_cons (pe_op op_add (pe_op op_sub (pe_callB (call_min2 rfl) (by rfl) T.n_min PyProof.Rows.boot_min (pa_cons (pv 1) (pa_cons (pv 3) pa_nil))) (pe_callB (call_max2 rfl) (by rfl) T.n_max PyProof.Rows.boot_max (pa_cons (pv 0) (pa_cons (pv 2) pa_nil)))) pe_int) pa_nil))))), ?_⟩
    refine ⟨_, rfl, _, rfl, _, _, rfl, _, rfl, _, rfl, _, _, rfl, _, _, rfl, rfl, _, _, rfl, rfl, _, _, rfl, ?_⟩
    rw [max_if, max_if, min_if]
    exact k
def machB (i : Int) : Bool := decide (0 ≤ i) && decide (i ≤ 16)
def restB (i : Int) : Bool := decide (1 ≤ i) && decide (i ≤ 16)
def sp_is_machines : Sp := fun vs H Q _ => ∃ i : Int, vs = [.int i] ∧ Q (.bl (machB i)) H
theorem G_is_machines (T : Txt K mg) : FnOk P w K mg base CX0 3 T.f_is_machines T.fd_is_machines ["thing"] sp_is_machines := by
  refine T.d_is_machines.F.ok sc_is_machines (fun vs H Q E h => ?_) (fun cdv A outer s H vs Q E hr h => ?_)
  · obtain ⟨i, rfl, _⟩ := h; rfl
  · obtain ⟨i, rfl, k⟩ := h
    refine ⟨_, (pss_one (ps_ret (pe_call (G_is_whole_between T) (hr.mono (by decide)) (by rfl) T.d_is_whole_between.g T.d_is_whole_between.F.kp T.d_is_whole_between.b .nil pass0 (pa_cons (pv 0) (pa_cons pe_int (pa_cons (pe_glob (v := .int 16) (by rfl) T.c_MOST_MACHINES ⟨_, rfl⟩) pa_nil)))))), ?_⟩
    exact ⟨_, rfl, _, _, _, rfl, k⟩
def sp_is_rest : Sp := fun vs H Q _ => ∃ i : Int, vs = [.int i] ∧ Q (.bl (restB i)) H
theorem G_is_rest (T : Txt K mg) : FnOk P w K mg base CX0 3 T.f_is_rest T.fd_is_rest ["thing"] sp_is_rest := by
  refine T.d_is_rest.F.ok sc_is_rest (fun vs H Q E h => ?_) (fun cdv A outer s H vs Q E hr h => ?_)
  · obtain ⟨i, rfl, _⟩ := h; rfl
  · obtain ⟨i, rfl, k⟩ := h
    refine ⟨_, (pss_one (ps_ret (pe_call (G_is_whole_between T) (hr.mono (by decide)) (by rfl) T.d_is_whole_between.g T.d_is_whole_between.F.kp T.d_is_whole_between.b .nil pass0 (pa_cons (pv 0) (pa_cons pe_int (pa_cons (pe_glob (v := .int 16) (by rfl) T.c_MOST_MACHINES ⟨_, rfl⟩) pa_nil)))))), ?_⟩
    exact ⟨_, rfl, _, _, _, rfl, k⟩
def crowB (p : Int × Int) : Bool := (decide (1 ≤ p.1) && decide (p.1 ≤ 1000000)) && machB p.2
def sp_is_calendar_row : Sp := fun vs H Q _ => ∃ (t : Addr) (p : Int × Int), vs = [.ref t] ∧ H t = some (.tup [.int p.1, .int p.2]) ∧ Q (.bl (crowB p)) H
theorem G_is_calendar_row (T : Txt K mg) : FnOk P w K mg base CX0 4 T.f_is_calendar_row T.fd_is_calendar_row ["thing"] sp_is_calendar_row := by
  refine T.d_is_calendar_row.F.ok sc_is_calendar_row (fun vs H Q E h => ?_) (fun cdv A outer s H vs Q E hr h => ?_)
  · obtain ⟨i, p, rfl, _⟩ := h; rfl
  · obtain ⟨t, p, rfl, ht, k⟩ := h
    refine ⟨_, (pss_cons (ps_if (PW.pt (pw_or (pt_not (pt_val (pe_callB call_isinst (by rfl) T.n_isinstance PyProof.Rows.boot_isinstance (pa_cons (pv 0) (pa_cons (pe_bltn (v := .ty "tuple") (by rfl) T.n_tuple PyProof.Rows.boot_tuple rfl) pa_nil))))) (pw_or1 (pt_cmpR op_ne (pe_callB call_len_seq (by rfl) T.n_len PySem.boot_len (pa_cons (pv 0) pa_nil)) pe_int (nomark _))))) (pss_one (ps_ret pe_bl)) pss_nil) (pss_one (ps_ret (pe_and (pe_call (G_is_whole_between T) (hr.mono (by decide)) (by rfl) T.d_is_whole_between.g T.d_is_whole_between.F.kp T.d_is_whole_between.b .nil pass0 (pa_cons (pe_ix ix_tup (pv 0) pe_int (fun _ _ => rfl)) (pa_cons pe_int (pa_cons (pe_glob (v := .int 1000000) (by rfl) T.c_MOST_TURNS_OF_ROW ⟨_, rfl⟩) pa_nil)))) (pe_one (pe_call (G_is_machines T) (hr.mono (by decide)) (by rfl) T.d_is_machines.g T.d_is_machines.F.kp T.d_is_machines.b .nil pass0 (pa_cons (pe_ix ix_tup (pv 0) pe_int (fun _ _ => rfl)) pa_nil))))))), ?_⟩
    refine ⟨_, rfl, _, _, _, true, rfl, TyOf.tup ht, rfl, true, rfl, iteF ?_⟩
    refine ⟨_, rfl, t, _, rfl, .inr (SqT.of ht), rfl, _, rfl, iteF ?_⟩
    refine ⟨_, rfl, t, _, _, _, rfl, rfl, SqT.of ht, rfl, p.1, 1, 1000000, rfl, _, rfl, ?_⟩
    refine ite2 (fun c => ?_) (fun c => ?_)
    · refine ⟨_, rfl, t, _, _, _, rfl, rfl, SqT.of ht, rfl, p.2, rfl, ?_⟩
      unfold crowB at k
      rw [c, Bool.true_and] at k
      exact k
    · rw [Bool.not_eq_true] at c
      unfold crowB at k
      rw [c, Bool.false_and] at k
      exact k
def okCal (rows : List (Int × Int)) : Prop := ∀ p ∈ rows, 1 ≤ p.1 ∧ p.1 ≤ 1000000 ∧ 0 ≤ p.2 ∧ p.2 ≤ 16
theorem okCal.row {rows : List (Int × Int)} (h : okCal rows) {p : Int × Int} (hp : p ∈ rows) : crowB p = true := by
  obtain ⟨h1, h2, h3, h4⟩ := h p hp
  unfold crowB machB
  simp only [Bool.and_eq_true, decide_eq_true_eq]
  omega
theorem okCal.pos {rows : List (Int × Int)} (h : okCal rows) : Cal.Pos rows := fun p hp => (h p hp).1
def sp_are_calendar_rows : Sp := fun vs H Q _ => ∃ (a : Addr) (xs : List V) (rows : List (Int × Int)), vs = [.ref a] ∧ H a = some (.lst xs) ∧ Rows H xs rows ∧ rows.length ≤ 16 ∧ okCal rows ∧ ∀ H', Same H H' → Q (.bl true) H'
theorem G_are_calendar_rows (T : Txt K mg) : FnOk P w K mg base CX0 5 T.f_are_calendar_rows T.fd_are_calendar_rows ["thing"] sp_are_calendar_rows := by
  refine T.d_are_calendar_rows.F.ok sc_are_calendar_rows (fun vs H Q E h => ?_) (fun cdv A outer s H vs Q E hr h => ?_)
  · obtain ⟨a, xs, rows, rfl, _⟩ := h; rfl
  · obtain ⟨a, xs, rows, rfl, ha, hR, h16, hok, k⟩ := h
    have hxl := hR.len
    refine ⟨_, (pss_cons (ps_if (PW.pt (pw_or (pt_not (pt_val (pe_callB call_isinst (by rfl) T.n_isinstance PyProof.Rows.boot_isinstance (pa_cons (pv 0) (pa_cons (pe_bltn (v := .ty "list") (by rfl) T.n_list PyProof.Rows.boot_list rfl) pa_nil))))) (pw_or1 (pt_cmpR op_gt (pe_callB call_len_seq (by rfl) T.n_len PySem.boot_len (pa_cons (pv 0) pa_nil)) (pe_glob (v := .int 16) (by rfl) T.c_MOST_ROWS ⟨_, rfl⟩) (nomark _))))) (pss_one (ps_ret pe_bl)) pss_nil) (pss_one (ps_ret (pe_callB (call_all rfl) (by rfl) T.n_all PyProof.Rows.boot_all (pa_cons (pe_comp (loc := ["row"]) (free := []) (fr := []) rfl (compScope_of (sc := defScope s_are_calendar_rows) (N := (["thing"] : List Str)) rfl rfl (by decide +kernel)) (pi_list (pv 0)) (fun _ _ _ _ _ => (pgc 0 (["row"] : List Str) (by decide +kernel) rfl rfl (Or.inl rfl) rfl)) (fun _ _ _ _ _ => pts_nil) (fun _ _ _ _ _ => (pe_call (G_is_calendar_row T) (hr.mono (by decide)) (by rfl) T.d_is_calendar_row.g T.d_is_calendar_row.F.kp T.d_is_calendar_row.b .nil pass0 (pa_cons (pv 0) pa_nil)))) pa_nil))))), ?_⟩
    refine ⟨_, rfl, _, _, _, true, rfl, TyOf.lst ha, rfl, true, rfl, iteF ?_⟩
    refine ⟨_, rfl, a, xs, rfl, .inl (SqL.of ha), _, _, rfl, rfl, false, ?_, iteF ?_⟩
    · show V.bl (decide ((16 : Int) < (xs.length : Int))) = V.bl false
      rw [decide_eq_false (by omega)]
    refine ⟨_, rfl, a, rfl, ⟨xs, SqL.of ha⟩, fun D hD => ?_⟩
    refine comp_list (K := K) (a := a) (xs := xs) (fun i acc σ H2 => acc = List.replicate i (V.bl true) ∧ H2 D = some (.lst acc) ∧ Same H H2 ∧ ∃ v, σ = [v])
      (by exact ⟨rfl, upd_same, same_upd hD, _, rfl⟩) (fun i acc σ H2 h => h.2.1) (fun i acc σ H2 _ h => SqL.of (h.2.2.1 _ _ ha)) ?_ ?_
    · rintro i x acc σ H2 hi ⟨rfl, hD2, s2, v, rfl⟩
      obtain ⟨p, t, ep, rfl, ht⟩ := hR.get hi
      have hil : i < xs.length := (List.getElem?_eq_some_iff.mp hi).1
      refine ⟨_, rfl, t, p, rfl, s2 _ _ ht, ?_⟩
      rw [hok.row (List.mem_of_getElem? ep)]
      refine ⟨hD2, by rw [List.length_replicate]; exact small1000 (by omega), ?_, upd_same, same_set s2 hD, _, rfl⟩
      rw [← List.replicate_succ']
    · rintro acc σ H2 ⟨rfl, hD2, s2, v, rfl⟩
      refine ⟨D, List.replicate xs.length true, rfl, SqL.of (by rw [map_rep]; exact hD2), ?_⟩
      rw [all_rep]
      exact k H2 s2
/-- a new list of the rows R -/
def NewRows (H : Hp) (Q : VK) (R : List (Int × Int)) : Prop := ∀ (l : Addr) (ys : List V) (H' : Hp), H l = none → Same H H' → H' l = some (.lst ys) → Rows H' ys R → Q (.ref l) H'
def sp_nao (K : PySem.W.Frag) : Sp := fun vs H Q _ => ∃ (a : Addr) (xs : List V) (rows : List (Int × Int)), vs = [.ref a] ∧ SqL K H a xs ∧ Rows H xs rows ∧ rows.length ≤ 900 ∧ NewRows H Q (rows.foldl Cal.nstep [])
theorem G_neighbours_as_one (T : Txt K mg) : FnOk P w K mg base CX0 1 T.f_neighbours_as_one T.fd_neighbours_as_one ["rows"] (sp_nao K) := by
  refine T.d_neighbours_as_one.F.ok sc_neighbours_as_one (fun vs H Q E h => ?_) (fun cdv A outer s H vs Q E hr h => ?_)
  · obtain ⟨a, xs, rows, rfl, _⟩ := h; rfl
  · obtain ⟨a, xs, rows, rfl, hS, hR, h9, k⟩ := h
    have hxl := hR.len
    refine ⟨_, (pss_cons (ps_set (i := 1) sc_neighbours_as_one.nd rfl (Or.inl rfl) (pe_lst pa_nil)) (pss_cons (ps_for PassesOwn.never rfl (pi_list (pv 0)) (pg_tup rfl (pgs_cons (pg_name (i := 2) sc_neighbours_as_one.nd rfl (Or.inl rfl)) (pgs_cons (pg_name (i := 3) sc_neighbours_as_one.nd rfl (Or.inl rfl)) pgs_nil))) (pss_one (ps_if (PW.pt (pw_and (pt_truth (pv 1) (fun _ => rfl)) (pw_and1 (pt_cmpR op_eq (pe_ix ix_tup (pe_ix ix_list (pv 1) (pe_un un_neg pe_int) (fun _ _ => rfl)) pe_int (fun _ _ => rfl)) (pv 3) (nomark _))))) (pss_one (ps_asg (pe_tup (pa_cons (pe_op op_add (pe_ix ix_tup (pe_ix ix_list (pv 1) (pe_un un_neg pe_int) (fun _ _ => rfl)) pe_int (fun _ _ => rfl)) (pv 2)) (pa_cons (pv 3) pa_nil))) (pg_sub (pv 1) (pe_un un_neg pe_int) set_list))) (pss_one (ps_expr (pe_bm PySem.F.plainAttrs_list PySem.F.slot_list_append PySem.F.type_list_append mt_append (pv 1) (pa_cons (pe_tup (pa_cons (pv 2) (pa_cons (pv 3) pa_nil))) pa_nil))))))) (pss_one (ps_ret (pv 1))))), ?_⟩
    refine ⟨by show 0 ≤ sizeLine; decide, fun l hl => ?_⟩
    have s1 : Same H (upd H l (.lst [])) := same_upd hl
    refine ⟨_, rfl, a, rfl, ⟨_, s1.seq hS⟩, for_list (K := K) (a := a) (xs := xs) (fun i σ H2 => ∃ (zs : List V) (v1 v2 : Option V), σ = [some (.ref a), some (.ref l), v1, v2] ∧ Same H H2 ∧ H2 l = some (.lst zs) ∧ Rows H2 zs ((rows.take i).foldl Cal.nstep []) ∧ zs.length ≤ i)
      (by exact ⟨[], none, none, rfl, s1, upd_same, Rows.nil, Nat.le_refl _⟩) (fun i σ H2 _ ⟨_, _, _, _, s2, _⟩ => s2.seq hS) ?_ ?_⟩
    · rintro i y σ H2 hi ⟨zs, v1, v2, rfl, s3, hl2, hz, hzl⟩
      obtain ⟨p, t, ep, rfl, ht0⟩ := hR.get hi
      have ht := s3 _ _ ht0
      have hil : i < xs.length := (List.getElem?_eq_some_iff.mp hi).1
      have tk : (rows.take (i + 1)).foldl Cal.nstep [] = Cal.nstep ((rows.take i).foldl Cal.nstep []) p := by
        rw [List.take_add_one, ep]
        simp
      refine ⟨t, _, rfl, SqT.of ht, rfl, _, _, rfl, _, _, rfl, rfl, ?_⟩
      refine ⟨_, rfl, _, .inl ⟨zs, SqL.of hl2, rfl⟩, ?_⟩
      have app : ((rows.take i).foldl Cal.nstep [] = [] ∨ ∃ l', ((rows.take i).foldl Cal.nstep []).getLast? = some l' ∧ ¬ l'.2 = p.2) → ∀ u H3, H2 u = none → H3 = upd (upd H2 u (.tup [.int p.1, .int p.2])) l (.lst (zs ++ [.ref u])) →
          ∃ (zs : List V) (v1 v2 : Option V), ([some (.ref a), some (.ref l), some (V.int p.1), some (V.int p.2)] : St) = [some (.ref a), some (.ref l), v1, v2] ∧ Same H H3 ∧ H3 l = some (.lst zs) ∧ Rows H3 zs ((rows.take (i + 1)).foldl Cal.nstep []) ∧ zs.length ≤ i + 1 := by
        rintro hc u H3 hu rfl
        have hA : (upd H2 u (.tup [.int p.1, .int p.2])) l = some (.lst zs) := by rw [upd_ne (ne_of_none hl2 hu)]; exact hl2
        refine ⟨zs ++ [.ref u], _, _, rfl, fun b o e => ?_, upd_same, ?_, by rw [List.length_append, List.length_singleton]; omega⟩
        · rw [upd_ne (ne_of_none e hl), upd_ne (ne_of_none (s3 b o e) hu)]; exact s3 b o e
        · have e : (rows.take (i + 1)).foldl Cal.nstep [] = (rows.take i).foldl Cal.nstep [] ++ [p] := by
            rw [tk]
            rcases hc with h0 | ⟨l', h1, h2⟩
            · rw [Cal.nstep_empty h0]
            · rw [Cal.nstep_last h1, if_neg h2]
          rw [e]
          exact Rows.stay hA ((hz.mono (same_upd hu)).snoc (p := p) upd_same)
      by_cases hz0 : zs = []
      · subst hz0
        refine iteF ?_
        refine iteF ?_
        refine ⟨_, rfl, .inl ⟨rfl, _, SqL.of hl2⟩, _, rfl, _, rfl, by show 2 ≤ sizeLine; decide, fun u hu => ?_⟩
        refine ⟨l, _, _, rfl, rfl, by rw [upd_ne (ne_of_none hl2 hu)]; exact hl2, by show 0 < sizeLine; decide, ?_⟩
        have hm : (rows.take i).foldl Cal.nstep [] = [] := List.length_eq_zero_iff.mp hz.len.symm
        exact app (.inl hm) u _ hu rfl
      · have hb : (!zs.isEmpty) = true := by cases zs with | nil => exact absurd rfl hz0 | cons _ _ => rfl
        rw [hb]
        refine iteT ?_
        obtain ⟨p', t', ep', et', ht'⟩ := hz.get (i := zs.length - 1) (x := zs.getLast hz0) (by rw [List.getLast_eq_getElem, List.getElem?_eq_getElem])
        have hlen := hz.len
        have hgl : ((rows.take i).foldl Cal.nstep []).getLast? = some p' := by
          rw [List.getLast?_eq_getElem?, ← hlen]; exact ep'
        have hla : atI zs (-1) = some (.ref t') := by rw [atI_lastE zs hz0, et']
        refine ⟨_, rfl, 1, rfl, l, zs, -1, _, rfl, rfl, SqL.of hl2, hla, t', _, _, _, rfl, rfl, SqT.of ht', rfl, _, rfl, rfl, _, rfl, ?_⟩
        refine ite2 (fun c => ?_) (fun c => ?_)
        · have c' : p'.2 = p.2 := by
            have := of_decide_eq_true c
            injection this
          refine ⟨_, rfl, 1, rfl, l, zs, -1, _, rfl, rfl, SqL.of hl2, hla, t', _, _, _, rfl, rfl, SqT.of ht', rfl, _, rfl, _, _, rfl, rfl, _, rfl, by show 2 ≤ sizeLine; decide, fun u hu => ?_⟩
          have hul : u ≠ l := fun e => by rw [e, hl2] at hu; cases hu
          refine ⟨_, rfl, 1, rfl, l, zs, -1, zs.length - 1, rfl, rfl, by rw [upd_ne hul.symm]; exact hl2, ixN_last (by have := List.length_pos_iff.mpr hz0; omega), ?_⟩
          rw [set_last zs _ hz0]
          have hA : (upd H2 u (.tup [.int (p'.1 + p.1), .int p.2])) l = some (.lst zs) := by rw [upd_ne hul.symm]; exact hl2
          refine ⟨zs.dropLast ++ [.ref u], _, _, rfl, fun b o e => ?_, upd_same, ?_, by rw [List.length_append, List.length_singleton, List.length_dropLast]; have := List.length_pos_iff.mpr hz0; omega⟩
          · rw [upd_ne (ne_of_none e hl), upd_ne (ne_of_none (s3 b o e) hu)]; exact s3 b o e
          · have e : (rows.take (i + 1)).foldl Cal.nstep [] = ((rows.take i).foldl Cal.nstep []).dropLast ++ [(p'.1 + p.1, p.2)] := by
              rw [tk, Cal.nstep_last hgl, if_pos c']
            rw [e]
            exact Rows.stay hA (((hz.mono (same_upd hu)).dropLast).snoc (p := (p'.1 + p.1, p.2)) upd_same)
        · have c' : ¬ p'.2 = p.2 := fun z => c (decide_eq_true (by rw [z]))
          refine ⟨_, rfl, .inl ⟨rfl, _, SqL.of hl2⟩, _, rfl, _, rfl, by show 2 ≤ sizeLine; decide, fun u hu => ?_⟩
          refine ⟨l, _, _, rfl, rfl, by rw [upd_ne (ne_of_none hl2 hu)]; exact hl2, small1000 (by omega), ?_⟩
          exact app (.inr ⟨p', hgl, c'⟩) u _ hu rfl
    · rintro σ H2 ⟨zs, v1, v2, rfl, s3, hl2, hz, hzl⟩
      refine ⟨_, rfl, ?_⟩
      rw [hxl, List.take_length] at hz
      exact k l zs H2 hl s3 hl2 hz
def sp_kept_rows (K : PySem.W.Frag) : Sp := fun vs H Q _ => ∃ (a : Addr) (xs : List V) (rows : List (Int × Int)) (rest : Int), vs = [.ref a, .int rest] ∧ SqL K H a xs ∧ Rows H xs rows ∧ rows.length ≤ 900 ∧ NewRows H Q (Cal.kform rest rows)
theorem G_kept_rows (T : Txt K mg) : FnOk P w K mg base CX0 2 T.f_kept_rows T.fd_kept_rows ["rows", "rest"] (sp_kept_rows K) := by
  refine T.d_kept_rows.F.ok sc_kept_rows (fun vs H Q E h => ?_) (fun cdv A outer s H vs Q E hr h => ?_)
  · obtain ⟨a, xs, rows, rest, rfl, _⟩ := h; rfl
  · obtain ⟨a, xs, rows, rest, rfl, hS, hR, h9, k⟩ := h
    rw [← Cal.kept_eq] at k
    refine ⟨_, (pss_cons (ps_set (i := 2) sc_kept_rows.nd rfl (Or.inl rfl) (pe_call (G_neighbours_as_one T) (hr.mono (by decide)) (by rfl) T.d_neighbours_as_one.g T.d_neighbours_as_one.F.kp T.d_neighbours_as_one.b .nil pass0 (pa_cons (pv 0) pa_nil))) (pss_cons (ps_if (PW.pt (pw_and (pt_truth (pv 2) (fun _ => rfl)) (pw_and1 (pt_cmpR op_eq (pe_ix ix_tup (pe_ix ix_list (pv 2) (pe_un un_neg pe_int) (fun _ _ => rfl)) pe_int (fun _ _ => rfl)) (pv 1) (nomark _))))) (pss_one (ps_expr (pe_bm0 PySem.F.plainAttrs_list PySem.F.slot_list_pop PySem.F.type_list_pop mt_pop (pv 2)))) pss_nil) (pss_one (ps_ret (pv 2))))), ?_⟩
    refine ⟨_, rfl, a, xs, rows, rfl, hS, hR, h9, fun l ys H1 hl s1 hl1 hy => ?_⟩
    generalize rows.foldl Cal.nstep [] = t at hy k
    refine ⟨_, rfl, _, .inl ⟨ys, SqL.of hl1, rfl⟩, ?_⟩
    by_cases hy0 : ys = []
    · subst hy0
      refine iteF ?_
      refine iteF ?_
      refine ⟨_, rfl, ?_⟩
      have ht : t = [] := List.length_eq_zero_iff.mp hy.len.symm
      rw [Cal.drp_empty ht] at k
      exact k l [] H1 hl s1 hl1 hy
    · have hb : (!ys.isEmpty) = true := by cases ys with | nil => exact absurd rfl hy0 | cons _ _ => rfl
      rw [hb]
      refine iteT ?_
      obtain ⟨p', t', ep', et', ht'⟩ := hy.get (i := ys.length - 1) (x := ys.getLast hy0) (by rw [List.getLast_eq_getElem, List.getElem?_eq_getElem])
      have hlen := hy.len
      have hgl : t.getLast? = some p' := by
        rw [List.getLast?_eq_getElem?, ← hlen]; exact ep'
      have hla : atI ys (-1) = some (.ref t') := by rw [atI_lastE ys hy0, et']
      rw [Cal.drp_last hgl] at k
      refine ⟨_, rfl, 1, rfl, l, ys, -1, _, rfl, rfl, SqL.of hl1, hla, t', _, _, _, rfl, rfl, SqT.of ht', rfl, _, rfl, rfl, _, rfl, ?_⟩
      refine ite2 (fun c => ?_) (fun c => ?_)
      · have c' : p'.2 = rest := by
          have := of_decide_eq_true c
          injection this
        rw [if_pos c'] at k
        refine ⟨_, rfl, .inl ⟨rfl, _, SqL.of hl1⟩, l, ys, _, rfl, rfl, hl1, (by rw [← et', List.getLast_eq_getElem, List.getElem?_eq_getElem] : ys[ys.length - 1]? = some (.ref t')), ?_⟩
        refine ⟨_, rfl, ?_⟩
        exact k l ys.dropLast _ hl (same_set s1 hl) upd_same (Rows.stay hl1 hy.dropLast)
      · have c' : ¬ p'.2 = rest := fun z => c (decide_eq_true (by rw [z]))
        rw [if_neg c'] at k
        refine ⟨_, rfl, ?_⟩
        exact k l ys H1 hl s1 hl1 hy
def sp_clamped : Sp := fun vs H Q _ => ∃ t lo hi : Int, vs = [.int t, .int lo, .int hi] ∧ Q (.int (Cal.clamp t lo hi)) H
theorem G_clamped (T : Txt K mg) : FnOk P w K mg base CX0 1 T.f_clamped T.fd_clamped ["turn", "low", "high"] sp_clamped := by
  refine T.d_clamped.F.ok sc_clamped (fun vs H Q E h => ?_) (fun cdv A outer s H vs Q E hr h => ?_)
  · obtain ⟨a, b, c, rfl, _⟩ := h; rfl
  · obtain ⟨t, lo, hi, rfl, k⟩ := h
    refine ⟨_, (pss_one (ps_ret (pe_callB (call_max2 rfl) (by rfl) T.n_max PyProof.Rows.boot_max (pa_cons (pv 1) (pa_cons (pe_callB (call_min2 rfl) (by rfl) T.n_min PyProof.Rows.boot_min (pa_cons (pv 0) (pa_cons (pv 2) pa_nil))) pa_nil))))), ?_⟩
    refine ⟨_, rfl, _, rfl, _, rfl, _, _, rfl, _, _, rfl, ?_⟩
    rw [min_if, max_if]
    exact k
end
end My

set_option Elab.async false
set_option linter.all false
set_option maxRecDepth 100000
set_option maxHeartbeats 4000000
namespace My
open PySem L2
section
variable {P : Program} {w : World} {K : PySem.W.Frag} {mg : Str → Option Value} {base : Heap}
theorem sumOk_of {ns : List Int} (h : ∀ x ∈ ns, 0 ≤ x) (hs : ns.sum < 2 ^ 62) : SumOk ns := fun j hj => by
  have h1 := Cal.sum_bounds ns h (j + 1)
  have h2 := Cal.mem_le_sum ns h ns[j] (List.getElem_mem hj)
  have h3 := h ns[j] (List.getElem_mem hj)
  have e : ns.getD j 0 = ns[j] := by simp [hj]
  rw [e]
  unfold InLong
  omega
def sp_changed_rows (K : PySem.W.Frag) : Sp := fun vs H Q _ => ∃ (a : Addr) (xs : List V) (rows : List (Int × Int)) (f la by_ : Int), vs = [.ref a, .int f, .int la, .int by_] ∧ SqL K H a xs ∧ Rows H xs rows ∧ rows.length ≤ 300 ∧ NewRows H Q (Cal.chr rows 0 f la by_)
theorem G_changed_rows (T : Txt K mg) : FnOk P w K mg base CX0 2 T.f_changed_rows T.fd_changed_rows ["rows", "first", "last", "by"] (sp_changed_rows K) := by
  refine T.d_changed_rows.F.ok sc_changed_rows (fun vs H Q E h => ?_) (fun cdv A outer s H vs Q E hr h => ?_)
  · obtain ⟨a, xs, rows, f, la, by_, rfl, _⟩ := h; rfl
  · obtain ⟨a, xs, rows, f, la, by_, rfl, hS, hR, h9, k⟩ := h
    have hxl := hR.len
    refine ⟨_, (pss_cons (ps_set (i := 4) sc_changed_rows.nd rfl (Or.inl rfl) (pe_lst pa_nil)) (pss_cons (ps_set (i := 5) sc_changed_rows.nd rfl (Or.inl rfl) pe_int) (pss_cons (ps_for PassesOwn.never rfl (pi_list (pv 0)) (pg_tup rfl (pgs_cons (pg_name (i := 6) sc_changed_rows.nd rfl (Or.inl rfl)) (pgs_cons (pg_name (i := 7) sc_changed_rows.nd rfl (Or.inl rfl)) pgs_nil))) (pss_cons (ps_set (i := 8) sc_changed_rows.nd rfl (Or.inl rfl) (pe_op op_add (pv 5) (pv 6))) (pss_cons (ps_set (i := 9) sc_changed_rows.nd rfl (Or.inl rfl) (pe_call (G_clamped T) (hr.mono (by decide)) (by rfl) T.d_clamped.g T.d_clamped.F.kp T.d_clamped.b .nil pass0 (pa_cons (pv 1) (pa_cons (pv 5) (pa_cons (pv 8) pa_nil))))) (pss_cons (ps_set (i := 10) sc_changed_rows.nd rfl (Or.inl rfl) (pe_call (G_clamped T) (hr.mono (by decide)) (by rfl) T.d_clamped.g T.d_clamped.F.kp T.d_clamped.b .nil pass0 (pa_cons (pe_op op_add (pv 2) pe_int) (pa_cons (pv 5) (pa_cons (pv 8) pa_nil))))) (pss_cons (ps_set (i := 11) sc_changed_rows.nd rfl (Or.inl rfl) (pe_callB (call_max2 rfl) (by rfl) T.n_max PyProof.Rows.boot_max (pa_cons pe_int (pa_cons (pe_op op_add (pv 7) (pv 3)) pa_nil)))) (pss_cons (ps_set (i := 12) sc_changed_rows.nd rfl (Or.inl rfl) (pe_lst (pa_cons (pe_tup (pa_cons (pe_op op_sub (pv 9) (pv 5)) (pa_cons (pv 7) pa_nil))) (pa_cons (pe_tup (pa_cons (pe_op op_sub (pv 10) (pv 9)) (pa_cons (pv 11) pa_nil))) (pa_cons (pe_tup (pa_cons (pe_op op_sub (pv 8) (pv 10)) (pa_cons (pv 7) pa_nil))) pa_nil))))) (pss_cons (ps_expr (pe_bm PySem.F.plainAttrs_list PySem.F.slot_list_extend PySem.F.type_list_extend mt_extend (pv 4) (pa_cons (pe_comp (loc := ["piece"]) (free := []) (fr := []) rfl (compScope_of (sc := defScope s_changed_rows) (N := (["rows", "first", "last", "by", "told", "start", "many", "machines", "stop", "enter", "leave", "changed", "pieces"] : List Str)) rfl rfl (by decide +kernel)) (pi_list (pv 12)) (fun _ _ _ _ _ => (pgc 0 (["piece"] : List Str) (by decide +kernel) rfl rfl (Or.inl rfl) rfl)) (fun _ _ _ _ _ => (pts_one (pt_cmpR op_gt (pe_ix (ix_tupK (K := K) rfl) (pv 0) pe_int (fun _ _ => rfl)) pe_int (nomark _)))) (fun _ _ _ _ _ => (pv 0))) pa_nil))) (pss_one (ps_set (i := 5) sc_changed_rows.nd rfl (Or.inl rfl) (pv 8)))))))))) (pss_one (ps_ret (pv 4)))))), ?_⟩
    refine ⟨by show 0 ≤ sizeLine; decide, fun l hl => ?_⟩
    have s1 : Same H (upd H l (.lst [])) := same_upd hl
    refine ⟨_, rfl, a, rfl, ⟨_, s1.seq hS⟩, for_list (K := K) (a := a) (xs := xs) (fun i σ H2 => ∃ (zs : List V) (v1 v2 v3 v4 v5 v6 v7 : Option V), σ = [some (.ref a), some (.int f), some (.int la), some (.int by_), some (.ref l), some (.int (Cal.tot (rows.take i))), v1, v2, v3, v4, v5, v6, v7] ∧ Same H H2 ∧ H2 l = some (.lst zs) ∧ Rows H2 zs (Cal.chr (rows.take i) 0 f la by_) ∧ zs.length ≤ 3 * i)
      (by exact ⟨[], _, _, _, _, _, _, _, rfl, s1, upd_same, Rows.nil, Nat.le_refl _⟩) (fun i σ H2 _ ⟨_, _, _, _, _, _, _, _, _, s2, _⟩ => s2.seq hS) ?_ ?_⟩
    · rintro i y σ H2 hi ⟨zs, v1, v2, v3, v4, v5, v6, v7, rfl, s3, hl2, hz, hzl⟩
      obtain ⟨p, t, ep, rfl, ht0⟩ := hR.get hi
      have ht := s3 _ _ ht0
      have hil : i < xs.length := (List.getElem?_eq_some_iff.mp hi).1
      have tk : rows.take (i + 1) = rows.take i ++ [p] := by rw [List.take_add_one, ep]; rfl
      rw [tk, Cal.tot_snoc, Cal.chr_snoc, Int.zero_add]
      generalize Cal.tot (rows.take i) = st
      refine ⟨t, _, rfl, SqT.of ht, rfl, _, _, rfl, _, _, rfl, rfl, ?_⟩
      -- stop, enter, leave, changed
      refine ⟨_, rfl, _, rfl, _, _, rfl, rfl, ?_⟩
      refine ⟨_, rfl, _, rfl, _, rfl, _, _, _, rfl, ?_⟩
      refine ⟨_, rfl, _, _, rfl, rfl, _, rfl, _, rfl, _, _, _, rfl, ?_⟩
      refine ⟨_, rfl, _, rfl, _, _, rfl, rfl, _, _, rfl, ?_⟩
      rw [max_if]
      -- pieces
      refine ⟨_, rfl, _, rfl, _, _, rfl, rfl, _, rfl, by show 2 ≤ sizeLine; decide, fun u1 hu1 => ?_⟩
      refine ⟨_, rfl, _, rfl, _, _, rfl, rfl, _, rfl, by show 2 ≤ sizeLine; decide, fun u2 hu2 => ?_⟩
      refine ⟨_, rfl, _, rfl, _, _, rfl, rfl, _, rfl, by show 2 ≤ sizeLine; decide, fun u3 hu3 => ?_⟩
      refine ⟨by show 3 ≤ sizeLine; decide, fun q hq => ?_⟩
      have e1 := same_upd (o := .tup [.int (Cal.clamp f st (st + p.1) - st), .int p.2]) hu1
      have e2 := same_upd (o := .tup [.int (Cal.clamp (la + 1) st (st + p.1) - Cal.clamp f st (st + p.1)), .int (max 0 (p.2 + by_))]) hu2
      have e3 := same_upd (o := .tup [.int (st + p.1 - Cal.clamp (la + 1) st (st + p.1)), .int p.2]) hu3
      have e4 := same_upd (o := .lst [.ref u1, .ref u2, .ref u3]) hq
      have g1 := e4 _ _ (e3 _ _ (e2 _ _ (upd_same (H := H2) (a := u1) (o := .tup [.int (Cal.clamp f st (st + p.1) - st), .int p.2]))))
      have g2 := e4 _ _ (e3 _ _ (upd_same (a := u2) (o := .tup [.int (Cal.clamp (la + 1) st (st + p.1) - Cal.clamp f st (st + p.1)), .int (max 0 (p.2 + by_))])))
      have g3 := e4 _ _ (upd_same (a := u3) (o := .tup [.int (st + p.1 - Cal.clamp (la + 1) st (st + p.1)), .int p.2]))
      have gq : (upd (upd (upd (upd H2 u1 (.tup [.int (Cal.clamp f st (st + p.1) - st), .int p.2])) u2 (.tup [.int (Cal.clamp (la + 1) st (st + p.1) - Cal.clamp f st (st + p.1)), .int (max 0 (p.2 + by_))])) u3 (.tup [.int (st + p.1 - Cal.clamp (la + 1) st (st + p.1)), .int p.2])) q (.lst [.ref u1, .ref u2, .ref u3])) q = some (.lst [.ref u1, .ref u2, .ref u3]) := upd_same
      have s4 := e1.trans (e2.trans (e3.trans e4))
      have hp3 : Rows (upd (upd (upd (upd H2 u1 (.tup [.int (Cal.clamp f st (st + p.1) - st), .int p.2])) u2 (.tup [.int (Cal.clamp (la + 1) st (st + p.1) - Cal.clamp f st (st + p.1)), .int (max 0 (p.2 + by_))])) u3 (.tup [.int (st + p.1 - Cal.clamp (la + 1) st (st + p.1)), .int p.2])) q (.lst [.ref u1, .ref u2, .ref u3])) [.ref u1, .ref u2, .ref u3] (Cal.pieces st f la by_ p) :=
        .cons ⟨u1, rfl, g1⟩ (.cons ⟨u2, rfl, g2⟩ (.cons ⟨u3, rfl, g3⟩ .nil))
      generalize upd (upd (upd (upd H2 u1 (.tup [.int (Cal.clamp f st (st + p.1) - st), .int p.2])) u2 (.tup [.int (Cal.clamp (la + 1) st (st + p.1) - Cal.clamp f st (st + p.1)), .int (max 0 (p.2 + by_))])) u3 (.tup [.int (st + p.1 - Cal.clamp (la + 1) st (st + p.1)), .int p.2])) q (.lst [.ref u1, .ref u2, .ref u3]) = H4 at gq s4 hp3 ⊢
      have hl4 := s4 _ _ hl2
      generalize Cal.pieces st f la by_ p = pcs at hp3 ⊢
      have hpl := hp3.len
      -- told.extend([piece for piece in pieces if piece[0] > 0])
      refine ⟨_, rfl, .inl ⟨rfl, _, SqL.of hl4⟩, _, rfl, q, rfl, ⟨_, SqL.of gq⟩, fun D hD => ?_⟩
      refine comp_list (K := K) (a := q) (xs := [.ref u1, .ref u2, .ref u3]) (fun j acc σ H5 => H5 D = some (.lst acc) ∧ Rows H5 acc ((pcs.take j).filter fun x => decide (0 < x.1)) ∧ Same H4 H5 ∧ acc.length ≤ j ∧ ∃ v, σ = [v])
        (by exact ⟨upd_same, Rows.nil, same_upd hD, Nat.le_refl _, _, rfl⟩) (fun j acc σ H5 h => h.1) (fun j acc σ H5 _ h => SqL.of (h.2.2.1 _ _ gq)) ?_ ?_
      · rintro j x acc σ H5 hj ⟨hD5, hRa, s5, hal, v, rfl⟩
        obtain ⟨p5, t5, ep5, rfl, ht5⟩ := hp3.get hj
        have hjl : j < 3 := (List.getElem?_eq_some_iff.mp hj).1
        have tk5 : pcs.take (j + 1) = pcs.take j ++ [p5] := by rw [List.take_add_one, ep5]; rfl
        refine ⟨_, rfl, t5, _, _, _, rfl, rfl, SqT.of (s5 _ _ ht5), rfl, _, _, rfl, rfl, _, rfl, ?_⟩
        refine ite2 (fun c => ?_) (fun c => ?_)
        · refine ⟨_, rfl, hD5, small1000 (by omega), upd_same, ?_, same_set s5 hD, by rw [List.length_append, List.length_singleton]; omega, _, rfl⟩
          rw [tk5, List.filter_append, List.filter_cons_of_pos (by exact c), List.filter_nil]
          exact Rows.stay hD5 (hRa.snoc (p := p5) (s5 _ _ ht5))
        · refine ⟨hD5, ?_, s5, by omega, _, rfl⟩
          rw [tk5, List.filter_append, List.filter_cons_of_neg (by exact c), List.filter_nil, List.append_nil]
          exact hRa
      · rintro acc σ H5 ⟨hD5, hRa, s5, hal, v, rfl⟩
        have hal3 : acc.length ≤ 3 := hal
        have e3 : pcs.take [V.ref u1, V.ref u2, V.ref u3].length = pcs := by
          rw [show ([V.ref u1, V.ref u2, V.ref u3] : List V).length = pcs.length from hpl, List.take_length]
        rw [e3] at hRa
        have hl5 := s5 _ _ hl4
        refine ⟨l, D, zs, acc, rfl, rfl, hl5, hD5, Nat.le_of_lt (small1000 (by omega)), ?_⟩
        -- start = stop
        refine ⟨_, rfl, ?_⟩
        refine ⟨zs ++ acc, _, _, _, _, _, _, _, rfl, same_set (s3.trans (s4.trans s5)) hl, upd_same, ?_, by rw [List.length_append]; omega⟩
        exact Rows.stay hl5 ((hz.mono (s4.trans s5)).append hRa)
    · rintro σ H2 ⟨zs, v1, v2, v3, v4, v5, v6, v7, rfl, s3, hl2, hz, hzl⟩
      refine ⟨_, rfl, ?_⟩
      rw [hxl, List.take_length] at hz
      exact k l zs H2 hl s3 hl2 hz
/-! ### the calendar's methods -/
/-- a calendar whose list is new since H0 -/
structure CalNew (C : Addr) (H0 H : Hp) (p : Addr) (rows : List (Int × Int)) (rest : Int) : Prop where
  ob : ∃ dx l vs, H p = some (.ins C dx (cf l rest)) ∧ H l = some (.lst vs) ∧ Rows H vs rows ∧ H0 l = none
theorem CalNew.cal {C : Addr} {H0 H : Hp} {p : Addr} {rows : List (Int × Int)} {rest : Int} (h : CalNew C H0 H p rows rest) : CalAt C H p rows rest := by
  obtain ⟨dx, l, vs, h1, h2, h3, _⟩ := h.ob
  exact ⟨⟨dx, l, vs, h1, h2, h3⟩⟩
def sp_init (C : Addr) : Sp := fun vs H Q _ => ∃ (p dx a : Addr) (xs : List V) (rows : List (Int × Int)) (rest : Int), vs = [.ref p, .ref a, .int rest] ∧ H p = some (.ins C dx []) ∧ H a = some (.lst xs) ∧ Rows H xs rows ∧ rows.length ≤ 16 ∧ okCal rows ∧ 1 ≤ rest ∧ rest ≤ 16 ∧
  ∀ H', CalNew C H H' p (Cal.kform rest rows) rest → (∀ b o, H b = some o → b ≠ p → H' b = some o) → Q .non H'
theorem G_Calendar_init (T : Txt K mg) : FnOk P w K mg base CX0 6 T.f_Calendar_init T.fd_Calendar_init ["self", "rows", "rest"] (sp_init T.C_Calendar) := by
  refine T.d_Calendar_init.F.ok sc_Calendar_init (fun vs H Q E h => ?_) (fun cdv A outer s H vs Q E hr h => ?_)
  · obtain ⟨p, dx, a, xs, rows, rest, rfl, _⟩ := h; rfl
  · obtain ⟨p, dx, a, xs, rows, rest, rfl, hp, ha, hR, h16, hok, r1, r2, k⟩ := h
    refine ⟨_, (pss_cons (ps_if (PW.pt (pw_or (pt_not (pt_val (pe_call (G_are_calendar_rows T) (hr.mono (by decide)) (by rfl) T.d_are_calendar_rows.g T.d_are_calendar_rows.F.kp T.d_are_calendar_rows.b .nil pass0 (pa_cons (pv 1) pa_nil)))) (pw_or1 (pt_not (pt_val (pe_call (G_is_rest T) (hr.mono (by decide)) (by rfl) T.d_is_rest.g T.d_is_rest.F.kp T.d_is_rest.b .nil pass0 (pa_cons (pv 2) pa_nil))))))) (pss_one ps_never) pss_nil) (pss_cons (ps_fld (pv 0) (pe_call (G_kept_rows T) (hr.mono (by decide)) (by rfl) T.d_kept_rows.g T.d_kept_rows.F.kp T.d_kept_rows.b .nil pass0 (pa_cons (pv 1) (pa_cons (pv 2) pa_nil))) rfl) (pss_one (ps_fld (pv 0) (pv 2) rfl)))), ?_⟩
    refine ⟨_, rfl, a, xs, rows, rfl, ha, hR, h16, hok, fun H1 s1 => ⟨true, rfl, iteF ?_⟩⟩
    refine ⟨_, rfl, rest, rfl, true, ?_, iteF ?_⟩
    · show V.bl (restB rest) = V.bl true
      unfold restB
      rw [decide_eq_true r1, decide_eq_true r2]; rfl
    refine ⟨_, rfl, _, rfl, a, xs, rows, rest, rfl, SqL.of (s1 _ _ ha), hR.mono s1, by omega, fun l ys H2 hl s2 hl2 hy => ?_⟩
    have hp2 := s2 _ _ (s1 _ _ hp)
    have hlp : l ≠ p := fun e => by rw [e, s1 _ _ hp] at hl; cases hl
    refine ⟨_, rfl, p, T.C_Calendar, dx, [], rfl, hp2, T.cl_Calendar, T.na_stretches, by show 0 < 1000; decide, ?_⟩
    refine ⟨_, rfl, _, rfl, p, T.C_Calendar, dx, _, rfl, upd_same, T.cl_Calendar, T.na_beyond, by show 1 < 1000; decide, ?_⟩
    rw [upd_upd]
    refine k _ ⟨⟨dx, l, ys, upd_same, by rw [upd_ne hlp]; exact hl2, Rows.stayI hp2 hy, s1.free hl⟩⟩ fun b o e hb => ?_
    rw [upd_ne hb]
    exact s2 _ _ (s1 _ _ e)
def sp_rows (C : Addr) : Sp := fun vs H Q _ => ∃ (p : Addr) (rows : List (Int × Int)) (rest : Int), vs = [.ref p] ∧ CalAt C H p rows rest ∧ NewRows H Q rows
theorem G_Calendar_rows (T : Txt K mg) : FnOk P w K mg base CX0 1 T.f_Calendar_rows T.fd_Calendar_rows ["self"] (sp_rows T.C_Calendar) := by
  refine T.d_Calendar_rows.F.ok sc_Calendar_rows (fun vs H Q E h => ?_) (fun cdv A outer s H vs Q E hr h => ?_)
  · obtain ⟨p, rows, rest, rfl, _⟩ := h; rfl
  · obtain ⟨p, rows, rest, rfl, ca, k⟩ := h
    obtain ⟨dx, l, vs, h1, h2, h3⟩ := ca.ob
    refine ⟨_, (pss_one (ps_ret (pe_callTy call_list_of (by rfl) T.n_list PyProof.Rows.boot_list (pa_cons (pe_fld (pv 0) rfl) pa_nil)))), ?_⟩
    refine ⟨_, rfl, p, T.C_Calendar, dx, _, _, rfl, h1, T.cl_Calendar, T.na_stretches, cf_s _ _, l, vs, rfl, .inl (SqL.of h2), fun q hq => ?_⟩
    exact k q vs _ hq (same_upd hq) upd_same (h3.mono (same_upd hq))
def sp_rest (C : Addr) : Sp := fun vs H Q _ => ∃ (p : Addr) (rows : List (Int × Int)) (rest : Int), vs = [.ref p] ∧ CalAt C H p rows rest ∧ Q (.int rest) H
theorem G_Calendar_rest (T : Txt K mg) : FnOk P w K mg base CX0 1 T.f_Calendar_rest T.fd_Calendar_rest ["self"] (sp_rest T.C_Calendar) := by
  refine T.d_Calendar_rest.F.ok sc_Calendar_rest (fun vs H Q E h => ?_) (fun cdv A outer s H vs Q E hr h => ?_)
  · obtain ⟨p, rows, rest, rfl, _⟩ := h; rfl
  · obtain ⟨p, rows, rest, rfl, ca, k⟩ := h
    obtain ⟨dx, l, vs, h1, h2, h3⟩ := ca.ob
    refine ⟨_, (pss_one (ps_ret (pe_fld (pv 0) rfl))), ?_⟩
    exact ⟨_, rfl, p, T.C_Calendar, dx, _, _, rfl, h1, T.cl_Calendar, T.na_beyond, cf_b _ _, k⟩
theorem drop_cons {α : Type} {l : List α} {i : Nat} {p : α} (h : l[i]? = some p) : l.drop i = p :: l.drop (i + 1) := by
  obtain ⟨hi, e⟩ := List.getElem?_eq_some_iff.mp h
  rw [List.drop_eq_getElem_cons hi, e]
def sp_at (C : Addr) : Sp := fun vs H Q _ => ∃ (p : Addr) (rows : List (Int × Int)) (rest t : Int), vs = [.ref p, .int t] ∧ CalAt C H p rows rest ∧ Q (.int (Cal.at_ rows rest t)) H
theorem G_Calendar_at (T : Txt K mg) : FnOk P w K mg base CX0 1 T.f_Calendar_at T.fd_Calendar_at ["self", "turn"] (sp_at T.C_Calendar) := by
  refine T.d_Calendar_at.F.ok sc_Calendar_at (fun vs H Q E h => ?_) (fun cdv A outer s H vs Q E hr h => ?_)
  · obtain ⟨p, rows, rest, t, rfl, _⟩ := h; rfl
  · obtain ⟨p, rows, rest, t, rfl, ca, k⟩ := h
    obtain ⟨dx, l, vs, h1, h2, h3⟩ := ca.ob
    have hl := h3.len
    refine ⟨_, (pss_cons (ps_set (i := 2) sc_Calendar_at.nd rfl (Or.inl rfl) pe_int) (pss_cons (ps_for PassesOwn.never rfl (pi_list (pe_fld (pv 0) rfl)) (pg_tup rfl (pgs_cons (pg_name (i := 3) sc_Calendar_at.nd rfl (Or.inl rfl)) (pgs_cons (pg_name (i := 4) sc_Calendar_at.nd rfl (Or.inl rfl)) pgs_nil))) (pss_cons (ps_aug (i := 2) sc_Calendar_at.nd rfl (Or.inl rfl) (pv 3) ip_add) (pss_one (ps_if (pt_cmpR op_lt (pv 1) (pv 2) (nomark _)) (pss_one (ps_ret (pv 4))) pss_nil)))) (pss_one (ps_ret (pe_fld (pv 0) rfl))))), ?_⟩
    refine ⟨_, rfl, p, T.C_Calendar, dx, _, _, rfl, h1, T.cl_Calendar, T.na_stretches, cf_s _ _, l, rfl, ⟨vs, SqL.of h2⟩, for_list (K := K) (a := l) (xs := vs) (fun i σ H2 => ∃ (st : Int) (v1 v2 : Option V), σ = [some (.ref p), some (.int t), some (.int st), v1, v2] ∧ H2 = H ∧ Cal.at_ (rows.drop i) rest (t - st) = Cal.at_ rows rest t)
      (by exact ⟨0, _, _, rfl, rfl, by rw [List.drop_zero, Int.sub_zero]⟩) (fun i σ H2 _ ⟨_, _, _, _, e, _⟩ => by rw [e]; exact SqL.of h2) ?_ ?_⟩
    · rintro i y σ H2 hi ⟨st, v1, v2, rfl, rfl, hat⟩
      obtain ⟨q, u, ep, rfl, hu⟩ := h3.get hi
      rw [drop_cons ep] at hat
      refine ⟨u, _, rfl, SqT.of hu, rfl, _, _, rfl, _, _, rfl, rfl, ?_⟩
      refine ⟨_, rfl, _, rfl, _, _, rfl, rfl, ?_⟩
      refine ⟨_, rfl, _, rfl, _, _, rfl, rfl, _, rfl, ?_⟩
      refine ite2 (fun c => ?_) (fun c => ?_)
      · have c' : t < st + q.1 := of_decide_eq_true c
        refine ⟨_, rfl, ?_⟩
        simp only [Cal.at_] at hat
        rw [if_pos (by omega)] at hat
        rw [← hat] at k
        exact k
      · have c' : ¬ t < st + q.1 := fun z => c (decide_eq_true z)
        refine ⟨st + q.1, _, _, rfl, rfl, ?_⟩
        simp only [Cal.at_] at hat
        rw [if_neg (by omega)] at hat
        rw [← hat]
        congr 1; omega
    · rintro σ H2 ⟨st, v1, v2, rfl, rfl, hat⟩
      rw [hl, List.drop_length] at hat
      refine ⟨_, rfl, p, T.C_Calendar, dx, _, _, rfl, h1, T.cl_Calendar, T.na_beyond, cf_b _ _, ?_⟩
      rw [← hat] at k
      exact k
def sp_end (C : Addr) : Sp := fun vs H Q _ => ∃ (p : Addr) (rows : List (Int × Int)) (rest : Int), vs = [.ref p] ∧ CalAt C H p rows rest ∧ Cal.Pos rows ∧ Cal.tot rows < 2 ^ 62 ∧ rows.length ≤ 900 ∧ ∀ H', Same H H' → Q (.int (Cal.tot rows)) H'
theorem G_Calendar_end (T : Txt K mg) : FnOk P w K mg base CX0 1 T.f_Calendar_end T.fd_Calendar_end ["self"] (sp_end T.C_Calendar) := by
  refine T.d_Calendar_end.F.ok sc_Calendar_end (fun vs H Q E h => ?_) (fun cdv A outer s H vs Q E hr h => ?_)
  · obtain ⟨p, rows, rest, rfl, _⟩ := h; rfl
  · obtain ⟨p, rows, rest, rfl, ca, hpos, htot, h9, k⟩ := h
    obtain ⟨dx, l, vs, h1, h2, h3⟩ := ca.ob
    have hl := h3.len
    refine ⟨_, (pss_one (ps_ret (pe_callB (call_sum rfl) (by rfl) T.n_sum PyProof.Rows.boot_sum (pa_cons (pe_comp (loc := ["many", "machines"]) (free := []) (fr := []) rfl (compScope_of (sc := defScope s_Calendar_end) (N := (["self"] : List Str)) rfl rfl (by decide +kernel)) (pi_list (pe_fld (pv 0) rfl)) (fun _ _ _ _ _ => (pgT (K := K) 2 rfl rfl (pgs_cons (pgc 0 (["many", "machines"] : List Str) (by decide +kernel) rfl rfl (Or.inl rfl) rfl) (pgs_cons (pgc 1 (["many", "machines"] : List Str) (by decide +kernel) rfl rfl (Or.inl rfl) rfl) pgs_nil)))) (fun _ _ _ _ _ => pts_nil) (fun _ _ _ _ _ => (pv 0))) pa_nil)))), ?_⟩
    refine ⟨_, rfl, p, T.C_Calendar, dx, _, _, rfl, h1, T.cl_Calendar, T.na_stretches, cf_s _ _, l, rfl, ⟨vs, SqL.of h2⟩, fun D hD => ?_⟩
    refine comp_list (K := K) (a := l) (xs := vs) (fun i acc σ H2 => acc = ((rows.take i).map (·.1)).map V.int ∧ H2 D = some (.lst acc) ∧ Same H H2 ∧ acc.length = i ∧ ∃ v1 v2, σ = [v1, v2])
      (by exact ⟨rfl, upd_same, same_upd hD, rfl, _, _, rfl⟩) (fun i acc σ H2 h => h.2.1) (fun i acc σ H2 _ h => SqL.of (h.2.2.1 _ _ h2)) ?_ ?_
    · rintro i x acc σ H2 hi ⟨ea, hD2, s2, hal, v1, v2, rfl⟩
      obtain ⟨q, u, ep, rfl, hu⟩ := h3.get hi
      have hil : i < vs.length := (List.getElem?_eq_some_iff.mp hi).1
      refine ⟨u, _, rfl, SqT.of (s2 _ _ hu), rfl, _, _, rfl, _, _, rfl, rfl, ?_⟩
      refine ⟨_, rfl, hD2, small1000 (by omega), ?_, upd_same, same_set s2 hD, by rw [List.length_append, hal]; rfl, _, _, rfl⟩
      rw [List.take_add_one, ep, List.map_append, List.map_append, ea]
      rfl
    · rintro acc σ H2 ⟨ea, hD2, s2, hal, v1, v2, rfl⟩
      rw [hl, List.take_length] at ea
      subst ea
      refine ⟨D, _, rfl, SqL.of hD2, sumOk_of (fun x hx => ?_) (by rw [Cal.sum_tot]; exact htot), ?_⟩
      · obtain ⟨q, hq, rfl⟩ := List.mem_map.mp hx
        have := hpos q hq
        omega
      rw [Cal.sum_tot]
      exact k H2 s2
/-- machines within what a product takes -/
def smallM (rows : List (Int × Int)) (rest : Int) : Prop := (∀ p ∈ rows, -(2 ^ 64) < p.2 ∧ p.2 < 2 ^ 64) ∧ -(2 ^ 64) < rest ∧ rest < 2 ^ 64
def sp_over (C : Addr) : Sp := fun vs H Q _ => ∃ (p : Addr) (rows : List (Int × Int)) (rest f la : Int), vs = [.ref p, .int f, .int la] ∧ CalAt C H p rows rest ∧ smallM rows rest ∧ Q (.int (Cal.over rows rest 0 f la)) H
theorem G_Calendar_over (T : Txt K mg) : FnOk P w K mg base CX0 2 T.f_Calendar_over T.fd_Calendar_over ["self", "first", "last"] (sp_over T.C_Calendar) := by
  refine T.d_Calendar_over.F.ok sc_Calendar_over (fun vs H Q E h => ?_) (fun cdv A outer s H vs Q E hr h => ?_)
  · obtain ⟨p, rows, rest, f, la, rfl, _⟩ := h; rfl
  · obtain ⟨p, rows, rest, f, la, rfl, ca, hsm, k⟩ := h
    obtain ⟨dx, l, vs, h1, h2, h3⟩ := ca.ob
    have hl := h3.len
    refine ⟨_, (pss_cons (ps_set (i := 3) sc_Calendar_over.nd rfl (Or.inl rfl) pe_int) (pss_cons (ps_set (i := 4) sc_Calendar_over.nd rfl (Or.inl rfl) pe_int) (pss_cons (ps_for PassesOwn.never rfl (pi_list (pe_fld (pv 0) rfl)) (pg_tup rfl (pgs_cons (pg_name (i := 5) sc_Calendar_over.nd rfl (Or.inl rfl)) (pgs_cons (pg_name (i := 6) sc_Calendar_over.nd rfl (Or.inl rfl)) pgs_nil))) (pss_cons (ps_aug (i := 3) sc_Calendar_over.nd rfl (Or.inl rfl) (pe_op op_mul (pv 6) (pe_call (G_common_count T) (hr.mono (by decide)) (by rfl) T.d_common_count.g T.d_common_count.F.kp T.d_common_count.b .nil pass0 (pa_cons (pv 4) (pa_cons (pe_op op_sub (pe_op op_add (pv 4) (pv 5)) pe_int) (pa_cons (pv 1) (pa_cons (pv 2) pa_nil)))))) ip_add) (pss_one (ps_aug (i := 4) sc_Calendar_over.nd rfl (Or.inl rfl) (pv 5) ip_add)))) (pss_one (ps_ret (pe_op op_add (pv 3) (pe_op op_mul (pe_fld (pv 0) rfl) (pe_call (G_common_count T) (hr.mono (by decide)) (by rfl) T.d_common_count.g T.d_common_count.F.kp T.d_common_count.b .nil pass0 (pa_cons (pv 4) (pa_cons (pv 2) (pa_cons (pv 1) (pa_cons (pv 2) pa_nil)))))))))))), ?_⟩
    refine ⟨_, rfl, p, T.C_Calendar, dx, _, _, rfl, h1, T.cl_Calendar, T.na_stretches, cf_s _ _, l, rfl, ⟨vs, SqL.of h2⟩, for_list (K := K) (a := l) (xs := vs) (fun i σ H2 => ∃ (tt st : Int) (v1 v2 : Option V), σ = [some (.ref p), some (.int f), some (.int la), some (.int tt), some (.int st), v1, v2] ∧ H2 = H ∧ tt + Cal.over (rows.drop i) rest st f la = Cal.over rows rest 0 f la)
      (by exact ⟨0, 0, _, _, rfl, rfl, by rw [List.drop_zero, Int.zero_add]⟩) (fun i σ H2 _ ⟨_, _, _, _, _, e, _⟩ => by rw [e]; exact SqL.of h2) ?_ ?_⟩
    · rintro i y σ H2 hi ⟨tt, st, v1, v2, rfl, rfl, hov⟩
      obtain ⟨q, u, ep, rfl, hu⟩ := h3.get hi
      rw [drop_cons ep] at hov
      obtain ⟨m1, m2⟩ := hsm.1 q (List.mem_of_getElem? ep)
      refine ⟨u, _, rfl, SqT.of hu, rfl, _, _, rfl, _, _, rfl, rfl, ?_⟩
      refine ⟨_, rfl, _, rfl, _, rfl, _, rfl, _, rfl, _, _, rfl, rfl, _, _, rfl, rfl, _, rfl, _, rfl, _, _, _, _, rfl, _, _, rfl, rfl, .inl ⟨m1, m2⟩, _, _, rfl, rfl, ?_⟩
      refine ⟨_, rfl, _, rfl, _, _, rfl, rfl, ?_⟩
      refine ⟨tt + q.2 * Cal.cc st (st + q.1 - 1) f la, st + q.1, _, _, rfl, rfl, ?_⟩
      simp only [Cal.over] at hov
      rw [← hov]
      omega
    · rintro σ H2 ⟨tt, st, v1, v2, rfl, rfl, hov⟩
      rw [hl, List.drop_length] at hov
      refine ⟨_, rfl, _, rfl, p, T.C_Calendar, dx, _, _, rfl, h1, T.cl_Calendar, T.na_beyond, cf_b _ _, _, rfl, _, rfl, _, rfl, _, rfl, _, _, _, _, rfl, _, _, rfl, rfl, .inl ⟨hsm.2.1, hsm.2.2⟩, _, _, rfl, rfl, ?_⟩
      rw [← hov] at k
      exact k
def sp_over_spans (K : PySem.W.Frag) (C : Addr) : Sp := fun vs H Q _ => ∃ (p a : Addr) (xs : List V) (spans rows : List (Int × Int)) (rest : Int), vs = [.ref p, .ref a] ∧ CalAt C H p rows rest ∧ smallM rows rest ∧ SqL K H a xs ∧ Rows H xs spans ∧ spans.length ≤ 900 ∧ SumOk (spans.map fun s => Cal.over rows rest 0 s.1 s.2) ∧ ∀ H', Same H H' → Q (.int (spans.map fun s => Cal.over rows rest 0 s.1 s.2).sum) H'
theorem G_Calendar_over_spans (T : Txt K mg) : FnOk P w K mg base CX0 3 T.f_Calendar_over_spans T.fd_Calendar_over_spans ["self", "spans"] (sp_over_spans K T.C_Calendar) := by
  refine T.d_Calendar_over_spans.F.ok sc_Calendar_over_spans (fun vs H Q E h => ?_) (fun cdv A outer s H vs Q E hr h => ?_)
  · obtain ⟨p, a, xs, spans, rows, rest, rfl, _⟩ := h; rfl
  · obtain ⟨p, a, xs, spans, rows, rest, rfl, ca, hsm, hS, hR, h9, hso, k⟩ := h
    have hl := hR.len
    refine ⟨_, (pss_one (ps_ret (pe_callB (call_sum rfl) (by rfl) T.n_sum PyProof.Rows.boot_sum (pa_cons (pe_comp (loc := ["first", "last"]) (free := ["self"]) (fr := [0]) rfl (compScope_of (sc := defScope s_Calendar_over_spans) (N := (["self", "spans"] : List Str)) rfl rfl (by decide +kernel)) (pi_list (pv 1)) (fun _ _ _ _ _ => (pgT (K := K) 2 rfl rfl (pgs_cons (pgc 0 (["first", "last", "self"] : List Str) (by decide +kernel) rfl rfl (Or.inl rfl) rfl) (pgs_cons (pgc 1 (["first", "last", "self"] : List Str) (by decide +kernel) rfl rfl (Or.inl rfl) rfl) pgs_nil)))) (fun _ _ _ _ _ => pts_nil) (fun _ _ _ _ _ => (pe_meth (pv 2) T.cl_Calendar T.m_Calendar_over (G_Calendar_over T) (hr.mono (by decide)) T.d_Calendar_over.b .nil pass0 (pa_cons (pv 0) (pa_cons (pv 1) pa_nil))))) pa_nil)))), ?_⟩
    refine ⟨_, rfl, a, rfl, ⟨xs, hS⟩, fun D hD => ?_⟩
    refine comp_list (K := K) (a := a) (xs := xs) (fun i acc σ H2 => acc = ((spans.take i).map fun s => Cal.over rows rest 0 s.1 s.2).map V.int ∧ H2 D = some (.lst acc) ∧ Same H H2 ∧ acc.length = i ∧ ∃ v1 v2, σ = [v1, v2, some (.ref p)])
      (by exact ⟨rfl, upd_same, same_upd hD, rfl, _, _, rfl⟩) (fun i acc σ H2 h => h.2.1) (fun i acc σ H2 _ h => h.2.2.1.seq hS) ?_ ?_
    · rintro i x acc σ H2 hi ⟨ea, hD2, s2, hal, v1, v2, rfl⟩
      obtain ⟨q, u, ep, rfl, hu⟩ := hR.get hi
      have hil : i < xs.length := (List.getElem?_eq_some_iff.mp hi).1
      have ca2 := ca.mono s2
      obtain ⟨dx, l, vs, h1, h2, h3⟩ := id ca2.ob
      refine ⟨u, _, rfl, SqT.of (s2 _ _ hu), rfl, _, _, rfl, _, _, rfl, rfl, ?_⟩
      refine ⟨_, rfl, p, dx, _, rfl, h1, cf_no _ _ (by decide +kernel) (by decide +kernel), _, rfl, _, rfl, p, rows, rest, _, _, rfl, ca2, hsm, ?_⟩
      refine ⟨hD2, small1000 (by omega), ?_, upd_same, same_set s2 hD, by rw [List.length_append, hal]; rfl, _, _, rfl⟩
      rw [List.take_add_one, ep, List.map_append, List.map_append, ea]
      rfl
    · rintro acc σ H2 ⟨ea, hD2, s2, hal, v1, v2, rfl⟩
      rw [hl, List.take_length] at ea
      subst ea
      exact ⟨D, _, rfl, SqL.of hD2, hso, k H2 s2⟩
theorem stops_take : ∀ (rows : List (Int × Int)) (i : Nat) (p : Int × Int) (st : Int), rows[i]? = some p → Cal.stops (rows.take (i + 1)) st = Cal.stops (rows.take i) st ++ [st + Cal.tot (rows.take i) + p.1]
  | [], i, p, st, h => by simp at h
  | q :: r, 0, p, st, h => by
    simp at h
    subst h
    simp [Cal.stops, Cal.tot]
  | q :: r, i + 1, p, st, h => by
    have := stops_take r i p (st + q.1) (by simpa using h)
    rw [List.take_succ_cons, List.take_succ_cons]
    simp only [Cal.stops, Cal.tot]
    rw [this, List.cons_append, show st + q.1 + Cal.tot (r.take i) + p.1 = st + (q.1 + Cal.tot (r.take i)) + p.1 by omega]
def between (f la : Int) (x : Int) : Bool := decide (f < x) && decide (x ≤ la)
def sp_changes (C : Addr) : Sp := fun vs H Q _ => ∃ (p : Addr) (rows : List (Int × Int)) (rest f la : Int), vs = [.ref p, .int f, .int la] ∧ CalAt C H p rows rest ∧ rows.length ≤ 900 ∧
  ∀ (l : Addr) (H' : Hp), H l = none → Same H H' → H' l = some (.lst (((Cal.stops rows 0).filter (between f la)).map V.int)) → Q (.ref l) H'
theorem G_Calendar_changes (T : Txt K mg) : FnOk P w K mg base CX0 1 T.f_Calendar_changes T.fd_Calendar_changes ["self", "first", "last"] (sp_changes T.C_Calendar) := by
  refine T.d_Calendar_changes.F.ok sc_Calendar_changes (fun vs H Q E h => ?_) (fun cdv A outer s H vs Q E hr h => ?_)
  · obtain ⟨p, rows, rest, f, la, rfl, _⟩ := h; rfl
  · obtain ⟨p, rows, rest, f, la, rfl, ca, h9, k⟩ := h
    obtain ⟨dx, l, vs, h1, h2, h3⟩ := ca.ob
    have hl := h3.len
    refine ⟨_, (pss_cons (ps_set (i := 3) sc_Calendar_changes.nd rfl (Or.inl rfl) (pe_lst pa_nil)) (pss_cons (ps_set (i := 4) sc_Calendar_changes.nd rfl (Or.inl rfl) pe_int) (pss_cons (ps_for PassesOwn.never rfl (pi_list (pe_fld (pv 0) rfl)) (pg_tup rfl (pgs_cons (pg_name (i := 5) sc_Calendar_changes.nd rfl (Or.inl rfl)) (pgs_cons (pg_name (i := 6) sc_Calendar_changes.nd rfl (Or.inl rfl)) pgs_nil))) (pss_cons (ps_aug (i := 4) sc_Calendar_changes.nd rfl (Or.inl rfl) (pv 5) ip_add) (pss_one (ps_if (pt_chain op_lt op_le (pv 1) (pv 4) (pv 2)) (pss_one (ps_expr (pe_bm PySem.F.plainAttrs_list PySem.F.slot_list_append PySem.F.type_list_append mt_append (pv 3) (pa_cons (pv 4) pa_nil)))) pss_nil)))) (pss_one (ps_ret (pv 3)))))), ?_⟩
    refine ⟨by show 0 ≤ sizeLine; decide, fun q hq => ?_⟩
    have s1 : Same H (upd H q (.lst [])) := same_upd hq
    refine ⟨_, rfl, p, T.C_Calendar, dx, _, _, rfl, s1 _ _ h1, T.cl_Calendar, T.na_stretches, cf_s _ _, l, rfl, ⟨vs, SqL.of (s1 _ _ h2)⟩, for_list (K := K) (a := l) (xs := vs) (fun i σ H2 => ∃ (ts : List Int) (v1 v2 : Option V), σ = [some (.ref p), some (.int f), some (.int la), some (.ref q), some (.int (Cal.tot (rows.take i))), v1, v2] ∧ Same H H2 ∧ H2 q = some (.lst (ts.map V.int)) ∧ ts = (Cal.stops (rows.take i) 0).filter (between f la) ∧ ts.length ≤ i)
      (by exact ⟨[], _, _, rfl, s1, upd_same, rfl, Nat.le_refl _⟩) (fun i σ H2 _ ⟨_, _, _, _, s2, _⟩ => SqL.of (s2 _ _ h2)) ?_ ?_⟩
    · rintro i y σ H2 hi ⟨ts, v1, v2, rfl, s2, hq2, ets, htl⟩
      obtain ⟨c, u, ep, rfl, hu⟩ := h3.get hi
      have hil : i < vs.length := (List.getElem?_eq_some_iff.mp hi).1
      have tk : rows.take (i + 1) = rows.take i ++ [c] := by rw [List.take_add_one, ep]; rfl
      have et : Cal.tot (rows.take (i + 1)) = Cal.tot (rows.take i) + c.1 := by rw [tk, Cal.tot_snoc]
      have es := stops_take rows i c 0 ep
      rw [Int.zero_add] at es
      rw [et, es, List.filter_append, ← ets]
      generalize Cal.tot (rows.take i) = st
      refine ⟨u, _, rfl, SqT.of (s2 _ _ hu), rfl, _, _, rfl, _, _, rfl, rfl, ?_⟩
      refine ⟨_, rfl, _, rfl, _, _, rfl, rfl, ?_⟩
      refine ⟨_, rfl, _, rfl, _, _, rfl, rfl, _, rfl, ?_⟩
      have no : ¬ (f < st + c.1 ∧ st + c.1 ≤ la) → ∃ (ts' : List Int) (v1 v2 : Option V), ([some (.ref p), some (.int f), some (.int la), some (.ref q), some (V.int (st + c.1)), some (V.int c.1), some (V.int c.2)] : St) = [some (.ref p), some (.int f), some (.int la), some (.ref q), some (.int (st + c.1)), v1, v2] ∧ Same H H2 ∧ H2 q = some (.lst (ts'.map V.int)) ∧ ts' = ts ++ [st + c.1].filter (between f la) ∧ ts'.length ≤ i + 1 := fun hn => by
        refine ⟨ts, _, _, rfl, s2, hq2, ?_, by omega⟩
        rw [List.filter_cons_of_neg (by unfold between; simp only [Bool.and_eq_true, decide_eq_true_eq]; exact hn), List.filter_nil, List.append_nil]
      refine ite2 (fun c1 => ?_) (fun c1 => ?_)
      · have c1' := of_decide_eq_true c1
        refine ⟨_, rfl, _, _, rfl, rfl, _, rfl, ?_⟩
        refine ite2 (fun c2 => ?_) (fun c2 => ?_)
        · have c2' := of_decide_eq_true c2
          refine ⟨_, rfl, .inl ⟨rfl, _, SqL.of hq2⟩, _, rfl, q, _, _, rfl, rfl, hq2, by rw [List.length_map]; exact small1000 (by omega), ?_⟩
          refine ⟨ts ++ [st + c.1], _, _, rfl, same_set s2 hq, by rw [List.map_append]; exact upd_same, ?_, by rw [List.length_append, List.length_singleton]; omega⟩
          rw [List.filter_cons_of_pos (by unfold between; simp only [Bool.and_eq_true, decide_eq_true_eq]; exact ⟨c1', c2'⟩), List.filter_nil]
        · exact no fun z => c2 (decide_eq_true z.2)
      · refine ⟨false, rfl, iteF ?_⟩
        exact no fun z => c1 (decide_eq_true z.1)
    · rintro σ H2 ⟨ts, v1, v2, rfl, s2, hq2, ets, htl⟩
      rw [hl, List.take_length] at ets
      subst ets
      exact ⟨_, rfl, k q H2 hq s2 hq2⟩
def NewCal (C : Addr) (H : Hp) (Q : VK) (rows : List (Int × Int)) (rest : Int) : Prop := ∀ (x : Addr) (H' : Hp), H x = none → Same H H' → CalAt C H' x rows rest → Q (.ref x) H'
def sp_cbb (K : PySem.W.Frag) (C : Addr) : Sp := fun vs H Q _ => ∃ (a : Addr) (xs : List V) (rows : List (Int × Int)) (rest : Int), vs = [.ref a, .int rest] ∧ SqL K H a xs ∧ Rows H xs rows ∧ rows.length ≤ 900 ∧ NewCal C H Q (Cal.kform rest rows) rest
theorem G_calendar_beyond_bounds (T : Txt K mg) : FnOk P w K mg base CX0 8 T.f_calendar_beyond_bounds T.fd_calendar_beyond_bounds ["rows", "rest"] (sp_cbb K T.C_Calendar) := by
  refine T.d_calendar_beyond_bounds.F.ok sc_calendar_beyond_bounds (fun vs H Q E h => ?_) (fun cdv A outer s H vs Q E hr h => ?_)
  · obtain ⟨a, xs, rows, rest, rfl, _⟩ := h; rfl
  · obtain ⟨a, xs, rows, rest, rfl, hS, hR, h9, k⟩ := h
    refine ⟨_, (pss_cons (ps_set (i := 2) sc_calendar_beyond_bounds.nd rfl (Or.inl rfl) (pe_make T.M_Calendar (G_Calendar_init T) (hr.mono (by decide)) (by rfl) T.g_Calendar T.d_Calendar_init.b .nil pass0 (pa_cons (pe_lst pa_nil) (pa_cons pe_int pa_nil)))) (pss_cons (ps_fld (pv 2) (pe_call (G_kept_rows T) (hr.mono (by decide)) (by rfl) T.d_kept_rows.g T.d_kept_rows.F.kp T.d_kept_rows.b .nil pass0 (pa_cons (pv 0) (pa_cons (pv 1) pa_nil))) rfl) (pss_cons (ps_fld (pv 2) (pv 1) rfl) (pss_one (ps_ret (pv 2)))))), ?_⟩
    refine ⟨by show 0 ≤ sizeLine; decide, fun l0 hl0 => ?_⟩
    intro x dx nx ndx nex
    have s0 : Same H (upd H l0 (.lst [])) := same_upd hl0
    have hxn : H x = none := s0.free nx
    have s1 : Same H (upd (upd (upd H l0 (.lst [])) dx (.own x)) x (.ins T.C_Calendar dx [])) := fun b o e => by
      rw [upd_ne (ne_of_none (s0 b o e) nx), upd_ne (ne_of_none (s0 b o e) ndx)]
      exact s0 b o e
    have hl01 : (upd (upd (upd H l0 (.lst [])) dx (.own x)) x (.ins T.C_Calendar dx [])) l0 = some (.lst []) := by
      rw [upd_ne (ne_of_none upd_same nx), upd_ne (ne_of_none upd_same ndx)]
      exact upd_same
    refine ⟨x, dx, l0, [], [], 1, rfl, upd_same, hl01, Rows.nil, by show 0 ≤ 16; decide, fun _ h => (nomatch h), by decide, by decide, fun H2 ca0 kp => ⟨rfl, ?_⟩⟩
    have ca := ca0.cal
    have s2 : Same H H2 := fun b o e => kp b o (s1 b o e) (ne_of_none e hxn)
    obtain ⟨dy, l1, vs1, g1, g2, g3⟩ := ca.ob
    refine ⟨_, rfl, _, rfl, a, xs, rows, rest, rfl, s2.seq hS, hR.mono s2, h9, fun l ys H3 hl s3 hl3 hy => ?_⟩
    have g1' := s3 _ _ g1
    have hlx : l ≠ x := fun e => by rw [e, g1] at hl; cases hl
    refine ⟨_, rfl, x, T.C_Calendar, dy, _, rfl, g1', T.cl_Calendar, T.na_stretches, cf_len _ _, ?_⟩
    refine ⟨_, rfl, _, rfl, x, T.C_Calendar, dy, _, rfl, upd_same, T.cl_Calendar, T.na_beyond, by rw [cf_putS]; exact cf_len _ _, ?_⟩
    rw [upd_upd, cf_putS, cf_putB]
    refine ⟨_, rfl, ?_⟩
    refine k x _ hxn (same_set (s2.trans s3) hxn) ⟨⟨dy, l, ys, upd_same, by rw [upd_ne hlx]; exact hl3, Rows.stayI g1' hy⟩⟩
def sp_changed_calendar (C : Addr) : Sp := fun vs H Q _ => ∃ (p : Addr) (rows : List (Int × Int)) (rest f la by_ : Int), vs = [.ref p, .int f, .int la, .int by_] ∧ CalAt C H p rows rest ∧ Cal.Pos rows ∧ Cal.tot rows < 2 ^ 62 ∧ rows.length ≤ 280 ∧ NewCal C H Q (Cal.chgd rows rest f la by_) rest
theorem G_changed_calendar (T : Txt K mg) : FnOk P w K mg base CX0 9 T.f_changed_calendar T.fd_changed_calendar ["calendar", "first", "last", "by"] (sp_changed_calendar T.C_Calendar) := by
  refine T.d_changed_calendar.F.ok sc_changed_calendar (fun vs H Q E h => ?_) (fun cdv A outer s H vs Q E hr h => ?_)
  · obtain ⟨p, rows, rest, f, la, by_, rfl, _⟩ := h; rfl
  · obtain ⟨p, rows, rest, f, la, by_, rfl, ca, hpos, htot, h28, k⟩ := h
    have obj : ∀ {H' : Hp}, CalAt T.C_Calendar H' p rows rest → ∃ dx fs, H' p = some (.ins T.C_Calendar dx fs) ∧ fs.lookup ("rows" : Str) = none ∧ fs.lookup ("end" : Str) = none ∧ fs.lookup ("rest" : Str) = none := fun {H'} c => by
      obtain ⟨dx, l, vs, h1, _⟩ := c.ob
      exact ⟨dx, _, h1, cf_no _ _ (by decide +kernel) (by decide +kernel), cf_no _ _ (by decide +kernel) (by decide +kernel), cf_no _ _ (by decide +kernel) (by decide +kernel)⟩
    refine ⟨_, (pss_cons (ps_set (i := 4) sc_changed_calendar.nd rfl (Or.inl rfl) (pe_meth0 (pv 0) T.cl_Calendar T.m_Calendar_rows (G_Calendar_rows T) (hr.mono (by decide)) T.d_Calendar_rows.b .nil pass0)) (pss_cons (ps_if (pt_cmpR op_le (pv 1) (pv 2) (nomark _)) (pss_cons (ps_set (i := 5) sc_changed_calendar.nd rfl (Or.inl rfl) (pe_op op_sub (pe_op op_add (pv 2) pe_int) (pe_meth0 (pv 0) T.cl_Calendar T.m_Calendar_end (G_Calendar_end T) (hr.mono (by decide)) T.d_Calendar_end.b .nil pass0))) (pss_cons (ps_if (pt_cmpR op_gt (pv 5) pe_int (nomark _)) (pss_one (ps_expr (pe_bm PySem.F.plainAttrs_list PySem.F.slot_list_append PySem.F.type_list_append mt_append (pv 4) (pa_cons (pe_tup (pa_cons (pv 5) (pa_cons (pe_meth0 (pv 0) T.cl_Calendar T.m_Calendar_rest (G_Calendar_rest T) (hr.mono (by decide)) T.d_Calendar_rest.b .nil pass0) pa_nil))) pa_nil)))) pss_nil) (pss_one (ps_set (i := 4) sc_changed_calendar.nd rfl (Or.inl rfl) (pe_call (G_changed_rows T) (hr.mono (by decide)) (by rfl) T.d_changed_rows.g T.d_changed_rows.F.kp T.d_changed_rows.b .nil pass0 (pa_cons (pv 4) (pa_cons (pv 1) (pa_cons (pv 2) (pa_cons (pv 3) pa_nil))))))))) pss_nil) (pss_one (ps_ret (pe_call (G_calendar_beyond_bounds T) (hr.mono (by decide)) (by rfl) T.d_calendar_beyond_bounds.g T.d_calendar_beyond_bounds.F.kp T.d_calendar_beyond_bounds.b .nil pass0 (pa_cons (pv 4) (pa_cons (pe_meth0 (pv 0) T.cl_Calendar T.m_Calendar_rest (G_Calendar_rest T) (hr.mono (by decide)) T.d_Calendar_rest.b .nil pass0) pa_nil))))))), ?_⟩
    obtain ⟨dx, fs, o1, o2, o3, o4⟩ := obj ca
    refine ⟨_, rfl, p, dx, fs, rfl, o1, o2, p, rows, rest, rfl, ca, fun l ys H1 hl s1 hl1 hy => ?_⟩
    have hyl := hy.len
    refine ⟨_, rfl, _, rfl, _, _, rfl, rfl, _, rfl, ?_⟩
    refine ite2 (fun c => ?_) (fun c => ?_)
    · have c' := of_decide_eq_true c
      have ca1 := ca.mono s1
      obtain ⟨dx1, fs1, p1, p2, p3, p4⟩ := obj ca1
      -- missing = last + 1 - calendar.end()
      refine ⟨_, rfl, _, _, rfl, rfl, _, rfl, p, dx1, fs1, rfl, p1, p3, p, rows, rest, rfl, ca1, hpos, htot, by omega, fun H2 s2 => ⟨_, _, rfl, rfl, ?_⟩⟩
      have ca2 := ca1.mono s2
      have s12 := s1.trans s2
      obtain ⟨dx2, fs2, q1, q2, q3, q4⟩ := obj ca2
      have fin : ∀ (H3 : Hp) (zs : List V), Same H H3 → H3 l = some (.lst zs) → Rows H3 zs (Cal.longer rows rest la) → ∀ v5 : Option V, (tSeq (tAsg (tCall (sp_changed_rows K) [] E0 (tCons (tVar 4) (tCons (tVar 1) (tCons (tVar 2) (tCons (tVar 3) tNil))))) (gName 4)) tNext) { nx := tRet (tCall (sp_cbb K T.C_Calendar) [] E0 (tCons (tVar 4) (tCons (tMeth T.C_Calendar "rest" (sp_rest T.C_Calendar) [] E0 (tVar 0) tNil) tNil))) { nx := fun _ H' => Q .non H', rt := Q }, rt := Q } [some (.ref p), some (.int f), some (.int la), some (.int by_), some (.ref l), v5] H3 := by
        intro H3 zs s3 hl3 hR3 v5
        obtain ⟨lo1, lo2, lo3, lo4⟩ := Cal.longer_ok (rest := rest) (l := la) hpos
        refine ⟨_, rfl, _, rfl, _, rfl, _, rfl, l, zs, _, f, la, by_, rfl, SqL.of hl3, hR3, by omega, fun l4 ys4 H4 hl4 s4 hl44 hy4 => ?_⟩
        have s34 := s3.trans s4
        have ca4 := ca.mono s34
        obtain ⟨dx4, fs4, r1, r2, r3, r4⟩ := obj ca4
        refine ⟨_, rfl, _, rfl, p, dx4, fs4, rfl, r1, r4, p, rows, rest, rfl, ca4, l4, ys4, _, rest, rfl, SqL.of hl44, hy4, by have := Cal.chr_len (Cal.longer rows rest la) 0 f la by_; omega, fun x H5 hx s5 ca5 => ?_⟩
        refine k x H5 (s34.free hx) (s34.trans s5) ?_
        unfold Cal.chgd
        rw [if_pos c']
        exact ca5
      refine ⟨_, rfl, _, _, rfl, rfl, _, rfl, ?_⟩
      refine ite2 (fun c2 => ?_) (fun c2 => ?_)
      · have c2' := of_decide_eq_true c2
        have hl2 := s2 _ _ hl1
        refine ⟨_, rfl, .inl ⟨rfl, _, SqL.of hl2⟩, _, rfl, _, rfl, p, dx2, fs2, rfl, q1, q4, p, rows, rest, rfl, ca2, by show 2 ≤ sizeLine; decide, fun u hu => ?_⟩
        have hA : (upd H2 u (.tup [.int (la + 1 - Cal.tot rows), .int rest])) l = some (.lst ys) := by rw [upd_ne (ne_of_none hl2 hu)]; exact hl2
        refine ⟨l, ys, _, rfl, rfl, hA, small1000 (by omega), ?_⟩
        refine fin _ (ys ++ [.ref u]) (same_set (s12.trans (same_upd hu)) hl) upd_same ?_ _
        unfold Cal.longer
        rw [if_pos c2']
        exact Rows.stay hA (((hy.mono s2).mono (same_upd hu)).snoc (p := (la + 1 - Cal.tot rows, rest)) upd_same)
      · have c2' : ¬ 0 < la + 1 - Cal.tot rows := fun z => c2 (decide_eq_true z)
        refine fin _ ys s12 (s2 _ _ hl1) ?_ _
        unfold Cal.longer
        rw [if_neg c2']
        exact hy.mono s2
    · have c' : ¬ f ≤ la := fun z => c (decide_eq_true z)
      have ca1 := ca.mono s1
      obtain ⟨dx1, fs1, p1, p2, p3, p4⟩ := obj ca1
      refine ⟨_, rfl, _, rfl, p, dx1, fs1, rfl, p1, p4, p, rows, rest, rfl, ca1, l, ys, rows, rest, rfl, SqL.of hl1, hy, by omega, fun x H5 hx s5 ca5 => ?_⟩
      refine k x H5 (s1.free hx) (s1.trans s5) ?_
      unfold Cal.chgd
      rw [if_neg c']
      exact ca5
def sp_fewer (C : Addr) (sg : Int) : Sp := fun vs H Q _ => ∃ (p : Addr) (rows : List (Int × Int)) (rest f la m : Int), vs = [.ref p, .int f, .int la, .int m] ∧ CalAt C H p rows rest ∧ Cal.Pos rows ∧ Cal.tot rows < 2 ^ 62 ∧ rows.length ≤ 280 ∧ NewCal C H Q (Cal.chgd rows rest f la (sg * m)) rest
theorem G_Calendar_fewer (T : Txt K mg) : FnOk P w K mg base CX0 10 T.f_Calendar_fewer T.fd_Calendar_fewer ["self", "first", "last", "many"] (sp_fewer T.C_Calendar (-1)) := by
  refine T.d_Calendar_fewer.F.ok sc_Calendar_fewer (fun vs H Q E h => ?_) (fun cdv A outer s H vs Q E hr h => ?_)
  · obtain ⟨p, rows, rest, f, la, by_, rfl, _⟩ := h; rfl
  · obtain ⟨p, rows, rest, f, la, m, rfl, ca, hpos, htot, h28, k⟩ := h
    refine ⟨_, (pss_one (ps_ret (pe_call (G_changed_calendar T) (hr.mono (by decide)) (by rfl) T.d_changed_calendar.g T.d_changed_calendar.F.kp T.d_changed_calendar.b .nil pass0 (pa_cons (pv 0) (pa_cons (pv 1) (pa_cons (pv 2) (pa_cons (pe_un un_neg (pv 3)) pa_nil))))))), ?_⟩
    rw [show (-1 : Int) * m = -m by omega] at k
    exact ⟨_, rfl, _, rfl, _, rfl, _, rfl, _, rfl, p, rows, rest, f, la, -m, rfl, ca, hpos, htot, h28, k⟩
theorem G_Calendar_more (T : Txt K mg) : FnOk P w K mg base CX0 10 T.f_Calendar_more T.fd_Calendar_more ["self", "first", "last", "many"] (sp_fewer T.C_Calendar 1) := by
  refine T.d_Calendar_more.F.ok sc_Calendar_more (fun vs H Q E h => ?_) (fun cdv A outer s H vs Q E hr h => ?_)
  · obtain ⟨p, rows, rest, f, la, by_, rfl, _⟩ := h; rfl
  · obtain ⟨p, rows, rest, f, la, m, rfl, ca, hpos, htot, h28, k⟩ := h
    refine ⟨_, (pss_one (ps_ret (pe_call (G_changed_calendar T) (hr.mono (by decide)) (by rfl) T.d_changed_calendar.g T.d_changed_calendar.F.kp T.d_changed_calendar.b .nil pass0 (pa_cons (pv 0) (pa_cons (pv 1) (pa_cons (pv 2) (pa_cons (pv 3) pa_nil))))))), ?_⟩
    rw [Int.one_mul] at k
    exact ⟨_, rfl, _, rfl, _, rfl, _, rfl, p, rows, rest, f, la, m, rfl, ca, hpos, htot, h28, k⟩
def sp_widened (C : Addr) : Sp := fun vs H Q _ => ∃ (p : Addr) (rows : List (Int × Int)) (rest m : Int), vs = [.ref p, .int m] ∧ CalAt C H p rows rest ∧ rows.length ≤ 900 ∧ NewCal C H Q (Cal.kform (rest + m) (Cal.wide rows m)) (rest + m)
theorem G_Calendar_widened (T : Txt K mg) : FnOk P w K mg base CX0 9 T.f_Calendar_widened T.fd_Calendar_widened ["self", "many"] (sp_widened T.C_Calendar) := by
  refine T.d_Calendar_widened.F.ok sc_Calendar_widened (fun vs H Q E h => ?_) (fun cdv A outer s H vs Q E hr h => ?_)
  · obtain ⟨p, rows, rest, m, rfl, _⟩ := h; rfl
  · obtain ⟨p, rows, rest, m, rfl, ca, h9, k⟩ := h
    obtain ⟨dx, l, vs, h1, h2, h3⟩ := ca.ob
    have hl := h3.len
    refine ⟨_, (pss_cons (ps_setComp (i := 2) sc_Calendar_widened.nd rfl (by rfl) (loc := ["turns", "machines"]) (free := ["many"]) (fr := [1]) rfl (compScope_of (sc := defScope s_Calendar_widened) (N := (["self", "many", "rows"] : List Str)) rfl rfl (by decide +kernel)) (pi_list (pe_fld (pv 0) rfl)) (fun _ _ _ _ _ => (pgT (K := K) 2 rfl rfl (pgs_cons (pgc 0 (["turns", "machines", "many"] : List Str) (by decide +kernel) rfl rfl (Or.inl rfl) rfl) (pgs_cons (pgc 1 (["turns", "machines", "many"] : List Str) (by decide +kernel) rfl rfl (Or.inl rfl) rfl) pgs_nil)))) (fun _ _ _ _ _ => pts_nil) (fun _ _ _ _ _ => (pe_tup (pa_cons (pv 0) (pa_cons (pe_op op_add (pv 1) (pv 2)) pa_nil))))) (pss_one (ps_ret (pe_call (G_calendar_beyond_bounds T) (hr.mono (by decide)) (by rfl) T.d_calendar_beyond_bounds.g T.d_calendar_beyond_bounds.F.kp T.d_calendar_beyond_bounds.b .nil pass0 (pa_cons (pv 2) (pa_cons (pe_op op_add (pe_fld (pv 0) rfl) (pv 1)) pa_nil)))))), ?_⟩
    refine ⟨_, rfl, p, T.C_Calendar, dx, _, _, rfl, h1, T.cl_Calendar, T.na_stretches, cf_s _ _, l, rfl, ⟨vs, SqL.of h2⟩, fun D hD => ?_⟩
    refine comp_list (K := K) (a := l) (xs := vs) (fun i acc σ H2 => H2 D = some (.lst acc) ∧ Rows H2 acc (Cal.wide (rows.take i) m) ∧ Same H H2 ∧ acc.length = i ∧ ∃ v1 v2, σ = [v1, v2, some (.int m)])
      (by exact ⟨upd_same, Rows.nil, same_upd hD, rfl, _, _, rfl⟩) (fun i acc σ H2 h => h.1) (fun i acc σ H2 _ h => SqL.of (h.2.2.1 _ _ h2)) ?_ ?_
    · rintro i x acc σ H2 hi ⟨hD2, hRa, s2, hal, v1, v2, rfl⟩
      obtain ⟨q, u, ep, rfl, hu⟩ := h3.get hi
      have hil : i < vs.length := (List.getElem?_eq_some_iff.mp hi).1
      refine ⟨u, _, rfl, SqT.of (s2 _ _ hu), rfl, _, _, rfl, _, _, rfl, rfl, ?_⟩
      refine ⟨_, rfl, _, rfl, _, rfl, _, _, rfl, rfl, by show 2 ≤ sizeLine; decide, fun u2 hu2 => ?_⟩
      have hA : (upd H2 u2 (.tup [.int q.1, .int (q.2 + m)])) D = some (.lst acc) := by rw [upd_ne (ne_of_none hD2 hu2)]; exact hD2
      refine ⟨hA, small1000 (by omega), upd_same, ?_, fun b o e => ?_, by rw [List.length_append, hal]; rfl, _, _, rfl⟩
      · have e : Cal.wide (rows.take (i + 1)) m = Cal.wide (rows.take i) m ++ [(q.1, q.2 + m)] := by
          unfold Cal.wide
          rw [List.take_add_one, ep, List.map_append]; rfl
        rw [e]
        exact Rows.stay hA ((hRa.mono (same_upd hu2)).snoc (p := (q.1, q.2 + m)) upd_same)
      · rw [upd_ne (ne_of_none e hD), upd_ne (ne_of_none (s2 b o e) hu2)]; exact s2 b o e
    · rintro acc σ H2 ⟨hD2, hRa, s2, hal, v1, v2, rfl⟩
      rw [hl, List.take_length] at hRa
      have wl : (Cal.wide rows m).length = rows.length := by unfold Cal.wide; rw [List.length_map]
      refine ⟨_, rfl, _, rfl, p, T.C_Calendar, dx, _, _, rfl, s2 _ _ h1, T.cl_Calendar, T.na_beyond, cf_b _ _, _, rfl, _, _, rfl, rfl, D, acc, Cal.wide rows m, _, rfl, SqL.of hD2, hRa, by omega, fun x H5 hx s5 ca5 => ?_⟩
      exact k x H5 (s2.free hx) (s2.trans s5) ca5
end
end My

set_option Elab.async false
set_option linter.all false
set_option maxRecDepth 100000
set_option maxHeartbeats 4000000
namespace My
open PySem L2
section
variable {P : Program} {w : World} {K : PySem.W.Frag} {mg : Str → Option Value} {base : Heap}
/-! ### the law's own defs -/
def cell (ns : List Int) (k : Int) : Int := ns.getD k.toNat 0
def sp_cell_at (K : PySem.W.Frag) : Sp := fun vs H Q _ => ∃ (a : Addr) (ns : List Int) (k : Int), vs = [.ref a, .int k] ∧ SqL K H a (ns.map V.int) ∧ 0 ≤ k ∧ Q (.int (cell ns k)) H
theorem G_law_cell_at (T : Txt K mg) : FnOk P w K mg base CX0 1 T.f_law_cell_at T.fd_law_cell_at ["_law_script", "_law_k"] (sp_cell_at K) := by
  refine T.d_law_cell_at.F.ok sc_law_cell_at (fun vs H Q E h => ?_) (fun cdv A outer s H vs Q E hr h => ?_)
  · obtain ⟨a, ns, k, rfl, _⟩ := h; rfl
  · obtain ⟨a, ns, k, rfl, hS, hk, q⟩ := h
    refine ⟨_, (pss_cons (ps_if (pt_cmpR op_lt (pv 1) (pe_callB call_len_seq (by rfl) T.n_len PySem.boot_len (pa_cons (pv 0) pa_nil)) (nomark _)) (pss_one (ps_ret (pe_ix ix_list (pv 0) (pv 1) (fun _ _ => rfl)))) pss_nil) (pss_one (ps_ret pe_int))), ?_⟩
    refine ⟨_, rfl, _, rfl, a, _, rfl, .inl hS, _, _, rfl, rfl, _, rfl, ?_⟩
    refine ite2 (fun c => ?_) (fun c => ?_)
    · have c' := of_decide_eq_true c
      rw [List.length_map] at c'
      have hkn : k.toNat < ns.length := by omega
      refine ⟨_, rfl, _, rfl, a, _, k, .int (cell ns k), rfl, rfl, hS, ?_, q⟩
      have := atI_nat (xs := ns.map V.int) (j := k.toNat) (v := .int (cell ns k)) (by rw [List.getElem?_map]; unfold cell; simp [hkn])
      rw [Int.toNat_of_nonneg hk] at this
      exact this
    · have c' : ¬ k < ((ns.map V.int).length : Int) := fun z => c (decide_eq_true z)
      rw [List.length_map] at c'
      have : cell ns k = 0 := by
        unfold cell
        rw [List.getD_eq_getElem?_getD, List.getElem?_eq_none (by omega)]; rfl
      rw [this] at q
      exact q
def sp_whole : Sp := fun vs H Q _ => ∃ i j : Int, vs = [.int i, .int j] ∧ Q (.bl (decide (V.int i = V.int j))) H
theorem G_law_whole (T : Txt K mg) : FnOk P w K mg base CX0 1 T.f_law_whole T.fd_law_whole ["_law_found", "_law_due"] sp_whole := by
  refine T.d_law_whole.F.ok sc_law_whole (fun vs H Q E h => ?_) (fun cdv A outer s H vs Q E hr h => ?_)
  · obtain ⟨i, j, rfl, _⟩ := h; rfl
  · obtain ⟨i, j, rfl, k⟩ := h
    refine ⟨_, (pss_one (ps_ret (pe_and (pe_callB call_isinst (by rfl) T.n_isinstance PyProof.Rows.boot_isinstance (pa_cons (pv 0) (pa_cons (pe_bltn (v := .ty "int") (by rfl) T.n_int PyProof.Rows.boot_int rfl) pa_nil))) (pe_and (pe_not (pe_callB call_isinst (by rfl) T.n_isinstance PyProof.Rows.boot_isinstance (pa_cons (pv 0) (pa_cons (pe_bltn (v := .ty "bool") (by rfl) T.n_bool PyProof.Rows.boot_bool rfl) pa_nil)))) (pe_one (pe_cmpR op_eq (pv 0) (pv 1) (nomark _))))))), ?_⟩
    refine ⟨_, rfl, _, _, _, true, rfl, TyOf.int i, rfl, true, rfl, iteT ?_⟩
    refine ⟨_, rfl, _, _, _, false, rfl, TyOf.int i, rfl, false, rfl, true, rfl, iteT ?_⟩
    exact ⟨_, rfl, _, rfl, rfl, k⟩
/-- two lists of the same rows -/
def sp_pairs : Sp := fun vs H Q _ => ∃ (a b : Addr) (xs ys : List V) (rows : List (Int × Int)), vs = [.ref a, .ref b] ∧ H a = some (.lst xs) ∧ Rows H xs rows ∧ H b = some (.lst ys) ∧ Rows H ys rows ∧ ∀ H', Same H H' → Q (.bl true) H'
theorem G_law_pairs (T : Txt K mg) : FnOk P w K mg base CX0 2 T.f_law_pairs T.fd_law_pairs ["_law_found", "_law_due"] sp_pairs := by
  refine T.d_law_pairs.F.ok sc_law_pairs (fun vs H Q E h => ?_) (fun cdv A outer s H vs Q E hr h => ?_)
  · obtain ⟨a, b, xs, ys, rows, rfl, _⟩ := h; rfl
  · obtain ⟨a, b, xs, ys, rows, rfl, ha, hRa, hb, hRb, k⟩ := h
    have la := hRa.len
    have lb := hRb.len
    refine ⟨_, (pss_cons (ps_if (PW.pt (pw_or (pt_not (pt_val (pe_callB call_isinst (by rfl) T.n_isinstance PyProof.Rows.boot_isinstance (pa_cons (pv 0) (pa_cons (pe_bltn (v := .ty "list") (by rfl) T.n_list PyProof.Rows.boot_list rfl) pa_nil))))) (pw_or1 (pt_cmpR op_ne (pe_callB call_len_seq (by rfl) T.n_len PySem.boot_len (pa_cons (pv 0) pa_nil)) (pe_callB call_len_seq (by rfl) T.n_len PySem.boot_len (pa_cons (pv 1) pa_nil)) (nomark _))))) (pss_one (ps_ret pe_bl)) pss_nil) (pss_cons (ps_for PassesOwn.never rfl (pi_zip rfl T.n_zip (pa_cons (pv 0) (pa_cons (pv 1) pa_nil))) (pg_tup rfl (pgs_cons (pg_name (i := 2) sc_law_pairs.nd rfl (Or.inl rfl)) (pgs_cons (pg_name (i := 3) sc_law_pairs.nd rfl (Or.inl rfl)) pgs_nil))) (pss_cons (ps_if (PW.pt (pw_or (pt_not (pt_val (pe_callB call_isinst (by rfl) T.n_isinstance PyProof.Rows.boot_isinstance (pa_cons (pv 2) (pa_cons (pe_bltn (v := .ty "tuple") (by rfl) T.n_tuple PyProof.Rows.boot_tuple rfl) pa_nil))))) (pw_or1 (pt_cmpR op_ne (pe_callB call_len_seq (by rfl) T.n_len PySem.boot_len (pa_cons (pv 2) pa_nil)) pe_int (nomark _))))) (pss_one (ps_ret pe_bl)) pss_nil) (pss_one (ps_if (PW.pt (pw_or (pt_not (pt_val (pe_call (G_law_whole T) (hr.mono (by decide)) (by rfl) T.d_law_whole.g T.d_law_whole.F.kp T.d_law_whole.b .nil pass0 (pa_cons (pe_ix ix_tup (pv 2) pe_int (fun _ _ => rfl)) (pa_cons (pe_ix ix_tup (pv 3) pe_int (fun _ _ => rfl)) pa_nil))))) (pw_or1 (pt_not (pt_val (pe_call (G_law_whole T) (hr.mono (by decide)) (by rfl) T.d_law_whole.g T.d_law_whole.F.kp T.d_law_whole.b .nil pass0 (pa_cons (pe_ix ix_tup (pv 2) pe_int (fun _ _ => rfl)) (pa_cons (pe_ix ix_tup (pv 3) pe_int (fun _ _ => rfl)) pa_nil)))))))) (pss_one (ps_ret pe_bl)) pss_nil)))) (pss_one (ps_ret pe_bl)))), ?_⟩
    refine ⟨_, rfl, _, _, _, true, rfl, TyOf.lst ha, rfl, true, rfl, iteF ?_⟩
    refine ⟨_, rfl, a, _, rfl, .inl (SqL.of ha), _, rfl, b, _, rfl, .inl (SqL.of hb), rfl, _, rfl, ?_⟩
    have e : (V.int (xs.length : Int)) = V.int (ys.length : Int) := by rw [la, lb]
    refine iteNS e ?_
    refine ⟨_, rfl, _, rfl, a, b, xs, ys, rfl, SqL.of ha, SqL.of hb, ?_⟩
    -- for one, other in zip(found, due)
    refine ⟨fun i m σ H2 => m = xs.length - i ∧ i ≤ xs.length ∧ Same H H2 ∧ ∃ v1 v2, σ = [some (.ref a), some (.ref b), v1, v2], ⟨xs.length, by simp, Nat.zero_le _, Same.refl H, none, none, rfl⟩, ?_⟩
    rintro i m σ H2 ⟨rfl, hi, s2, v1, v2, rfl⟩
    by_cases hlt : i < xs.length
    · obtain ⟨p, t, ep, et, ht⟩ := hRa.get (i := i) (x := xs[i]) (by simp [hlt])
      obtain ⟨p', t', ep', et', ht'⟩ := hRb.get (i := i) (x := ys[i]'(by omega)) (by simp [show i < ys.length by omega])
      rw [ep] at ep'
      cases ep'
      refine .inr ⟨⟨xs, ys, xs[i], ys[i]'(by omega), SqL.of (s2 _ _ ha), SqL.of (s2 _ _ hb), by simp [hlt], by simp [show i < ys.length by omega]⟩, fun σ' H' => Same H H' ∧ ∃ v1 v2, σ' = [some (.ref a), some (.ref b), v1, v2], fun σ' H' ⟨s3, v1, v2, e⟩ => ⟨xs.length - (i + 1), by omega, rfl, hlt, s3, v1, v2, e⟩, ?_⟩
      rintro x H' ⟨u, x1, y1, rfl, hu, rfl, hx, hy⟩
      have hx1 := hx xs (SqL.of (s2 _ _ ha))
      have hy1 := hy ys (SqL.of (s2 _ _ hb))
      rw [List.getElem?_eq_getElem hlt, et] at hx1
      rw [List.getElem?_eq_getElem (show i < ys.length by omega), et'] at hy1
      cases hx1
      cases hy1
      have s3 : Same H (upd H2 u (.tup [.ref t, .ref t'])) := s2.trans (same_upd hu)
      have ht3 := s3 _ _ ht
      have ht3' := s3 _ _ ht'
      refine ⟨u, _, rfl, SqT.of upd_same, rfl, _, _, rfl, _, _, rfl, rfl, ?_⟩
      refine ⟨_, rfl, _, _, _, true, rfl, TyOf.tup ht3, rfl, true, rfl, iteF ?_⟩
      refine ⟨_, rfl, t, _, rfl, .inr (SqT.of ht3), rfl, _, rfl, iteF ?_⟩
      refine ⟨_, rfl, t, _, _, _, rfl, rfl, SqT.of ht3, rfl, _, rfl, t', _, _, _, rfl, rfl, SqT.of ht3', rfl, p.1, p.1, rfl, true, ?_, iteF ?_⟩
      · rw [decide_eq_true rfl]
      refine ⟨_, rfl, t, _, _, _, rfl, rfl, SqT.of ht3, rfl, _, rfl, t', _, _, _, rfl, rfl, SqT.of ht3', rfl, p.2, p.2, rfl, true, ?_, iteF ?_⟩
      · rw [decide_eq_true rfl]
      exact ⟨s3, _, _, rfl⟩
    · refine .inl ⟨⟨xs, ys, SqL.of (s2 _ _ ha), SqL.of (s2 _ _ hb), .inl (by omega)⟩, ?_⟩
      exact k H2 s2
/-- some number -/
def sp_mixed : Sp := fun vs H Q _ => ∃ c k : Int, vs = [.int c, .int k] ∧ ∀ m : Int, 0 ≤ m → m < 2147483647 → Q (.int m) H
theorem G_law_mixed (T : Txt K mg) : FnOk P w K mg base CX0 1 T.f_law_mixed T.fd_law_mixed ["_law_cell", "_law_k"] sp_mixed := by
  refine T.d_law_mixed.F.ok sc_law_mixed (fun vs H Q E h => ?_) (fun cdv A outer s H vs Q E hr h => ?_)
  · obtain ⟨i, j, rfl, _⟩ := h; rfl
  · obtain ⟨c, k, rfl, q⟩ := h
    refine ⟨_, (pss_cons (ps_set (i := 2) sc_law_mixed.nd rfl (Or.inl rfl) (pe_op op_mod (pe_op op_add (pe_op op_mul (pe_op op_mod (pv 0) pe_int) pe_int) (pe_op op_mul pe_int (pv 1))) pe_int)) (pss_one (ps_ret (pe_op op_mod (pe_op op_mul (pv 2) (pv 2)) pe_int)))), ?_⟩
    refine ⟨_, rfl, _, _, rfl, rfl, (by show (0 : Int) < 2147483647; decide), _, _, rfl, rfl, .inr ⟨by decide, by decide⟩, _, rfl, _, _, rfl, rfl, .inl ⟨by decide, by decide⟩, _, _, rfl, rfl, _, _, rfl, rfl, (by show (0 : Int) < 2147483647; decide), ?_⟩
    have n0 : 0 ≤ (c % 2147483647 * 48271 + 69621 * k) % 2147483647 := Int.emod_nonneg _ (by decide)
    have n1 : (c % 2147483647 * 48271 + 69621 * k) % 2147483647 < 2147483647 := Int.emod_lt_of_pos _ (by decide)
    refine ⟨_, rfl, _, rfl, _, _, rfl, rfl, .inr ⟨by omega, by omega⟩, _, _, rfl, rfl, (by show (0 : Int) < 2147483629; decide), ?_⟩
    refine q _ (Int.emod_nonneg _ (by decide)) (Int.lt_trans (Int.emod_lt_of_pos _ (by decide)) (by decide))
theorem paired_int {Hj : Hp} (l : List Int) : Paired (IsI Hj) (l.map V.int) l := by
  induction l with
  | nil => exact .nil
  | cons x l ih => exact .cons rfl ih
theorem getI {s : List Int} {j : Int} (h0 : 0 ≤ j) (h1 : j < s.length) : atI (s.map V.int) j = some (.int (s.getD j.toNat 0)) := by
  have := atI_nat (xs := s.map V.int) (j := j.toNat) (v := .int (s.getD j.toNat 0)) (by rw [List.getElem?_map, List.getElem?_eq_getElem (by omega), List.getD_eq_getElem?_getD, List.getElem?_eq_getElem (by omega)]; rfl)
  rw [Int.toNat_of_nonneg h0] at this
  exact this
theorem getLst {s : List Int} (h : s.length = 67) : atI (s.map V.int) (-1) = some (.int (s.getD 66 0)) := by
  have hne : s.map V.int ≠ [] := fun e => by rw [List.map_eq_nil_iff] at e; rw [e] at h; cases h
  rw [atI_lastE _ hne, List.getLast_eq_getElem]
  congr 1
  rw [List.getElem_map, List.getD_eq_getElem?_getD, List.getElem?_eq_getElem (by omega)]
  simp only [List.length_map, h]; rfl
theorem cut_map (ts : List Int) (lo hi : Option Int) : cutV (ts.map V.int) lo hi = ((ts.drop (HT.sIx ts.length 0 lo)).take (HT.sIx ts.length ts.length hi - HT.sIx ts.length 0 lo)).map V.int := by
  unfold cutV
  rw [List.length_map, ← List.map_drop, ← List.map_take]
theorem sIx_nat {n : Nat} {d : Nat} {j : Int} (h0 : 0 ≤ j) (h1 : j ≤ n) : HT.sIx n d (some j) = j.toNat := by
  simp only [HT.sIx]
  rw [if_neg (by omega)]
  omega
theorem cut_mid (ts : List Int) (f la : Int) (h0 : 0 ≤ f) (h1 : f ≤ ts.length) (h2 : 0 ≤ la) (h3 : la ≤ ts.length) : cutV (ts.map V.int) (some f) (some la) = ((ts.drop f.toNat).take (la.toNat - f.toNat)).map V.int := by
  rw [cut_map, sIx_nat h0 h1, sIx_nat h2 h3]
def sp_lrows (K : PySem.W.Frag) : Sp := fun vs H Q _ => ∃ (d : Addr) (s : List Int) (rest : Int), vs = [.ref d] ∧ SqL K H d (s.map V.int) ∧ s.length = 67 ∧ s.getD 66 0 = rest ∧
  ∀ (q l : Addr) (zs : List V) (H' : Hp), H q = none → Same H H' → H' q = some (.lst [.ref l, .int (Cal.endN s rest 67)]) → H' l = some (.lst zs) → Rows H' zs (Cal.grp 0 (s.take (Cal.endN s rest 67))) → Q (.ref q) H'
theorem endN_go {s : List Int} {rest : Int} {e : Nat} (h : 0 < e) (hs : s.getD (e - 1) 0 = rest) : Cal.endN s rest (e - 1) = Cal.endN s rest e := by
  obtain ⟨n, rfl⟩ : ∃ n, e = n + 1 := ⟨e - 1, by omega⟩
  show _ = if s.getD n 0 = rest then Cal.endN s rest n else n + 1
  rw [if_pos (show s.getD n 0 = rest from hs)]; rfl
theorem endN_stop {s : List Int} {rest : Int} {e : Nat} (h : 0 < e → s.getD (e - 1) 0 ≠ rest) : Cal.endN s rest e = e := by
  cases e with
  | zero => rfl
  | succ n =>
    show (if s.getD n 0 = rest then Cal.endN s rest n else n + 1) = _
    rw [if_neg (show ¬ s.getD n 0 = rest from h (by omega))]
theorem drop_take_cons {s : List Int} {e i : Nat} (h : i < e) (he : e ≤ s.length) : (s.take e).drop i = s.getD i 0 :: (s.take e).drop (i + 1) := by
  refine drop_cons ?_
  rw [List.getElem?_take_of_lt h, List.getElem?_eq_getElem (by omega), List.getD_eq_getElem?_getD, List.getElem?_eq_getElem (by omega)]; rfl
theorem G_law_rows (T : Txt K mg) : FnOk P w K mg base CX0 1 T.f_law_rows T.fd_law_rows ["_law_some"] (sp_lrows K) := by
  refine T.d_law_rows.F.ok sc_law_rows (fun vs H Q E h => ?_) (fun cdv A outer s0 H vs Q E hr h => ?_)
  · obtain ⟨d, s, rest, rfl, _⟩ := h; rfl
  · obtain ⟨d, s, rest, rfl, hS, hl67, hlast, k⟩ := h
    refine ⟨_, (pss_cons (ps_set (i := 1) sc_law_rows.nd rfl (Or.inl rfl) (pe_lst pa_nil)) (pss_cons (ps_set (i := 2) sc_law_rows.nd rfl (Or.inl rfl) pe_int) (pss_cons (ps_set (i := 3) sc_law_rows.nd rfl (Or.inl rfl) (pe_callB call_len_seq (by rfl) T.n_len PySem.boot_len (pa_cons (pv 0) pa_nil))) (pss_cons (ps_while PassesOwn.never (PW.pt (pw_and (pt_cmpR op_gt (pv 3) pe_int (nomark _)) (pw_and1 (pt_cmpR op_eq (pe_ix ix_list (pv 0) (pe_op op_sub (pv 3) pe_int) (fun _ _ => rfl)) (pe_ix ix_list (pv 0) (pe_un un_neg pe_int) (fun _ _ => rfl)) (nomark _))))) (pss_one (ps_set (i := 3) sc_law_rows.nd rfl (Or.inl rfl) (pe_op op_sub (pv 3) pe_int)))) (pss_cons (ps_for PassesOwn.never rfl (pi_range1 rfl T.n_range (pa_cons (pv 3) pa_nil)) (pg_name (i := 4) sc_law_rows.nd rfl (Or.inl rfl)) (pss_cons (ps_set (i := 2) sc_law_rows.nd rfl (Or.inl rfl) (pe_op op_add (pv 2) pe_int)) (pss_one (ps_if (PW.pt (pw_or (pt_cmpR op_eq (pe_op op_add (pv 4) pe_int) (pv 3) (nomark _)) (pw_or1 (pt_cmpR op_ne (pe_ix ix_list (pv 0) (pe_op op_add (pv 4) pe_int) (fun _ _ => rfl)) (pe_ix ix_list (pv 0) (pv 4) (fun _ _ => rfl)) (nomark _))))) (pss_cons (ps_expr (pe_bm PySem.F.plainAttrs_list PySem.F.slot_list_append PySem.F.type_list_append mt_append (pv 1) (pa_cons (pe_tup (pa_cons (pv 2) (pa_cons (pe_ix ix_list (pv 0) (pv 4) (fun _ _ => rfl)) pa_nil))) pa_nil))) (pss_one (ps_set (i := 2) sc_law_rows.nd rfl (Or.inl rfl) pe_int))) pss_nil)))) (pss_one (ps_ret (pe_lst (pa_cons (pv 1) (pa_cons (pv 3) pa_nil)))))))))), ?_⟩
    refine ⟨by show 0 ≤ sizeLine; decide, fun l hl => ?_⟩
    have s1 : Same H (upd H l (.lst [])) := same_upd hl
    have kl : (upd H l (.lst [])) l = some (.lst []) := upd_same
    generalize upd H l (.lst []) = H1 at s1 kl ⊢
    refine ⟨_, rfl, d, _, rfl, .inl (s1.seq hS), ?_⟩
    refine ⟨fun m σ H2 => ∃ e : Nat, m = e ∧ e ≤ 67 ∧ σ = [some (.ref d), some (.ref l), some (.int 0), some (.int e), none] ∧ H2 = H1 ∧ Cal.endN s rest e = Cal.endN s rest 67, ⟨67, 67, rfl, Nat.le_refl _, ?_, rfl, rfl⟩, ?_⟩
    · rw [List.length_map, hl67]; rfl
    rintro m σ H2 ⟨e, rfl, he, rfl, rfl, hE⟩
    have hS2 := s1.seq hS
    refine ⟨_, rfl, _, _, rfl, rfl, _, rfl, ?_⟩
    refine ite2 (fun c => ?_) (fun c => ?_)
    · have c' : (0 : Int) < m := of_decide_eq_true c
      refine ⟨_, rfl, _, rfl, _, _, rfl, rfl, d, _, (m : Int) - 1, _, rfl, rfl, hS2, getI (by omega) (by omega), _, rfl, 1, rfl, d, _, -1, _, rfl, rfl, hS2, getLst hl67, rfl, _, rfl, ?_⟩
      rw [hlast, show ((m : Int) - 1).toNat = m - 1 by omega]
      refine ite2 (fun c2 => ?_) (fun c2 => ?_)
      · have c2' : s.getD (m - 1) 0 = rest := by
          have := of_decide_eq_true c2
          cases this; rfl
        refine ⟨fun σ' H' => ∃ e : Nat, e < m ∧ e ≤ 67 ∧ σ' = [some (.ref d), some (.ref l), some (.int 0), some (.int e), none] ∧ H' = H2 ∧ Cal.endN s rest e = Cal.endN s rest 67, fun σ' H' ⟨e, h1, h2, h3, h4, h5⟩ => ⟨e, h1, e, rfl, h2, h3, h4, h5⟩, ?_⟩
        refine ⟨_, rfl, _, _, rfl, rfl, ?_⟩
        refine ⟨m - 1, by omega, by omega, ?_, rfl, by rw [endN_go (by omega) c2', hE]⟩
        rw [show ((m - 1 : Nat) : Int) = (m : Int) - 1 by omega]; rfl
      · have hm : Cal.endN s rest m = m := endN_stop fun _ e => c2 (decide_eq_true (by rw [e]))
        rw [← hE, hm] at k
        refine ⟨_, rfl, _, rfl, by omega, by omega, ?_⟩
        rw [Int.toNat_natCast]
        refine for_range (lo := 0) (n := m) (fun i σ H3 => ∃ (zs : List V) (R : List (Int × Int)) (n : Int) (v4 : Option V), σ = [some (.ref d), some (.ref l), some (.int n), some (.int m), v4] ∧ Same H H3 ∧ H3 l = some (.lst zs) ∧ Rows H3 zs R ∧ zs.length ≤ i ∧ R ++ Cal.grp n ((s.take m).drop i) = Cal.grp 0 (s.take m))
          (by exact ⟨[], [], 0, _, rfl, s1, kl, Rows.nil, Nat.le_refl _, rfl⟩) ?_ ?_
        · rintro i σ H3 hi ⟨zs, R, n, v4, rfl, s3, kl3, hz, hzl, hg⟩
          rw [drop_take_cons hi (by omega)] at hg
          have hS3 := s3.seq hS
          have gi := getI (s := s) (j := 0 + (i : Int)) (by omega) (by omega)
          rw [show (0 + (i : Int)).toNat = i by omega] at gi
          have app : ∀ (v : V), Cal.grp n (s.getD i 0 :: (s.take m).drop (i + 1)) = (n + 1, s.getD i 0) :: Cal.grp 0 ((s.take m).drop (i + 1)) → ∀ u, H3 u = none → ∃ (zs' : List V) (R : List (Int × Int)) (n' : Int) (v4 : Option V), ([some (.ref d), some (.ref l), some (.int 0), some (.int m), some v] : St) = [some (.ref d), some (.ref l), some (.int n'), some (.int m), v4] ∧ Same H (upd (upd H3 u (.tup [.int (n + 1), .int (s.getD i 0)])) l (.lst (zs ++ [.ref u]))) ∧ (upd (upd H3 u (.tup [.int (n + 1), .int (s.getD i 0)])) l (.lst (zs ++ [.ref u]))) l = some (.lst zs') ∧ Rows (upd (upd H3 u (.tup [.int (n + 1), .int (s.getD i 0)])) l (.lst (zs ++ [.ref u]))) zs' R ∧ zs'.length ≤ i + 1 ∧ R ++ Cal.grp n' ((s.take m).drop (i + 1)) = Cal.grp 0 (s.take m) := fun v eg u hu => by
            rw [eg] at hg
            have hA : (upd H3 u (.tup [.int (n + 1), .int (s.getD i 0)])) l = some (.lst zs) := by rw [upd_ne (ne_of_none kl3 hu)]; exact kl3
            exact ⟨zs ++ [.ref u], R ++ [(n + 1, s.getD i 0)], 0, _, rfl, same_set (s3.trans (same_upd hu)) hl, upd_same, Rows.stay hA ((hz.mono (same_upd hu)).snoc (p := (n + 1, s.getD i 0)) upd_same), by rw [List.length_append, List.length_singleton]; omega, by rw [← hg, List.append_assoc]; rfl⟩
          refine ⟨_, rfl, _, _, rfl, rfl, ?_⟩
          refine ⟨_, rfl, _, _, rfl, rfl, _, rfl, rfl, _, rfl, ?_⟩
          refine ite2 (fun c1 => ?_) (fun c1 => ?_)
          · have c1' : i + 1 = m := by
              have := of_decide_eq_true c1
              injection this with this
              omega
            refine iteT ?_
            refine ⟨_, rfl, .inl ⟨rfl, _, SqL.of kl3⟩, _, rfl, _, rfl, _, rfl, d, _, _, _, rfl, rfl, hS3, gi, by show 2 ≤ sizeLine; decide, fun u hu => ?_⟩
            refine ⟨l, zs, _, rfl, rfl, by rw [upd_ne (ne_of_none kl3 hu)]; exact kl3, small1000 (by omega), ?_⟩
            refine app _ ?_ u hu
            rw [List.drop_eq_nil_of_le (by rw [List.length_take]; omega)]; rfl
          · have c1' : i + 1 < m := by
              have : i + 1 ≠ m := fun z => c1 (decide_eq_true (by rw [← z]; simp))
              omega
            have gj := getI (s := s) (j := 0 + (i : Int) + 1) (by omega) (by omega)
            rw [show (0 + (i : Int) + 1).toNat = i + 1 by omega] at gj
            refine ⟨_, rfl, _, rfl, _, _, rfl, rfl, d, _, _, _, rfl, rfl, hS3, gj, _, rfl, _, rfl, d, _, _, _, rfl, rfl, hS3, gi, rfl, _, rfl, ?_⟩
            have hd2 := drop_take_cons (s := s) (i := i + 1) c1' (by omega)
            refine ite2 (fun c3 => ?_) (fun c3 => ?_)
            · have c3' : ¬ s.getD (i + 1) 0 = s.getD i 0 := fun z => by rw [z] at c3; simp at c3
              refine ⟨_, rfl, .inl ⟨rfl, _, SqL.of kl3⟩, _, rfl, _, rfl, _, rfl, d, _, _, _, rfl, rfl, hS3, gi, by show 2 ≤ sizeLine; decide, fun u hu => ?_⟩
              refine ⟨l, zs, _, rfl, rfl, by rw [upd_ne (ne_of_none kl3 hu)]; exact kl3, small1000 (by omega), ?_⟩
              refine app _ ?_ u hu
              rw [hd2]
              simp only [Cal.grp]
              rw [if_neg c3']
            · have c3' : s.getD (i + 1) 0 = s.getD i 0 := by
                by_cases z : s.getD (i + 1) 0 = s.getD i 0
                · exact z
                · exfalso; apply c3; simp only [Bool.not_eq_true']; exact decide_eq_false fun e => z (by injection e)
              refine ⟨zs, R, n + 1, _, rfl, s3, kl3, hz, by omega, ?_⟩
              rw [← hg, hd2]
              simp only [Cal.grp]
              rw [if_pos c3']
        · rintro σ H3 ⟨zs, R, n, v4, rfl, s3, kl3, hz, hzl, hg⟩
          rw [List.drop_eq_nil_of_le (by rw [List.length_take]; omega)] at hg
          simp only [Cal.grp, List.append_nil] at hg
          rw [hg] at hz
          refine ⟨_, rfl, _, rfl, by show 2 ≤ sizeLine; decide, fun q hq => ?_⟩
          have s4 := same_upd (o := .lst [.ref l, .int m]) hq
          exact k q l zs _ (s3.free hq) (s3.trans s4) upd_same (s4 _ _ kl3) (hz.mono s4)
    · have hm : Cal.endN s rest m = m := endN_stop fun h => absurd (decide_eq_true (show (0 : Int) < m by omega)) c
      refine iteF ?_
      rw [← hE, hm] at k
      refine ⟨_, rfl, _, rfl, by omega, by omega, ?_⟩
      rw [Int.toNat_natCast]
      refine for_range (lo := 0) (n := m) (fun i σ H3 => ∃ (zs : List V) (R : List (Int × Int)) (n : Int) (v4 : Option V), σ = [some (.ref d), some (.ref l), some (.int n), some (.int m), v4] ∧ Same H H3 ∧ H3 l = some (.lst zs) ∧ Rows H3 zs R ∧ zs.length ≤ i ∧ R ++ Cal.grp n ((s.take m).drop i) = Cal.grp 0 (s.take m))
        (by exact ⟨[], [], 0, _, rfl, s1, kl, Rows.nil, Nat.le_refl _, rfl⟩) ?_ ?_
      · rintro i σ H3 hi ⟨zs, R, n, v4, rfl, s3, kl3, hz, hzl, hg⟩
        rw [drop_take_cons hi (by omega)] at hg
        have hS3 := s3.seq hS
        have gi := getI (s := s) (j := 0 + (i : Int)) (by omega) (by omega)
        rw [show (0 + (i : Int)).toNat = i by omega] at gi
        have app : ∀ (v : V), Cal.grp n (s.getD i 0 :: (s.take m).drop (i + 1)) = (n + 1, s.getD i 0) :: Cal.grp 0 ((s.take m).drop (i + 1)) → ∀ u, H3 u = none → ∃ (zs' : List V) (R : List (Int × Int)) (n' : Int) (v4 : Option V), ([some (.ref d), some (.ref l), some (.int 0), some (.int m), some v] : St) = [some (.ref d), some (.ref l), some (.int n'), some (.int m), v4] ∧ Same H (upd (upd H3 u (.tup [.int (n + 1), .int (s.getD i 0)])) l (.lst (zs ++ [.ref u]))) ∧ (upd (upd H3 u (.tup [.int (n + 1), .int (s.getD i 0)])) l (.lst (zs ++ [.ref u]))) l = some (.lst zs') ∧ Rows (upd (upd H3 u (.tup [.int (n + 1), .int (s.getD i 0)])) l (.lst (zs ++ [.ref u]))) zs' R ∧ zs'.length ≤ i + 1 ∧ R ++ Cal.grp n' ((s.take m).drop (i + 1)) = Cal.grp 0 (s.take m) := fun v eg u hu => by
          rw [eg] at hg
          have hA : (upd H3 u (.tup [.int (n + 1), .int (s.getD i 0)])) l = some (.lst zs) := by rw [upd_ne (ne_of_none kl3 hu)]; exact kl3
          exact ⟨zs ++ [.ref u], R ++ [(n + 1, s.getD i 0)], 0, _, rfl, same_set (s3.trans (same_upd hu)) hl, upd_same, Rows.stay hA ((hz.mono (same_upd hu)).snoc (p := (n + 1, s.getD i 0)) upd_same), by rw [List.length_append, List.length_singleton]; omega, by rw [← hg, List.append_assoc]; rfl⟩
        refine ⟨_, rfl, _, _, rfl, rfl, ?_⟩
        refine ⟨_, rfl, _, _, rfl, rfl, _, rfl, rfl, _, rfl, ?_⟩
        refine ite2 (fun c1 => ?_) (fun c1 => ?_)
        · have c1' : i + 1 = m := by
            have := of_decide_eq_true c1
            injection this with this
            omega
          refine iteT ?_
          refine ⟨_, rfl, .inl ⟨rfl, _, SqL.of kl3⟩, _, rfl, _, rfl, _, rfl, d, _, _, _, rfl, rfl, hS3, gi, by show 2 ≤ sizeLine; decide, fun u hu => ?_⟩
          refine ⟨l, zs, _, rfl, rfl, by rw [upd_ne (ne_of_none kl3 hu)]; exact kl3, small1000 (by omega), ?_⟩
          refine app _ ?_ u hu
          rw [List.drop_eq_nil_of_le (by rw [List.length_take]; omega)]; rfl
        · have c1' : i + 1 < m := by
            have : i + 1 ≠ m := fun z => c1 (decide_eq_true (by rw [← z]; simp))
            omega
          have gj := getI (s := s) (j := 0 + (i : Int) + 1) (by omega) (by omega)
          rw [show (0 + (i : Int) + 1).toNat = i + 1 by omega] at gj
          refine ⟨_, rfl, _, rfl, _, _, rfl, rfl, d, _, _, _, rfl, rfl, hS3, gj, _, rfl, _, rfl, d, _, _, _, rfl, rfl, hS3, gi, rfl, _, rfl, ?_⟩
          have hd2 := drop_take_cons (s := s) (i := i + 1) c1' (by omega)
          refine ite2 (fun c3 => ?_) (fun c3 => ?_)
          · have c3' : ¬ s.getD (i + 1) 0 = s.getD i 0 := fun z => by rw [z] at c3; simp at c3
            refine ⟨_, rfl, .inl ⟨rfl, _, SqL.of kl3⟩, _, rfl, _, rfl, _, rfl, d, _, _, _, rfl, rfl, hS3, gi, by show 2 ≤ sizeLine; decide, fun u hu => ?_⟩
            refine ⟨l, zs, _, rfl, rfl, by rw [upd_ne (ne_of_none kl3 hu)]; exact kl3, small1000 (by omega), ?_⟩
            refine app _ ?_ u hu
            rw [hd2]
            simp only [Cal.grp]
            rw [if_neg c3']
          · have c3' : s.getD (i + 1) 0 = s.getD i 0 := by
              by_cases z : s.getD (i + 1) 0 = s.getD i 0
              · exact z
              · exfalso; apply c3; simp only [Bool.not_eq_true']; exact decide_eq_false fun e => z (by injection e)
            refine ⟨zs, R, n + 1, _, rfl, s3, kl3, hz, by omega, ?_⟩
            rw [← hg, hd2]
            simp only [Cal.grp]
            rw [if_pos c3']
      · rintro σ H3 ⟨zs, R, n, v4, rfl, s3, kl3, hz, hzl, hg⟩
        rw [List.drop_eq_nil_of_le (by rw [List.length_take]; omega)] at hg
        simp only [Cal.grp, List.append_nil] at hg
        rw [hg] at hz
        refine ⟨_, rfl, _, rfl, by show 2 ≤ sizeLine; decide, fun q hq => ?_⟩
        have s4 := same_upd (o := .lst [.ref l, .int m]) hq
        exact k q l zs _ (s3.free hq) (s3.trans s4) upd_same (s4 _ _ kl3) (hz.mono s4)
end
end My

set_option Elab.async false
set_option linter.all false
set_option maxRecDepth 100000
set_option maxHeartbeats 4000000
namespace My
open PySem L2
section
variable {P : Program} {w : World} {K : PySem.W.Frag} {mg : Str → Option Value} {base : Heap}
def bnd (N : Int) (s : List Int) : Prop := ∀ v ∈ s, 0 ≤ v ∧ v ≤ N
theorem sum_le {N : Int} (hN : 0 ≤ N) : ∀ {l : List Int}, bnd N l → 0 ≤ l.sum ∧ l.sum ≤ N * l.length
  | [], _ => by simp
  | x :: r, h => by
    obtain ⟨h1, h2⟩ := h x List.mem_cons_self
    obtain ⟨h3, h4⟩ := sum_le hN (l := r) fun v hv => h v (List.mem_cons_of_mem _ hv)
    rw [List.sum_cons, List.length_cons, Int.natCast_add, Int.mul_add]
    show 0 ≤ _ ∧ _ ≤ N * (r.length : Int) + N * 1
    omega
theorem bnd.sumOk {l : List Int} (h : bnd 1000 l) (hl : l.length ≤ 1000) : SumOk l := by
  obtain ⟨h1, h2⟩ := sum_le (by decide) h
  refine sumOk_of (fun x hx => (h x hx).1) ?_
  omega
theorem bnd.cut {N : Int} {s : List Int} (h : bnd N s) (f n : Nat) : bnd N ((s.drop f).take n) := fun v hv => h v (List.mem_of_mem_drop (List.mem_of_mem_take hv))
theorem sm_small {s : List Int} {R : List (Int × Int)} {rest : Int} (h : Cal.Sm s R rest) (b : bnd 1000 s) : smallM R rest := by
  refine ⟨fun p hp => ?_, ?_, ?_⟩
  · have := b _ (h.mem p hp); omega
  · have := b _ h.rest_mem; omega
  · have := b _ h.rest_mem; omega
theorem dues_succ (s : List Int) (f : Int) (j : Nat) : Cal.dues s f (j + 1) = Cal.dues s f j ++ [f + 1 + (j : Int)].filter fun t => decide (s.getD t.toNat 0 ≠ s.getD (t - 1).toNat 0) := by
  unfold Cal.dues
  rw [List.range_succ, List.map_append, List.filter_append]; rfl
theorem dues_len (s : List Int) (f : Int) (j : Nat) : (Cal.dues s f j).length ≤ j := by
  unfold Cal.dues
  exact Nat.le_trans (List.length_filter_le _ _) (by rw [List.length_map, List.length_range]; exact Nat.le_refl _)
def sp_lsums (C : Addr) : Sp := fun vs H Q _ => ∃ (x d : Addr) (R : List (Int × Int)) (rest : Int) (s : List Int) (n : Int), vs = [.ref x, .ref d, .int n] ∧ CalAt C H x R rest ∧ H d = some (.lst (s.map V.int)) ∧ Cal.Sm s R rest ∧ bnd 1000 s ∧ 0 ≤ n ∧ ∀ H', Same H H' → Q (.bl true) H'
theorem G_law_sums (T : Txt K mg) : FnOk P w K mg base CX0 4 T.f_law_sums T.fd_law_sums ["_law_calendar", "_law_some", "_law_number"] (sp_lsums T.C_Calendar) := by
  refine T.d_law_sums.F.ok sc_law_sums (fun vs H Q E h => ?_) (fun cdv A outer s0 H vs Q E hr h => ?_)
  · obtain ⟨x, d, R, rest, s, n, rfl, _⟩ := h; rfl
  · obtain ⟨x, d, R, rest, s, n, rfl, hC, hd, hSm, hb, hn, k⟩ := h
    have hu := hu_of hr
    have hl := hSm.len
    have hsm := sm_small hSm hb
    have hRl := hSm.len_rows
    refine ⟨_, (pss_cons (ps_set (i := 3) sc_law_sums.nd rfl (Or.inl rfl) (pe_op op_mod (pv 2) pe_int)) (pss_cons (ps_set (i := 4) sc_law_sums.nd rfl (Or.inl rfl) (pe_op op_mod (pe_op op_fdiv (pv 2) pe_int) pe_int)) (pss_cons (ps_if (pt_not (pt_val (pe_call (G_law_whole T) (hr.mono (by decide)) (by rfl) T.d_law_whole.g T.d_law_whole.F.kp T.d_law_whole.b .nil pass0 (pa_cons (pe_meth (pv 0) T.cl_Calendar T.m_Calendar_over (G_Calendar_over T) (hr.mono (by decide)) T.d_Calendar_over.b .nil pass0 (pa_cons (pv 3) (pa_cons (pv 4) pa_nil))) (pa_cons (pe_callB (call_sum rfl) (by rfl) T.n_sum PyProof.Rows.boot_sum (pa_cons (pe_slice sl_list (pv 1) (po_some (pv 3)) (po_some (pe_op op_add (pv 4) pe_int))) pa_nil)) pa_nil))))) (pss_one (ps_ret pe_bl)) pss_nil) (pss_cons (ps_setComp (i := 5) sc_law_sums.nd rfl (by rfl) (loc := ["_law_turn"]) (free := ["_law_some"]) (fr := [1]) rfl (compScope_of (sc := defScope s_law_sums) (N := (["_law_calendar", "_law_some", "_law_number", "_law_first", "_law_last", "_law_due", "_law_spans"] : List Str)) rfl rfl (by decide +kernel)) (pi_range2 rfl T.n_range (pa_cons (pe_op op_add (pv 3) pe_int) (pa_cons (pe_op op_add (pv 4) pe_int) pa_nil))) (fun _ _ _ _ _ => (pgc 0 (["_law_turn", "_law_some"] : List Str) (by decide +kernel) rfl rfl (Or.inl rfl) rfl)) (fun _ _ _ _ _ => (pts_one (pt_cmpR op_ne (pe_ix (ix_listK (K := K) rfl) (pv 1) (pv 0) (fun _ _ => rfl)) (pe_ix (ix_listK (K := K) rfl) (pv 1) (pe_op op_sub (pv 0) pe_int) (fun _ _ => rfl)) (nomark _)))) (fun _ _ _ _ _ => (pv 0))) (pss_cons (ps_if (pt_cmpR (op_neL eqR_int hu) (pe_meth (pv 0) T.cl_Calendar T.m_Calendar_changes (G_Calendar_changes T) (hr.mono (by decide)) T.d_Calendar_changes.b .nil pass0 (pa_cons (pv 3) (pa_cons (pv 4) pa_nil))) (pv 5) (nomark _)) (pss_one (ps_ret pe_bl)) pss_nil) (pss_cons (ps_set (i := 6) sc_law_sums.nd rfl (Or.inl rfl) (pe_lst (pa_cons (pe_tup (pa_cons (pv 3) (pa_cons (pe_op op_add (pv 3) pe_int) pa_nil))) (pa_cons (pe_tup (pa_cons (pe_op op_add (pv 3) pe_int) (pa_cons (pe_op op_add (pv 3) pe_int) pa_nil))) pa_nil)))) (pss_one (ps_ret (pe_call (G_law_whole T) (hr.mono (by decide)) (by rfl) T.d_law_whole.g T.d_law_whole.F.kp T.d_law_whole.b .nil pass0 (pa_cons (pe_meth (pv 0) T.cl_Calendar T.m_Calendar_over_spans (G_Calendar_over_spans T) (hr.mono (by decide)) T.d_Calendar_over_spans.b .nil pass0 (pa_cons (pv 6) pa_nil)) (pa_cons (pe_op op_add (pe_callB (call_sum rfl) (by rfl) T.n_sum PyProof.Rows.boot_sum (pa_cons (pe_slice sl_list (pv 1) (po_some (pv 3)) (po_some (pe_op op_add (pv 3) pe_int))) pa_nil)) (pe_callB (call_sum rfl) (by rfl) T.n_sum PyProof.Rows.boot_sum (pa_cons (pe_slice sl_list (pv 1) (po_some (pe_op op_add (pv 3) pe_int)) (po_some (pe_op op_add (pv 3) pe_int))) pa_nil))) pa_nil))))))))))), ?_⟩
    refine ⟨_, rfl, _, _, rfl, rfl, (by show (0 : Int) < 60; decide), ?_⟩
    refine ⟨_, rfl, _, _, rfl, rfl, dv 60, _, _, rfl, rfl, (by show (0 : Int) < 66; decide), ?_⟩
    have f0 : 0 ≤ n % 60 := Int.emod_nonneg _ (by decide)
    have f1 : n % 60 < 60 := Int.emod_lt_of_pos _ (by decide)
    have l0 : 0 ≤ n / 60 % 66 := Int.emod_nonneg _ (by decide)
    have l1 : n / 60 % 66 < 66 := Int.emod_lt_of_pos _ (by decide)
    dsimp only
    generalize n / 60 % 66 = la at l0 l1 ⊢
    generalize n % 60 = f at f0 f1 ⊢
    have hov : ∀ (f la : Int), 0 ≤ f → f ≤ 67 → -1 ≤ la → la < 67 → Cal.over R rest 0 f la = ((s.drop f.toNat).take ((la + 1).toNat - f.toNat)).sum := fun f la a b c d => by
      by_cases e : la = -1
      · subst e
        rw [Cal.over_ahead _ _ _ _ _ hSm.kept.pos, if_neg (by omega), show (-1 + 1 : Int).toNat - f.toNat = 0 by omega]; rfl
      · have := hSm.over f.toNat la.toNat (by omega) (by omega)
        rw [Int.toNat_of_nonneg a, Int.toNat_of_nonneg (by omega)] at this
        rw [this, show (la + 1).toNat = la.toNat + 1 by omega]
    obtain ⟨dx, fl, vs, o1, _, _⟩ := hC.ob
    refine ⟨_, rfl, x, dx, _, rfl, o1, cf_no _ _ (by decide +kernel) (by decide +kernel), _, rfl, _, rfl, x, R, rest, f, la, rfl, hC, hsm, _, rfl, _, rfl, f, rfl, _, rfl, _, _, rfl, rfl, la + 1, rfl, d, _, rfl, SqL.of hd, fun q1 hq1 => ?_⟩
    rw [cut_mid s f (la + 1) f0 (by omega) (by omega) (by omega)]
    have s1 := same_upd (o := .lst (((s.drop f.toNat).take ((la + 1).toNat - f.toNat)).map V.int)) hq1
    refine ⟨q1, _, rfl, SqL.of upd_same, (hb.cut _ _).sumOk (by rw [List.length_take, List.length_drop]; omega), _, _, rfl, true, ?_, iteF ?_⟩
    · rw [hov f la f0 (by omega) (by omega) (by omega), decide_eq_true rfl]
    generalize upd H q1 (.lst (((s.drop f.toNat).take ((la + 1).toNat - f.toNat)).map V.int)) = H1 at s1 ⊢
    have hd1 := s1 _ _ hd
    -- due
    refine ⟨_, rfl, _, _, rfl, rfl, _, rfl, _, _, rfl, rfl, _, _, rfl, ⟨by omega, by omega, by omega, by omega⟩, fun D hD => ?_⟩
    rw [show la + 1 - (f + 1) = la - f by omega]
    refine comp_range (lo := f + 1) (n := (la - f).toNat) (fun j acc σ H2 => H2 D = some (.lst acc) ∧ acc = (Cal.dues s f j).map V.int ∧ Same H1 H2 ∧ ∃ v, σ = [v, some (.ref d)])
      (by exact ⟨upd_same, rfl, same_upd hD, _, rfl⟩) (fun j acc σ H2 h => h.1) ?_ ?_
    · rintro j acc σ H2 hj ⟨hD2, eacc, s2, v, rfl⟩
      have hal : acc.length ≤ j := by rw [eacc, List.length_map]; exact dues_len _ _ _
      rw [dues_succ, List.map_append, ← eacc]
      have hd2 := s2 _ _ hd1
      refine ⟨_, rfl, _, rfl, d, _, _, _, rfl, rfl, SqL.of hd2, getI (by omega) (by omega), _, rfl, _, rfl, _, _, rfl, rfl, d, _, _, _, rfl, rfl, SqL.of hd2, getI (by omega) (by omega), rfl, _, rfl, ?_⟩
      refine ite2 (fun c => ?_) (fun c => ?_)
      · have c' : s.getD (f + 1 + (j : Int)).toNat 0 ≠ s.getD (f + 1 + (j : Int) - 1).toNat 0 := fun z => by rw [z] at c; simp at c
        refine ⟨_, rfl, hD2, small1000 (by omega), upd_same, ?_, same_set s2 hD, _, rfl⟩
        rw [List.filter_cons_of_pos (by exact decide_eq_true c'), List.filter_nil]; rfl
      · have c' : s.getD (f + 1 + (j : Int)).toNat 0 = s.getD (f + 1 + (j : Int) - 1).toNat 0 := by
          by_cases z : s.getD (f + 1 + (j : Int)).toNat 0 = s.getD (f + 1 + (j : Int) - 1).toNat 0
          · exact z
          · exfalso; apply c; simp only [Bool.not_eq_true']; exact decide_eq_false fun e => z (by injection e)
        refine ⟨hD2, ?_, s2, _, rfl⟩
        rw [List.filter_cons_of_neg (by exact fun z => of_decide_eq_true z c'), List.filter_nil, List.map_nil, List.append_nil]
    · rintro acc σ H2 ⟨hD2, eacc, s2, v, rfl⟩
      subst eacc
      have s02 := s1.trans s2
      have ech : (Cal.stops R 0).filter (between f la) = Cal.dues s f (la - f).toNat := hSm.changes f la f0 (by omega)
      refine ⟨_, rfl, x, dx, _, rfl, s02 _ _ o1, cf_no _ _ (by decide +kernel) (by decide +kernel), _, rfl, _, rfl, x, R, rest, f, la, rfl, hC.mono s02, by omega, fun m H3 hm s3 km => ?_⟩
      rw [ech] at km
      refine ⟨_, rfl, m, D, _, _, _, _, rfl, rfl, SqL.of km, SqL.of (s3 _ _ hD2), paired_int _, paired_int _, false, by simp, iteF ?_⟩
      have s03 := s02.trans s3
      -- spans
      refine ⟨_, rfl, _, rfl, _, _, rfl, rfl, by show 2 ≤ sizeLine; decide, fun u1 hu1 => ?_⟩
      have e4 := same_upd (o := .tup [.int f, .int (f + 2)]) hu1
      refine ⟨_, rfl, _, _, rfl, rfl, _, rfl, _, _, rfl, rfl, by show 2 ≤ sizeLine; decide, fun u2 hu2 => ?_⟩
      have e5 := same_upd (o := .tup [.int (f + 4), .int (f + 5)]) hu2
      refine ⟨by show 2 ≤ sizeLine; decide, fun q hq => ?_⟩
      have e6 := same_upd (o := .lst [.ref u1, .ref u2]) hq
      have s6 : Same H3 (upd (upd (upd H3 u1 (.tup [.int f, .int (f + 2)])) u2 (.tup [.int (f + 4), .int (f + 5)])) q (.lst [.ref u1, .ref u2])) := (e4.trans e5).trans e6
      have kq : (upd (upd (upd H3 u1 (.tup [.int f, .int (f + 2)])) u2 (.tup [.int (f + 4), .int (f + 5)])) q (.lst [.ref u1, .ref u2])) q = some (.lst [.ref u1, .ref u2]) := upd_same
      have g1 := e6 _ _ (e5 _ _ (upd_same (H := H3) (a := u1) (o := .tup [.int f, .int (f + 2)])))
      have g2 := e6 _ _ (upd_same (a := u2) (o := .tup [.int (f + 4), .int (f + 5)]))
      have hS6 : Rows (upd (upd (upd H3 u1 (.tup [.int f, .int (f + 2)])) u2 (.tup [.int (f + 4), .int (f + 5)])) q (.lst [.ref u1, .ref u2])) [.ref u1, .ref u2] [(f, f + 2), (f + 4, f + 5)] := .cons ⟨u1, rfl, g1⟩ (.cons ⟨u2, rfl, g2⟩ .nil)
      generalize upd (upd (upd H3 u1 (.tup [.int f, .int (f + 2)])) u2 (.tup [.int (f + 4), .int (f + 5)])) q (.lst [.ref u1, .ref u2]) = H6 at s6 kq hS6 ⊢
      have s06 := s03.trans s6
      have esum : (([(f, f + 2), (f + 4, f + 5)] : List (Int × Int)).map fun z => Cal.over R rest 0 z.1 z.2) = [((s.drop f.toNat).take ((f + 3).toNat - f.toNat)).sum, ((s.drop (f + 4).toNat).take ((f + 6).toNat - (f + 4).toNat)).sum] := by
        simp only [List.map_cons, List.map_nil]
        rw [hov f (f + 2) (by omega) (by omega) (by omega) (by omega), hov (f + 4) (f + 5) (by omega) (by omega) (by omega) (by omega), show f + 2 + 1 = f + 3 by omega, show f + 5 + 1 = f + 6 by omega]
      have b1 := sum_le (by decide) (hb.cut f.toNat ((f + 3).toNat - f.toNat))
      have b2 := sum_le (by decide) (hb.cut (f + 4).toNat ((f + 6).toNat - (f + 4).toNat))
      have n1 : ((s.drop f.toNat).take ((f + 3).toNat - f.toNat)).length ≤ 67 := by rw [List.length_take, List.length_drop]; omega
      have n2 : ((s.drop (f + 4).toNat).take ((f + 6).toNat - (f + 4).toNat)).length ≤ 67 := by rw [List.length_take, List.length_drop]; omega
      refine ⟨_, rfl, x, dx, _, rfl, s06 _ _ o1, cf_no _ _ (by decide +kernel) (by decide +kernel), _, rfl, x, q, _, [(f, f + 2), (f + 4, f + 5)], R, rest, rfl, hC.mono s06, hsm, SqL.of kq, hS6, by show 2 ≤ 900; decide, ?_, fun H7 s7 => ?_⟩
      · rw [esum]
        intro j hj
        have hj' : j < 2 := hj
        match j, hj' with
        | 0, _ => simp [InLong]; omega
        | 1, _ => simp [InLong]; omega
      have s07 := s06.trans s7
      rw [esum]
      have hd7 := s07 _ _ hd
      refine ⟨_, rfl, _, rfl, f, rfl, _, rfl, _, _, rfl, rfl, f + 3, rfl, d, _, rfl, SqL.of hd7, fun q8 hq8 => ?_⟩
      rw [cut_mid s f (f + 3) f0 (by omega) (by omega) (by omega)]
      have e8 := same_upd (o := .lst (((s.drop f.toNat).take ((f + 3).toNat - f.toNat)).map V.int)) hq8
      refine ⟨q8, _, rfl, SqL.of upd_same, (hb.cut _ _).sumOk (by omega), ?_⟩
      have hd8 := e8 _ _ hd7
      generalize upd H7 q8 (.lst (((s.drop f.toNat).take ((f + 3).toNat - f.toNat)).map V.int)) = H8 at e8 hd8 ⊢
      refine ⟨_, rfl, _, rfl, _, _, rfl, rfl, f + 4, rfl, _, rfl, _, _, rfl, rfl, f + 6, rfl, d, _, rfl, SqL.of hd8, fun q9 hq9 => ?_⟩
      rw [cut_mid s (f + 4) (f + 6) (by omega) (by omega) (by omega) (by omega)]
      have e9 := same_upd (o := .lst (((s.drop (f + 4).toNat).take ((f + 6).toNat - (f + 4).toNat)).map V.int)) hq9
      refine ⟨q9, _, rfl, SqL.of upd_same, (hb.cut _ _).sumOk (by omega), _, _, rfl, rfl, _, _, rfl, ?_⟩
      rw [decide_eq_true (by simp)]
      exact k _ ((s07.trans e8).trans e9)
theorem G_law_right (T : Txt K mg) : FnOk P w K mg base CX0 5 T.f_law_right T.fd_law_right ["_law_calendar", "_law_some", "_law_number"] (sp_lsums T.C_Calendar) := by
  refine T.d_law_right.F.ok sc_law_right (fun vs H Q E h => ?_) (fun cdv A outer s0 H vs Q E hr h => ?_)
  · obtain ⟨x, d, R, rest, s, n, rfl, _⟩ := h; rfl
  · obtain ⟨x, d, R, rest, s, n, rfl, hC, hd, hSm, hb, hn, k⟩ := h
    have hl := hSm.len
    have hRl := hSm.len_rows
    have htot := hSm.tot
    have he := Cal.endN_le s rest 67
    refine ⟨_, (pss_cons (ps_asg (pe_call (G_law_rows T) (hr.mono (by decide)) (by rfl) T.d_law_rows.g T.d_law_rows.F.kp T.d_law_rows.b .nil pass0 (pa_cons (pv 1) pa_nil)) (pg_lst rfl (pgs_cons (pg_name (i := 3) sc_law_right.nd rfl (Or.inl rfl)) (pgs_cons (pg_name (i := 4) sc_law_right.nd rfl (Or.inl rfl)) pgs_nil)))) (pss_cons (ps_if (PW.pt (pw_or (pt_not (pt_val (pe_call (G_law_pairs T) (hr.mono (by decide)) (by rfl) T.d_law_pairs.g T.d_law_pairs.F.kp T.d_law_pairs.b .nil pass0 (pa_cons (pe_meth0 (pv 0) T.cl_Calendar T.m_Calendar_rows (G_Calendar_rows T) (hr.mono (by decide)) T.d_Calendar_rows.b .nil pass0) (pa_cons (pv 3) pa_nil))))) (pw_or1 (pt_not (pt_val (pe_call (G_law_whole T) (hr.mono (by decide)) (by rfl) T.d_law_whole.g T.d_law_whole.F.kp T.d_law_whole.b .nil pass0 (pa_cons (pe_meth0 (pv 0) T.cl_Calendar T.m_Calendar_end (G_Calendar_end T) (hr.mono (by decide)) T.d_Calendar_end.b .nil pass0) (pa_cons (pv 4) pa_nil)))))))) (pss_one (ps_ret pe_bl)) pss_nil) (pss_cons (ps_if (PW.pt (pw_or (pt_not (pt_val (pe_call (G_law_whole T) (hr.mono (by decide)) (by rfl) T.d_law_whole.g T.d_law_whole.F.kp T.d_law_whole.b .nil pass0 (pa_cons (pe_meth0 (pv 0) T.cl_Calendar T.m_Calendar_rest (G_Calendar_rest T) (hr.mono (by decide)) T.d_Calendar_rest.b .nil pass0) (pa_cons (pe_ix ix_list (pv 1) (pe_un un_neg pe_int) (fun _ _ => rfl)) pa_nil))))) (pw_or1 (pt_not (pt_val (pe_call (G_law_whole T) (hr.mono (by decide)) (by rfl) T.d_law_whole.g T.d_law_whole.F.kp T.d_law_whole.b .nil pass0 (pa_cons (pe_meth (pv 0) T.cl_Calendar T.m_Calendar_at (G_Calendar_at T) (hr.mono (by decide)) T.d_Calendar_at.b .nil pass0 (pa_cons (pe_op op_add (pe_op op_pow pe_int pe_int) (pv 2)) pa_nil)) (pa_cons (pe_ix ix_list (pv 1) (pe_un un_neg pe_int) (fun _ _ => rfl)) pa_nil)))))))) (pss_one (ps_ret pe_bl)) pss_nil) (pss_cons (ps_for PassesOwn.never rfl (pi_range1 rfl T.n_range (pa_cons pe_int pa_nil)) (pg_name (i := 5) sc_law_right.nd rfl (Or.inl rfl)) (pss_one (ps_if (pt_not (pt_val (pe_call (G_law_whole T) (hr.mono (by decide)) (by rfl) T.d_law_whole.g T.d_law_whole.F.kp T.d_law_whole.b .nil pass0 (pa_cons (pe_meth (pv 0) T.cl_Calendar T.m_Calendar_at (G_Calendar_at T) (hr.mono (by decide)) T.d_Calendar_at.b .nil pass0 (pa_cons (pv 5) pa_nil)) (pa_cons (pe_ix ix_list (pv 1) (pv 5) (fun _ _ => rfl)) pa_nil))))) (pss_one (ps_ret pe_bl)) pss_nil))) (pss_one (ps_ret (pe_call (G_law_sums T) (hr.mono (by decide)) (by rfl) T.d_law_sums.g T.d_law_sums.F.kp T.d_law_sums.b .nil pass0 (pa_cons (pv 0) (pa_cons (pv 1) (pa_cons (pv 2) pa_nil)))))))))), ?_⟩
    refine ⟨_, rfl, d, s, rest, rfl, SqL.of hd, hl, hSm.last, fun q l zs H1 hq s1 kq kl hz => ?_⟩
    rw [← hSm.rows] at hz
    refine ⟨q, _, rfl, SqL.of kq, rfl, _, _, rfl, _, _, rfl, rfl, ?_⟩
    obtain ⟨dx, fl, vs, o1, _, _⟩ := hC.ob
    refine ⟨_, rfl, x, dx, _, rfl, s1 _ _ o1, cf_no _ _ (by decide +kernel) (by decide +kernel), x, R, rest, rfl, hC.mono s1, fun l2 ys2 H2 hl2 s2 kl2 hy2 => ?_⟩
    refine ⟨_, rfl, l2, l, ys2, zs, R, rfl, kl2, hy2, s2 _ _ kl, hz.mono s2, fun H3 s3 => ⟨true, rfl, iteF ?_⟩⟩
    have s03 := (s1.trans s2).trans s3
    refine ⟨_, rfl, x, dx, _, rfl, s03 _ _ o1, cf_no _ _ (by decide +kernel) (by decide +kernel), x, R, rest, rfl, hC.mono s03, hSm.kept.pos, by omega, by omega, fun H4 s4 => ⟨_, rfl, _, _, rfl, true, ?_, iteF ?_⟩⟩
    · rw [htot, decide_eq_true rfl]
    have s04 := s03.trans s4
    have hd4 := s04 _ _ hd
    have hC4 := hC.mono s04
    have o4 := s04 _ _ o1
    refine ⟨_, rfl, x, dx, _, rfl, o4, cf_no _ _ (by decide +kernel) (by decide +kernel), x, R, rest, rfl, hC4, _, rfl, 1, rfl, d, _, -1, _, rfl, rfl, SqL.of hd4, getLst hl, _, _, rfl, true, ?_, iteF ?_⟩
    · rw [hSm.last, decide_eq_true rfl]
    refine ⟨_, rfl, x, dx, _, rfl, o4, cf_no _ _ (by decide +kernel) (by decide +kernel), _, _, rfl, rfl, ⟨by decide, by decide, by decide⟩, _, rfl, _, _, rfl, rfl, x, R, rest, _, rfl, hC4, _, rfl, 1, rfl, d, _, -1, _, rfl, rfl, SqL.of hd4, getLst hl, _, _, rfl, true, ?_, iteF ?_⟩
    · have e := hSm.at_ (10 ^ 6 + n).toNat
      rw [Int.toNat_of_nonneg (by omega), Nat.min_eq_right (by omega)] at e
      exact congrArg V.bl (decide_eq_true (congrArg V.int e))
    refine ⟨_, rfl, by decide, by decide, ?_⟩
    refine for_range (lo := 0) (n := (66 : Int).toNat) (fun i σ H5 => ∃ v5, σ = [some (.ref x), some (.ref d), some (.int n), some (.ref l), some (.int (Cal.endN s rest 67)), v5] ∧ H5 = H4)
      (by exact ⟨_, rfl, rfl⟩) ?_ ?_
    · rintro i σ H5 hi ⟨v5, rfl, rfl⟩
      have hi' : i < 66 := hi
      refine ⟨_, rfl, x, dx, _, rfl, o4, cf_no _ _ (by decide +kernel) (by decide +kernel), _, rfl, x, R, rest, _, rfl, hC4, _, rfl, _, rfl, d, _, _, _, rfl, rfl, SqL.of hd4, getI (by omega) (by omega), _, _, rfl, true, ?_, iteF ?_⟩
      · have e := hSm.at_ i
        rw [Nat.min_eq_left (by omega)] at e
        rw [Int.zero_add, e, Int.toNat_natCast, decide_eq_true rfl]
      exact ⟨_, rfl, rfl⟩
    · rintro σ H5 ⟨v5, rfl, rfl⟩
      exact ⟨_, rfl, _, rfl, _, rfl, x, d, R, rest, s, n, rfl, hC4, hd4, hSm, hb, hn, fun H6 s6 => k H6 (s04.trans s6)⟩
end
end My

set_option Elab.async false
set_option linter.all false
set_option maxRecDepth 100000
set_option maxHeartbeats 4000000
namespace My
open PySem L2
section
variable {P : Program} {w : World} {K : PySem.W.Frag} {mg : Str → Option Value} {base : Heap}
theorem cut_to (ts : List Int) (n : Int) (hn : 0 ≤ n) : cutV (ts.map V.int) none (some n) = (ts.take n.toNat).map V.int := by
  rw [cut_map]
  have : HT.sIx ts.length 0 none = 0 := by simp [HT.sIx]
  have h2 : HT.sIx ts.length ts.length (some n) = min n.toNat ts.length := by simp [HT.sIx]; omega
  rw [this, h2, List.drop_zero, Nat.sub_zero]
  congr 1
  rcases Nat.le_total n.toNat ts.length with h | h
  · rw [Nat.min_eq_left h]
  · rw [Nat.min_eq_right h, List.take_length, List.take_of_length_le h]
theorem rep_flat (k : Nat) (v : Int) : (List.replicate k [V.int v]).flatten = (List.replicate k v).map V.int := by
  induction k with
  | zero => rfl
  | succ k ih => rw [List.replicate_succ, List.flatten_cons, ih, List.replicate_succ, List.map_cons]; rfl
theorem tot_le4 {rows : List (Int × Int)} (h : ∀ p ∈ rows, p.1 ≤ 4) : Cal.tot rows ≤ 4 * rows.length := by
  induction rows with
  | nil => exact Int.le_refl _
  | cons p r ih =>
    have h1 := h p List.mem_cons_self
    have h2 := ih fun q hq => h q (List.mem_cons_of_mem _ hq)
    show p.1 + Cal.tot r ≤ _
    rw [List.length_cons]
    omega
theorem exp_bnd {rows : List (Int × Int)} (h : okCal rows) : bnd 16 (Cal.expd rows) := fun v hv => by
  obtain ⟨p, hp, hv⟩ := List.mem_flatMap.mp hv
  rw [List.eq_of_mem_replicate hv]
  exact (h p hp).2.2
def Ent (C : Addr) (N : Int) (H : Hp) (v : V) : Prop := ∃ (q x d : Addr) (R : List (Int × Int)) (rest : Int) (s : List Int), v = .ref q ∧ H q = some (.lst [.ref x, .ref d]) ∧ CalAt C H x R rest ∧ H d = some (.lst (s.map V.int)) ∧ Cal.Sm s R rest ∧ bnd N s
theorem Ent.mono {C : Addr} {N : Int} {H H' : Hp} {v : V} (h : Ent C N H v) (s : Same H H') : Ent C N H' v := by
  obtain ⟨q, x, d, R, rest, z, e, h1, h2, h3, h4, h5⟩ := h
  exact ⟨q, x, d, R, rest, z, e, s _ _ h1, h2.mono s, s _ _ h3, h4, h5⟩
theorem Ent.more {C : Addr} {N M : Int} {H : Hp} {v : V} (h : Ent C N H v) (l : N ≤ M) : Ent C M H v := by
  obtain ⟨q, x, d, R, rest, z, e, h1, h2, h3, h4, h5⟩ := h
  exact ⟨q, x, d, R, rest, z, e, h1, h2, h3, h4, fun u hu => ⟨(h5 u hu).1, Int.le_trans (h5 u hu).2 l⟩⟩
/-- a new entry -/
def NewEnt (C : Addr) (N : Int) (H : Hp) (Q : VK) : Prop := ∀ (q : Addr) (H' : Hp), H q = none → Same H H' → Ent C N H' (.ref q) → Q (.ref q) H'
def sp_lbegun (K : PySem.W.Frag) (C : Addr) : Sp := fun vs H Q _ => ∃ (a : Addr) (ns : List Int), vs = [.ref a] ∧ SqL K H a (ns.map V.int) ∧ NewEnt C 16 H Q
theorem G_law_begun (T : Txt K mg) : FnOk P w K mg base CX0 8 T.f_law_begun T.fd_law_begun ["_law_script"] (sp_lbegun K T.C_Calendar) := by
  refine T.d_law_begun.F.ok sc_law_begun (fun vs H Q E h => ?_) (fun cdv A outer s0 H vs Q E hr h => ?_)
  · obtain ⟨a, ns, rfl, _⟩ := h; rfl
  · obtain ⟨a, ns, rfl, hS, k⟩ := h
    refine ⟨_, (pss_cons (ps_set (i := 1) sc_law_begun.nd rfl (Or.inl rfl) (pe_lst pa_nil)) (pss_cons (ps_set (i := 2) sc_law_begun.nd rfl (Or.inl rfl) (pe_lst pa_nil)) (pss_cons (ps_for PassesOwn.never rfl (pi_range1 rfl T.n_range (pa_cons (pe_op op_mod (pe_call (G_law_cell_at T) (hr.mono (by decide)) (by rfl) T.d_law_cell_at.g T.d_law_cell_at.F.kp T.d_law_cell_at.b .nil pass0 (pa_cons (pv 0) (pa_cons pe_int pa_nil))) pe_int) pa_nil)) (pg_name (i := 3) sc_law_begun.nd rfl (Or.inl rfl)) (pss_cons (ps_set (i := 4) sc_law_begun.nd rfl (Or.inl rfl) (pe_call (G_law_mixed T) (hr.mono (by decide)) (by rfl) T.d_law_mixed.g T.d_law_mixed.F.kp T.d_law_mixed.b .nil pass0 (pa_cons (pe_call (G_law_cell_at T) (hr.mono (by decide)) (by rfl) T.d_law_cell_at.g T.d_law_cell_at.F.kp T.d_law_cell_at.b .nil pass0 (pa_cons (pv 0) (pa_cons pe_int pa_nil))) (pa_cons (pv 3) pa_nil)))) (pss_cons (ps_expr (pe_bm PySem.F.plainAttrs_list PySem.F.slot_list_append PySem.F.type_list_append mt_append (pv 1) (pa_cons (pe_tup (pa_cons (pe_op op_add pe_int (pe_op op_mod (pv 4) pe_int)) (pa_cons (pe_op op_mod (pe_op op_fdiv (pv 4) pe_int) pe_int) pa_nil))) pa_nil))) (pss_one (ps_set (i := 2) sc_law_begun.nd rfl (Or.inl rfl) (pe_op op_cat (pv 2) (pe_op op_rep (pe_lst (pa_cons (pe_op op_mod (pe_op op_fdiv (pv 4) pe_int) pe_int) pa_nil)) (pe_op op_add pe_int (pe_op op_mod (pv 4) pe_int))))))))) (pss_cons (ps_set (i := 5) sc_law_begun.nd rfl (Or.inl rfl) (pe_op op_add pe_int (pe_op op_mod (pe_call (G_law_cell_at T) (hr.mono (by decide)) (by rfl) T.d_law_cell_at.g T.d_law_cell_at.F.kp T.d_law_cell_at.b .nil pass0 (pa_cons (pv 0) (pa_cons pe_int pa_nil))) pe_int))) (pss_one (ps_ret (pe_lst (pa_cons (pe_make T.M_Calendar (G_Calendar_init T) (hr.mono (by decide)) (by rfl) T.g_Calendar T.d_Calendar_init.b .nil pass0 (pa_cons (pv 1) (pa_cons (pv 5) pa_nil))) (pa_cons (pe_op op_cat (pe_slice sl_list (pe_op op_cat (pv 2) (pe_op op_rep (pe_lst (pa_cons (pv 5) pa_nil)) pe_int)) po_none (po_some pe_int)) (pe_lst (pa_cons (pv 5) pa_nil))) pa_nil))))))))), ?_⟩
    refine ⟨by show 0 ≤ sizeLine; decide, fun l hl => ?_⟩
    refine ⟨by show 0 ≤ sizeLine; decide, fun b0 hb0 => ?_⟩
    have e1 : Same H (upd H l (.lst [])) := same_upd hl
    have e2 := same_upd (o := .lst []) hb0
    have s1 := e1.trans e2
    have kl := e2 _ _ (upd_same (H := H) (a := l) (o := .lst []))
    have kb : (upd (upd H l (.lst [])) b0 (.lst [])) b0 = some (.lst []) := upd_same
    have nb : b0 ≠ l := fun e => by rw [e, upd_same] at hb0; cases hb0
    have fb : H b0 = none := e1.free hb0
    generalize upd (upd H l (.lst [])) b0 (.lst []) = H1 at s1 kl kb ⊢
    have hj0 : 0 ≤ cell ns 0 % 13 := Int.emod_nonneg _ (by decide)
    have hj1 : cell ns 0 % 13 < 13 := Int.emod_lt_of_pos _ (by decide)
    refine ⟨_, rfl, a, ns, 0, rfl, s1.seq hS, by decide, _, _, rfl, rfl, (by show (0 : Int) < 13; decide), _, rfl, by omega, by omega, ?_⟩
    refine for_range (lo := 0) (n := (cell ns 0 % 13).toNat) (fun i σ H2 => ∃ (zs : List V) (rows : List (Int × Int)) (b : Addr) (vk vn : Option V), σ = [some (.ref a), some (.ref l), some (.ref b), vk, vn, none] ∧ Same H H2 ∧ H2 l = some (.lst zs) ∧ Rows H2 zs rows ∧ rows.length = i ∧ okCal rows ∧ (∀ p ∈ rows, p.1 ≤ 4) ∧ H2 b = some (.lst ((Cal.expd rows).map V.int)) ∧ b ≠ l)
      (by exact ⟨[], [], b0, _, _, rfl, s1, kl, Rows.nil, rfl, fun _ h => (nomatch h), fun _ h => (nomatch h), kb, nb⟩) ?_ ?_
    · rintro i σ H2 hi ⟨zs, rows, b, vk, vn, rfl, s2, kl2, hR, hlen, hok, h4, kb2, nbl⟩
      have hzl := hR.len
      refine ⟨_, rfl, a, ns, 0, rfl, s2.seq hS, by decide, _, rfl, _, _, rfl, fun m hm0 hm1 => ?_⟩
      have a0 : 0 ≤ m % 4 := Int.emod_nonneg _ (by decide)
      have a1 : m % 4 < 4 := Int.emod_lt_of_pos _ (by decide)
      have a2 : 0 ≤ m / 4 % 17 := Int.emod_nonneg _ (by decide)
      have a3 : m / 4 % 17 < 17 := Int.emod_lt_of_pos _ (by decide)
      refine ⟨_, rfl, .inl ⟨rfl, _, SqL.of kl2⟩, _, rfl, _, _, rfl, rfl, (by show (0 : Int) < 4; decide), _, _, rfl, rfl, _, rfl, _, _, rfl, rfl, dv 4, _, _, rfl, rfl, (by show (0 : Int) < 17; decide), by show 2 ≤ sizeLine; decide, fun u hu => ?_⟩
      have kl3 : (upd H2 u (.tup [.int (1 + m % 4), .int (m / 4 % 17)])) l = some (.lst zs) := by rw [upd_ne (ne_of_none kl2 hu)]; exact kl2
      refine ⟨l, zs, _, rfl, rfl, kl3, small1000 (by omega), ?_⟩
      have s3 := same_upd (o := .tup [.int (1 + m % 4), .int (m / 4 % 17)]) hu
      have sA : Same H (upd (upd H2 u (.tup [.int (1 + m % 4), .int (m / 4 % 17)])) l (.lst (zs ++ [.ref u]))) := same_set (s2.trans s3) hl
      have klA : (upd (upd H2 u (.tup [.int (1 + m % 4), .int (m / 4 % 17)])) l (.lst (zs ++ [.ref u]))) l = some (.lst (zs ++ [.ref u])) := upd_same
      have hRA : Rows (upd (upd H2 u (.tup [.int (1 + m % 4), .int (m / 4 % 17)])) l (.lst (zs ++ [.ref u]))) (zs ++ [.ref u]) (rows ++ [(1 + m % 4, m / 4 % 17)]) := Rows.stay kl3 ((hR.mono s3).snoc (p := (1 + m % 4, m / 4 % 17)) upd_same)
      have kbA : (upd (upd H2 u (.tup [.int (1 + m % 4), .int (m / 4 % 17)])) l (.lst (zs ++ [.ref u]))) b = some (.lst ((Cal.expd rows).map V.int)) := by rw [upd_ne nbl]; exact s3 _ _ kb2
      generalize upd (upd H2 u (.tup [.int (1 + m % 4), .int (m / 4 % 17)])) l (.lst (zs ++ [.ref u])) = H3 at sA klA hRA kbA ⊢
      refine ⟨_, rfl, _, rfl, _, _, rfl, rfl, dv 4, _, _, rfl, rfl, (by show (0 : Int) < 17; decide), by show 1 ≤ sizeLine; decide, fun q1 hq1 => ?_⟩
      have e4 := same_upd (o := .lst [.int (m / 4 % 17)]) hq1
      have k4 : (upd H3 q1 (.lst [.int (m / 4 % 17)])) q1 = some (.lst [.int (m / 4 % 17)]) := upd_same
      generalize upd H3 q1 (.lst [.int (m / 4 % 17)]) = H4 at e4 k4 ⊢
      refine ⟨_, rfl, _, _, rfl, rfl, (by show (0 : Int) < 4; decide), _, _, rfl, rfl, q1, 1 + m % 4, _, rfl, rfl, k4, by omega, by omega, Nat.le_of_lt (small1000 (by show 1 * _ ≤ 1000; omega)), fun q2 hq2 => ?_⟩
      rw [rep_flat]
      have e5 := same_upd (o := .lst ((List.replicate (1 + m % 4).toNat (m / 4 % 17)).map V.int)) hq2
      have k5 : (upd H4 q2 (.lst ((List.replicate (1 + m % 4).toNat (m / 4 % 17)).map V.int))) q2 = some (.lst ((List.replicate (1 + m % 4).toNat (m / 4 % 17)).map V.int)) := upd_same
      generalize upd H4 q2 (.lst ((List.replicate (1 + m % 4).toNat (m / 4 % 17)).map V.int)) = H5 at e5 k5 ⊢
      have hxl := Cal.len_exp rows hok.pos
      have ht4 := tot_le4 h4
      refine ⟨b, q2, _, _, rfl, rfl, e5 _ _ (e4 _ _ kbA), k5, ?_, fun q3 hq3 => ?_⟩
      · rw [List.length_map, List.length_map, List.length_replicate]
        exact Nat.le_of_lt (small1000 (by omega))
      rw [← List.map_append, ← Cal.exp_snoc rows (1 + m % 4, m / 4 % 17)]
      have e6 := (e4.trans e5).trans (same_upd (o := .lst ((Cal.expd (rows ++ [(1 + m % 4, m / 4 % 17)])).map V.int)) hq3)
      have klB := (e4.trans e5) _ _ klA
      refine ⟨zs ++ [.ref u], rows ++ [(1 + m % 4, m / 4 % 17)], q3, _, _, rfl, sA.trans e6, e6 _ _ klA, hRA.mono e6, by rw [List.length_append, List.length_singleton]; omega, fun p hp => ?_, fun p hp => ?_, upd_same, fun e => by rw [e, klB] at hq3; cases hq3⟩
      · rcases List.mem_append.mp hp with hp | hp
        · exact hok p hp
        · rw [List.mem_singleton.mp hp]; exact ⟨by show 1 ≤ 1 + m % 4; omega, by show 1 + m % 4 ≤ 1000000; omega, a2, by show m / 4 % 17 ≤ 16; omega⟩
      · rcases List.mem_append.mp hp with hp | hp
        · exact h4 p hp
        · rw [List.mem_singleton.mp hp]; show 1 + m % 4 ≤ 4; omega
    · rintro σ H2 ⟨zs, rows, b, vk, vn, rfl, s2, kl2, hR, hlen, hok, h4, kb2, nbl⟩
      have hxl := Cal.len_exp rows hok.pos
      have ht4 := tot_le4 h4
      refine ⟨_, rfl, a, ns, 1, rfl, s2.seq hS, by decide, _, _, rfl, rfl, (by show (0 : Int) < 16; decide), _, _, rfl, rfl, ?_⟩
      have r0 : 0 ≤ cell ns 1 % 16 := Int.emod_nonneg _ (by decide)
      have r9 : cell ns 1 % 16 < 16 := Int.emod_lt_of_pos _ (by decide)
      have r1 : 1 ≤ 1 + cell ns 1 % 16 := by omega
      have r2 : 1 + cell ns 1 % 16 ≤ 16 := by omega
      dsimp only
      generalize 1 + cell ns 1 % 16 = rest at r1 r2 ⊢
      refine ⟨_, rfl, _, rfl, ?_⟩
      intro x dx nx ndx nex
      have s3 : Same H2 (upd (upd H2 dx (.own x)) x (.ins T.C_Calendar dx [])) := fun z o e => by
        rw [upd_ne (ne_of_none e nx), upd_ne (ne_of_none e ndx)]
        exact e
      have kx : (upd (upd H2 dx (.own x)) x (.ins T.C_Calendar dx [])) x = some (.ins T.C_Calendar dx []) := upd_same
      generalize upd (upd H2 dx (.own x)) x (.ins T.C_Calendar dx []) = H3 at s3 kx ⊢
      refine ⟨x, dx, l, zs, rows, rest, rfl, kx, s3 _ _ kl2, hR.mono s3, by omega, hok, r1, r2, fun H4 ca kp => ⟨rfl, ?_⟩⟩
      have s4 : Same H2 H4 := fun z o e => kp z o (s3 z o e) (ne_of_none e nx)
      have kb4 := s4 _ _ kb2
      refine ⟨_, rfl, _, rfl, by show 1 ≤ sizeLine; decide, fun q1 hq1 => ?_⟩
      have e5 := same_upd (o := .lst [.int rest]) hq1
      have k5 : (upd H4 q1 (.lst [.int rest])) q1 = some (.lst [.int rest]) := upd_same
      generalize upd H4 q1 (.lst [.int rest]) = H5 at e5 k5 ⊢
      refine ⟨q1, 66, _, rfl, rfl, k5, by decide, by decide, Nat.le_of_lt (small1000 (by show 1 * 66 ≤ 1000; decide)), fun q2 hq2 => ?_⟩
      rw [rep_flat]
      have e6 := same_upd (o := .lst ((List.replicate (66 : Int).toNat rest).map V.int)) hq2
      have k6 : (upd H5 q2 (.lst ((List.replicate (66 : Int).toNat rest).map V.int))) q2 = some (.lst ((List.replicate (66 : Int).toNat rest).map V.int)) := upd_same
      generalize upd H5 q2 (.lst ((List.replicate (66 : Int).toNat rest).map V.int)) = H6 at e6 k6 ⊢
      refine ⟨b, q2, _, _, rfl, rfl, e6 _ _ (e5 _ _ kb4), k6, ?_, fun q3 hq3 => ?_⟩
      · rw [List.length_map, List.length_map, List.length_replicate]
        exact Nat.le_of_lt (small1000 (by show _ + 66 ≤ 1000; omega))
      rw [← List.map_append]
      have e7 := same_upd (o := .lst ((Cal.expd rows ++ List.replicate (66 : Int).toNat rest).map V.int)) hq3
      have k7 : (upd H6 q3 (.lst ((Cal.expd rows ++ List.replicate (66 : Int).toNat rest).map V.int))) q3 = some (.lst ((Cal.expd rows ++ List.replicate (66 : Int).toNat rest).map V.int)) := upd_same
      generalize upd H6 q3 (.lst ((Cal.expd rows ++ List.replicate (66 : Int).toNat rest).map V.int)) = H7 at e7 k7 ⊢
      refine ⟨66, rfl, q3, _, rfl, SqL.of k7, fun q4 hq4 => ?_⟩
      rw [cut_to _ _ (by decide)]
      have e8 := same_upd (o := .lst (((Cal.expd rows ++ List.replicate (66 : Int).toNat rest).take (66 : Int).toNat).map V.int)) hq4
      have k8 : (upd H7 q4 (.lst (((Cal.expd rows ++ List.replicate (66 : Int).toNat rest).take (66 : Int).toNat).map V.int))) q4 = some (.lst (((Cal.expd rows ++ List.replicate (66 : Int).toNat rest).take (66 : Int).toNat).map V.int)) := upd_same
      generalize upd H7 q4 (.lst (((Cal.expd rows ++ List.replicate (66 : Int).toNat rest).take (66 : Int).toNat).map V.int)) = H8 at e8 k8 ⊢
      refine ⟨_, rfl, by show 1 ≤ sizeLine; decide, fun q5 hq5 => ?_⟩
      have e9 := same_upd (o := .lst [.int rest]) hq5
      have k9 : (upd H8 q5 (.lst [.int rest])) q5 = some (.lst [.int rest]) := upd_same
      generalize upd H8 q5 (.lst [.int rest]) = H9 at e9 k9 ⊢
      refine ⟨q4, q5, _, _, rfl, rfl, e9 _ _ k8, k9, ?_, fun q6 hq6 => ?_⟩
      · rw [List.length_map, List.length_take]
        exact Nat.le_of_lt (small1000 (by show min 66 _ + 1 ≤ 1000; omega))
      rw [show ((Cal.expd rows ++ List.replicate (66 : Int).toNat rest).take (66 : Int).toNat).map V.int ++ [V.int rest] = ((Cal.expd rows ++ List.replicate 66 rest).take 66 ++ [rest]).map V.int by rw [List.map_append]; rfl]
      have e10 := same_upd (o := .lst (((Cal.expd rows ++ List.replicate 66 rest).take 66 ++ [rest]).map V.int)) hq6
      have k10 : (upd H9 q6 (.lst (((Cal.expd rows ++ List.replicate 66 rest).take 66 ++ [rest]).map V.int))) q6 = some (.lst (((Cal.expd rows ++ List.replicate 66 rest).take 66 ++ [rest]).map V.int)) := upd_same
      generalize upd H9 q6 (.lst (((Cal.expd rows ++ List.replicate 66 rest).take 66 ++ [rest]).map V.int)) = H10 at e10 k10 ⊢
      refine ⟨by show 2 ≤ sizeLine; decide, fun q7 hq7 => ?_⟩
      have e11 := same_upd (o := .lst [.ref x, .ref q6]) hq7
      have s410 : Same H4 H10 := ((((e5.trans e6).trans e7).trans e8).trans e9).trans e10
      have sF := s2.trans (s4.trans s410)
      refine k q7 _ (sF.free hq7) (sF.trans e11) ⟨q7, x, q6, _, rest, _, rfl, upd_same, (ca.cal.mono s410).mono e11, e11 _ _ k10, Cal.Sm.begun hok.pos (by omega), fun v hv => ?_⟩
      rcases List.mem_append.mp hv with hv | hv
      · rcases List.mem_append.mp (List.mem_of_mem_take hv) with hv | hv
        · exact exp_bnd hok v hv
        · rw [List.eq_of_mem_replicate hv]; omega
      · rw [List.mem_singleton.mp hv]; omega
def sp_ltold (C : Addr) : Sp := fun vs H Q _ => ∃ (x d : Addr) (R : List (Int × Int)) (rest : Int) (s : List Int) (n N : Int), vs = [.ref x, .ref d, .int n] ∧ CalAt C H x R rest ∧ H d = some (.lst (s.map V.int)) ∧ Cal.Sm s R rest ∧ bnd N s ∧ 0 ≤ N ∧ 0 ≤ n ∧ NewEnt C (N + 5) H Q
theorem pick4w {m w : Int} (h0 : 1 ≤ w) (h4 : w ≤ 4) : atI [V.int m, V.int m, V.int (0 - m), V.int (0 - m)] (w - 1) = some (.int (if w < 3 then 1 * m else -1 * m)) := by
  have : w = 1 ∨ w = 2 ∨ w = 3 ∨ w = 4 := by omega
  rcases this with rfl | rfl | rfl | rfl
  · rw [if_pos (by decide), Int.one_mul]; rfl
  · rw [if_pos (by decide), Int.one_mul]; rfl
  · rw [if_neg (by decide), show -1 * m = 0 - m by omega]; rfl
  · rw [if_neg (by decide), show -1 * m = 0 - m by omega]; rfl
theorem getD_set {s : List Int} {i j : Nat} {v : Int} (hi : i < s.length) : (s.set i v).getD j 0 = if i = j then v else s.getD j 0 := by
  rw [List.getD_eq_getElem?_getD, List.getD_eq_getElem?_getD, List.getElem?_set]
  by_cases e : i = j
  · rw [if_pos e, if_pos e, if_pos (by omega)]; rfl
  · rw [if_neg e, if_neg e]
theorem mem_getD {s : List Int} {v : Int} (h : v ∈ s) : ∃ i, i < s.length ∧ s.getD i 0 = v := by
  obtain ⟨i, hi, e⟩ := List.getElem_of_mem h
  exact ⟨i, hi, by rw [List.getD_eq_getElem?_getD, List.getElem?_eq_getElem hi]; exact e⟩
theorem getD_mem {s : List Int} {i : Nat} (h : i < s.length) : s.getD i 0 ∈ s := by
  rw [List.getD_eq_getElem?_getD, List.getElem?_eq_getElem h]; exact List.getElem_mem h
theorem G_law_told (T : Txt K mg) : FnOk P w K mg base CX0 11 T.f_law_told T.fd_law_told ["_law_calendar", "_law_some", "_law_number"] (sp_ltold T.C_Calendar) := by
  refine T.d_law_told.F.ok sc_law_told (fun vs H Q E h => ?_) (fun cdv A outer s0 H vs Q E hr h => ?_)
  · obtain ⟨x, d, R, rest, s, n, N, rfl, _⟩ := h; rfl
  · obtain ⟨x, d, R, rest, s, n, N, rfl, hC, hd, hSm, hb, hN, hn, k⟩ := h
    have hl := hSm.len
    have hRl := hSm.len_rows
    have htot := hSm.tot
    have he := Cal.endN_le s rest 67
    refine ⟨_, (pss_cons (ps_set (i := 3) sc_law_told.nd rfl (Or.inl rfl) (pe_op op_mod (pv 2) pe_int)) (pss_cons (ps_set (i := 4) sc_law_told.nd rfl (Or.inl rfl) (pe_callB (call_max2 rfl) (by rfl) T.n_max PyProof.Rows.boot_max (pa_cons pe_int (pa_cons (pe_op op_add (pe_op op_sub (pv 3) pe_int) (pe_op op_mod (pe_op op_fdiv (pv 2) pe_int) pe_int)) pa_nil)))) (pss_cons (ps_set (i := 5) sc_law_told.nd rfl (Or.inr rfl) (pe_op op_mod (pe_op op_fdiv (pv 2) pe_int) pe_int)) (pss_cons (ps_set (i := 6) sc_law_told.nd rfl (Or.inl rfl) (pe_op op_mod (pe_op op_fdiv (pv 2) pe_int) pe_int)) (pss_cons (ps_set (i := 7) sc_law_told.nd rfl (Or.inl rfl) (pe_callTy call_list_of (by rfl) T.n_list PyProof.Rows.boot_list (pa_cons (pv 1) pa_nil))) (pss_cons (ps_if (pt_cmpR op_eq (pv 6) pe_int (nomark _)) (pss_one (ps_ret (pe_lst (pa_cons (pe_meth (pv 0) T.cl_Calendar T.m_Calendar_widened (G_Calendar_widened T) (hr.mono (by decide)) T.d_Calendar_widened.b .nil pass0 (pa_cons (pv 5) pa_nil)) (pa_cons (pe_comp (loc := ["_law_machines"]) (free := ["_law_many"]) (fr := [5]) rfl (compScope_of (sc := defScope s_law_told) (N := (["_law_calendar", "_law_some", "_law_number", "_law_first", "_law_last", "_law_many", "_law_way", "_law_found", "_law_turn"] : List Str)) rfl rfl (by decide +kernel)) (pi_list (pv 1)) (fun _ _ _ _ _ => (pgc 0 (["_law_machines", "_law_many"] : List Str) (by decide +kernel) rfl rfl (Or.inl rfl) rfl)) (fun _ _ _ _ _ => pts_nil) (fun _ _ _ _ _ => (pe_op op_add (pv 0) (pv 1)))) pa_nil))))) pss_nil) (pss_cons (ps_for PassesOwn.never rfl (pi_range2 rfl T.n_range (pa_cons (pv 3) (pa_cons (pe_op op_add (pv 4) pe_int) pa_nil))) (pg_name (i := 8) sc_law_told.nd rfl (Or.inl rfl)) (pss_one (ps_asg (pe_callB (call_max2 rfl) (by rfl) T.n_max PyProof.Rows.boot_max (pa_cons pe_int (pa_cons (pe_op op_add (pe_ix ix_list (pv 7) (pv 8) (fun _ _ => rfl)) (pe_ix ix_list (pe_lst (pa_cons (pv 5) (pa_cons (pv 5) (pa_cons (pe_op op_sub pe_int (pv 5)) (pa_cons (pe_op op_sub pe_int (pv 5)) pa_nil))))) (pe_op op_sub (pv 6) pe_int) (fun _ _ => rfl))) pa_nil))) (pg_sub (pv 7) (pv 8) set_list)))) (pss_cons (ps_if (pt_cmpR op_lt (pv 6) pe_int (nomark _)) (pss_one (ps_ret (pe_lst (pa_cons (pe_meth (pv 0) T.cl_Calendar T.m_Calendar_more (G_Calendar_more T) (hr.mono (by decide)) T.d_Calendar_more.b .nil pass0 (pa_cons (pv 3) (pa_cons (pv 4) (pa_cons (pv 5) pa_nil)))) (pa_cons (pv 7) pa_nil))))) pss_nil) (pss_one (ps_ret (pe_lst (pa_cons (pe_meth (pv 0) T.cl_Calendar T.m_Calendar_fewer (G_Calendar_fewer T) (hr.mono (by decide)) T.d_Calendar_fewer.b .nil pass0 (pa_cons (pv 3) (pa_cons (pv 4) (pa_cons (pv 5) pa_nil)))) (pa_cons (pv 7) pa_nil))))))))))))), ?_⟩
    refine ⟨_, rfl, _, _, rfl, rfl, (by show (0 : Int) < 50; decide), ?_⟩
    refine ⟨_, rfl, _, _, rfl, rfl, _, rfl, _, _, rfl, rfl, dv 50, _, _, rfl, rfl, (by show (0 : Int) < 12; decide), _, _, rfl, rfl, _, _, rfl, ?_⟩
    rw [max_if]
    refine ⟨_, rfl, _, _, rfl, rfl, dv 600, _, _, rfl, rfl, (by show (0 : Int) < 6; decide), ?_⟩
    refine ⟨_, rfl, _, _, rfl, rfl, dv 3600, _, _, rfl, rfl, (by show (0 : Int) < 5; decide), ?_⟩
    have f0 : 0 ≤ n % 50 := Int.emod_nonneg _ (by decide)
    have f1 : n % 50 < 50 := Int.emod_lt_of_pos _ (by decide)
    have g0 : 0 ≤ n / 50 % 12 := Int.emod_nonneg _ (by decide)
    have g1 : n / 50 % 12 < 12 := Int.emod_lt_of_pos _ (by decide)
    have m0 : 0 ≤ n / 600 % 6 := Int.emod_nonneg _ (by decide)
    have m1 : n / 600 % 6 < 6 := Int.emod_lt_of_pos _ (by decide)
    have w0 : 0 ≤ n / 3600 % 5 := Int.emod_nonneg _ (by decide)
    have w1 : n / 3600 % 5 < 5 := Int.emod_lt_of_pos _ (by decide)
    have l0 : 0 ≤ max 0 (n % 50 - 2 + n / 50 % 12) := by omega
    have l1 : max 0 (n % 50 - 2 + n / 50 % 12) < 66 := by omega
    dsimp only
    generalize max 0 (n % 50 - 2 + n / 50 % 12) = la at l0 l1 ⊢
    generalize n % 50 = f at f0 f1 ⊢
    generalize n / 600 % 6 = m at m0 m1 ⊢
    generalize n / 3600 % 5 = wy at w0 w1 ⊢
    obtain ⟨dx, fl, vs, o1, _, _⟩ := hC.ob
    refine ⟨_, rfl, d, _, rfl, .inl (SqL.of hd), fun qf hqf => ?_⟩
    have s1 := same_upd (o := .lst (s.map V.int)) hqf
    have kf : (upd H qf (.lst (s.map V.int))) qf = some (.lst (s.map V.int)) := upd_same
    generalize upd H qf (.lst (s.map V.int)) = H1 at s1 kf ⊢
    refine ⟨_, rfl, rfl, _, rfl, ?_⟩
    refine ite2 (fun c => ?_) (fun c => ?_)
    · refine ⟨_, rfl, x, dx, _, rfl, s1 _ _ o1, cf_no _ _ (by decide +kernel) (by decide +kernel), _, rfl, x, R, rest, m, rfl, hC.mono s1, by omega, fun x1 H2 hx1 s2 hc2 => ?_⟩
      have hd2 := s2 _ _ (s1 _ _ hd)
      refine ⟨_, rfl, d, rfl, ⟨_, SqL.of hd2⟩, fun D hD => ?_⟩
      refine comp_list (K := K) (a := d) (xs := s.map V.int) (fun j acc σ H3 => H3 D = some (.lst acc) ∧ acc = ((s.take j).map (· + m)).map V.int ∧ Same H2 H3 ∧ ∃ v, σ = [v, some (.int m)])
        (by exact ⟨upd_same, rfl, same_upd hD, _, rfl⟩) (fun j acc σ H3 h => h.1) (fun j acc σ H3 _ h => SqL.of (h.2.2.1 _ _ hd2)) ?_ ?_
      · rintro j y acc σ H3 hj ⟨hD3, eacc, s3, v, rfl⟩
        rw [List.getElem?_map] at hj
        cases et : s[j]? with
        | none => rw [et] at hj; cases hj
        | some t =>
        rw [et] at hj
        cases hj
        have hjl : j < s.length := (List.getElem?_eq_some_iff.mp et).1
        have hal : acc.length ≤ j := by
          rw [eacc, List.length_map, List.length_map, List.length_take]; omega
        refine ⟨_, rfl, _, rfl, _, _, rfl, rfl, hD3, small1000 (by omega), upd_same, ?_, same_set s3 hD, _, rfl⟩
        rw [List.take_add_one, et, List.map_append, List.map_append, ← eacc]; rfl
      · rintro acc σ H3 ⟨hD3, eacc, s3, v, rfl⟩
        rw [List.length_map, List.take_length] at eacc
        subst eacc
        refine ⟨by show 2 ≤ sizeLine; decide, fun q hq => ?_⟩
        have e4 := same_upd (o := .lst [.ref x1, .ref D]) hq
        have sF := (s1.trans s2).trans s3
        refine k q _ (sF.free hq) (sF.trans e4) ⟨q, x1, D, _, rest + m, _, rfl, upd_same, (hc2.mono s3).mono e4, e4 _ _ hD3, hSm.wide m, fun v hv => ?_⟩
        obtain ⟨u, hu, rfl⟩ := List.mem_map.mp hv
        have := hb u hu
        show 0 ≤ u + m ∧ u + m ≤ N + 5
        omega
    · have hw : 1 ≤ wy := by
        have : wy ≠ 0 := fun z => c (decide_eq_true (by rw [z]))
        omega
      refine ⟨_, rfl, _, rfl, _, _, rfl, rfl, _, _, rfl, ⟨by omega, by omega, by omega, by omega⟩, ?_⟩
      refine for_range (lo := f) (n := (la + 1 - f).toNat) (fun i σ H2 => ∃ (z : List Int) (v8 : Option V), σ = [some (.ref x), some (.ref d), some (.int n), some (.int f), some (.int la), some (.int m), some (.int wy), some (.ref qf), v8] ∧ Same H H2 ∧ H2 qf = some (.lst (z.map V.int)) ∧ z.length = 67 ∧ ∀ j : Nat, j < 67 → z.getD j 0 = if f ≤ j ∧ (j : Int) < f + i then max 0 (s.getD j 0 + (if wy < 3 then 1 * m else -1 * m)) else s.getD j 0)
        (by exact ⟨s, _, rfl, s1, kf, hl, fun j hj => by rw [if_neg (by omega)]⟩) ?_ ?_
      · rintro i σ H2 hi ⟨z, v8, rfl, s2, kf2, hzl, hz⟩
        have hj1 : (f + (i : Int)).toNat < 67 := by omega
        have gz := getI (s := z) (j := f + (i : Int)) (by omega) (by omega)
        refine ⟨_, rfl, _, rfl, qf, _, _, _, rfl, rfl, SqL.of kf2, gz, _, rfl, _, rfl, _, rfl, _, _, rfl, rfl, _, rfl, _, _, rfl, rfl, by show 4 ≤ sizeLine; decide, fun ql hql => ?_⟩
        have e3 := same_upd (o := .lst [.int m, .int m, .int (0 - m), .int (0 - m)]) hql
        have k3 : (upd H2 ql (.lst [.int m, .int m, .int (0 - m), .int (0 - m)])) ql = some (.lst [.int m, .int m, .int (0 - m), .int (0 - m)]) := upd_same
        generalize upd H2 ql (.lst [.int m, .int m, .int (0 - m), .int (0 - m)]) = H3 at e3 k3 ⊢
        refine ⟨_, rfl, _, _, rfl, rfl, ql, _, _, _, rfl, rfl, SqL.of k3, pick4w hw (by omega), _, _, rfl, rfl, _, _, rfl, ?_⟩
        rw [max_if]
        have kf3 := e3 _ _ kf2
        refine ⟨_, rfl, _, rfl, qf, _, f + (i : Int), (f + (i : Int)).toNat, rfl, rfl, kf3, ?_, ?_⟩
        · unfold ixN
          rw [if_pos (by omega), if_pos (by rw [List.length_map]; omega)]
        refine ⟨z.set (f + (i : Int)).toNat (max 0 (z.getD (f + (i : Int)).toNat 0 + (if wy < 3 then 1 * m else -1 * m))), _, rfl, same_set (s2.trans e3) hqf, by rw [List.map_set]; exact upd_same, by rw [List.length_set]; exact hzl, fun j hj => ?_⟩
        rw [getD_set (by omega)]
        by_cases ej : (f + (i : Int)).toNat = j
        · rw [if_pos ej, ej, hz j hj, if_neg (show ¬ (f ≤ (j : Int) ∧ (j : Int) < f + (i : Int)) by omega), if_pos (show f ≤ (j : Int) ∧ (j : Int) < f + ((i + 1 : Nat) : Int) by omega)]
        · rw [if_neg ej, hz j hj]
          by_cases cj : f ≤ j ∧ (j : Int) < f + i
          · rw [if_pos cj, if_pos (show f ≤ (j : Int) ∧ (j : Int) < f + ((i + 1 : Nat) : Int) by omega)]
          · rw [if_neg cj, if_neg (show ¬ (f ≤ (j : Int) ∧ (j : Int) < f + ((i + 1 : Nat) : Int)) by omega)]
      · rintro σ H2 ⟨z, v8, rfl, s2, kf2, hzl, hz⟩
        have hz' : ∀ j : Nat, j < 67 → z.getD j 0 = if f ≤ j ∧ (j : Int) ≤ la then max 0 (s.getD j 0 + (if wy < 3 then 1 * m else -1 * m)) else s.getD j 0 := fun j hj => by
          rw [hz j hj]
          by_cases cj : f ≤ j ∧ (j : Int) ≤ la
          · rw [if_pos cj, if_pos (by omega)]
          · rw [if_neg cj, if_neg (by omega)]
        have hbz : bnd (N + 5) z := fun v hv => by
          obtain ⟨j, hj, rfl⟩ := mem_getD hv
          have b := hb _ (getD_mem (s := s) (i := j) (by omega))
          rw [hz' j (by omega)]
          split
          · split <;> omega
          · omega
        refine ⟨_, rfl, _, _, rfl, rfl, _, rfl, ?_⟩
        refine ite2 (fun c3 => ?_) (fun c3 => ?_)
        · have c3' : wy < 3 := of_decide_eq_true c3
          rw [if_pos c3'] at hz'
          refine ⟨_, rfl, x, dx, _, rfl, s2 _ _ o1, cf_no _ _ (by decide +kernel) (by decide +kernel), _, rfl, _, rfl, _, rfl, x, R, rest, f, la, m, rfl, hC.mono s2, hSm.kept.pos, by omega, by omega, fun x1 H3 hx1 s3 hc3 => ?_⟩
          refine ⟨_, rfl, by show 2 ≤ sizeLine; decide, fun q hq => ?_⟩
          have e4 := same_upd (o := .lst [.ref x1, .ref qf]) hq
          have sF := s2.trans s3
          exact k q _ (sF.free hq) (sF.trans e4) ⟨q, x1, qf, _, rest, z, rfl, upd_same, hc3.mono e4, e4 _ _ (s3 _ _ kf2), hSm.chgd f0 l1 hzl hz', hbz⟩
        · have c3' : ¬ wy < 3 := fun y => c3 (decide_eq_true y)
          rw [if_neg c3'] at hz'
          refine ⟨_, rfl, x, dx, _, rfl, s2 _ _ o1, cf_no _ _ (by decide +kernel) (by decide +kernel), _, rfl, _, rfl, _, rfl, x, R, rest, f, la, m, rfl, hC.mono s2, hSm.kept.pos, by omega, by omega, fun x1 H3 hx1 s3 hc3 => ?_⟩
          refine ⟨_, rfl, by show 2 ≤ sizeLine; decide, fun q hq => ?_⟩
          have e4 := same_upd (o := .lst [.ref x1, .ref qf]) hq
          have sF := s2.trans s3
          exact k q _ (sF.free hq) (sF.trans e4) ⟨q, x1, qf, _, rest, z, rfl, upd_same, hc3.mono e4, e4 _ _ (s3 _ _ kf2), hSm.chgd f0 l1 hzl hz', hbz⟩
end
end My

set_option Elab.async false
set_option linter.all false
set_option maxRecDepth 100000
set_option maxHeartbeats 4000000
namespace My
open PySem L2
section
variable {P : Program} {w : World} {K : PySem.W.Frag} {mg : Str → Option Value} {base : Heap}
/-- the heap without one place -/
def ers (kn : Addr) (H : Hp) : Hp := fun b => if b = kn then none else H b
theorem ers_ne {kn b : Addr} {H : Hp} (h : b ≠ kn) : ers kn H b = H b := if_neg h
theorem ers_same (kn : Addr) (H : Hp) : Same (ers kn H) H := fun b o e => by
  by_cases h : b = kn
  · rw [show ers kn H b = none from if_pos h] at e; cases e
  · rw [ers_ne h] at e; exact e
theorem ers_mono {kn : Addr} {H H' : Hp} (s : Same H H') : Same (ers kn H) (ers kn H') := fun b o e => by
  by_cases h : b = kn
  · rw [show ers kn H b = none from if_pos h] at e; cases e
  · rw [ers_ne h] at e ⊢; exact s b o e
theorem ers_upd {kn : Addr} {H : Hp} {o : HO} : ers kn (upd H kn o) = ers kn H := by
  funext b
  by_cases h : b = kn
  · rw [show ers kn H b = none from if_pos h]; exact if_pos h
  · rw [ers_ne h, ers_ne h, upd_ne h]
theorem ers_none {kn : Addr} {H : Hp} (h : H kn = none) : ers kn H = H := by
  funext b
  by_cases e : b = kn
  · rw [e, h]; exact if_pos rfl
  · exact ers_ne e
theorem ers_ent {C : Addr} {N : Int} {H : Hp} {kn q q0 : Addr} {z : List V} {ys : List V} (hk : H kn = some (.lst (.ref q0 :: z))) (h0 : H q0 = some (.lst ys)) (hq : q ≠ kn) (h : Ent C N H (.ref q)) : Ent C N (ers kn H) (.ref q) := by
  obtain ⟨q', x, d, R, rest, s, e, h1, h2, h3, h4, h5⟩ := h
  cases e
  obtain ⟨dx, fl, vs, o1, o2, o3⟩ := h2.ob
  have nx : x ≠ kn := fun e => by rw [e, hk] at o1; cases o1
  have nf : fl ≠ kn := fun e => by
    rw [e, hk] at o2
    cases o2
    obtain ⟨p, t, _, et, ht⟩ := o3.get (i := 0) (x := .ref q0) rfl
    cases et
    rw [h0] at ht; cases ht
  have nd : d ≠ kn := fun e => by
    rw [e, hk] at h3
    have := h4.len
    cases s with
    | nil => cases this
    | cons y s =>
      injection h3 with h3
      injection h3 with h3
      injection h3 with h3
      cases h3
  refine ⟨q, x, d, R, rest, s, rfl, by rw [ers_ne hq]; exact h1, ⟨⟨dx, fl, vs, by rw [ers_ne nx]; exact o1, by rw [ers_ne nf]; exact o2, ?_⟩⟩, by rw [ers_ne nd]; exact h3, h4, h5⟩
  exact Paired.imp' (fun v r u => by
    obtain ⟨t, e, ht⟩ := u
    refine ⟨t, e, ?_⟩
    rw [ers_ne (fun e => by rw [e, hk] at ht; cases ht)]
    exact ht) o3
theorem atI_get {xs : List V} {j : Int} (h0 : 0 ≤ j) (h1 : j < xs.length) : ∃ v, v ∈ xs ∧ atI xs j = some v := by
  have hj : j.toNat < xs.length := by omega
  refine ⟨xs[j.toNat], List.getElem_mem hj, ?_⟩
  have := atI_nat (xs := xs) (j := j.toNat) (v := xs[j.toNat]) (List.getElem?_eq_getElem hj)
  rw [Int.toNat_of_nonneg h0] at this
  exact this
theorem bnd.more {N M : Int} {s : List Int} (h : bnd N s) (l : N ≤ M) : bnd M s := fun v hv => ⟨(h v hv).1, Int.le_trans (h v hv).2 l⟩
theorem at0 {x : V} {r : List V} : atI (x :: r) 0 = some x := atI_nat (xs := x :: r) (j := 0) rfl
theorem at1 {x y : V} {r : List V} : atI (x :: y :: r) 1 = some y := atI_nat (xs := x :: y :: r) (j := 1) rfl
def spLaw (K : PySem.W.Frag) : Sp := fun vs H Q _ => ∃ (a : Addr) (ns : List Int), vs = [.ref a] ∧ SqL K H a (ns.map V.int) ∧ ns.length ≤ 63 ∧ Only H ∧ ∀ H', Q (.bl true) H'
theorem G_law (T : Txt K mg) : FnOk P w K mg base CX0 12 T.f_law T.fd_law ["_law_script"] (spLaw K) := by
  refine T.d_law.F.ok sc_law (fun vs H Q E h => ?_) (fun cdv A outer s0 H vs Q E hr h => ?_)
  · obtain ⟨a, ns, rfl, _⟩ := h; rfl
  · obtain ⟨a, ns, rfl, hS, hn, hO, k⟩ := h
    refine ⟨_, (pss_cons (ps_set (i := 1) sc_law.nd rfl (Or.inl rfl) (pe_lst (pa_cons (pe_call (G_law_begun T) (hr.mono (by decide)) (by rfl) T.d_law_begun.g T.d_law_begun.F.kp T.d_law_begun.b .nil pass0 (pa_cons (pv 0) pa_nil)) pa_nil))) (pss_cons (ps_if (pt_not (pt_val (pe_call (G_law_right T) (hr.mono (by decide)) (by rfl) T.d_law_right.g T.d_law_right.F.kp T.d_law_right.b .nil pass0 (pa_cons (pe_ix ix_list (pe_ix ix_list (pv 1) pe_int (fun _ _ => rfl)) pe_int (fun _ _ => rfl)) (pa_cons (pe_ix ix_list (pe_ix ix_list (pv 1) pe_int (fun _ _ => rfl)) pe_int (fun _ _ => rfl)) (pa_cons pe_int pa_nil)))))) (pss_one (ps_ret pe_bl)) pss_nil) (pss_cons (ps_for PassesOwn.never rfl (pi_range2 rfl T.n_range (pa_cons pe_int (pa_cons (pe_callB (call_min2 rfl) (by rfl) T.n_min PyProof.Rows.boot_min (pa_cons (pe_callB call_len_seq (by rfl) T.n_len PySem.boot_len (pa_cons (pv 0) pa_nil)) (pa_cons pe_int pa_nil))) pa_nil))) (pg_name (i := 2) sc_law.nd rfl (Or.inl rfl)) (pss_cons (ps_set (i := 3) sc_law.nd rfl (Or.inl rfl) (pe_call (G_law_mixed T) (hr.mono (by decide)) (by rfl) T.d_law_mixed.g T.d_law_mixed.F.kp T.d_law_mixed.b .nil pass0 (pa_cons (pe_ix ix_list (pv 0) (pv 2) (fun _ _ => rfl)) (pa_cons (pv 2) pa_nil)))) (pss_cons (ps_asg (pe_ix ix_list (pv 1) (pe_op op_mod (pe_op op_fdiv (pv 3) pe_int) (pe_callB call_len_seq (by rfl) T.n_len PySem.boot_len (pa_cons (pv 1) pa_nil))) (fun _ _ => rfl)) (pg_lst rfl (pgs_cons (pg_name (i := 4) sc_law.nd rfl (Or.inl rfl)) (pgs_cons (pg_name (i := 5) sc_law.nd rfl (Or.inl rfl)) pgs_nil)))) (pss_cons (ps_expr (pe_bm PySem.F.plainAttrs_list PySem.F.slot_list_append PySem.F.type_list_append mt_append (pv 1) (pa_cons (pe_call (G_law_told T) (hr.mono (by decide)) (by rfl) T.d_law_told.g T.d_law_told.F.kp T.d_law_told.b .nil pass0 (pa_cons (pv 4) (pa_cons (pv 5) (pa_cons (pv 3) pa_nil)))) pa_nil))) (pss_one (ps_if (pt_not (pt_val (pe_call (G_law_right T) (hr.mono (by decide)) (by rfl) T.d_law_right.g T.d_law_right.F.kp T.d_law_right.b .nil pass0 (pa_cons (pe_ix ix_list (pe_ix ix_list (pv 1) (pe_un un_neg pe_int) (fun _ _ => rfl)) pe_int (fun _ _ => rfl)) (pa_cons (pe_ix ix_list (pe_ix ix_list (pv 1) (pe_un un_neg pe_int) (fun _ _ => rfl)) pe_int (fun _ _ => rfl)) (pa_cons (pv 3) pa_nil)))))) (pss_one (ps_ret pe_bl)) pss_nil)))))) (pss_cons (ps_for PassesOwn.never rfl (pi_list (pv 1)) (pg_lst rfl (pgs_cons (pg_name (i := 4) sc_law.nd rfl (Or.inl rfl)) (pgs_cons (pg_name (i := 5) sc_law.nd rfl (Or.inl rfl)) pgs_nil))) (pss_one (ps_if (pt_not (pt_val (pe_call (G_law_right T) (hr.mono (by decide)) (by rfl) T.d_law_right.g T.d_law_right.F.kp T.d_law_right.b .nil pass0 (pa_cons (pv 4) (pa_cons (pv 5) (pa_cons (pe_op op_mod (pe_call (G_law_cell_at T) (hr.mono (by decide)) (by rfl) T.d_law_cell_at.g T.d_law_cell_at.F.kp T.d_law_cell_at.b .nil pass0 (pa_cons (pv 0) (pa_cons pe_int pa_nil))) pe_int) pa_nil)))))) (pss_one (ps_ret pe_bl)) pss_nil))) (pss_one (ps_ret pe_bl)))))), ?_⟩
    refine ⟨_, rfl, a, ns, rfl, hS, fun q H1 hq s1 hE => ⟨by show 1 ≤ sizeLine; decide, fun kn hkn => ?_⟩⟩
    have e2 := same_upd (o := .lst [.ref q]) hkn
    have kk : (upd H1 kn (.lst [.ref q])) kn = some (.lst [.ref q]) := upd_same
    have hE2 : Ent T.C_Calendar 16 (ers kn (upd H1 kn (.lst [.ref q]))) (.ref q) := by rw [ers_upd, ers_none hkn]; exact hE
    generalize upd H1 kn (.lst [.ref q]) = H2 at e2 kk hE2 ⊢
    have s2 := s1.trans e2
    have hfn : H kn = none := s1.free hkn
    obtain ⟨q', x, d, R, rest, s, eq, h1, h2, h3, h4, h5⟩ := hE2.mono (ers_same kn H2)
    cases eq
    refine ⟨_, rfl, kn, _, 0, _, rfl, rfl, SqL.of kk, at0, q, _, 0, _, rfl, rfl, SqL.of h1, at0, _, rfl, kn, _, 0, _, rfl, rfl, SqL.of kk, at0, q, _, 1, _, rfl, rfl, SqL.of h1, at1, x, d, R, rest, s, 0, rfl, h2, h3, h4, h5.more (by decide), by decide, fun H3 s3 => ⟨true, rfl, iteF ?_⟩⟩
    have s03 := s2.trans s3
    refine ⟨_, rfl, a, _, rfl, .inl (s03.seq hS), _, _, rfl, ?_⟩
    rw [min_if, List.length_map]
    refine ⟨2, _, rfl, ⟨by decide, by decide, by omega, by omega⟩, ?_⟩
    refine for_range (lo := 2) (n := (min (ns.length : Int) 18 - 2).toNat) (fun i σ H4 => ∃ (q0 : Addr) (ys zs : List V) (v2 v3 v4 v5 : Option V), σ = [some (.ref a), some (.ref kn), v2, v3, v4, v5] ∧ Same H H4 ∧ H4 kn = some (.lst (.ref q0 :: zs)) ∧ H4 q0 = some (.lst ys) ∧ zs.length = i ∧ ∀ v ∈ V.ref q0 :: zs, Ent T.C_Calendar (16 + 5 * (i : Int)) (ers kn H4) v)
      (by
        refine ⟨q, _, [], _, _, _, _, rfl, s03, s3 _ _ kk, s3 _ _ h1, rfl, fun v hv => ?_⟩
        rw [List.mem_singleton.mp hv]
        exact hE2.mono (ers_mono s3)) ?_ ?_
    · rintro i σ H4 hi ⟨q0, ys, zs, v2, v3, v4, v5, rfl, s4, kk4, hq0, hzl, hents⟩
      have hi18 : i < 16 := by omega
      refine ⟨_, rfl, _, rfl, a, _, _, _, rfl, rfl, s4.seq hS, getI (by omega) (by omega), _, rfl, _, _, rfl, fun m hm0 hm1 => ?_⟩
      have j0 : 0 ≤ m / 18000 % ((V.ref q0 :: zs).length : Int) := Int.emod_nonneg _ (by rw [List.length_cons]; omega)
      have j1 : m / 18000 % ((V.ref q0 :: zs).length : Int) < ((V.ref q0 :: zs).length : Int) := Int.emod_lt_of_pos _ (by rw [List.length_cons]; omega)
      obtain ⟨v, hv, hat⟩ := atI_get j0 j1
      have hEv := hents v hv
      obtain ⟨qa, xa, da, Ra, resta, sa, ea, ha1, ha2, ha3, ha4, ha5⟩ := hEv.mono (ers_same kn H4)
      subst ea
      refine ⟨_, rfl, _, rfl, _, _, rfl, rfl, dv 18000, _, rfl, kn, _, rfl, .inl (SqL.of kk4), _, _, rfl, rfl, (by show (0 : Int) < ((V.ref q0 :: zs).length : Int); rw [List.length_cons]; omega), kn, _, _, _, rfl, rfl, SqL.of kk4, hat, qa, _, rfl, SqL.of ha1, rfl, _, _, rfl, _, _, rfl, rfl, ?_⟩
      refine ⟨_, rfl, .inl ⟨rfl, _, SqL.of kk4⟩, _, rfl, _, rfl, _, rfl, xa, da, Ra, resta, sa, m, 16 + 5 * (i : Int), rfl, ha2, ha3, ha4, ha5, by omega, hm0, fun q2 H5 hq2 s5 hE5 => ?_⟩
      have kk5 := s5 _ _ kk4
      have nq2 : q2 ≠ kn := fun e => by rw [e, kk4] at hq2; cases hq2
      refine ⟨kn, _, _, rfl, rfl, kk5, small1000 (by rw [List.length_cons]; omega), ?_⟩
      have hE6 := ers_ent kk5 (s5 _ _ hq0) nq2 hE5
      have kk6 : (upd H5 kn (.lst ((V.ref q0 :: zs) ++ [.ref q2]))) kn = some (.lst (.ref q0 :: (zs ++ [.ref q2]))) := upd_same
      have s6 : Same H (upd H5 kn (.lst ((V.ref q0 :: zs) ++ [.ref q2]))) := same_set (s4.trans s5) hfn
      have nq0 : q0 ≠ kn := fun e => by
        have h0 := hents (.ref q0) List.mem_cons_self
        obtain ⟨qz, _, _, _, _, _, ez, hz1, _⟩ := h0
        cases ez
        rw [e, show ers kn H4 kn = none from if_pos rfl] at hz1
        cases hz1
      have hq6 : (upd H5 kn (.lst ((V.ref q0 :: zs) ++ [.ref q2]))) q0 = some (.lst ys) := by rw [upd_ne nq0]; exact s5 _ _ hq0
      have er6 : ers kn (upd H5 kn (.lst ((V.ref q0 :: zs) ++ [.ref q2]))) = ers kn H5 := ers_upd
      generalize upd H5 kn (.lst ((V.ref q0 :: zs) ++ [.ref q2])) = H6 at kk6 s6 hq6 er6 ⊢
      rw [← er6] at hE6
      obtain ⟨qb, xb, db, Rb, restb, sb, eb, hb1, hb2, hb3, hb4, hb5⟩ := hE6.mono (ers_same kn H6)
      cases eb
      have hla : atI (V.ref q0 :: (zs ++ [V.ref q2])) (-1) = some (.ref q2) := atI_last (V.ref q0 :: zs) (.ref q2)
      refine ⟨_, rfl, 1, rfl, kn, _, -1, _, rfl, rfl, SqL.of kk6, hla, q2, _, 0, _, rfl, rfl, SqL.of hb1, at0, _, rfl, 1, rfl, kn, _, -1, _, rfl, rfl, SqL.of kk6, hla, q2, _, 1, _, rfl, rfl, SqL.of hb1, at1, _, rfl, xb, db, Rb, restb, sb, m, rfl, hb2, hb3, hb4, hb5.more (by omega), hm0, fun H7 s7 => ⟨true, rfl, iteF ?_⟩⟩
      refine ⟨q0, ys, zs ++ [.ref q2], _, _, _, _, rfl, s6.trans s7, s7 _ _ kk6, s7 _ _ hq6, by rw [List.length_append, List.length_singleton]; omega, fun v hv => ?_⟩
      have hv' : v ∈ (V.ref q0 :: zs) ++ [V.ref q2] := hv
      rcases List.mem_append.mp hv' with hv | hv
      · have := (hents v hv).mono (ers_mono (kn := kn) s5)
        rw [← er6] at this
        exact (this.mono (ers_mono s7)).more (by omega)
      · rw [List.mem_singleton.mp hv]
        exact (hE6.mono (ers_mono s7)).more (by omega)
    · rintro σ H4 ⟨q0, ys, zs, v2, v3, v4, v5, rfl, s4, kk4, hq0, hzl, hents⟩
      refine ⟨_, rfl, kn, rfl, ⟨_, SqL.of kk4⟩, for_list (K := K) (a := kn) (xs := V.ref q0 :: zs) (fun i σ H5 => ∃ (v2 v3 v4 v5 : Option V), σ = [some (.ref a), some (.ref kn), v2, v3, v4, v5] ∧ Same H4 H5)
        (by exact ⟨_, _, _, _, rfl, Same.refl H4⟩) (fun i σ H5 _ ⟨_, _, _, _, _, s5⟩ => SqL.of (s5 _ _ kk4)) ?_ ?_⟩
      · rintro i v σ H5 hi ⟨v2, v3, v4, v5, rfl, s5⟩
        obtain ⟨qa, xa, da, Ra, resta, sa, ea, ha1, ha2, ha3, ha4, ha5⟩ := (hents v (List.mem_of_getElem? hi)).mono ((ers_same kn H4).trans s5)
        subst ea
        refine ⟨qa, _, rfl, SqL.of ha1, rfl, _, _, rfl, _, _, rfl, rfl, ?_⟩
        refine ⟨_, rfl, _, rfl, _, rfl, a, ns, 1, rfl, (s4.trans s5).seq hS, by decide, _, _, rfl, rfl, (by show (0 : Int) < 4000; decide), xa, da, Ra, resta, sa, _, rfl, ha2, ha3, ha4, ha5.more (by omega), Int.emod_nonneg _ (by decide), fun H6 s6 => ⟨true, rfl, iteF ?_⟩⟩
        exact ⟨_, _, _, _, rfl, s5.trans s6⟩
      · rintro σ H5 ⟨v2, v3, v4, v5, rfl, s5⟩
        exact k H5
end
theorem all_mk {l : PySem.W.OpenLaw} {w : World} {K : PySem.W.Frag} {h : Heap} {mg : Str → Option Value} {fa : Addr} (X : K.In h) (G : h.Ns mainGlobals mg) (hfa : mg "law" = some (.ref fa))
    {f0 : Addr} {od0 an0 : Option Addr} {sl0 : Array (Option Value)} {oc0 kV0 dc0 pm0 cd0 ct0 : Value}
    {f1 : Addr} {od1 an1 : Option Addr} {sl1 : Array (Option Value)} {oc1 kV1 dc1 pm1 cd1 ct1 : Value}
    {f2 : Addr} {od2 an2 : Option Addr} {sl2 : Array (Option Value)} {oc2 kV2 dc2 pm2 cd2 ct2 : Value}
    {f3 : Addr} {od3 an3 : Option Addr} {sl3 : Array (Option Value)} {oc3 kV3 dc3 pm3 cd3 ct3 : Value}
    {f4 : Addr} {od4 an4 : Option Addr} {sl4 : Array (Option Value)} {oc4 kV4 dc4 pm4 cd4 ct4 : Value}
    {f5 : Addr} {od5 an5 : Option Addr} {sl5 : Array (Option Value)} {oc5 kV5 dc5 pm5 cd5 ct5 : Value}
    {f6 : Addr} {od6 an6 : Option Addr} {sl6 : Array (Option Value)} {oc6 kV6 dc6 pm6 cd6 ct6 : Value}
    {f7 : Addr} {od7 an7 : Option Addr} {sl7 : Array (Option Value)} {oc7 kV7 dc7 pm7 cd7 ct7 : Value}
    {f8 : Addr} {od8 an8 : Option Addr} {sl8 : Array (Option Value)} {oc8 kV8 dc8 pm8 cd8 ct8 : Value}
    {f9 : Addr} {od9 an9 : Option Addr} {sl9 : Array (Option Value)} {oc9 kV9 dc9 pm9 cd9 ct9 : Value}
    {f10 : Addr} {od10 an10 : Option Addr} {sl10 : Array (Option Value)} {oc10 kV10 dc10 pm10 cd10 ct10 : Value}
    {f11 : Addr} {od11 an11 : Option Addr} {sl11 : Array (Option Value)} {oc11 kV11 dc11 pm11 cd11 ct11 : Value}
    {f12 : Addr} {od12 an12 : Option Addr} {sl12 : Array (Option Value)} {oc12 kV12 dc12 pm12 cd12 ct12 : Value}
    {f13 : Addr} {od13 an13 : Option Addr} {sl13 : Array (Option Value)} {oc13 kV13 dc13 pm13 cd13 ct13 : Value}
    {f14 : Addr} {od14 an14 : Option Addr} {sl14 : Array (Option Value)} {oc14 kV14 dc14 pm14 cd14 ct14 : Value}
    {f15 : Addr} {od15 an15 : Option Addr} {sl15 : Array (Option Value)} {oc15 kV15 dc15 pm15 cd15 ct15 : Value}
    {f16 : Addr} {od16 an16 : Option Addr} {sl16 : Array (Option Value)} {oc16 kV16 dc16 pm16 cd16 ct16 : Value}
    {f17 : Addr} {od17 an17 : Option Addr} {sl17 : Array (Option Value)} {oc17 kV17 dc17 pm17 cd17 ct17 : Value}
    {f18 : Addr} {od18 an18 : Option Addr} {sl18 : Array (Option Value)} {oc18 kV18 dc18 pm18 cd18 ct18 : Value}
    {f19 : Addr} {od19 an19 : Option Addr} {sl19 : Array (Option Value)} {oc19 kV19 dc19 pm19 cd19 ct19 : Value}
    {f20 : Addr} {od20 an20 : Option Addr} {sl20 : Array (Option Value)} {oc20 kV20 dc20 pm20 cd20 ct20 : Value}
    {f21 : Addr} {od21 an21 : Option Addr} {sl21 : Array (Option Value)} {oc21 kV21 dc21 pm21 cd21 ct21 : Value}
    {f22 : Addr} {od22 an22 : Option Addr} {sl22 : Array (Option Value)} {oc22 kV22 dc22 pm22 cd22 ct22 : Value}
    {F0 : Addr} {oD0 aN0 : Option Addr} {sL0 : Array (Option Value)} {oC0 kW0 dC0 pM0 cD0 cT0 : Value}
    {F1 : Addr} {oD1 aN1 : Option Addr} {sL1 : Array (Option Value)} {oC1 kW1 dC1 pM1 cD1 cT1 : Value}
    {F2 : Addr} {oD2 aN2 : Option Addr} {sL2 : Array (Option Value)} {oC2 kW2 dC2 pM2 cD2 cT2 : Value}
    {F3 : Addr} {oD3 aN3 : Option Addr} {sL3 : Array (Option Value)} {oC3 kW3 dC3 pM3 cD3 cT3 : Value}
    {F4 : Addr} {oD4 aN4 : Option Addr} {sL4 : Array (Option Value)} {oC4 kW4 dC4 pM4 cD4 cT4 : Value}
    {F5 : Addr} {oD5 aN5 : Option Addr} {sL5 : Array (Option Value)} {oC5 kW5 dC5 pM5 cD5 cT5 : Value}
    {F6 : Addr} {oD6 aN6 : Option Addr} {sL6 : Array (Option Value)} {oC6 kW6 dC6 pM6 cD6 cT6 : Value}
    {F7 : Addr} {oD7 aN7 : Option Addr} {sL7 : Array (Option Value)} {oC7 kW7 dC7 pM7 cD7 cT7 : Value}
    {F8 : Addr} {oD8 aN8 : Option Addr} {sL8 : Array (Option Value)} {oC8 kW8 dC8 pM8 cD8 cT8 : Value}
    {F9 : Addr} {oD9 aN9 : Option Addr} {sL9 : Array (Option Value)} {oC9 kW9 dC9 pM9 cD9 cT9 : Value}
    {F10 : Addr} {oD10 aN10 : Option Addr} {sL10 : Array (Option Value)} {oC10 kW10 dC10 pM10 cD10 cT10 : Value}
    {C_Calendar : Addr}
    {t_MOST_ROWS : Tok}
    {t_MOST_TURNS_OF_ROW : Tok}
    {t_MOST_MACHINES : Tok}
    (a0 : PySem.W.nsIn K mainGlobals "is_whole" = some (some (.ref f0))) (l0 : K.lookup f0 = some ⟨oc0, od0, .func (PySem.W.fnOf "is_whole" "is_whole" (defArgs s_is_whole) (defBody s_is_whole) (defScope s_is_whole) .none kV0 dc0 pm0 an0 cd0 ct0), sl0⟩) (c0 : PySem.W.codeIn K cd0 "is_whole" = true) (k0 : PySem.W.keepIn K (.ref f0) = true)
    (a1 : PySem.W.nsIn K mainGlobals "is_whole_between" = some (some (.ref f1))) (l1 : K.lookup f1 = some ⟨oc1, od1, .func (PySem.W.fnOf "is_whole_between" "is_whole_between" (defArgs s_is_whole_between) (defBody s_is_whole_between) (defScope s_is_whole_between) .none kV1 dc1 pm1 an1 cd1 ct1), sl1⟩) (c1 : PySem.W.codeIn K cd1 "is_whole_between" = true) (k1 : PySem.W.keepIn K (.ref f1) = true)
    (a2 : PySem.W.nsIn K mainGlobals "common_count" = some (some (.ref f2))) (l2 : K.lookup f2 = some ⟨oc2, od2, .func (PySem.W.fnOf "common_count" "common_count" (defArgs s_common_count) (defBody s_common_count) (defScope s_common_count) .none kV2 dc2 pm2 an2 cd2 ct2), sl2⟩) (c2 : PySem.W.codeIn K cd2 "common_count" = true) (k2 : PySem.W.keepIn K (.ref f2) = true)
    (a3 : PySem.W.nsIn K mainGlobals "is_machines" = some (some (.ref f3))) (l3 : K.lookup f3 = some ⟨oc3, od3, .func (PySem.W.fnOf "is_machines" "is_machines" (defArgs s_is_machines) (defBody s_is_machines) (defScope s_is_machines) .none kV3 dc3 pm3 an3 cd3 ct3), sl3⟩) (c3 : PySem.W.codeIn K cd3 "is_machines" = true) (k3 : PySem.W.keepIn K (.ref f3) = true)
    (a4 : PySem.W.nsIn K mainGlobals "is_rest" = some (some (.ref f4))) (l4 : K.lookup f4 = some ⟨oc4, od4, .func (PySem.W.fnOf "is_rest" "is_rest" (defArgs s_is_rest) (defBody s_is_rest) (defScope s_is_rest) .none kV4 dc4 pm4 an4 cd4 ct4), sl4⟩) (c4 : PySem.W.codeIn K cd4 "is_rest" = true) (k4 : PySem.W.keepIn K (.ref f4) = true)
    (a5 : PySem.W.nsIn K mainGlobals "is_calendar_row" = some (some (.ref f5))) (l5 : K.lookup f5 = some ⟨oc5, od5, .func (PySem.W.fnOf "is_calendar_row" "is_calendar_row" (defArgs s_is_calendar_row) (defBody s_is_calendar_row) (defScope s_is_calendar_row) .none kV5 dc5 pm5 an5 cd5 ct5), sl5⟩) (c5 : PySem.W.codeIn K cd5 "is_calendar_row" = true) (k5 : PySem.W.keepIn K (.ref f5) = true)
    (a6 : PySem.W.nsIn K mainGlobals "are_calendar_rows" = some (some (.ref f6))) (l6 : K.lookup f6 = some ⟨oc6, od6, .func (PySem.W.fnOf "are_calendar_rows" "are_calendar_rows" (defArgs s_are_calendar_rows) (defBody s_are_calendar_rows) (defScope s_are_calendar_rows) .none kV6 dc6 pm6 an6 cd6 ct6), sl6⟩) (c6 : PySem.W.codeIn K cd6 "are_calendar_rows" = true) (k6 : PySem.W.keepIn K (.ref f6) = true)
    (a7 : PySem.W.nsIn K mainGlobals "neighbours_as_one" = some (some (.ref f7))) (l7 : K.lookup f7 = some ⟨oc7, od7, .func (PySem.W.fnOf "neighbours_as_one" "neighbours_as_one" (defArgs s_neighbours_as_one) (defBody s_neighbours_as_one) (defScope s_neighbours_as_one) .none kV7 dc7 pm7 an7 cd7 ct7), sl7⟩) (c7 : PySem.W.codeIn K cd7 "neighbours_as_one" = true) (k7 : PySem.W.keepIn K (.ref f7) = true)
    (a8 : PySem.W.nsIn K mainGlobals "kept_rows" = some (some (.ref f8))) (l8 : K.lookup f8 = some ⟨oc8, od8, .func (PySem.W.fnOf "kept_rows" "kept_rows" (defArgs s_kept_rows) (defBody s_kept_rows) (defScope s_kept_rows) .none kV8 dc8 pm8 an8 cd8 ct8), sl8⟩) (c8 : PySem.W.codeIn K cd8 "kept_rows" = true) (k8 : PySem.W.keepIn K (.ref f8) = true)
    (a9 : PySem.W.nsIn K mainGlobals "clamped" = some (some (.ref f9))) (l9 : K.lookup f9 = some ⟨oc9, od9, .func (PySem.W.fnOf "clamped" "clamped" (defArgs s_clamped) (defBody s_clamped) (defScope s_clamped) .none kV9 dc9 pm9 an9 cd9 ct9), sl9⟩) (c9 : PySem.W.codeIn K cd9 "clamped" = true) (k9 : PySem.W.keepIn K (.ref f9) = true)
    (a10 : PySem.W.nsIn K mainGlobals "changed_rows" = some (some (.ref f10))) (l10 : K.lookup f10 = some ⟨oc10, od10, .func (PySem.W.fnOf "changed_rows" "changed_rows" (defArgs s_changed_rows) (defBody s_changed_rows) (defScope s_changed_rows) .none kV10 dc10 pm10 an10 cd10 ct10), sl10⟩) (c10 : PySem.W.codeIn K cd10 "changed_rows" = true) (k10 : PySem.W.keepIn K (.ref f10) = true)
    (a11 : PySem.W.nsIn K mainGlobals "calendar_beyond_bounds" = some (some (.ref f11))) (l11 : K.lookup f11 = some ⟨oc11, od11, .func (PySem.W.fnOf "calendar_beyond_bounds" "calendar_beyond_bounds" (defArgs s_calendar_beyond_bounds) (defBody s_calendar_beyond_bounds) (defScope s_calendar_beyond_bounds) .none kV11 dc11 pm11 an11 cd11 ct11), sl11⟩) (c11 : PySem.W.codeIn K cd11 "calendar_beyond_bounds" = true) (k11 : PySem.W.keepIn K (.ref f11) = true)
    (a12 : PySem.W.nsIn K mainGlobals "changed_calendar" = some (some (.ref f12))) (l12 : K.lookup f12 = some ⟨oc12, od12, .func (PySem.W.fnOf "changed_calendar" "changed_calendar" (defArgs s_changed_calendar) (defBody s_changed_calendar) (defScope s_changed_calendar) .none kV12 dc12 pm12 an12 cd12 ct12), sl12⟩) (c12 : PySem.W.codeIn K cd12 "changed_calendar" = true) (k12 : PySem.W.keepIn K (.ref f12) = true)
    (a13 : PySem.W.nsIn K mainGlobals "_law_cell_at" = some (some (.ref f13))) (l13 : K.lookup f13 = some ⟨oc13, od13, .func (PySem.W.fnOf "_law_cell_at" "_law_cell_at" (defArgs s_law_cell_at) (defBody s_law_cell_at) (defScope s_law_cell_at) .none kV13 dc13 pm13 an13 cd13 ct13), sl13⟩) (c13 : PySem.W.codeIn K cd13 "_law_cell_at" = true) (k13 : PySem.W.keepIn K (.ref f13) = true)
    (a14 : PySem.W.nsIn K mainGlobals "_law_whole" = some (some (.ref f14))) (l14 : K.lookup f14 = some ⟨oc14, od14, .func (PySem.W.fnOf "_law_whole" "_law_whole" (defArgs s_law_whole) (defBody s_law_whole) (defScope s_law_whole) .none kV14 dc14 pm14 an14 cd14 ct14), sl14⟩) (c14 : PySem.W.codeIn K cd14 "_law_whole" = true) (k14 : PySem.W.keepIn K (.ref f14) = true)
    (a15 : PySem.W.nsIn K mainGlobals "_law_pairs" = some (some (.ref f15))) (l15 : K.lookup f15 = some ⟨oc15, od15, .func (PySem.W.fnOf "_law_pairs" "_law_pairs" (defArgs s_law_pairs) (defBody s_law_pairs) (defScope s_law_pairs) .none kV15 dc15 pm15 an15 cd15 ct15), sl15⟩) (c15 : PySem.W.codeIn K cd15 "_law_pairs" = true) (k15 : PySem.W.keepIn K (.ref f15) = true)
    (a16 : PySem.W.nsIn K mainGlobals "_law_mixed" = some (some (.ref f16))) (l16 : K.lookup f16 = some ⟨oc16, od16, .func (PySem.W.fnOf "_law_mixed" "_law_mixed" (defArgs s_law_mixed) (defBody s_law_mixed) (defScope s_law_mixed) .none kV16 dc16 pm16 an16 cd16 ct16), sl16⟩) (c16 : PySem.W.codeIn K cd16 "_law_mixed" = true) (k16 : PySem.W.keepIn K (.ref f16) = true)
    (a17 : PySem.W.nsIn K mainGlobals "_law_begun" = some (some (.ref f17))) (l17 : K.lookup f17 = some ⟨oc17, od17, .func (PySem.W.fnOf "_law_begun" "_law_begun" (defArgs s_law_begun) (defBody s_law_begun) (defScope s_law_begun) .none kV17 dc17 pm17 an17 cd17 ct17), sl17⟩) (c17 : PySem.W.codeIn K cd17 "_law_begun" = true) (k17 : PySem.W.keepIn K (.ref f17) = true)
    (a18 : PySem.W.nsIn K mainGlobals "_law_rows" = some (some (.ref f18))) (l18 : K.lookup f18 = some ⟨oc18, od18, .func (PySem.W.fnOf "_law_rows" "_law_rows" (defArgs s_law_rows) (defBody s_law_rows) (defScope s_law_rows) .none kV18 dc18 pm18 an18 cd18 ct18), sl18⟩) (c18 : PySem.W.codeIn K cd18 "_law_rows" = true) (k18 : PySem.W.keepIn K (.ref f18) = true)
    (a19 : PySem.W.nsIn K mainGlobals "_law_sums" = some (some (.ref f19))) (l19 : K.lookup f19 = some ⟨oc19, od19, .func (PySem.W.fnOf "_law_sums" "_law_sums" (defArgs s_law_sums) (defBody s_law_sums) (defScope s_law_sums) .none kV19 dc19 pm19 an19 cd19 ct19), sl19⟩) (c19 : PySem.W.codeIn K cd19 "_law_sums" = true) (k19 : PySem.W.keepIn K (.ref f19) = true)
    (a20 : PySem.W.nsIn K mainGlobals "_law_right" = some (some (.ref f20))) (l20 : K.lookup f20 = some ⟨oc20, od20, .func (PySem.W.fnOf "_law_right" "_law_right" (defArgs s_law_right) (defBody s_law_right) (defScope s_law_right) .none kV20 dc20 pm20 an20 cd20 ct20), sl20⟩) (c20 : PySem.W.codeIn K cd20 "_law_right" = true) (k20 : PySem.W.keepIn K (.ref f20) = true)
    (a21 : PySem.W.nsIn K mainGlobals "_law_told" = some (some (.ref f21))) (l21 : K.lookup f21 = some ⟨oc21, od21, .func (PySem.W.fnOf "_law_told" "_law_told" (defArgs s_law_told) (defBody s_law_told) (defScope s_law_told) .none kV21 dc21 pm21 an21 cd21 ct21), sl21⟩) (c21 : PySem.W.codeIn K cd21 "_law_told" = true) (k21 : PySem.W.keepIn K (.ref f21) = true)
    (a22 : PySem.W.nsIn K mainGlobals "law" = some (some (.ref f22))) (l22 : K.lookup f22 = some ⟨oc22, od22, .func (PySem.W.fnOf "law" "law" (defArgs s_law) (defBody s_law) (defScope s_law) .none kV22 dc22 pm22 an22 cd22 ct22), sl22⟩) (c22 : PySem.W.codeIn K cd22 "law" = true) (k22 : PySem.W.keepIn K (.ref f22) = true)
    (aC_Calendar : PySem.W.nsIn K mainGlobals "Calendar" = some (some (.ref C_Calendar)))
    (A0 : PySem.W.findIn K (.ref C_Calendar) "__init__" = some (some (.ref F0))) (I0 : PySem.W.isFn K (.ref F0) = true) (L0 : K.lookup F0 = some ⟨oC0, oD0, .func (PySem.W.fnOf "__init__" "Calendar.__init__" (defArgs s_Calendar_init) (defBody s_Calendar_init) (defScope s_Calendar_init) .none kW0 dC0 pM0 aN0 cD0 cT0), sL0⟩) (J0 : PySem.W.codeIn K cD0 "Calendar.__init__" = true) (K0 : PySem.W.keepIn K (.ref F0) = true)
    (A1 : PySem.W.findIn K (.ref C_Calendar) "rows" = some (some (.ref F1))) (I1 : PySem.W.isFn K (.ref F1) = true) (L1 : K.lookup F1 = some ⟨oC1, oD1, .func (PySem.W.fnOf "rows" "Calendar.rows" (defArgs s_Calendar_rows) (defBody s_Calendar_rows) (defScope s_Calendar_rows) .none kW1 dC1 pM1 aN1 cD1 cT1), sL1⟩) (J1 : PySem.W.codeIn K cD1 "Calendar.rows" = true) (K1 : PySem.W.keepIn K (.ref F1) = true)
    (A2 : PySem.W.findIn K (.ref C_Calendar) "rest" = some (some (.ref F2))) (I2 : PySem.W.isFn K (.ref F2) = true) (L2 : K.lookup F2 = some ⟨oC2, oD2, .func (PySem.W.fnOf "rest" "Calendar.rest" (defArgs s_Calendar_rest) (defBody s_Calendar_rest) (defScope s_Calendar_rest) .none kW2 dC2 pM2 aN2 cD2 cT2), sL2⟩) (J2 : PySem.W.codeIn K cD2 "Calendar.rest" = true) (K2 : PySem.W.keepIn K (.ref F2) = true)
    (A3 : PySem.W.findIn K (.ref C_Calendar) "at" = some (some (.ref F3))) (I3 : PySem.W.isFn K (.ref F3) = true) (L3 : K.lookup F3 = some ⟨oC3, oD3, .func (PySem.W.fnOf "at" "Calendar.at" (defArgs s_Calendar_at) (defBody s_Calendar_at) (defScope s_Calendar_at) .none kW3 dC3 pM3 aN3 cD3 cT3), sL3⟩) (J3 : PySem.W.codeIn K cD3 "Calendar.at" = true) (K3 : PySem.W.keepIn K (.ref F3) = true)
    (A4 : PySem.W.findIn K (.ref C_Calendar) "end" = some (some (.ref F4))) (I4 : PySem.W.isFn K (.ref F4) = true) (L4 : K.lookup F4 = some ⟨oC4, oD4, .func (PySem.W.fnOf "end" "Calendar.end" (defArgs s_Calendar_end) (defBody s_Calendar_end) (defScope s_Calendar_end) .none kW4 dC4 pM4 aN4 cD4 cT4), sL4⟩) (J4 : PySem.W.codeIn K cD4 "Calendar.end" = true) (K4 : PySem.W.keepIn K (.ref F4) = true)
    (A5 : PySem.W.findIn K (.ref C_Calendar) "over" = some (some (.ref F5))) (I5 : PySem.W.isFn K (.ref F5) = true) (L5 : K.lookup F5 = some ⟨oC5, oD5, .func (PySem.W.fnOf "over" "Calendar.over" (defArgs s_Calendar_over) (defBody s_Calendar_over) (defScope s_Calendar_over) .none kW5 dC5 pM5 aN5 cD5 cT5), sL5⟩) (J5 : PySem.W.codeIn K cD5 "Calendar.over" = true) (K5 : PySem.W.keepIn K (.ref F5) = true)
    (A6 : PySem.W.findIn K (.ref C_Calendar) "over_spans" = some (some (.ref F6))) (I6 : PySem.W.isFn K (.ref F6) = true) (L6 : K.lookup F6 = some ⟨oC6, oD6, .func (PySem.W.fnOf "over_spans" "Calendar.over_spans" (defArgs s_Calendar_over_spans) (defBody s_Calendar_over_spans) (defScope s_Calendar_over_spans) .none kW6 dC6 pM6 aN6 cD6 cT6), sL6⟩) (J6 : PySem.W.codeIn K cD6 "Calendar.over_spans" = true) (K6 : PySem.W.keepIn K (.ref F6) = true)
    (A7 : PySem.W.findIn K (.ref C_Calendar) "changes" = some (some (.ref F7))) (I7 : PySem.W.isFn K (.ref F7) = true) (L7 : K.lookup F7 = some ⟨oC7, oD7, .func (PySem.W.fnOf "changes" "Calendar.changes" (defArgs s_Calendar_changes) (defBody s_Calendar_changes) (defScope s_Calendar_changes) .none kW7 dC7 pM7 aN7 cD7 cT7), sL7⟩) (J7 : PySem.W.codeIn K cD7 "Calendar.changes" = true) (K7 : PySem.W.keepIn K (.ref F7) = true)
    (A8 : PySem.W.findIn K (.ref C_Calendar) "fewer" = some (some (.ref F8))) (I8 : PySem.W.isFn K (.ref F8) = true) (L8 : K.lookup F8 = some ⟨oC8, oD8, .func (PySem.W.fnOf "fewer" "Calendar.fewer" (defArgs s_Calendar_fewer) (defBody s_Calendar_fewer) (defScope s_Calendar_fewer) .none kW8 dC8 pM8 aN8 cD8 cT8), sL8⟩) (J8 : PySem.W.codeIn K cD8 "Calendar.fewer" = true) (K8 : PySem.W.keepIn K (.ref F8) = true)
    (A9 : PySem.W.findIn K (.ref C_Calendar) "more" = some (some (.ref F9))) (I9 : PySem.W.isFn K (.ref F9) = true) (L9 : K.lookup F9 = some ⟨oC9, oD9, .func (PySem.W.fnOf "more" "Calendar.more" (defArgs s_Calendar_more) (defBody s_Calendar_more) (defScope s_Calendar_more) .none kW9 dC9 pM9 aN9 cD9 cT9), sL9⟩) (J9 : PySem.W.codeIn K cD9 "Calendar.more" = true) (K9 : PySem.W.keepIn K (.ref F9) = true)
    (A10 : PySem.W.findIn K (.ref C_Calendar) "widened" = some (some (.ref F10))) (I10 : PySem.W.isFn K (.ref F10) = true) (L10 : K.lookup F10 = some ⟨oC10, oD10, .func (PySem.W.fnOf "widened" "Calendar.widened" (defArgs s_Calendar_widened) (defBody s_Calendar_widened) (defScope s_Calendar_widened) .none kW10 dC10 pM10 aN10 cD10 cT10), sL10⟩) (J10 : PySem.W.codeIn K cD10 "Calendar.widened" = true) (K10 : PySem.W.keepIn K (.ref F10) = true)
    (pg_Calendar : PySem.W.plainGet K C_Calendar Str.empty = true) (hd_Calendar : PySem.W.hasDictIn K C_Calendar = true) (po_Calendar : PySem.W.plainOver K C_Calendar = true) (sa_Calendar : PySem.W.findIn K (.ref C_Calendar) "__setattr__" = some (some (.builtin "object.__setattr__"))) (mk_Calendar : PySem.W.makesIn K C_Calendar = true) (kc_Calendar : PySem.W.keepIn K (.ref C_Calendar) = true)
    (na_stretches : PySem.W.findIn K (.ref C_Calendar) "stretches" = some none)
    (na_beyond : PySem.W.findIn K (.ref C_Calendar) "beyond" = some none)
    (z_all : PySem.W.nsIn K mainGlobals "all" = some none)
    (z_bool : PySem.W.nsIn K mainGlobals "bool" = some none)
    (z_int : PySem.W.nsIn K mainGlobals "int" = some none)
    (z_isinstance : PySem.W.nsIn K mainGlobals "isinstance" = some none)
    (z_len : PySem.W.nsIn K mainGlobals "len" = some none)
    (z_list : PySem.W.nsIn K mainGlobals "list" = some none)
    (z_max : PySem.W.nsIn K mainGlobals "max" = some none)
    (z_min : PySem.W.nsIn K mainGlobals "min" = some none)
    (z_range : PySem.W.nsIn K mainGlobals "range" = some none)
    (z_sum : PySem.W.nsIn K mainGlobals "sum" = some none)
    (z_tuple : PySem.W.nsIn K mainGlobals "tuple" = some none)
    (z_zip : PySem.W.nsIn K mainGlobals "zip" = some none)
    (v_MOST_ROWS : PySem.W.nsIn K mainGlobals "MOST_ROWS" = some (some (.int 16 t_MOST_ROWS)))
    (v_MOST_TURNS_OF_ROW : PySem.W.nsIn K mainGlobals "MOST_TURNS_OF_ROW" = some (some (.int 1000000 t_MOST_TURNS_OF_ROW)))
    (v_MOST_MACHINES : PySem.W.nsIn K mainGlobals "MOST_MACHINES" = some (some (.int 16 t_MOST_MACHINES)))
    : ∃ fd : FuncData, (∀ (s : Shared) (v : Value), BindsTo s fd ⟨[v], []⟩ [("_law_script", v)]) ∧ ∀ base : Heap, K.In base → base.Ns mainGlobals mg → FnOk l.prog w K mg base CX0 12 fa fd ["_law_script"] (spLaw K) := by
  have e := hfa.symm.trans (PySem.W.mg_of X G a22)
  cases e
  have F0 := fun_mk (st := s_is_whole) l0 c0 k0
  have b0 := F0.binds (ps := ["thing"]) fun _ _ _ _ _ _ us hl => match us, hl with | [_], _ => rfl
  have F1 := fun_mk (st := s_is_whole_between) l1 c1 k1
  have b1 := F1.binds (ps := ["thing", "low", "high"]) fun _ _ _ _ _ _ us hl => match us, hl with | [_, _, _], _ => rfl
  have F2 := fun_mk (st := s_common_count) l2 c2 k2
  have b2 := F2.binds (ps := ["first", "last", "low", "high"]) fun _ _ _ _ _ _ us hl => match us, hl with | [_, _, _, _], _ => rfl
  have F3 := fun_mk (st := s_is_machines) l3 c3 k3
  have b3 := F3.binds (ps := ["thing"]) fun _ _ _ _ _ _ us hl => match us, hl with | [_], _ => rfl
  have F4 := fun_mk (st := s_is_rest) l4 c4 k4
  have b4 := F4.binds (ps := ["thing"]) fun _ _ _ _ _ _ us hl => match us, hl with | [_], _ => rfl
  have F5 := fun_mk (st := s_is_calendar_row) l5 c5 k5
  have b5 := F5.binds (ps := ["thing"]) fun _ _ _ _ _ _ us hl => match us, hl with | [_], _ => rfl
  have F6 := fun_mk (st := s_are_calendar_rows) l6 c6 k6
  have b6 := F6.binds (ps := ["thing"]) fun _ _ _ _ _ _ us hl => match us, hl with | [_], _ => rfl
  have F7 := fun_mk (st := s_neighbours_as_one) l7 c7 k7
  have b7 := F7.binds (ps := ["rows"]) fun _ _ _ _ _ _ us hl => match us, hl with | [_], _ => rfl
  have F8 := fun_mk (st := s_kept_rows) l8 c8 k8
  have b8 := F8.binds (ps := ["rows", "rest"]) fun _ _ _ _ _ _ us hl => match us, hl with | [_, _], _ => rfl
  have F9 := fun_mk (st := s_clamped) l9 c9 k9
  have b9 := F9.binds (ps := ["turn", "low", "high"]) fun _ _ _ _ _ _ us hl => match us, hl with | [_, _, _], _ => rfl
  have F10 := fun_mk (st := s_changed_rows) l10 c10 k10
  have b10 := F10.binds (ps := ["rows", "first", "last", "by"]) fun _ _ _ _ _ _ us hl => match us, hl with | [_, _, _, _], _ => rfl
  have F11 := fun_mk (st := s_calendar_beyond_bounds) l11 c11 k11
  have b11 := F11.binds (ps := ["rows", "rest"]) fun _ _ _ _ _ _ us hl => match us, hl with | [_, _], _ => rfl
  have F12 := fun_mk (st := s_changed_calendar) l12 c12 k12
  have b12 := F12.binds (ps := ["calendar", "first", "last", "by"]) fun _ _ _ _ _ _ us hl => match us, hl with | [_, _, _, _], _ => rfl
  have F13 := fun_mk (st := s_law_cell_at) l13 c13 k13
  have b13 := F13.binds (ps := ["_law_script", "_law_k"]) fun _ _ _ _ _ _ us hl => match us, hl with | [_, _], _ => rfl
  have F14 := fun_mk (st := s_law_whole) l14 c14 k14
  have b14 := F14.binds (ps := ["_law_found", "_law_due"]) fun _ _ _ _ _ _ us hl => match us, hl with | [_, _], _ => rfl
  have F15 := fun_mk (st := s_law_pairs) l15 c15 k15
  have b15 := F15.binds (ps := ["_law_found", "_law_due"]) fun _ _ _ _ _ _ us hl => match us, hl with | [_, _], _ => rfl
  have F16 := fun_mk (st := s_law_mixed) l16 c16 k16
  have b16 := F16.binds (ps := ["_law_cell", "_law_k"]) fun _ _ _ _ _ _ us hl => match us, hl with | [_, _], _ => rfl
  have F17 := fun_mk (st := s_law_begun) l17 c17 k17
  have b17 := F17.binds (ps := ["_law_script"]) fun _ _ _ _ _ _ us hl => match us, hl with | [_], _ => rfl
  have F18 := fun_mk (st := s_law_rows) l18 c18 k18
  have b18 := F18.binds (ps := ["_law_some"]) fun _ _ _ _ _ _ us hl => match us, hl with | [_], _ => rfl
  have F19 := fun_mk (st := s_law_sums) l19 c19 k19
  have b19 := F19.binds (ps := ["_law_calendar", "_law_some", "_law_number"]) fun _ _ _ _ _ _ us hl => match us, hl with | [_, _, _], _ => rfl
  have F20 := fun_mk (st := s_law_right) l20 c20 k20
  have b20 := F20.binds (ps := ["_law_calendar", "_law_some", "_law_number"]) fun _ _ _ _ _ _ us hl => match us, hl with | [_, _, _], _ => rfl
  have F21 := fun_mk (st := s_law_told) l21 c21 k21
  have b21 := F21.binds (ps := ["_law_calendar", "_law_some", "_law_number"]) fun _ _ _ _ _ _ us hl => match us, hl with | [_, _, _], _ => rfl
  have F22 := fun_mk (st := s_law) l22 c22 k22
  have b22 := F22.binds (ps := ["_law_script"]) fun _ _ _ _ _ _ us hl => match us, hl with | [_], _ => rfl
  have FF0 := fun_mk (st := s_Calendar_init) L0 J0 K0
  have bb0 := FF0.binds (ps := ["self", "rows", "rest"]) fun _ _ _ _ _ _ us hl => match us, hl with | [_, _, _], _ => rfl
  have FF1 := fun_mk (st := s_Calendar_rows) L1 J1 K1
  have bb1 := FF1.binds (ps := ["self"]) fun _ _ _ _ _ _ us hl => match us, hl with | [_], _ => rfl
  have FF2 := fun_mk (st := s_Calendar_rest) L2 J2 K2
  have bb2 := FF2.binds (ps := ["self"]) fun _ _ _ _ _ _ us hl => match us, hl with | [_], _ => rfl
  have FF3 := fun_mk (st := s_Calendar_at) L3 J3 K3
  have bb3 := FF3.binds (ps := ["self", "turn"]) fun _ _ _ _ _ _ us hl => match us, hl with | [_, _], _ => rfl
  have FF4 := fun_mk (st := s_Calendar_end) L4 J4 K4
  have bb4 := FF4.binds (ps := ["self"]) fun _ _ _ _ _ _ us hl => match us, hl with | [_], _ => rfl
  have FF5 := fun_mk (st := s_Calendar_over) L5 J5 K5
  have bb5 := FF5.binds (ps := ["self", "first", "last"]) fun _ _ _ _ _ _ us hl => match us, hl with | [_, _, _], _ => rfl
  have FF6 := fun_mk (st := s_Calendar_over_spans) L6 J6 K6
  have bb6 := FF6.binds (ps := ["self", "spans"]) fun _ _ _ _ _ _ us hl => match us, hl with | [_, _], _ => rfl
  have FF7 := fun_mk (st := s_Calendar_changes) L7 J7 K7
  have bb7 := FF7.binds (ps := ["self", "first", "last"]) fun _ _ _ _ _ _ us hl => match us, hl with | [_, _, _], _ => rfl
  have FF8 := fun_mk (st := s_Calendar_fewer) L8 J8 K8
  have bb8 := FF8.binds (ps := ["self", "first", "last", "many"]) fun _ _ _ _ _ _ us hl => match us, hl with | [_, _, _, _], _ => rfl
  have FF9 := fun_mk (st := s_Calendar_more) L9 J9 K9
  have bb9 := FF9.binds (ps := ["self", "first", "last", "many"]) fun _ _ _ _ _ _ us hl => match us, hl with | [_, _, _, _], _ => rfl
  have FF10 := fun_mk (st := s_Calendar_widened) L10 J10 K10
  have bb10 := FF10.binds (ps := ["self", "many"]) fun _ _ _ _ _ _ us hl => match us, hl with | [_, _], _ => rfl
  have T : Σ' T : Txt K mg, T.f_law = fa ∧ T.fd_law = PySem.W.fnOf "law" "law" (defArgs s_law) (defBody s_law) (defScope s_law) .none kV22 dc22 pm22 an22 cd22 ct22 := ⟨⟨_, _, ⟨F0, b0, PySem.W.mg_of X G a0⟩, _, _, ⟨F1, b1, PySem.W.mg_of X G a1⟩, _, _, ⟨F2, b2, PySem.W.mg_of X G a2⟩, _, _, ⟨F3, b3, PySem.W.mg_of X G a3⟩, _, _, ⟨F4, b4, PySem.W.mg_of X G a4⟩, _, _, ⟨F5, b5, PySem.W.mg_of X G a5⟩, _, _, ⟨F6, b6, PySem.W.mg_of X G a6⟩, _, _, ⟨F7, b7, PySem.W.mg_of X G a7⟩, _, _, ⟨F8, b8, PySem.W.mg_of X G a8⟩, _, _, ⟨F9, b9, PySem.W.mg_of X G a9⟩, _, _, ⟨F10, b10, PySem.W.mg_of X G a10⟩, _, _, ⟨F11, b11, PySem.W.mg_of X G a11⟩, _, _, ⟨F12, b12, PySem.W.mg_of X G a12⟩, _, _, ⟨F13, b13, PySem.W.mg_of X G a13⟩, _, _, ⟨F14, b14, PySem.W.mg_of X G a14⟩, _, _, ⟨F15, b15, PySem.W.mg_of X G a15⟩, _, _, ⟨F16, b16, PySem.W.mg_of X G a16⟩, _, _, ⟨F17, b17, PySem.W.mg_of X G a17⟩, _, _, ⟨F18, b18, PySem.W.mg_of X G a18⟩, _, _, ⟨F19, b19, PySem.W.mg_of X G a19⟩, _, _, ⟨F20, b20, PySem.W.mg_of X G a20⟩, _, _, ⟨F21, b21, PySem.W.mg_of X G a21⟩, _, _, ⟨F22, b22, PySem.W.mg_of X G a22⟩, _, ⟨pg_Calendar, hd_Calendar, po_Calendar, sa_Calendar⟩, PySem.W.mg_of X G aC_Calendar, _, _, ⟨FF0, bb0⟩, ⟨A0, I0, K0⟩, _, _, ⟨FF1, bb1⟩, ⟨A1, I1, K1⟩, _, _, ⟨FF2, bb2⟩, ⟨A2, I2, K2⟩, _, _, ⟨FF3, bb3⟩, ⟨A3, I3, K3⟩, _, _, ⟨FF4, bb4⟩, ⟨A4, I4, K4⟩, _, _, ⟨FF5, bb5⟩, ⟨A5, I5, K5⟩, _, _, ⟨FF6, bb6⟩, ⟨A6, I6, K6⟩, _, _, ⟨FF7, bb7⟩, ⟨A7, I7, K7⟩, _, _, ⟨FF8, bb8⟩, ⟨A8, I8, K8⟩, _, _, ⟨FF9, bb9⟩, ⟨A9, I9, K9⟩, _, _, ⟨FF10, bb10⟩, ⟨A10, I10, K10⟩, ⟨mk_Calendar, A0, I0, kc_Calendar⟩, na_stretches, na_beyond, PySem.W.mg_none_of X G z_all, PySem.W.mg_none_of X G z_bool, PySem.W.mg_none_of X G z_int, PySem.W.mg_none_of X G z_isinstance, PySem.W.mg_none_of X G z_len, PySem.W.mg_none_of X G z_list, PySem.W.mg_none_of X G z_max, PySem.W.mg_none_of X G z_min, PySem.W.mg_none_of X G z_range, PySem.W.mg_none_of X G z_sum, PySem.W.mg_none_of X G z_tuple, PySem.W.mg_none_of X G z_zip, t_MOST_ROWS, PySem.W.mg_of X G v_MOST_ROWS, t_MOST_TURNS_OF_ROW, PySem.W.mg_of X G v_MOST_TURNS_OF_ROW, t_MOST_MACHINES, PySem.W.mg_of X G v_MOST_MACHINES⟩, rfl, rfl⟩
  obtain ⟨T, e1, e2⟩ := T
  refine ⟨PySem.W.fnOf "law" "law" (defArgs s_law) (defBody s_law) (defScope s_law) .none kV22 dc22 pm22 an22 cd22 ct22, fun s v => .of_eq rfl, fun base _ _ => ?_⟩
  have q := G_law (P := l.prog) (w := w) (base := base) T
  rw [e1, e2] at q
  exact q

theorem walk {l : PySem.W.OpenLaw} {q : Program} {loose : List Str} {XP : (Str → Option Value) → Heap → Prop} {YP : World → Heap → Prop} {d : DefRec} {K : Params → PySem.W.Frag} (hn : l.most = some 63) (hdf : d.params.defaults = [])
    (hY : ∀ (w : World) (h : Heap), YP w h → (K w.params).In h)
    (F : ∀ (w : World) (mg : Str → Option Value) (fa : Addr) (h : Heap), (K w.params).In h → h.Ns mainGlobals mg → mg d.name = some (.ref fa) →
      ∃ fd : FuncData, (∀ (s : Shared) (u : Value), BindsTo s fd ⟨[u], []⟩ [("_law_script", u)]) ∧ ∀ base : Heap, (K w.params).In base → base.Ns mainGlobals mg → FnOk l.prog w (K w.params) mg base CX0 12 fa fd ["_law_script"] (spLaw (K w.params))) :
    PySem.W.WalkO q loose XP YP l.row.toRowW d [] (fun f vs => PySem.call f vs) :=
  L2.walk_of (n := 63) (k := 12) (x := "_law_script") (CX := fun _ => CX0) (sp := fun w => spLaw (K w.params)) hn (by decide) hdf ⟨rfl, by decide, by decide⟩ hY F (fun _ _ a ns hl hO hS => ⟨a, ns, rfl, hS, hl, hO, fun _ => rfl⟩) fun _ _ _ _ _ z => z

end My
open PySem PySem.W PyProof.Rows
set_option maxRecDepth 100000 in
set_option maxHeartbeats 0 in
theorem PySem.Challenge.cw_dueyard_k04_whole_calendars_by_deeds_holds : PySem.Challenge.rw_dueyard_k04_whole_calendars_by_deeds.Holds := by
  w_on; o_law; k_head; (case hw => w_witness2)
  k_fill
  refine My.walk (l := PySem.Challenge.rw_dueyard_k04_whole_calendars_by_deeds) rfl rfl (fun w h Y => PySem.W.kIn_of Y) ?F
  case F =>
    intro w mg fa h KX G hmg
    refine' My.all_mk KX G hmg ?a0 ?l0 ?c0 ?k0 ?a1 ?l1 ?c1 ?k1 ?a2 ?l2 ?c2 ?k2 ?a3 ?l3 ?c3 ?k3 ?a4 ?l4 ?c4 ?k4 ?a5 ?l5 ?c5 ?k5 ?a6 ?l6 ?c6 ?k6 ?a7 ?l7 ?c7 ?k7 ?a8 ?l8 ?c8 ?k8 ?a9 ?l9 ?c9 ?k9 ?a10 ?l10 ?c10 ?k10 ?a11 ?l11 ?c11 ?k11 ?a12 ?l12 ?c12 ?k12 ?a13 ?l13 ?c13 ?k13 ?a14 ?l14 ?c14 ?k14 ?a15 ?l15 ?c15 ?k15 ?a16 ?l16 ?c16 ?k16 ?a17 ?l17 ?c17 ?k17 ?a18 ?l18 ?c18 ?k18 ?a19 ?l19 ?c19 ?k19 ?a20 ?l20 ?c20 ?k20 ?a21 ?l21 ?c21 ?k21 ?a22 ?l22 ?c22 ?k22 ?aC_Calendar ?A0 ?I0 ?L0 ?J0 ?K0 ?A1 ?I1 ?L1 ?J1 ?K1 ?A2 ?I2 ?L2 ?J2 ?K2 ?A3 ?I3 ?L3 ?J3 ?K3 ?A4 ?I4 ?L4 ?J4 ?K4 ?A5 ?I5 ?L5 ?J5 ?K5 ?A6 ?I6 ?L6 ?J6 ?K6 ?A7 ?I7 ?L7 ?J7 ?K7 ?A8 ?I8 ?L8 ?J8 ?K8 ?A9 ?I9 ?L9 ?J9 ?K9 ?A10 ?I10 ?L10 ?J10 ?K10 ?pg_Calendar ?hd_Calendar ?po_Calendar ?sa_Calendar ?mk_Calendar ?kc_Calendar ?na_stretches ?na_beyond ?z_all ?z_bool ?z_int ?z_isinstance ?z_len ?z_list ?z_max ?z_min ?z_range ?z_sum ?z_tuple ?z_zip ?v_MOST_ROWS ?v_MOST_TURNS_OF_ROW ?v_MOST_MACHINES
    (case a0 => k_is); (case l0 => k_is); (case c0 => k_is); (case k0 => k_is)
    (case a1 => k_is); (case l1 => k_is); (case c1 => k_is); (case k1 => k_is)
    (case a2 => k_is); (case l2 => k_is); (case c2 => k_is); (case k2 => k_is)
    (case a3 => k_is); (case l3 => k_is); (case c3 => k_is); (case k3 => k_is)
    (case a4 => k_is); (case l4 => k_is); (case c4 => k_is); (case k4 => k_is)
    (case a5 => k_is); (case l5 => k_is); (case c5 => k_is); (case k5 => k_is)
    (case a6 => k_is); (case l6 => k_is); (case c6 => k_is); (case k6 => k_is)
    (case a7 => k_is); (case l7 => k_is); (case c7 => k_is); (case k7 => k_is)
    (case a8 => k_is); (case l8 => k_is); (case c8 => k_is); (case k8 => k_is)
    (case a9 => k_is); (case l9 => k_is); (case c9 => k_is); (case k9 => k_is)
    (case a10 => k_is); (case l10 => k_is); (case c10 => k_is); (case k10 => k_is)
    (case a11 => k_is); (case l11 => k_is); (case c11 => k_is); (case k11 => k_is)
    (case a12 => k_is); (case l12 => k_is); (case c12 => k_is); (case k12 => k_is)
    (case a13 => k_is); (case l13 => k_is); (case c13 => k_is); (case k13 => k_is)
    (case a14 => k_is); (case l14 => k_is); (case c14 => k_is); (case k14 => k_is)
    (case a15 => k_is); (case l15 => k_is); (case c15 => k_is); (case k15 => k_is)
    (case a16 => k_is); (case l16 => k_is); (case c16 => k_is); (case k16 => k_is)
    (case a17 => k_is); (case l17 => k_is); (case c17 => k_is); (case k17 => k_is)
    (case a18 => k_is); (case l18 => k_is); (case c18 => k_is); (case k18 => k_is)
    (case a19 => k_is); (case l19 => k_is); (case c19 => k_is); (case k19 => k_is)
    (case a20 => k_is); (case l20 => k_is); (case c20 => k_is); (case k20 => k_is)
    (case a21 => k_is); (case l21 => k_is); (case c21 => k_is); (case k21 => k_is)
    (case a22 => k_is); (case l22 => k_is); (case c22 => k_is); (case k22 => k_is)
    (case aC_Calendar => k_is)
    (case A0 => k_is); (case I0 => k_is); (case L0 => k_is); (case J0 => k_is); (case K0 => k_is)
    (case A1 => k_is); (case I1 => k_is); (case L1 => k_is); (case J1 => k_is); (case K1 => k_is)
    (case A2 => k_is); (case I2 => k_is); (case L2 => k_is); (case J2 => k_is); (case K2 => k_is)
    (case A3 => k_is); (case I3 => k_is); (case L3 => k_is); (case J3 => k_is); (case K3 => k_is)
    (case A4 => k_is); (case I4 => k_is); (case L4 => k_is); (case J4 => k_is); (case K4 => k_is)
    (case A5 => k_is); (case I5 => k_is); (case L5 => k_is); (case J5 => k_is); (case K5 => k_is)
    (case A6 => k_is); (case I6 => k_is); (case L6 => k_is); (case J6 => k_is); (case K6 => k_is)
    (case A7 => k_is); (case I7 => k_is); (case L7 => k_is); (case J7 => k_is); (case K7 => k_is)
    (case A8 => k_is); (case I8 => k_is); (case L8 => k_is); (case J8 => k_is); (case K8 => k_is)
    (case A9 => k_is); (case I9 => k_is); (case L9 => k_is); (case J9 => k_is); (case K9 => k_is)
    (case A10 => k_is); (case I10 => k_is); (case L10 => k_is); (case J10 => k_is); (case K10 => k_is)
    (case pg_Calendar => k_is); (case hd_Calendar => k_is); (case po_Calendar => k_is); (case sa_Calendar => k_is); (case mk_Calendar => k_is); (case kc_Calendar => k_is)
    (case na_stretches => k_is)
    (case na_beyond => k_is)
    (case z_all => k_is)
    (case z_bool => k_is)
    (case z_int => k_is)
    (case z_isinstance => k_is)
    (case z_len => k_is)
    (case z_list => k_is)
    (case z_max => k_is)
    (case z_min => k_is)
    (case z_range => k_is)
    (case z_sum => k_is)
    (case z_tuple => k_is)
    (case z_zip => k_is)
    (case v_MOST_ROWS => k_is)
    (case v_MOST_TURNS_OF_ROW => k_is)
    (case v_MOST_MACHINES => k_is)

