import PyProof.Rows.All
import Wide.All
import OpenK.AllK
import Wide.FinOn
import Lean
import PyProof.EqAt
import PyProof.EqKinds
import PyProof.TupleCall
import PySem.Challenge.RW_shoreways_k14_replies
-- CHANGE: your row's module here, as the last of these rows
set_option Elab.async false
set_option linter.all false
set_option maxRecDepth 100000
/-! THE HAND LAYER, for ints, bools, texts, own classes, LISTS and tuples (index, slices, in, append, pop ..), calls, loops. Paste it whole ahead of your own text; what your proof does not reach may be deleted. -/
namespace L2
open PySem PySem.Spec PyProof.Rows

/-- a key: an int or a str -/
abbrev Key := Sum Int Str
def keyIs : Key → Value → Bool
  | .inl k, v => Value.isInt k v
  | .inr x, v => Value.isStrOf x v
def keyH (w : World) : Key → Int
  | .inl k => hashInt k
  | .inr x => hashStr w x
theorem keyIs_shape : ∀ {k : Key} {v : Value}, keyIs k v = true → (∃ i t, k = Sum.inl i ∧ v = Value.int i t) ∨ (∃ x t, k = Sum.inr x ∧ v = Value.str x t)
  | .inl i, v, h => by
    obtain ⟨t, e⟩ := Value.isInt_shape (k := i) (v := v) h
    exact .inl ⟨i, t, rfl, e⟩
  | .inr x, v, h => by
    obtain ⟨t, e⟩ := Value.isStrOf_shape (x := x) (v := v) h
    exact .inr ⟨x, t, rfl, e⟩
theorem keyIs_int (i : Int) (t : Tok) : keyIs (.inl i) (.int i t) = true := by simp [keyIs, Value.isInt]
theorem keyIs_str (x : Str) (t : Tok) : keyIs (.inr x) (.str x t) = true := by simp [keyIs, Value.isStrOf]
theorem key_ll (a b : Int) : decide ((Sum.inl a : Key) = Sum.inl b) = (a == b) := by
  by_cases e : a = b
  · subst e; simp
  · have h : ¬ (Sum.inl a : Key) = Sum.inl b := fun q => e (Sum.inl.inj q)
    rw [decide_eq_false h]
    exact (beq_eq_false_iff_ne.mpr e).symm
theorem key_rr (a b : Str) : decide ((Sum.inr a : Key) = Sum.inr b) = decide (a = b) := by
  by_cases e : a = b
  · subst e; simp
  · have h : ¬ (Sum.inr a : Key) = Sum.inr b := fun q => e (Sum.inr.inj q)
    rw [decide_eq_false h, decide_eq_false e]
theorem key_lr (a : Int) (b : Str) : decide ((Sum.inl a : Key) = Sum.inr b) = false := decide_eq_false (fun q => nomatch q)
theorem key_rl (a : Str) (b : Int) : decide ((Sum.inr a : Key) = Sum.inl b) = false := decide_eq_false (fun q => nomatch q)

def mixKind (prog : Program) (w : World) : PySem.KeyKind prog w Key where
  is := keyIs
  hash := keyH w
  inj := fun v a b ha hb => by
    rcases keyIs_shape ha with ⟨i, t, rfl, rfl⟩ | ⟨x, t, rfl, rfl⟩
    · rcases keyIs_shape hb with ⟨j, u, rfl, e⟩ | ⟨y, u, rfl, e⟩
      · injection e with e1 _; rw [e1]
      · exact nomatch e
    · rcases keyIs_shape hb with ⟨j, u, rfl, e⟩ | ⟨y, u, rfl, e⟩
      · exact nomatch e
      · injection e with e1 _; rw [e1]
  byValue := fun k v h => by
    rcases keyIs_shape h with ⟨i, t, rfl, rfl⟩ | ⟨x, t, rfl, rfl⟩ <;> rfl
  pyHash := fun hv h => by
    rcases keyIs_shape hv with ⟨i, t, rfl, rfl⟩ | ⟨x, t, rfl, rfl⟩
    · exact wpAny_pyHash_int h
    · exact wpAny_pyHash_str h
  eqBool := fun hu hv h => by
    rcases keyIs_shape hu with ⟨i, t, rfl, rfl⟩ | ⟨x, t, rfl, rfl⟩
    · rcases keyIs_shape hv with ⟨j, u, rfl, rfl⟩ | ⟨y, u, rfl, rfl⟩
      · rw [key_ll] at h; exact wpAny_eqBool_int h
      · rw [key_lr] at h; exact SeqAt.EqAt.int_str i t y u _ _ _ _ h
    · rcases keyIs_shape hv with ⟨j, u, rfl, rfl⟩ | ⟨y, u, rfl, rfl⟩
      · rw [key_rl] at h; exact SeqAt.EqAt.str_int x t j u _ _ _ _ h
      · rw [key_rr] at h; exact wpAny_eqBool_str h
  «strs» := fun k x t v h => by
    rcases keyIs_shape h with ⟨i, u, rfl, e⟩ | ⟨y, u, rfl, e⟩
    · exact nomatch e
    · injection e with e1 _
      subst e1
      cases v <;> rfl

theorem mixKind_int (prog : Program) (w : World) (i : Int) (t : Tok) : (mixKind prog w).is (.inl i) (.int i t) = true := keyIs_int i t
theorem mixKind_str (prog : Program) (w : World) (x : Str) (t : Tok) : (mixKind prog w).is (.inr x) (.str x t) = true := keyIs_str x t
end L2

namespace L2
open PySem PySem.Spec PyProof.Rows

/-- a value, without the heap -/
inductive V where
  | non | bl (b : Bool) | int (i : Int) | str (x : Str) | byt (b : Array UInt8) | flt (b : UInt64) | ref (a : Addr) | ty (n : String)
  deriving DecidableEq

def RelV : V → Value → Prop
  | .non, u => u = Value.none
  | .bl b, u => u = Value.bool b
  | .int i, u => ∃ t, u = Value.int i t
  | .str x, u => ∃ t, u = Value.str x t
  | .byt b, u => ∃ t, u = Value.bytes b t
  | .flt b, u => ∃ t, u = Value.float b t
  | .ref a, u => u = Value.ref a
  | .ty n, u => u = Value.type n

abbrev Vals : List V → List Value → Prop := Paired RelV
theorem Vals.length {xs : List V} {us : List Value} (r : Vals xs us) : xs.length = us.length := Paired.length r
theorem Vals.get : ∀ {xs : List V} {us : List Value} {i : Nat} {x : V}, Vals xs us → xs[i]? = some x → ∃ u, us[i]? = some u ∧ RelV x u
  | _, _, _, _, .nil, e => by simp at e
  | _, _, 0, _, .cons r _, e => by simp at e; subst e; exact ⟨_, rfl, r⟩
  | _, _, i + 1, x, .cons _ t, e => by
    obtain ⟨u, h1, h2⟩ := Vals.get (i := i) (x := x) t (by simpa using e)
    exact ⟨u, by simpa using h1, h2⟩
theorem Vals.set {x : V} {u : Value} (r : RelV x u) : ∀ {xs : List V} {us : List Value} (i : Nat), Vals xs us → Vals (xs.set i x) (us.set i u)
  | _, _, _, .nil => .nil
  | _, _, 0, .cons _ t => .cons r t
  | _, _, i + 1, .cons q t => .cons q (Vals.set r i t)
theorem Vals.append : ∀ {xs ys : List V} {us ws : List Value}, Vals xs us → Vals ys ws → Vals (xs ++ ys) (us ++ ws)
  | _, _, _, _, .nil, s => s
  | _, _, _, _, .cons r t, s => .cons r (Vals.append t s)
theorem Vals.take : ∀ {xs : List V} {us : List Value} (n : Nat), Vals xs us → Vals (xs.take n) (us.take n)
  | _, _, 0, _ => .nil
  | _, _, _ + 1, .nil => .nil
  | _, _, n + 1, .cons r t => .cons r (Vals.take n t)
theorem Vals.drop : ∀ {xs : List V} {us : List Value} (n : Nat), Vals xs us → Vals (xs.drop n) (us.drop n)
  | _, _, 0, r => r
  | _, _, _ + 1, .nil => .nil
  | _, _, n + 1, .cons _ t => Vals.drop n t

def RelO : Option V → Option Value → Prop
  | some v, some u => RelV v u
  | none, none => True
  | _, _ => False
def KV {κ : Type} : List (κ × V) → List (κ × Value) → Prop := Paired fun (p : κ × V) (q : κ × Value) => p.1 = q.1 ∧ RelV p.2 q.2

/-- a key of a dict (00_mix): an int or a text -/
def kV : Key → V
  | .inl i => .int i
  | .inr x => .str x

/-- what stands at a tracked address -/
inductive HO where
  /-- a list -/
  | lst (xs : List V)
  /-- a tuple (never changes) -/
  | tup (xs : List V)
  /-- a dict whose keys are ints and texts; one whose keys are tuples of ints and texts (the empty one is both) -/
  | dK (kvs : List (Key × V)) | dT (kvs : List (List Key × V))
  /-- a set of ints: its members, its size -/
  | set (S : Int → Bool) (n : Nat)
  /-- an instance of the class at C, its dict at dx, its attributes -/
  | ins (C dx : Addr) (fs : List (Str × V))
  /-- the dict of the instance at x -/
  | own (x : Addr)
  /-- the dict of an exception -/
  | xd (fs : List (Str × V))
  /-- a bound method, f of x -/
  | met (f x : Addr)
  /-- a range object lo, lo + 1, .. below hi -/
  | rng (lo hi : Int)
  /-- a thing that is known to the object (the script; a dict while a loop walks it): read, never written while it is so -/
  | frz (o : Obj) (u : HO)
  /-- a code object's table -/
  | tbl (ps : Array Value)
  /-- any other thing, by what is true of its one object (a def of one's own: SetO a S n := HO.ext fun h => ..) -/
  | ext (φ : Heap → Prop)

abbrev Hp := Addr → Option HO
def upd (H : Hp) (a : Addr) (o : HO) : Hp := fun b => if b = a then some o else H b
theorem upd_same {H : Hp} {a : Addr} {o : HO} : upd H a o a = some o := by unfold upd; rw [if_pos rfl]
theorem upd_ne {H : Hp} {a b : Addr} {o : HO} (h : b ≠ a) : upd H a o b = H b := by unfold upd; rw [if_neg h]
theorem upd_upd {H : Hp} {a : Addr} {o u : HO} : upd (upd H a o) a u = upd H a u := by
  funext b; unfold upd; split <;> rfl
/-- two objects of different content stand apart -/
theorem ne_of {H : Hp} {a b : Addr} {o u : HO} (h : H a = some o) (h' : H b = some u) (d : o ≠ u) : a ≠ b := by
  intro e; subst e; rw [h] at h'; exact d (Option.some.inj h')
theorem ne_of_none {H : Hp} {a b : Addr} {o : HO} (h : H a = some o) (h' : H b = none) : a ≠ b := by
  intro e; subst e; rw [h] at h'; cases h'

section
variable (P : Program) (w : World)
def ObjOk (H : Hp) (h : Heap) (a : Addr) : HO → Prop
  | .lst xs => xs.length ≤ sizeLine ∧ ∃ (its : List Value) (n : Nat), Vals xs its ∧ h.get? a = some { cls := .type "list", data := .seq its.toArray n }
  | .tup xs => xs.length ≤ sizeLine ∧ ∃ its : List Value, Vals xs its ∧ IsTup h a its.toArray
  | .dK kvs => kvs.length ≤ sizeLine ∧ (a == sysModules) = false ∧ ∃ vs, KV kvs vs ∧ h.DictOf (mixKind P w) a vs
  | .dT kvs => kvs.length ≤ sizeLine ∧ (a == sysModules) = false ∧ ∃ xs : List (List Key × Addr × Value),
      Paired (fun (p : List Key × V) (q : List Key × Addr × Value) => p.1 = q.1 ∧ H q.2.1 = some (.tup (p.1.map kV)) ∧ RelV p.2 q.2.2) kvs xs ∧
      ∃ o es ep, h.get? a = some o ∧ o.ExactDict ∧ o.data = .dict es ep ∧ es.toList = xs.map (entryOfKey (tupleKind (mixKind P w))) ∧ (xs.map (·.1)).Nodup
  | .set S n => h.SetOf (intKind P w) a S n
  | .ins C dx fs => H dx = some (.own a) ∧ fs.length ≤ 1000 ∧ dx ≠ a ∧ h.get? a = some (PySem.W.instObj C dx) ∧
      ∃ mA, h.Ns1 dx mA ∧ (∀ f, RelO (fs.lookup f) (mA f)) ∧ PySem.Within mA (fs.map (·.1))
  | .own _ => ∃ o, h.get? a = some o
  | .xd fs => ∃ mA, h.Ns1 a mA ∧ ∀ f, RelO (fs.lookup f) (mA f)
  | .rng lo hi => ∃ t u v, h.get? a = some { cls := .type "range", data := .fields #[.int lo t, .int hi u, .int 1 v] }
  | .frz o u => h.get? a = some o ∧ ObjOk H h a u
  | .tbl ps => h.get? a = some { cls := .none, data := .fields ps }
  | .met f x => h.get? a = some (PySem.W.methodObj (.ref f) (.ref x))
  | .ext φ => φ h ∧ (∃ o, h.get? a = some o) ∧ ∀ h1 h2 : Heap, φ h1 → (∀ o, h1.get? a = some o → h2.get? a = some o) → φ h2
/-- the abstract heap is held -/
def HOk (H : Hp) (h : Heap) : Prop := ∀ a o, H a = some o → ObjOk P w H h a o
end

section
variable {P : Program} {w : World} {H H' : Hp} {h h' : Heap} {a : Addr} {o : HO}
theorem ObjOk.lt (x : ObjOk P w H h a o) : a < h.objs.size := by
  cases o with
  | lst xs => obtain ⟨_, _, _, _, e⟩ := x; exact Heap.lt_size e
  | tup xs => obtain ⟨_, _, _, p⟩ := x; exact p.lt
  | dK kvs => obtain ⟨_, _, _, _, o, _, _, e, _⟩ := x; exact Heap.lt_size e
  | dT kvs => obtain ⟨_, _, _, _, o, _, _, e, _⟩ := x; exact Heap.lt_size e
  | set S n => obtain ⟨o, _, _, _, e, _⟩ := x; exact Heap.lt_size e
  | ins C dx fs => obtain ⟨_, _, _, e, _⟩ := x; exact Heap.lt_size e
  | own y => obtain ⟨_, e⟩ := x; exact Heap.lt_size e
  | xd fs => obtain ⟨_, ⟨_, _, _, e, _⟩, _⟩ := x; exact Heap.lt_size e
  | rng lo hi => obtain ⟨_, _, _, e⟩ := x; exact Heap.lt_size e
  | frz ob u => obtain ⟨e, _⟩ := x; exact Heap.lt_size e
  | tbl ps => exact Heap.lt_size (show h.get? a = some _ from x)
  | met f y => exact Heap.lt_size (show h.get? a = some _ from x)
  | ext φ => obtain ⟨_, ⟨_, e⟩, _⟩ := x; exact Heap.lt_size e
theorem Paired.mapP {α β : Type} {F G : α → β → Prop} : ∀ {l₁ : List α} {l₂ : List β}, Paired F l₁ l₂ → (∀ a b, F a b → G a b) → Paired G l₁ l₂
  | _, _, .nil, _ => .nil
  | _, _, .cons r t, f => .cons (f _ _ r) (Paired.mapP t f)
/-- what an object's description leans on: its own object, its own dict, the tuples -/
theorem ObjOk.stay (x : ObjOk P w H h a o) (k : ∀ b u, (b = a ∨ H b = some (.own a)) → h.get? b = some u → h'.get? b = some u)
    (ho : ∀ b, H b = some (.own a) → H' b = some (.own a)) (ht : ∀ b xs, H b = some (.tup xs) → H' b = some (.tup xs)) : ObjOk P w H' h' a o := by
  induction o with
  | lst xs => obtain ⟨z, its, n, r, e⟩ := x; exact ⟨z, its, n, r, k _ _ (.inl rfl) e⟩
  | tup xs => obtain ⟨z, its, r, ob, e, c⟩ := x; exact ⟨z, its, r, ob, k _ _ (.inl rfl) e, c⟩
  | dK kvs => obtain ⟨z, y, vs, r, ob, es, ep, e, c⟩ := x; exact ⟨z, y, vs, r, ob, es, ep, k _ _ (.inl rfl) e, c⟩
  | dT kvs =>
    obtain ⟨z, y, xs, r, ob, es, ep, e, c⟩ := x
    exact ⟨z, y, xs, Paired.mapP r fun p q z => ⟨z.1, ht _ _ z.2.1, z.2.2⟩, ob, es, ep, k _ _ (.inl rfl) e, c⟩
  | set S n => obtain ⟨ob, es, ep, t, e, c⟩ := x; exact ⟨ob, es, ep, t, k _ _ (.inl rfl) e, c⟩
  | ins C dx fs =>
    obtain ⟨d, z, ne, e, mA, ⟨od, es, ep, e2, c⟩, r⟩ := x
    exact ⟨ho _ d, z, ne, k _ _ (.inl rfl) e, mA, ⟨od, es, ep, k _ _ (.inr d) e2, c⟩, r⟩
  | own y => obtain ⟨ob, e⟩ := x; exact ⟨ob, k _ _ (.inl rfl) e⟩
  | xd fs => obtain ⟨mA, ⟨od, es, ep, e, c⟩, r⟩ := x; exact ⟨mA, ⟨od, es, ep, k _ _ (.inl rfl) e, c⟩, r⟩
  | rng lo hi => obtain ⟨t, u, v, e⟩ := x; exact ⟨t, u, v, k _ _ (.inl rfl) e⟩
  | frz ob u ih => obtain ⟨e, q⟩ := x; exact ⟨k _ _ (.inl rfl) e, ih q⟩
  | tbl ps =>
    have e : h.get? a = some { cls := .none, data := .fields ps } := x
    show h'.get? a = some { cls := .none, data := .fields ps }
    exact k a _ (.inl rfl) e
  | met f y =>
    have e : h.get? a = some (PySem.W.methodObj (.ref f) (.ref y)) := x
    show h'.get? a = some (PySem.W.methodObj (.ref f) (.ref y))
    exact k a _ (.inl rfl) e
  | ext φ => obtain ⟨p, ⟨o, e⟩, st⟩ := x; exact ⟨st _ _ p fun o q => k _ _ (.inl rfl) q, ⟨o, k _ _ (.inl rfl) e⟩, st⟩
theorem HOk.lt (x : HOk P w H h) (e : H a = some o) : a < h.objs.size := (x a o e).lt
theorem HOk.fresh (x : HOk P w H h) (e : h.objs.size ≤ a) : H a = none := by
  cases q : H a with
  | none => rfl
  | some u => exact absurd (Nat.lt_of_lt_of_le (x.lt q) e) (Nat.lt_irrefl _)
/-- every object of the heap is kept -/
theorem HOk.kept (x : HOk P w H h) (k : ∀ b u, h.get? b = some u → h'.get? b = some u) : HOk P w H h' := fun a o e =>
  (x a o e).stay (fun b u _ q => k b u q) (fun _ q => q) fun _ _ q => q
/-- a new object is laid and tracked -/
theorem HOk.laid (x : HOk P w H h) (k : ∀ b u, h.get? b = some u → h'.get? b = some u) (hp : h.objs.size ≤ a) (new : ObjOk P w (upd H a o) h' a o) : HOk P w (upd H a o) h' := fun b u e => by
  have hn := x.fresh hp
  by_cases hb : b = a
  · subst hb; rw [upd_same] at e; cases e; exact new
  · rw [upd_ne hb] at e
    exact (x b u e).stay (fun c v _ q => k c v q) (fun c q => by rw [upd_ne (ne_of_none q hn)]; exact q) fun c xs q => by rw [upd_ne (ne_of_none q hn)]; exact q
end

/-- what may be read as u: it is u, or a known u -/
def Rd (H : Hp) (a : Addr) (u : HO) : Prop := H a = some u ∨ ∃ o, H a = some (.frz o u)
theorem Rd.ok {P : Program} {w : World} {H : Hp} {h : Heap} {a : Addr} {u : HO} (r : Rd H a u) (x : HOk P w H h) : ObjOk P w H h a u := by
  rcases r with r | ⟨o, r⟩
  · exact x a u r
  · obtain ⟨_, q⟩ := x a _ r
    exact q
/-- what may be written -/
def Mut : Option HO → Prop
  | some (.lst _) => True
  | some (.dK _) => True
  | some (.dT _) => True
  | some (.set _ _) => True
  | some (.ins _ _ _) => True
  | some (.ext _) => True
  | _ => False
section
variable {P : Program} {w : World} {H : Hp} {h h' : Heap} {x e : Addr} {o' : HO}
/-- the object at e is changed: x itself, or the dict of the instance x -/
theorem HOk.write (ok : HOk P w H h) (mu : Mut (H x)) (he : e = x ∨ H e = some (.own x)) (k : ∀ b u, b ≠ e → h.get? b = some u → h'.get? b = some u) (heo : ∃ u, h'.get? e = some u)
    (new : ObjOk P w (upd H x o') h' x o') : HOk P w (upd H x o') h' := fun b u q => by
  have nown : ∀ c y, H c = some (.own y) → c ≠ x := fun c y r z => by subst z; rw [r] at mu; exact mu
  have ntup : ∀ c xs, H c = some (.tup xs) → c ≠ x := fun c xs r z => by subst z; rw [r] at mu; exact mu
  by_cases hb : b = x
  · subst hb; rw [upd_same] at q; cases q; exact new
  · rw [upd_ne hb] at q
    by_cases hbe : b = e
    · have q' : H b = some (.own x) := by
        rcases he with z | z
        · exact absurd (hbe.trans z) hb
        · rw [hbe]; exact z
      rw [q] at q'; cases q'
      obtain ⟨v, hv⟩ := heo
      exact ⟨v, by rw [hbe]; exact hv⟩
    · refine (ok b u q).stay (fun c v hc r => k c v ?_ r) (fun c r => by rw [upd_ne (nown c b r)]; exact r) fun c xs r => by rw [upd_ne (ntup c xs r)]; exact r
      rcases hc with rfl | hc
      · exact hbe
      · rintro rfl
        rcases he with z | z
        · exact nown c b hc z
        · rw [hc] at z; cases z; exact hb rfl
end

/-! ### kept unless tracked; of the frames at fs (the callers') the slots may change (an exception that passes writes there); of the records at ex (iterators) nothing is said -/
structure Un (fs ex : List Addr) (H H' : Hp) (h h' : Heap) : Prop where
  keep : ∀ b o, h.get? b = some o → H b = none → b ∉ fs → b ∉ ex → h'.get? b = some o
  slot : ∀ b o, h.get? b = some o → H b = none → b ∈ fs → b ∉ ex → ∃ sl, h'.get? b = some { o with slots := sl }
  free : ∀ b o, h.get? b = some o → H b = none → b ∉ ex → H' b = none
  there : ∀ b o, h.get? b = some o → b ∉ ex → ∃ o', h'.get? b = some o'
  tups : ∀ b xs, H b = some (.tup xs) → H' b = some (.tup xs)
  frzs : ∀ b o u, H b = some (.frz o u) → H' b = some (.frz o u)
  tbls : ∀ b ps, H b = some (.tbl ps) → ∃ more, H' b = some (.tbl (ps ++ more))
section
variable {fs fs' ex ex' : List Addr} {H H1 H2 : Hp} {h h1 h2 h' : Heap} {a x e : Addr} {o : HO}
theorem Un.any (u : Un fs ex H H1 h h1) {b : Addr} {ob : Obj} (q : h.get? b = some ob) (n : H b = none) (hx : b ∉ ex) : ∃ sl, h1.get? b = some { ob with slots := sl } := by
  by_cases hb : b ∈ fs
  · exact u.slot b ob q n hb hx
  · exact ⟨ob.slots, u.keep b ob q n hb hx⟩
theorem Un.trans (a : Un fs ex H H1 h h1) (b : Un fs ex H1 H2 h1 h2) : Un fs ex H H2 h h2 where
  keep := fun c ob q n hc hx => b.keep c ob (a.keep c ob q n hc hx) (a.free c ob q n hx) hc hx
  slot := fun c ob q n hc hx => by
    obtain ⟨sl, e1⟩ := a.slot c ob q n hc hx
    obtain ⟨sl', e2⟩ := b.slot c _ e1 (a.free c ob q n hx) hc hx
    exact ⟨sl', e2⟩
  free := fun c ob q n hx => by
    obtain ⟨o', e1⟩ := a.there c ob q hx
    exact b.free c o' e1 (a.free c ob q n hx) hx
  there := fun c ob q hx => by
    obtain ⟨o', e1⟩ := a.there c ob q hx
    exact b.there c o' e1 hx
  tups := fun c xs q => b.tups c xs (a.tups c xs q)
  frzs := fun c ob xs q => b.frzs c ob xs (a.frzs c ob xs q)
  tbls := fun c ps q => by
    obtain ⟨m1, e1⟩ := a.tbls c ps q
    obtain ⟨m2, e2⟩ := b.tbls c _ e1
    exact ⟨m1 ++ m2, by rw [e2, Array.append_assoc]⟩
theorem Un.kept (k : ∀ b u, h.get? b = some u → h'.get? b = some u) : Un fs ex H H h h' :=
  ⟨fun b ob q _ _ _ => k b ob q, fun b ob q _ _ _ => ⟨ob.slots, k b ob q⟩, fun _ _ _ n _ => n, fun b ob q _ => ⟨ob, k b ob q⟩, fun _ _ q => q, fun _ _ _ q => q, fun _ ps q => ⟨#[], by rw [q]; simp⟩⟩
theorem Un.refl : Un fs ex H H h h := Un.kept fun _ _ q => q
theorem Un.laid (k : ∀ b u, h.get? b = some u → h'.get? b = some u) (hp : h.objs.size ≤ a) (hn : H a = none) : Un fs ex H (upd H a o) h h' where
  keep := fun b u q _ _ _ => k b u q
  slot := fun b u q _ _ _ => ⟨u.slots, k b u q⟩
  free := fun b u q n _ => by rw [upd_ne (Nat.ne_of_lt (Nat.lt_of_lt_of_le (Heap.lt_size q) hp))]; exact n
  there := fun b u q _ => ⟨u, k b u q⟩
  tups := fun b xs q => by rw [upd_ne (ne_of_none q hn)]; exact q
  frzs := fun b u xs q => by rw [upd_ne (ne_of_none q hn)]; exact q
  tbls := fun b ps q => ⟨#[], by rw [upd_ne (ne_of_none q hn), q]; simp⟩
theorem Un.write (mu : Mut (H x)) (he : e = x ∨ H e = some (.own x)) (k : ∀ b u, b ≠ e → h.get? b = some u → h'.get? b = some u) (heo : ∃ u, h'.get? e = some u) : Un fs ex H (upd H x o) h h' := by
  have hx : ∀ b, H b = none → b ≠ x := fun b n z => by subst z; rw [n] at mu; exact mu
  have hb : ∀ b, H b = none → b ≠ e := fun b n z => by
    subst z
    rcases he with r | r
    · exact hx b n r
    · rw [n] at r; cases r
  have hm : ∀ b u, H b = some u → ¬ Mut (some u) → b ≠ x := fun b u q nm z => by subst z; rw [q] at mu; exact nm mu
  refine ⟨fun b u q n _ _ => k b u (hb b n) q, fun b u q n _ _ => ⟨u.slots, k b u (hb b n) q⟩, fun b u q n _ => by rw [upd_ne (hx b n)]; exact n, fun b u q _ => ?_,
    fun b xs q => by rw [upd_ne (hm b _ q fun z => z)]; exact q, fun b u xs q => by rw [upd_ne (hm b _ q fun z => z)]; exact q, fun b ps q => ⟨#[], by rw [upd_ne (hm b _ q fun z => z), q]; simp⟩⟩
  by_cases hbe : b = e
  · subst hbe; exact heo
  · exact ⟨u, k b u hbe q⟩
end

/-! ### the heap without what is tracked -/
def trk (h : Heap) (H : Hp) : List Addr := (List.range h.objs.size).filter fun a => (H a).isSome
def hidT (h : Heap) (H : Hp) : Heap := PySem.W.hideAll h (trk h H)
theorem hidT_size (h : Heap) (H : Hp) : (hidT h H).objs.size = h.objs.size := PySem.W.hideAll_size _ _
theorem hidT_get {h : Heap} {H : Hp} {b : Addr} {o : Obj} (e : h.get? b = some o) (n : H b = none) : (hidT h H).get? b = some o :=
  PySem.W.hideAll_get _ e fun hm => by
    have q : (H b).isSome = true := (List.mem_filter.mp hm).2
    rw [n] at q; simp at q
theorem of_hidT {h : Heap} {H : Hp} {b : Addr} {o : Obj} (e : (hidT h H).get? b = some o) : h.get? b = some o ∧ H b = none := by
  have e' : h.get? b = some o := PySem.W.of_hideAll (trk h H) e
  refine ⟨e', ?_⟩
  cases q : H b with
  | none => rfl
  | some x =>
    have hm : b ∈ trk h H := List.mem_filter.mpr ⟨List.mem_range.mpr (Heap.lt_size e'), by simp [q]⟩
    have z : (hidT h H).get? b = none := PySem.W.hideAll_none (trk h H) hm
    rw [z] at e; cases e

/-! ### OpenK's ledger, filled with every new object but one -/
end L2

namespace L2
open PySem PySem.Spec PyProof.Rows

/-- the module's facts, over the base: the heap at the law's entry without what is tracked there -/
structure Mod (K : PySem.W.Frag) (mg : Str → Option Value) (base : Heap) : Prop where
  kin : K.In base
  glob : base.Ns mainGlobals mg
  blt : ∃ mb, base.Ns builtinsNs mb ∧ ∀ x : Str, x ≠ "__name__" → mb x = bootBuiltins x
  nolimit : base.NoLimit

/-- the context: a def's body (or a comprehension's block) running. base: fixed through the whole law; s₀, H₀: the entry; outer: the frames whose slots others may change (a def's callers); stack: all frames that run;
   ex: iterators that were made ahead of the entry and are walked here (a comprehension's); fn: the names whose cells were made at the entry (a def: all; a comprehension's block: its own); calm: not within an except suite; pn: pins that every state bears; xe: what is wanted of an exception that leaves the code -/
structure Cx where
  prog : Program
  w : World
  K : PySem.W.Frag
  mg : Str → Option Value
  base : Heap
  A : Around
  N : List Str
  s₀ : Shared
  H₀ : Hp
  env : Env
  outer : List Env
  stack : List Env
  ex : List Addr
  fn : Str → Bool
  calm : Bool
  pn : List (Addr × Obj)
  xe : Value → Shared → Prop
/-- the callers' frames -/
def frs (l : List Env) : List Addr := l.filterMap (·.frame)
abbrev Cx.fs (X : Cx) : List Addr := frs X.outer

def Vis (sc : Scope) (x : Str) : Prop := sc.names.lookup x = some .local ∨ sc.names.lookup x = some .cell ∨ sc.names.lookup x = some .free
def Loc (sc : Scope) (x : Str) : Prop := sc.names.lookup x = some .local ∨ sc.names.lookup x = some .cell
def Look (env : Env) (h : Heap) (m : Str → Option Value) (x : Str) (u : Value) : Prop :=
  (env.kindOf x = some .local ∧ m x = some u) ∨ ((env.kindOf x = some .cell ∨ env.kindOf x = some .free) ∧ ∃ c, env.cells.lookup x = some c ∧ h.IsCell c (some u))

structure Cx.Ok (X : Cx) : Prop where
  mod : Mod X.K X.mg X.base
  kind : X.env.scope.kind = .function
  glob : X.env.globals = mainGlobals
  blt : X.env.builtins = builtinsNs
  above : X.s₀.heap.objs.size ≤ X.env.locals
  inj : ∀ x y c, X.env.cells.lookup x = some c → X.env.cells.lookup y = some c → x = y
  has : ∀ x, (X.env.kindOf x = some .cell ∨ X.env.kindOf x = some .free) → ∃ c, X.env.cells.lookup x = some c
  cab : ∀ x c, X.fn x = true → X.env.cells.lookup x = some c → X.s₀.heap.objs.size ≤ c
  hd : X.calm = true → X.A.handled = none
  frames : X.A.frames = some X.stack
  stk : X.stack = X.outer ∨ (X.stack = X.env :: X.outer ∧ X.env.frame = some X.env.locals)
  exf : ∀ b ∈ X.ex, b ≠ X.env.locals ∧ ∀ x c, X.env.cells.lookup x = some c → c ≠ b
  bs : ∀ b o, X.base.get? b = some o → X.s₀.heap.get? b = some o ∧ X.H₀ b = none
  bsz : X.base.objs.size ≤ X.s₀.heap.objs.size
  noex : ∀ b o, X.base.get? b = some o → b ∉ X.ex
  exfs : ∀ b ∈ X.ex, b ∉ X.fs
  funs : X.s₀.heap.FunFrames X.base X.outer
  frf : ∀ b ∈ X.fs, X.H₀ b = none

structure Inv (X : Cx) (pins : List (Addr × Obj)) (σ : List (Option V)) (H : Hp) (s : Shared) : Prop where
  ok : X.Ok
  os : s.os = X.s₀.os
  bare : AllBare s.gens
  base : Un X.fs X.ex X.H₀ H X.s₀.heap s.heap
  loc : ∃ m, s.heap.Ns X.env.locals m ∧ ∀ (i : Nat) (x : Str) (v : V), X.N[i]? = some x → σ[i]? = some (some v) → Vis X.env.scope x → ∃ u, RelV v u ∧ Look X.env s.heap m x u
  cell : ∀ x c, X.env.cells.lookup x = some c → ∃ v, s.heap.IsCell c v
  free : H X.env.locals = none
  freeC : ∀ x c, X.env.cells.lookup x = some c → H c = none
  pin : ∀ p ∈ X.pn ++ pins, s.heap.get? p.1 = some p.2 ∧ H p.1 = none ∧ p.1 ≠ X.env.locals ∧ p.1 ∉ X.fs ∧ ∀ v, p.2.data ≠ .cell v
  hok : HOk X.prog X.w H s.heap
  len : σ.length = X.N.length

section
variable {X : Cx} {pins : List (Addr × Obj)} {σ : List (Option V)} {H H' : Hp} {s : Shared} {h' : Heap}

theorem Cx.Ok.nofr (ok : X.Ok) {b : Addr} {o : Obj} (e : X.base.get? b = some o) : b ∉ X.fs := fun hb => by
  have := (ok.funs.mem hb).1
  rw [e] at this; cases this
theorem Inv.bs (I : Inv X pins σ H s) : ∀ b o, X.base.get? b = some o → s.heap.get? b = some o ∧ H b = none := fun b o e =>
  ⟨I.base.keep b o (I.ok.bs b o e).1 (I.ok.bs b o e).2 (I.ok.nofr e) (I.ok.noex b o e), I.base.free b o (I.ok.bs b o e).1 (I.ok.bs b o e).2 (I.ok.noex b o e)⟩
theorem Inv.bk (I : Inv X pins σ H s) : ∀ b o, X.base.get? b = some o → s.heap.get? b = some o := fun b o e => (I.bs b o e).1
theorem Inv.mod (I : Inv X pins σ H s) : Mod X.K X.mg X.base := I.ok.mod
theorem Inv.kIn (I : Inv X pins σ H s) : X.K.In s.heap := I.ok.mod.kin.keeps I.bk
theorem Inv.lt (I : Inv X pins σ H s) : X.env.locals < s.heap.objs.size := let ⟨_, hn, _⟩ := I.loc; hn.lt
theorem Inv.sz (I : Inv X pins σ H s) : X.s₀.heap.objs.size ≤ s.heap.objs.size := Nat.le_trans I.ok.above (Nat.le_of_lt I.lt)
theorem Inv.nofs (I : Inv X pins σ H s) {a : Addr} (h : s.heap.objs.size ≤ a) : a ∉ X.fs := fun hb => by
  obtain ⟨_, o, ho, _⟩ := I.ok.funs.mem hb
  exact absurd (Nat.lt_of_lt_of_le (Heap.lt_size ho) (Nat.le_trans I.sz h)) (Nat.lt_irrefl _)
theorem Inv.cne (I : Inv X pins σ H s) : ∀ x c, X.env.cells.lookup x = some c → c ≠ X.env.locals := fun x c e z => by
  obtain ⟨v, o, ho, hd⟩ := I.cell x c e
  obtain ⟨m, ⟨o', es, ep, ho', hd', _⟩, _⟩ := I.loc
  rw [z, ho'] at ho; cases ho; rw [hd'] at hd; cases hd
theorem Inv.funs (I : Inv X pins σ H s) : s.heap.FunFrames X.base X.outer := by
  have all : ∀ (l : List Env), (∀ b ∈ frs l, b ∈ X.fs) → X.s₀.heap.FunFrames X.base l → s.heap.FunFrames X.base l := by
    intro l
    induction l with
    | nil => intro _ _; trivial
    | cons env r ih =>
      intro hs hl
      obtain ⟨hk, ⟨L, o, hf, hn, ho, hd⟩, hr⟩ := hl
      have hL : L ∈ X.fs := hs L (by unfold frs; rw [List.filterMap_cons, hf]; exact List.mem_cons_self)
      obtain ⟨sl, e⟩ := I.base.slot L o ho (I.ok.frf L hL) hL fun z => I.ok.exfs L z hL
      exact ⟨hk, ⟨L, _, hf, hn, e, hd⟩, ih (fun b hb => hs b (by unfold frs; rw [List.filterMap_cons, hf]; exact List.mem_cons_of_mem _ hb)) hr⟩
  exact all X.outer (fun _ hb => hb) I.ok.funs

/-- the frames that run, for a call -/
theorem Inv.stack (I : Inv X pins σ H s) : s.heap.FunFrames X.base X.stack := by
  rcases I.ok.stk with e | ⟨e, hf⟩
  · rw [e]; exact I.funs
  · rw [e]
    obtain ⟨m, hn, _⟩ := I.loc
    refine .cons (by rw [I.ok.kind]; decide) hf hn ?_ I.funs
    exact Heap.get?_none_of_le (Nat.le_trans I.ok.bsz I.ok.above)
theorem Inv.stkSub (I : Inv X pins σ H s) : ∀ b ∈ frs X.stack, b ∈ X.env.locals :: X.fs := fun b hb => by
  rcases I.ok.stk with e | ⟨e, hf⟩
  · rw [e] at hb; exact List.mem_cons_of_mem _ hb
  · rw [e] at hb
    unfold frs at hb
    rw [List.filterMap_cons, hf] at hb
    exact hb
theorem Inv.stkFree (I : Inv X pins σ H s) : ∀ b ∈ frs X.stack, H b = none := fun b hb => by
  rcases List.mem_cons.mp (I.stkSub b hb) with e | hb
  · rw [e]; exact I.free
  · obtain ⟨_, o, ho, _⟩ := I.ok.funs.mem hb
    exact I.base.free b o ho (I.ok.frf b hb) fun z => I.ok.exfs b z hb

/-- THE STEP: the untracked objects but the frame and the records at ch are kept (the callers' frames up to slots), the frame's map is kept, the new abstract heap is held -/
theorem Inv.step {g' : Array GenState} {t' : Nat} {d' : Drawn} {ch : List Addr} (I : Inv X pins σ H s)
    (hch : ∀ b ∈ ch, (b ∈ X.ex ∨ X.s₀.heap.objs.size ≤ b) ∧ b ≠ X.env.locals ∧ (∀ x c, X.env.cells.lookup x = some c → c ≠ b) ∧ ∀ p ∈ X.pn ++ pins, p.1 ≠ b)
    (keep : ∀ b o, b ≠ X.env.locals → b ∉ X.fs → b ∉ ch → s.heap.get? b = some o → H b = none → h'.get? b = some o)
    (slot : ∀ b o, b ≠ X.env.locals → b ∈ X.fs → b ∉ ch → s.heap.get? b = some o → H b = none → ∃ sl, h'.get? b = some { o with slots := sl }) (free : ∀ b o, b ∉ ch → s.heap.get? b = some o → H b = none → H' b = none)
    (there : ∀ b o, b ∉ ch → s.heap.get? b = some o → ∃ o', h'.get? b = some o')
    (tups : ∀ b xs, H b = some (.tup xs) → H' b = some (.tup xs)) (frzs : ∀ b o u, H b = some (.frz o u) → H' b = some (.frz o u)) (tbls : ∀ b ps, H b = some (.tbl ps) → ∃ more, H' b = some (.tbl (ps ++ more)))
    (ns : ∀ m, s.heap.Ns X.env.locals m → h'.Ns X.env.locals m) (hok : HOk X.prog X.w H' h') (hg : AllBare g') :
    Inv X pins σ H' { s with heap := h', gens := g', drawn := d', toks := t' } := by
  have neL : ∀ b o, X.s₀.heap.get? b = some o → b ≠ X.env.locals := fun b o e => Nat.ne_of_lt (Nat.lt_of_lt_of_le (Heap.lt_size e) I.ok.above)
  have neC : ∀ b o, X.s₀.heap.get? b = some o → b ∉ X.ex → b ∉ ch := fun b o e hx hb => by
    rcases (hch b hb).1 with z | z
    · exact hx z
    · exact absurd (Nat.lt_of_lt_of_le (Heap.lt_size e) z) (Nat.lt_irrefl _)
  have cellK : ∀ x c, X.env.cells.lookup x = some c → ∀ v, s.heap.IsCell c v → h'.IsCell c v := fun x c e v ⟨o, ho, hd⟩ => by
    have nch : c ∉ ch := fun z => (hch c z).2.2.1 x c e rfl
    by_cases hc : c ∈ X.fs
    · obtain ⟨sl, q⟩ := slot c o (I.cne x c e) hc nch ho (I.freeC x c e)
      exact ⟨_, q, hd⟩
    · exact ⟨o, keep c o (I.cne x c e) hc nch ho (I.freeC x c e), hd⟩
  refine ⟨I.ok, I.os, hg, ⟨fun b o e n hb hx => ?_, fun b o e n hb hx => ?_, fun b o e n hx => ?_, fun b o e hx => ?_, fun b xs e => tups b xs (I.base.tups b xs e), fun b o xs e => frzs b o xs (I.base.frzs b o xs e), fun b ps e => ?_⟩, ?_, fun x c e => ?_, ?_, fun x c e => ?_, fun p hp => ?_, hok, I.len⟩
  · exact keep b o (neL b o e) hb (neC b o e hx) (I.base.keep b o e n hb hx) (I.base.free b o e n hx)
  · obtain ⟨sl, e1⟩ := I.base.slot b o e n hb hx
    obtain ⟨sl', e2⟩ := slot b _ (neL b o e) hb (neC b o e hx) e1 (I.base.free b o e n hx)
    exact ⟨sl', e2⟩
  · obtain ⟨o', e1⟩ := I.base.there b o e hx
    exact free b o' (neC b o e hx) e1 (I.base.free b o e n hx)
  · obtain ⟨o', e1⟩ := I.base.there b o e hx
    exact there b o' (neC b o e hx) e1
  · obtain ⟨m1, e1⟩ := I.base.tbls b ps e
    obtain ⟨m2, e2⟩ := tbls b _ e1
    exact ⟨m1 ++ m2, by rw [e2, Array.append_assoc]⟩
  · obtain ⟨m, hn, hl⟩ := I.loc
    refine ⟨m, ns m hn, fun i x v e1 e2 e3 => ?_⟩
    obtain ⟨u, r, l⟩ := hl i x v e1 e2 e3
    refine ⟨u, r, ?_⟩
    rcases l with l | ⟨k, c, e, z⟩
    · exact .inl l
    · exact .inr ⟨k, c, e, cellK x c e _ z⟩
  · obtain ⟨v, z⟩ := I.cell x c e
    exact ⟨v, cellK x c e v z⟩
  · obtain ⟨m, ⟨o, _, _, ho, _⟩, _⟩ := I.loc
    exact free _ o (fun z => (hch _ z).2.1 rfl) ho I.free
  · obtain ⟨v, o, ho, hd⟩ := I.cell x c e
    exact free c o (fun z => (hch c z).2.2.1 x c e rfl) ho (I.freeC x c e)
  · obtain ⟨e, n, ne, nf, d⟩ := I.pin p hp
    have nch : p.1 ∉ ch := fun z => (hch p.1 z).2.2.2 p hp rfl
    exact ⟨keep p.1 p.2 ne nf nch e n, free p.1 p.2 nch e n, ne, nf, d⟩
/-- .. where the frame's own object is kept too -/
theorem Inv.un {t' : Nat} (I : Inv X pins σ H s) (u : Un X.fs [] H H' s.heap h') (hok : HOk X.prog X.w H' h') : Inv X pins σ H' { s with heap := h', toks := t' } := by
  obtain ⟨m, ⟨o, es, ep, ho, r⟩, _⟩ := id I.loc
  obtain ⟨sl, hL⟩ := u.any ho I.free (by simp)
  exact I.step (g' := s.gens) (d' := s.drawn) (ch := []) (fun _ z => nomatch z) (fun b o _ hb _ e n => u.keep b o e n hb (by simp)) (fun b o _ hb _ e n => u.slot b o e n hb (by simp)) (fun b o _ e n => u.free b o e n (by simp)) (fun b o _ e => u.there b o e (by simp)) u.tups u.frzs u.tbls (fun m' hm => by
    obtain ⟨o', es', ep', ho', r'⟩ := hm
    rw [ho] at ho'; cases ho'
    exact ⟨_, es', ep', hL, r'⟩) hok I.bare
/-- behind a call (or a comprehension's block): the slots of this frame may have changed too, the records at ch may have turned -/
theorem Inv.call {g' : Array GenState} {t' : Nat} {d' : Drawn} {ch : List Addr} (I : Inv X pins σ H s) (u : Un (frs X.stack) ch H H' s.heap h') (hok : HOk X.prog X.w H' h') (hg : AllBare g')
    (hch : ∀ b ∈ ch, (b ∈ X.ex ∨ X.s₀.heap.objs.size ≤ b) ∧ b ≠ X.env.locals ∧ (∀ x c, X.env.cells.lookup x = some c → c ≠ b) ∧ ∀ p ∈ X.pn ++ pins, p.1 ≠ b) :
    Inv X pins σ H' { s with heap := h', gens := g', drawn := d', toks := t' } := by
  obtain ⟨m, ⟨o, es, ep, ho, r⟩, _⟩ := id I.loc
  obtain ⟨sl, hL⟩ := u.any ho I.free fun z => (hch _ z).2.1 rfl
  exact I.step (ch := ch) hch (fun b o hL hb hc e n => u.keep b o e n (fun z => (List.mem_cons.mp (I.stkSub b z)).elim hL hb) hc) (fun b o _ _ hc e n => u.any e n hc) (fun b o hc e n => u.free b o e n hc) (fun b o hc e => u.there b o e hc) u.tups u.frzs u.tbls (fun m' hm => by
    obtain ⟨o', es', ep', ho', r'⟩ := hm
    rw [ho] at ho'; cases ho'
    exact ⟨_, es', ep', hL, r'⟩) hok hg
/-- an untracked record of ours (an iterator) has turned -/
theorem Inv.turned {t' : Nat} {it : Addr} (I : Inv X pins σ H s) (k : ∀ b o, b ≠ it → s.heap.get? b = some o → h'.get? b = some o) (hn : H it = none) (hL : it ≠ X.env.locals)
    (h1 : it ∈ X.ex ∨ X.s₀.heap.objs.size ≤ it) (h2 : ∀ x c, X.env.cells.lookup x = some c → c ≠ it) (h3 : ∀ p ∈ X.pn ++ pins, p.1 ≠ it) : Inv X pins σ H { s with heap := h', toks := t' } := by
  have nit : ∀ b u, H b = some u → b ≠ it := fun b u e z => by rw [z, hn] at e; cases e
  refine I.step (g' := s.gens) (d' := s.drawn) (ch := [it]) (fun b hb => ?_) (fun b o _ _ hc e _ => k b o (fun z => hc (by simp [z])) e) (fun b o _ _ hc e _ => ⟨o.slots, k b o (fun z => hc (by simp [z])) e⟩) (fun _ _ _ _ n => n)
    (fun b o hc e => ⟨o, k b o (fun z => hc (by simp [z])) e⟩) (fun _ _ e => e) (fun _ _ _ e => e) (fun b ps e => ⟨#[], by rw [e]; simp⟩) (fun m hm => ?_) (fun b u e => ?_) I.bare
  · have e : b = it := by simpa using hb
    subst e
    exact ⟨h1, hL, h2, h3⟩
  · obtain ⟨o, es, ep, ho, r⟩ := hm
    exact ⟨o, es, ep, k _ o (Ne.symm hL) ho, r⟩
  · refine (I.hok b u e).stay (fun c v hc q => k c v ?_ q) (fun _ q => q) fun _ _ q => q
    rcases hc with z | z
    · rw [z]; exact nit b u e
    · exact nit c _ z
theorem Inv.tok (I : Inv X pins σ H s) (t : Nat) : Inv X pins σ H { s with toks := t } := I.un (h' := s.heap) (t' := t) Un.refl I.hok
/-- all objects kept -/
theorem Inv.kept {t' : Nat} (I : Inv X pins σ H s) (k : ∀ b u, s.heap.get? b = some u → h'.get? b = some u) : Inv X pins σ H { s with heap := h', toks := t' } := I.un (Un.kept k) (I.hok.kept k)
/-- a new object laid and tracked -/
theorem Inv.laid {a : Addr} {o : HO} {t' : Nat} (I : Inv X pins σ H s) (k : ∀ b u, s.heap.get? b = some u → h'.get? b = some u) (hp : s.heap.objs.size ≤ a) (new : ObjOk X.prog X.w (upd H a o) h' a o) :
    Inv X pins σ (upd H a o) { s with heap := h', toks := t' } := I.un (Un.laid k hp (I.hok.fresh hp)) (I.hok.laid k hp new)
/-- an object written -/
theorem Inv.write {x e : Addr} {o : HO} {t' : Nat} (I : Inv X pins σ H s) (mu : Mut (H x)) (he : e = x ∨ H e = some (.own x)) (k : ∀ b u, b ≠ e → s.heap.get? b = some u → h'.get? b = some u) (heo : ∃ u, h'.get? e = some u)
    (new : ObjOk X.prog X.w (upd H x o) h' x o) : Inv X pins σ (upd H x o) { s with heap := h', toks := t' } := I.un (Un.write mu he k heo) (I.hok.write mu he k heo new)
theorem Inv.pins_of {pins' : List (Addr × Obj)} (I : Inv X pins σ H s) (h : ∀ p ∈ pins', s.heap.get? p.1 = some p.2 ∧ H p.1 = none ∧ p.1 ≠ X.env.locals ∧ p.1 ∉ X.fs ∧ ∀ v, p.2.data ≠ .cell v) : Inv X pins' σ H s :=
  ⟨I.ok, I.os, I.bare, I.base, I.loc, I.cell, I.free, I.freeC, fun p hp => (List.mem_append.mp hp).elim (fun z => I.pin p (List.mem_append_left _ z)) (h p), I.hok, I.len⟩

theorem nodup_ix {N : List Str} (hN : N.Nodup) {i j : Nat} {x : Str} (a : N[i]? = some x) (b : N[j]? = some x) : i = j := by
  obtain ⟨h1, e1⟩ := List.getElem?_eq_some_iff.mp a
  obtain ⟨h2, e2⟩ := List.getElem?_eq_some_iff.mp b
  exact (List.getElem_inj hN).mp (e1.trans e2.symm)

/-- a name is stored; what changed -/
theorem store_ok2 {M : Model} {A : Around} {E : Value → Shared → Prop} {i : Nat} {x : Str} {v : V} {u : Value} {Q : Unit → Shared → Prop} (I : Inv X pins σ H s) (hN : X.N.Nodup) (hi : X.N[i]? = some x) (hx : Loc X.env.scope x) (r : RelV v u)
    (h : ∀ s', Inv X pins (σ.set i (some v)) H s' → (∃ a, Heap.SameBut a s.heap s'.heap ∧ (a = X.env.locals ∨ X.env.cells.lookup x = some a)) → Q () s') (hf : X.fn x = true ∨ X.env.scope.names.lookup x = some .local := by first | exact .inl rfl | exact .inr rfl | assumption) : wpAny M A (storeName X.env x u) Q E s := by
  obtain ⟨m, hn, hl⟩ := id I.loc
  have hcls : (X.env.scope.kind == .class || (X.env.scope.kind == .module && X.env.locals != X.env.globals)) = false := by rw [I.ok.kind]; rfl
  have hiσ : i < σ.length := by rw [I.len]; exact (List.getElem?_eq_some_iff.mp hi).1
  have cne := I.cne
  have tracked : ∀ {a : Addr} {h' : Heap}, (∃ o, s.heap.get? a = some o ∧ H a = none) → Heap.SameBut a s.heap h' → HOk X.prog X.w H h' := fun {a h'} ha hs b ob e => by
    obtain ⟨_, _, hfree⟩ := ha
    refine (I.hok b ob e).stay (fun c w' hc q => (hs.2 c ?_).trans q) (fun _ q => q) fun _ _ q => q
    rintro rfl
    rcases hc with rfl | hc
    · rw [hfree] at e; cases e
    · rw [hfree] at hc; cases hc
  rcases hx with hk | hk
  · refine wpAny_storeName_local hk hn (fun h' hn' hs => ?_) hcls
    obtain ⟨oL, _, _, hoL, _⟩ := id hn
    refine h _ ⟨I.ok, I.os, I.bare, ⟨fun b o e n hb hx => ?_, fun b o e n hb hx => ?_, I.base.free, fun b o e hx => ?_, I.base.tups, I.base.frzs, I.base.tbls⟩, ⟨_, hn', fun j y v' e1 e2 e3 => ?_⟩, fun y c e => ?_, I.free, I.freeC, fun p hp => ?_, tracked ⟨oL, hoL, I.free⟩ hs, by simpa using I.len⟩ ⟨_, hs, .inl rfl⟩
    · exact (hs.2 b (Nat.ne_of_lt (Nat.lt_of_lt_of_le (Heap.lt_size e) I.ok.above))).trans (I.base.keep b o e n hb hx)
    · obtain ⟨sl, e1⟩ := I.base.slot b o e n hb hx
      exact ⟨sl, (hs.2 b (Nat.ne_of_lt (Nat.lt_of_lt_of_le (Heap.lt_size e) I.ok.above))).trans e1⟩
    · obtain ⟨o', e1⟩ := I.base.there b o e hx
      exact ⟨o', (hs.2 b (Nat.ne_of_lt (Nat.lt_of_lt_of_le (Heap.lt_size e) I.ok.above))).trans e1⟩
    · by_cases hj : j = i
      · subst hj
        rw [hi] at e1; cases e1
        rw [List.getElem?_set_self hiσ] at e2
        cases e2
        exact ⟨u, r, .inl ⟨hk, by simp⟩⟩
      · rw [List.getElem?_set_ne (Ne.symm hj)] at e2
        obtain ⟨u', r', q⟩ := hl j y v' e1 e2 e3
        refine ⟨u', r', ?_⟩
        rcases q with ⟨k, e⟩ | ⟨k, c, e, z⟩
        · refine .inl ⟨k, ?_⟩
          have : y ≠ x := fun e => hj (nodup_ix hN e1 (e ▸ hi))
          simp [this, e]
        · exact .inr ⟨k, c, e, z.sameBut hs (cne y c e)⟩
    · obtain ⟨w', z⟩ := I.cell y c e
      exact ⟨w', z.sameBut hs (cne y c e)⟩
    · obtain ⟨e, n, ne, nf, d⟩ := I.pin p hp
      exact ⟨(hs.2 p.1 ne).trans e, n, ne, nf, d⟩
  · have hfn : X.fn x = true := by
      rcases hf with z | z
      · exact z
      · rw [z] at hk; cases hk
    obtain ⟨c, hc⟩ := I.ok.has x (.inl hk)
    obtain ⟨w', z⟩ := I.cell x c hc
    refine wpAny_storeName_cell I.ok.kind hk hc z (fun h' hc' hs => ?_)
    obtain ⟨oc, hoc, hocd⟩ := id z
    refine h { s with heap := h' } ⟨I.ok, I.os, I.bare, ⟨fun b o e n hb hx => ?_, fun b o e n hb hx => ?_, I.base.free, fun b o e hx => ?_, I.base.tups, I.base.frzs, I.base.tbls⟩, ⟨m, hn.sameBut hs (Ne.symm (cne x c hc)), fun j y v' e1 e2 e3 => ?_⟩, fun y c' e => ?_, I.free, I.freeC, fun p hp => ?_, tracked ⟨oc, hoc, I.freeC x c hc⟩ hs, by simpa using I.len⟩ ⟨c, hs, .inr hc⟩
    · exact (hs.2 b (Nat.ne_of_lt (Nat.lt_of_lt_of_le (Heap.lt_size e) (I.ok.cab x c hfn hc)))).trans (I.base.keep b o e n hb hx)
    · obtain ⟨sl, e1⟩ := I.base.slot b o e n hb hx
      exact ⟨sl, (hs.2 b (Nat.ne_of_lt (Nat.lt_of_lt_of_le (Heap.lt_size e) (I.ok.cab x c hfn hc)))).trans e1⟩
    · obtain ⟨o', e1⟩ := I.base.there b o e hx
      exact ⟨o', (hs.2 b (Nat.ne_of_lt (Nat.lt_of_lt_of_le (Heap.lt_size e) (I.ok.cab x c hfn hc)))).trans e1⟩
    · by_cases hj : j = i
      · subst hj
        rw [hi] at e1; cases e1
        rw [List.getElem?_set_self hiσ] at e2
        cases e2
        exact ⟨u, r, .inr ⟨.inl hk, c, hc, hc'⟩⟩
      · rw [List.getElem?_set_ne (Ne.symm hj)] at e2
        obtain ⟨u', r', q⟩ := hl j y v' e1 e2 e3
        refine ⟨u', r', ?_⟩
        rcases q with q | ⟨k, c', e, z'⟩
        · exact .inl q
        · refine .inr ⟨k, c', e, z'.sameBut hs ?_⟩
          rintro rfl
          exact hj (nodup_ix hN e1 (I.ok.inj _ _ _ e hc ▸ hi))
    · by_cases hcc : c' = c
      · subst hcc; exact ⟨_, hc'⟩
      · obtain ⟨w2, z2⟩ := I.cell y c' e
        exact ⟨w2, z2.sameBut hs hcc⟩
    · obtain ⟨e, n, ne, nf, d⟩ := I.pin p hp
      refine ⟨(hs.2 p.1 ?_).trans e, n, ne, nf, d⟩
      intro q
      rw [q, hoc] at e
      have q' : oc = p.2 := Option.some.inj e
      exact d w' (by rw [← q']; exact hocd)
theorem store_ok {M : Model} {A : Around} {E : Value → Shared → Prop} {i : Nat} {x : Str} {v : V} {u : Value} {Q : Unit → Shared → Prop} (I : Inv X pins σ H s) (hN : X.N.Nodup) (hi : X.N[i]? = some x) (hx : Loc X.env.scope x) (r : RelV v u)
    (h : ∀ s', Inv X pins (σ.set i (some v)) H s' → Q () s') (hf : X.fn x = true ∨ X.env.scope.names.lookup x = some .local := by first | exact .inl rfl | exact .inr rfl | assumption) : wpAny M A (storeName X.env x u) Q E s :=
  store_ok2 I hN hi hx r (fun s' I' _ => h s' I') hf
/-- behind a call or a block, the state as it is -/
theorem Inv.call' {s' : Shared} {ch : List Addr} (I : Inv X pins σ H s) (ho : s'.os = s.os) (u : Un (frs X.stack) ch H H' s.heap s'.heap) (hok : HOk X.prog X.w H' s'.heap) (hg : AllBare s'.gens)
    (hch : ∀ b ∈ ch, (b ∈ X.ex ∨ X.s₀.heap.objs.size ≤ b) ∧ b ≠ X.env.locals ∧ (∀ x c, X.env.cells.lookup x = some c → c ≠ b) ∧ ∀ p ∈ X.pn ++ pins, p.1 ≠ b) : Inv X pins σ H' s' := by
  obtain ⟨h', g', d', t', o'⟩ := s'
  have e : o' = s.os := ho
  subst e
  exact I.call (g' := g') (t' := t') (d' := d') u hok hg hch
end

/-! ### the judgements -/
/-- an exception: its class, its own dict's address (where it has one), the abstract heap behind it -/
abbrev XK := Value → Option Addr → Hp → Prop
abbrev St := List (Option V)
abbrev VK := V → Hp → Prop
/-- an expression's reading; a test's; an argument list's -/
abbrev TE := St → Hp → VK → Prop
abbrev TT := St → Hp → (Bool → Hp → Prop) → Prop
abbrev TA := St → Hp → (List V → Hp → Prop) → Prop
/-- what is wanted behind a statement -/
structure Ends where
  nx : St → Hp → Prop
  rt : VK
  bk : St → Hp → Prop := fun _ _ => False
  ct : St → Hp → Prop := fun _ _ => False
abbrev TS := Ends → St → Hp → Prop

def EP (X : Cx) (pins : List (Addr × Obj)) (σ : St) (Q : VK) (u : Value) (s' : Shared) : Prop := ∃ v H', Inv X pins σ H' s' ∧ RelV v u ∧ Q v H'
def TP (X : Cx) (pins : List (Addr × Obj)) (σ : St) (Q : Bool → Hp → Prop) (b : Bool) (s' : Shared) : Prop := ∃ H', Inv X pins σ H' s' ∧ Q b H'
def AP (X : Cx) (pins : List (Addr × Obj)) (σ : St) (Q : List V → Hp → Prop) (us : List Value) (s' : Shared) : Prop := ∃ vs H', Inv X pins σ H' s' ∧ Vals vs us ∧ Q vs H'
def SP (X : Cx) (pins : List (Addr × Obj)) (D : Ends) (f : Flow) (s' : Shared) : Prop :=
  match f with
  | .next => ∃ σ' H', Inv X pins σ' H' s' ∧ D.nx σ' H'
  | .brk => ∃ σ' H', Inv X pins σ' H' s' ∧ D.bk σ' H'
  | .cont => ∃ σ' H', Inv X pins σ' H' s' ∧ D.ct σ' H'
  | .ret u => ∃ v σ' H', Inv X pins σ' H' s' ∧ RelV v u ∧ D.rt v H'

def PE (X : Cx) (e : Expr) (t : TE) : Prop :=
  ∀ (pins : List (Addr × Obj)) (s : Shared) (σ : St) (H : Hp) (Q : VK), Inv X pins σ H s → t σ H Q → wpAny (model X.prog X.w) X.A (eval e X.env) (EP X pins σ Q) X.xe s
def PT (X : Cx) (e : Expr) (t : TT) : Prop :=
  ∀ (pins : List (Addr × Obj)) (s : Shared) (σ : St) (H : Hp) (Q : Bool → Hp → Prop), Inv X pins σ H s → t σ H Q → wpAny (model X.prog X.w) X.A (isTrue e X.env (eval e X.env)) (TP X pins σ Q) X.xe s
/-- a test whatever its 'whole' is (and, or) -/
def PW (X : Cx) (e : Expr) (t : TT) : Prop :=
  ∀ (whole : Sem Value) (pins : List (Addr × Obj)) (s : Shared) (σ : St) (H : Hp) (Q : Bool → Hp → Prop), Inv X pins σ H s → t σ H Q → wpAny (model X.prog X.w) X.A (isTrue e X.env whole) (TP X pins σ Q) X.xe s
theorem PW.pt {X : Cx} {e : Expr} {t : TT} (h : PW X e t) : PT X e t := h _
/-- an argument list (no star), from the left -/
def PA (X : Cx) (es : List Expr) (t : TA) : Prop :=
  ∀ (pos : Pos) (pins : List (Addr × Obj)) (s : Shared) (σ : St) (H : Hp) (Q : List V → Hp → Prop), Inv X pins σ H s → t σ H Q → wpAny (model X.prog X.w) X.A (spliced (backTo pos (starEach es X.env))) (AP X pins σ Q) X.xe s
def PS (X : Cx) (st : Stmt) (t : TS) : Prop :=
  ∀ (pins : List (Addr × Obj)) (s : Shared) (σ : St) (H : Hp) (D : Ends), Inv X pins σ H s → t D σ H → wpAny (model X.prog X.w) X.A (exec st X.env) (SP X pins D) X.xe s
def PSs (X : Cx) (st : List Stmt) (t : TS) : Prop :=
  ∀ (pins : List (Addr × Obj)) (s : Shared) (σ : St) (H : Hp) (D : Ends), Inv X pins σ H s → t D σ H → wpAny (model X.prog X.w) X.A (execs st X.env) (SP X pins D) X.xe s
/-- weaken the end -/
theorem thn {α : Type} {t : Sem α} {Q Q' : α → Shared → Prop} {M : Model} {A : Around} {E : Value → Shared → Prop} {s : Shared} (h : wpAny M A t Q E s) (hQ : ∀ a s, Q a s → Q' a s) : wpAny M A t Q' E s := wpAny_mono h hQ fun _ _ x => x
end L2

namespace L2
open PySem PySem.Spec PyProof.Rows
section
variable {X : Cx}

/-! ### names and constants -/
def tVar (i : Nat) : TE := fun σ H Q => ∃ v, σ[i]? = some (some v) ∧ Q v H
def tC (v : V) : TE := fun _ H Q => Q v H
theorem pe_var {i : Nat} {x : Str} {pos : Pos} (hN : X.N[i]? = some x) (hv : Vis X.env.scope x) (hd : (x == ("__debug__" : Str)) = false := by decide) (hcd : (x == ("__classdict__" : Str)) = false := by decide) : PE X (.Name x pos) (tVar i) := by
  intro pins s σ H Q I h
  obtain ⟨v, e, h⟩ := h
  obtain ⟨m, hn, hl⟩ := I.loc
  obtain ⟨u, r, l⟩ := hl i x v hN e hv
  have fin : EP X pins σ Q u s := ⟨v, H, I, r, h⟩
  rcases l with ⟨hk, hm⟩ | ⟨hk, c, hc, hcell⟩
  · exact wpAny_Name (wpAny_loadName_local I.ok.kind hk hn hm fin) hd
  · rcases hk with hk | hk
    · exact wpAny_Name (wpAny_loadName_cell I.ok.kind hk hc hcell fin) hd
    · exact wpAny_Name (wpAny_loadName_free I.ok.kind hk hc hcell fin hcd) hd
theorem pe_int {i j pos} : PE X (.Constant (.int i) j pos) (tC (.int i)) := fun _ _ _ H _ I h => wpAny_Constant_int ⟨.int i, H, I.tok _, ⟨_, rfl⟩, h⟩
theorem pe_bl {b j pos} : PE X (.Constant (.bool b) j pos) (tC (.bl b)) := fun _ _ _ H _ I h => Constant_bool ⟨.bl b, H, I, rfl, h⟩
theorem pe_non {j pos} : PE X (.Constant .none j pos) (tC .non) := fun _ _ _ H _ I h => Constant_none ⟨.non, H, I, rfl, h⟩
theorem pe_str {x j pos} : PE X (.Constant (.str x) j pos) (tC (.str x)) := fun _ _ _ H _ I h => Calls.Constant_str ⟨.str x, H, I.tok _, ⟨_, rfl⟩, h⟩

/-- a global name of the def -/
def Gl (X : Cx) (x : Str) : Prop := X.env.kindOf x = some .globalImplicit
theorem ld_glob {E : Value → Shared → Prop} {pins : List (Addr × Obj)} {s : Shared} {σ : St} {H : Hp} {x : Str} {u : Value} {pos : Pos} {Q : Value → Shared → Prop} (I : Inv X pins σ H s) (hg : Gl X x) (hm : X.mg x = some u) (h : Q u s)
    (hd : (x == ("__debug__" : Str)) = false := by decide) : wpAny (model X.prog X.w) X.A (eval (.Name x pos) X.env) Q E s :=
  Calls.Name_function_global I.ok.kind hg (Calls.loadGlobal_global (by rw [I.ok.glob]; exact I.mod.glob.keeps I.bk) hm h) hd
theorem ld_blt {E : Value → Shared → Prop} {pins : List (Addr × Obj)} {s : Shared} {σ : St} {H : Hp} {x : Str} {u : Value} {pos : Pos} {Q : Value → Shared → Prop} (I : Inv X pins σ H s) (hg : Gl X x) (hm : X.mg x = none) (hv : bootBuiltins x = some u) (h : Q u s)
    (hn : x ≠ "__name__" := by decide) (hd : (x == ("__debug__" : Str)) = false := by decide) : wpAny (model X.prog X.w) X.A (eval (.Name x pos) X.env) Q E s := by
  obtain ⟨mb, h1, h2⟩ := I.mod.blt
  exact Calls.Name_function_global I.ok.kind hg (Calls.loadGlobal_builtin (by rw [I.ok.glob]; exact I.mod.glob.keeps I.bk) hm (by rw [I.ok.blt]; exact h1.keeps I.bk) ((h2 x hn).trans hv) h) hd
/-- a module's constant, a class, a function, as a value -/
theorem pe_glob {x : Str} {v : V} {u : Value} {pos : Pos} (hg : Gl X x) (hm : X.mg x = some u) (r : RelV v u) (hd : (x == ("__debug__" : Str)) = false := by decide) : PE X (.Name x pos) (tC v) :=
  fun _ _ _ H _ I h => ld_glob I hg hm ⟨v, H, I, r, h⟩ hd
theorem pe_bltn {x : Str} {v : V} {u : Value} {pos : Pos} (hg : Gl X x) (hm : X.mg x = none) (hv : bootBuiltins x = some u) (r : RelV v u) (hn : x ≠ "__name__" := by decide) (hd : (x == ("__debug__" : Str)) = false := by decide) : PE X (.Name x pos) (tC v) :=
  fun _ _ _ H _ I h => ld_blt I hg hm hv ⟨v, H, I, r, h⟩ hn hd

/-! ### arithmetic -/
variable {a b : Expr} {ta tb : TE} {pos : Pos}

/-! ### comparisons -/
def PC (X : Cx) (op : CmpOp) (a b : Expr) (t : TE) : Prop :=
  ∀ (pins : List (Addr × Obj)) (s : Shared) (σ : St) (H : Hp) (Q : VK), Inv X pins σ H s → t σ H Q →
    wpAny (model X.prog X.w) X.A (eval a X.env) (fun v s₁ => wpAny (model X.prog X.w) X.A (eval b X.env) (fun u s₂ => wpAny (model X.prog X.w) X.A (compareOp op v u) (EP X pins σ Q) X.xe s₂) X.xe s₁) X.xe s
/-- a comparison as a value, as a test -/
def tB (t : TE) : TT := fun σ H Q => t σ H fun x H1 => ∃ c, x = .bl c ∧ Q c H1
theorem pt_cmp {op : CmpOp} {t : TE} (h : PC X op a b t) (h1 : behindInMarks op b = false := by first | exact nobehind _ (by decide) (by decide) | rfl) : PT X (.Compare a [op] [b] pos) (tB t) := by
  intro pins s σ H Q I hw
  refine wpAny_isTrue_Compare1 (thn (h pins s σ H _ I hw) fun v s1 h1 => thn h1 fun u s2 h2 => thn h2 fun c s3 ⟨x, H1, I1, r1, q1⟩ => ?_) h1
  obtain ⟨d, rfl, q⟩ := q1
  cases r1
  exact wpAny_truthy_bool ⟨H1, I1, q⟩
/-- an expression whose value is a bool, as a test -/
theorem pt_val {e : Expr} {t : TE} (h : PE X e t) (he : ∀ whole, isTrue e X.env whole = (do let v ← whole; standAt e.pos; holding [v] (truthy v)) := by intro _; rfl) : PT X e (tB t) := by
  intro pins s σ H Q I hw
  refine isTrue_plain (thn (h pins s σ H _ I hw) fun v s1 ⟨x, H1, I1, r1, q1⟩ => ?_) (he _)
  obtain ⟨d, rfl, q⟩ := q1
  cases r1
  exact wpAny_truthy_bool ⟨H1, I1, q⟩

/-! ### and, or, not -/
variable {tA tB' : TT} {rest : List Expr}
def tAnd (t u : TT) : TT := fun σ H Q => t σ H fun c H1 => if c = true then u σ H1 Q else Q false H1
def tOr (t u : TT) : TT := fun σ H Q => t σ H fun c H1 => if c = true then Q true H1 else u σ H1 Q
def tNot (t : TT) : TT := fun σ H Q => t σ H fun c H1 => Q (!c) H1
theorem pw_and1 (ha : PT X a tA) : PW X (.BoolOp .And [a] pos) tA := by
  intro wh pins s σ H Q I h
  refine isTrue_and (thn (ha pins s σ H Q I h) fun c s1 e => ?_)
  cases c with
  | true => exact isTrue_and_nil e
  | false => exact e
theorem pw_or1 (ha : PT X a tA) : PW X (.BoolOp .Or [a] pos) tA := by
  intro wh pins s σ H Q I h
  refine isTrue_or (thn (ha pins s σ H Q I h) fun c s1 e => ?_)
  cases c with
  | false => exact isTrue_or_nil e
  | true => exact e
theorem pw_and (ha : PT X a tA) (hb : PW X (.BoolOp .And (b :: rest) pos) tB') : PW X (.BoolOp .And (a :: b :: rest) pos) (tAnd tA tB') := by
  intro wh pins s σ H Q I h
  refine isTrue_and (thn (ha pins s σ H _ I h) fun c s1 ⟨H1, I1, q1⟩ => ?_)
  cases c with
  | true => exact hb wh pins s1 σ H1 Q I1 q1
  | false => exact ⟨H1, I1, q1⟩
theorem pw_or (ha : PT X a tA) (hb : PW X (.BoolOp .Or (b :: rest) pos) tB') : PW X (.BoolOp .Or (a :: b :: rest) pos) (tOr tA tB') := by
  intro wh pins s σ H Q I h
  refine isTrue_or (thn (ha pins s σ H _ I h) fun c s1 ⟨H1, I1, q1⟩ => ?_)
  cases c with
  | true => exact ⟨H1, I1, q1⟩
  | false => exact hb wh pins s1 σ H1 Q I1 q1
theorem pt_not (ha : PT X a tA) : PT X (.UnaryOp .Not a pos) (tNot tA) := by
  intro pins s σ H Q I h
  exact isTrue_not (ha pins s σ H (fun c H1 => Q (!c) H1) I h)
/-- .. as values (bools) -/
def tAndV (ta tb : TE) : TE := fun σ H Q => ta σ H fun x H1 => ∃ c, x = .bl c ∧ if c = true then tb σ H1 Q else Q (.bl false) H1
def tOrV (ta tb : TE) : TE := fun σ H Q => ta σ H fun x H1 => ∃ c, x = .bl c ∧ if c = true then Q (.bl true) H1 else tb σ H1 Q
def tNotV (ta : TE) : TE := fun σ H Q => ta σ H fun x H1 => ∃ c, x = .bl c ∧ Q (.bl (!c)) H1
theorem pe_one {op} {t : TE} (h : PE X a t) : PE X (.BoolOp op [a] pos) t := fun pins s σ H Q I hw => BoolOp_one (h pins s σ H Q I hw)
theorem pe_and (ha : PE X a ta) (hb : PE X (.BoolOp .And (b :: rest) pos) tb) : PE X (.BoolOp .And (a :: b :: rest) pos) (tAndV ta tb) := by
  intro pins s σ H Q I h
  refine BoolOp_and (thn (ha pins s σ H _ I h) fun v s1 ⟨x, H1, I1, r1, q1⟩ => ?_)
  obtain ⟨c, rfl, q1⟩ := q1
  cases r1
  refine wpAny_truthy_bool ?_
  cases c with
  | true => exact hb pins s1 σ H1 Q I1 q1
  | false => exact ⟨.bl false, H1, I1, rfl, q1⟩
theorem pe_or (ha : PE X a ta) (hb : PE X (.BoolOp .Or (b :: rest) pos) tb) : PE X (.BoolOp .Or (a :: b :: rest) pos) (tOrV ta tb) := by
  intro pins s σ H Q I h
  refine BoolOp_or (thn (ha pins s σ H _ I h) fun v s1 ⟨x, H1, I1, r1, q1⟩ => ?_)
  obtain ⟨c, rfl, q1⟩ := q1
  cases r1
  refine wpAny_truthy_bool ?_
  cases c with
  | false => exact hb pins s1 σ H1 Q I1 q1
  | true => exact ⟨.bl true, H1, I1, rfl, q1⟩
theorem pe_not (ha : PE X a ta) : PE X (.UnaryOp .Not a pos) (tNotV ta) := by
  intro pins s σ H Q I h
  refine UnaryOp_ (thn (ha pins s σ H _ I h) fun v s1 ⟨x, H1, I1, r1, q1⟩ => ?_)
  obtain ⟨c, rfl, q1⟩ := q1
  cases r1
  exact not_of (wpAny_truthy_bool ⟨.bl (!c), H1, I1, rfl, q1⟩)
end
end L2

namespace L2
open PySem PySem.Spec PyProof.Rows

/-! ### a list, a tuple that is read: tracked, frozen, or an object of the module -/
def SqL (K : PySem.W.Frag) (H : Hp) (a : Addr) (xs : List V) : Prop :=
  Rd H a (.lst xs) ∨
    ∃ (o : Obj) (its : Array Value) (n : Nat), K.lookup a = some o ∧ o.cls = .type "list" ∧ o.dict = none ∧ o.data = .seq its n ∧ its.size ≤ sizeLine ∧ Vals xs its.toList
def SqT (K : PySem.W.Frag) (H : Hp) (a : Addr) (xs : List V) : Prop :=
  Rd H a (.tup xs) ∨
    ∃ (o : Obj) (its : Array Value) (n : Nat), K.lookup a = some o ∧ o.cls = .type "tuple" ∧ o.data = .seq its n ∧ its.size ≤ sizeLine ∧ Vals xs its.toList
def absV : Value → Option V
  | .none => some .non
  | .bool b => some (.bl b)
  | .int i _ => some (.int i)
  | .str x _ => some (.str x)
  | .bytes b _ => some (.byt b)
  | .float b _ => some (.flt b)
  | .ref a => some (.ref a)
  | .type n => some (.ty n)
  | _ => none
theorem RelV.abs {x : V} {u : Value} (r : RelV x u) : absV u = some x := by
  cases x with
  | non => cases r; rfl
  | bl _ => cases r; rfl
  | int _ => obtain ⟨t, rfl⟩ := r; rfl
  | str _ => obtain ⟨t, rfl⟩ := r; rfl
  | byt _ => obtain ⟨t, rfl⟩ := r; rfl
  | flt _ => obtain ⟨t, rfl⟩ := r; rfl
  | ref _ => cases r; rfl
  | ty _ => cases r; rfl
theorem RelV.inj {x y : V} {u : Value} (r : RelV x u) (q : RelV y u) : x = y := Option.some.inj (r.abs.symm.trans q.abs)
theorem Vals.inj : ∀ {xs ys : List V} {us : List Value}, Vals xs us → Vals ys us → xs = ys
  | _, _, _, .nil, .nil => rfl
  | _, _, _, .cons r t, .cons r' t' => by rw [r.inj r', Vals.inj t t']
section
variable {X : Cx} {pins : List (Addr × Obj)} {σ : St} {H : Hp} {s : Shared} {a : Addr} {xs ys : List V}
theorem SqL.of {K : PySem.W.Frag} (h : H a = some (.lst xs)) : SqL K H a xs := .inl (.inl h)
theorem SqT.of {K : PySem.W.Frag} (h : H a = some (.tup xs)) : SqT K H a xs := .inl (.inl h)
theorem Inv.list (I : Inv X pins σ H s) (h : SqL X.K H a xs) : ∃ its : List Value, Vals xs its ∧ PlainL s.heap a its.toArray ∧ xs.length ≤ sizeLine := by
  rcases h with h | ⟨o, its, n, hk, hc, hd, hs, hz, r⟩
  · obtain ⟨z, its, n, r, e⟩ := h.ok I.hok
    exact ⟨its, r, ⟨_, n, e, rfl, rfl, rfl⟩, z⟩
  · refine ⟨its.toList, r, ⟨o, n, I.kIn a o hk, hc, hd, by simpa using hs⟩, ?_⟩
    have e := r.length
    simp only [Array.length_toList] at e
    omega
theorem Inv.tuple (I : Inv X pins σ H s) (h : SqT X.K H a xs) : ∃ its : List Value, Vals xs its ∧ IsTup s.heap a its.toArray ∧ xs.length ≤ sizeLine := by
  rcases h with h | ⟨o, its, n, hk, hc, hs, hz, r⟩
  · obtain ⟨z, its, r, p⟩ := h.ok I.hok
    exact ⟨its, r, p, z⟩
  · refine ⟨its.toList, r, ⟨o, I.kIn a o hk, hc, n, by simpa using hs⟩, ?_⟩
    have e := r.length
    simp only [Array.length_toList] at e
    omega
theorem Inv.list_inj (I : Inv X pins σ H s) (h : SqL X.K H a xs) (h' : SqL X.K H a ys) : xs = ys := by
  obtain ⟨its, r, ⟨o, n, e, _, _, d⟩, _⟩ := I.list h
  obtain ⟨its', r', ⟨o', n', e', _, _, d'⟩, _⟩ := I.list h'
  rw [e] at e'; cases e'
  rw [d] at d'
  injection d' with d1 _
  have : its = its' := by simpa using congrArg Array.toList d1
  subst this
  exact r.inj r'
end

/-! ### another wish about exceptions -/
abbrev Cx.wish (X : Cx) (E : Value → Shared → Prop) : Cx := { X with xe := E }
/-- no exception leaves -/
abbrev Cx.nox (X : Cx) : Cx := X.wish fun _ _ => False
theorem Cx.Ok.wish {X : Cx} (ok : X.Ok) (E : Value → Shared → Prop) : (X.wish E).Ok :=
  ⟨ok.mod, ok.kind, ok.glob, ok.blt, ok.above, ok.inj, ok.has, ok.cab, ok.hd, ok.frames, ok.stk, ok.exf, ok.bs, ok.bsz, ok.noex, ok.exfs, ok.funs, ok.frf⟩
theorem Cx.Ok.unwish {X : Cx} {E : Value → Shared → Prop} (ok : (X.wish E).Ok) : X.Ok :=
  ⟨ok.mod, ok.kind, ok.glob, ok.blt, ok.above, ok.inj, ok.has, ok.cab, ok.hd, ok.frames, ok.stk, ok.exf, ok.bs, ok.bsz, ok.noex, ok.exfs, ok.funs, ok.frf⟩
section
variable {X : Cx} {pins : List (Addr × Obj)} {σ : St} {H : Hp} {s : Shared} {E : Value → Shared → Prop}
theorem Inv.wish (I : Inv X pins σ H s) (E : Value → Shared → Prop) : Inv (X.wish E) pins σ H s := ⟨I.ok.wish E, I.os, I.bare, I.base, I.loc, I.cell, I.free, I.freeC, I.pin, I.hok, I.len⟩
theorem Inv.unwish (I : Inv (X.wish E) pins σ H s) : Inv X pins σ H s := ⟨I.ok.unwish, I.os, I.bare, I.base, I.loc, I.cell, I.free, I.freeC, I.pin, I.hok, I.len⟩
theorem SP.unwish {D : Ends} {f : Flow} {s' : Shared} (h : SP (X.wish E) pins D f s') : SP X pins D f s' := by
  cases f with
  | next => obtain ⟨σ', H', I, q⟩ := h; exact ⟨σ', H', I.unwish, q⟩
  | brk => obtain ⟨σ', H', I, q⟩ := h; exact ⟨σ', H', I.unwish, q⟩
  | cont => obtain ⟨σ', H', I, q⟩ := h; exact ⟨σ', H', I.unwish, q⟩
  | ret u => obtain ⟨v, σ', H', I, r, q⟩ := h; exact ⟨v, σ', H', I.unwish, r, q⟩
theorem PSs.nox {st : List Stmt} {t : TS} (h : PSs X.nox st t) : PSs X st t := fun pins s σ H D I hw =>
  wpAny_mono (h pins s σ H D (I.wish _) hw) (fun _ _ q => q.unwish) fun _ _ z => False.elim z
end

/-! ### blocks and small statements -/
section
variable {X : Cx} {st : Stmt} {rest : List Stmt} {t u : TS} {e : Expr} {te : TE} {pos : Pos}
def tNext : TS := fun D σ H => D.nx σ H
def tSeq (t u : TS) : TS := fun D σ H => t { D with nx := u D } σ H
theorem pss_nil : PSs X [] tNext := fun _ _ σ H _ I h => wpAny_execs_nil ⟨σ, H, I, h⟩
theorem pss_cons (h1 : PS X st t) (h2 : PSs X rest u) : PSs X (st :: rest) (tSeq t u) := by
  intro pins s σ H D I h
  refine wpAny_execs_cons (thn (h1 pins s σ H { D with nx := u D } I h) fun f s1 q => ?_)
  cases f with
  | next =>
    obtain ⟨σ', H', I', q⟩ := q
    exact h2 pins s1 σ' H' D I' q
  | ret v => exact q
  | brk => exact q
  | cont => exact q
theorem pss_one (h1 : PS X st t) : PSs X [st] t := by
  intro pins s σ H D I h
  refine wpAny_execs_cons (thn (h1 pins s σ H D I h) fun f s1 q => ?_)
  cases f with
  | next => exact wpAny_execs_nil q
  | ret v => exact q
  | brk => exact q
  | cont => exact q
/-- in a def's body nothing is shown -/
theorem Inv.quiet {pins : List (Addr × Obj)} {σ : St} {H : Hp} {s : Shared} (I : Inv X pins σ H s) : interactive X.env = false := by simp [interactive, I.ok.kind]
/-- an expression whose value is dropped -/
def tDrop (te : TE) : TS := fun D σ H => te σ H fun _ H1 => D.nx σ H1
theorem ps_expr (he : PE X e te) (hs : swapsWith e none pos.line X.env = pure false := by rfl) : PS X (.Expr e pos) (tDrop te) := by
  intro pins s σ H D I h
  exact wpAny_Expr_any (thn (he pins s σ H _ I h) fun v s1 ⟨x, H1, I1, r1, q1⟩ => ⟨σ, H1, I1, q1⟩) I.quiet hs
def tRet (te : TE) : TS := fun D σ H => te σ H D.rt
theorem ps_ret (he : PE X e te) : PS X (.Return (some e) pos) (tRet te) := by
  intro pins s σ H D I h
  exact wpAny_Return_some (thn (he pins s σ H _ I h) fun v s1 ⟨x, H1, I1, r1, q1⟩ => ⟨x, σ, H1, I1, r1, q1⟩)
def tIfS (c : TT) (t u : TS) : TS := fun D σ H => c σ H fun b H1 => if b = true then t D σ H1 else u D σ H1
theorem ps_if {c : Expr} {a b : List Stmt} {tc : TT} (hc : PT X c tc) (ha : PSs X a t) (hb : PSs X b u) : PS X (.If c a b pos) (tIfS tc t u) := by
  intro pins s σ H D I h
  refine wpAny_If (thn (hc pins s σ H _ I h) fun d s1 ⟨H1, I1, q1⟩ => ?_)
  cases d with
  | true => exact ha pins s1 σ H1 D I1 q1
  | false => exact hb pins s1 σ H1 D I1 q1
/-- code that the proof never comes to -/
def tNever : TS := fun _ _ _ => False
theorem ps_never : PS X st tNever := fun _ _ _ _ _ _ h => h.elim
theorem pss_never {sts : List Stmt} : PSs X sts tNever := fun _ _ _ _ _ _ h => h.elim
end

/-! ### targets -/
abbrev TG := V → St → Hp → (St → Hp → Prop) → Prop
abbrev TGs := List V → St → Hp → (St → Hp → Prop) → Prop
def PG (X : Cx) (target : Expr) (t : TG) : Prop :=
  ∀ (pins : List (Addr × Obj)) (s : Shared) (σ : St) (H : Hp) (v : V) (u : Value) (Q : St → Hp → Prop), Inv X pins σ H s → RelV v u → t v σ H Q →
    wpAny (model X.prog X.w) X.A (assign target X.env u) (fun _ s' => ∃ σ' H', Inv X pins σ' H' s' ∧ Q σ' H') X.xe s
/-- several targets, one after another -/
def PGs (X : Cx) (ts : List Expr) (t : TGs) : Prop :=
  ∀ (pins : List (Addr × Obj)) (s : Shared) (σ : St) (H : Hp) (vs : List V) (us : List Value) (Q : St → Hp → Prop), Inv X pins σ H s → Vals vs us → t vs σ H Q →
    wpAny (model X.prog X.w) X.A (assignInOrder ((assignEach ts X.env).map (·.2)) us) (fun _ s' => ∃ σ' H', Inv X pins σ' H' s' ∧ Q σ' H') X.xe s
/-- o[i] = v, by values -/
abbrev TSet := V → V → V → Hp → (Hp → Prop) → Prop
def PSet (X : Cx) (t : TSet) : Prop :=
  ∀ (pins : List (Addr × Obj)) (s : Shared) (σ : St) (H : Hp) (o i v : V) (ov iv u : Value) (Q : Hp → Prop), Inv X pins σ H s → RelV o ov → RelV i iv → RelV v u → t o i v H Q →
    wpAny (model X.prog X.w) X.A (setItem ov iv u) (fun _ s' => ∃ H', Inv X pins σ H' s' ∧ Q H') X.xe s
/-- a op= b, by values -/
abbrev TIp := V → V → Hp → VK → Prop
def PIp (X : Cx) (op : Operator) (t : TIp) : Prop :=
  ∀ (pins : List (Addr × Obj)) (s : Shared) (σ : St) (H : Hp) (x y : V) (v u : Value) (Q : VK), Inv X pins σ H s → RelV x v → RelV y u → t x y H Q →
    wpAny (model X.prog X.w) X.A (inplaceOp op v u) (EP X pins σ Q) X.xe s
section
variable {X : Cx} {pos : Pos}
def gName (i : Nat) : TG := fun v σ H Q => Q (σ.set i (some v)) H
theorem pg_name {i : Nat} {x : Str} (hN : X.N.Nodup) (hi : X.N[i]? = some x) (hx : Loc X.env.scope x) (hf : X.fn x = true ∨ X.env.scope.names.lookup x = some .local := by first | exact .inl rfl | exact .inr rfl | assumption) : PG X (.Name x pos) (gName i) := by
  intro pins s σ H v u Q I r h
  exact wpAny_assign_Name (store_ok I hN hi hx r (fun s' I' => ⟨_, H, I', h⟩) hf)
def gNil : TGs := fun vs σ H Q => vs = [] ∧ Q σ H
def gCons (t : TG) (u : TGs) : TGs := fun vs σ H Q => ∃ v r, vs = v :: r ∧ t v σ H fun σ' H' => u r σ' H' Q
theorem pgs_nil : PGs X [] gNil := by
  intro pins s σ H vs us Q I r h
  obtain ⟨e, h⟩ := h
  subst e
  cases r
  exact assignInOrder_nil ⟨σ, H, I, h⟩
theorem pgs_cons {e : Expr} {es : List Expr} {t : TG} {u : TGs} (h1 : PG X e t) (h2 : PGs X es u)
    (hs : (assignEach (e :: es) X.env).map (·.2) = assign e X.env :: (assignEach es X.env).map (·.2) := by rfl) : PGs X (e :: es) (gCons t u) := by
  intro pins s σ H vs us Q I r h
  obtain ⟨v, vr, e1, h⟩ := h
  subst e1
  cases r with
  | cons r rr =>
    rw [hs]
    refine assignInOrder_cons (thn (h1 pins s σ H _ _ _ I r h) fun _ s1 ⟨σ1, H1, I1, q1⟩ => ?_)
    exact h2 pins s1 σ1 H1 _ _ Q I1 rr q1
/-- (a, b, ..) = a tuple of that length -/
def gTup (K : PySem.W.Frag) (n : Nat) (t : TGs) : TG := fun v σ H Q => ∃ a xs, v = .ref a ∧ SqT K H a xs ∧ xs.length = n ∧ t xs σ H Q
theorem pg_tup {es : List Expr} {k : Nat} {t : TGs} {n : Nat} (hc : X.calm = true) (h : PGs X es t)
    (hn : (assignEach es X.env).length = n := by rfl) (hst : (assignEach es X.env).findIdx? (·.1) = none := by rfl) : PG X (.Tuple es k pos) (gTup X.K n t) := by
  intro pins s σ H v u Q I r hw
  obtain ⟨a, xs, e1, hq, hl, hw⟩ := hw
  subst e1
  cases r
  obtain ⟨its, rv, ht, hz⟩ := I.tuple hq
  refine assign_Tuple_tuple (I.ok.hd hc) ht (by simp [hn, ← hl, rv.length]) hst fun h' hx => ?_
  have I1 : Inv X pins σ H { s with heap := h' } := I.kept (t' := s.toks) fun b o e => hx b o (Nat.ne_of_lt (Heap.lt_size e)) e
  exact h pins _ σ H xs _ Q I1 (by simpa using rv) hw
/-- o[i] = .. -/
def gSub (to ti : TE) (t : TSet) : TG := fun v σ H Q => to σ H fun o H1 => ti σ H1 fun i H2 => t o i v H2 fun H3 => Q σ H3
theorem pg_sub {o i : Expr} {to ti : TE} {t : TSet} (ho : PE X o to) (hi : PE X i ti) (hs : PSet X t)
    (ha : ∀ v, assign (.Subscript o i pos) X.env v = (do
      let ov ← holding [v] (eval o X.env)
      let iv ← holding [v, ov] (eval i X.env)
      standAt pos
      holding [v, ov, iv] (setItem ov iv v)
      release [v, ov, iv] []) := by intro _; rfl) : PG X (.Subscript o i pos) (gSub to ti t) := by
  intro pins s σ H v u Q I r h
  rw [ha]
  refine wpAny_bind (wpAny_holding (thn (ho pins s σ H _ I h) fun ov s1 ⟨x, H1, I1, r1, q1⟩ => ?_))
  refine wpAny_bind (wpAny_holding (thn (hi pins s1 σ H1 _ I1 q1) fun iv s2 ⟨y, H2, I2, r2, q2⟩ => ?_))
  refine wpAny_bind (wpAny_standAt (wpAny_bind (wpAny_holding (thn (hs pins s2 σ H2 x y v ov iv u _ I2 r1 r2 r q2) fun _ s3 ⟨H3, I3, q3⟩ => ?_))))
  exact wpAny_release ⟨σ, H3, I3, q3⟩
/-- target = value -/
def tAsg (te : TE) (g : TG) : TS := fun D σ H => te σ H fun x H1 => g x σ H1 D.nx
theorem ps_asg {tg e : Expr} {te : TE} {g : TG} (he : PE X e te) (hg : PG X tg g) (hs : swapsWithSole [tg] e pos.line X.env = pure false := by rfl) (hw : swappedStores [tg] e X.env = pure none := by rfl)
    (h1 : (assignEach [tg] X.env).map (·.2) = [assign tg X.env] := by rfl) : PS X (.Assign [tg] e pos) (tAsg te g) := by
  intro pins s σ H D I h
  refine wpAny_Assign_stores (thn (he pins s σ H _ I h) fun v s1 ⟨x, H1, I1, r1, q1⟩ => ?_) hs hw
  rw [h1]
  exact thn (hg pins s1 σ H1 x v _ I1 r1 q1) fun _ s2 q => q
/-- name = value -/
theorem ps_set {i : Nat} {x : Str} {e : Expr} {te : TE} {pos' : Pos} (hN : X.N.Nodup) (hi : X.N[i]? = some x) (hx : Loc X.env.scope x) (he : PE X e te) (hs : swapsWith e (some (.Name x pos')) pos.line X.env = pure false := by rfl) (hf : X.fn x = true ∨ X.env.scope.names.lookup x = some .local := by first | exact .inl rfl | exact .inr rfl | assumption) :
    PS X (.Assign [.Name x pos'] e pos) (tAsg te (gName i)) := by
  intro pins s σ H D I h
  refine wpAny_Assign_Name (thn (he pins s σ H _ I h) fun v s1 ⟨y, H1, I1, r1, q1⟩ => ?_) hs
  exact store_ok I1 hN hi hx r1 (fun s2 I2 => ⟨_, H1, I2, q1⟩) hf
/-- a, b = x, y with plain local names: stored from the right; the pair itself is not tracked (the opening rows as in PyProof/Rows/TupAssign.lean:23) -/
def tPar (i j : Nat) (ta : TA) : TS := fun D σ H => ta σ H fun vs H1 => ∃ v w, vs = [v, w] ∧ D.nx ((σ.set i (some v)).set j (some w)) H1
theorem ps_par {i j : Nat} {x y : Str} {a b : Expr} {ta : TA} {px py pt : Pos} {kt k2 pt2} (hc : X.calm = true) (hN : X.N.Nodup) (hi : X.N[i]? = some x) (hj : X.N[j]? = some y) (hij : i ≠ j)
    (hx : X.env.scope.names.lookup x = some .local) (hy : X.env.scope.names.lookup y = some .local) (ha : PA X [a, b] ta)
    (hw : swappedStores [.Tuple [.Name x px, .Name y py] kt pt] (.Tuple [a, b] k2 pt2) X.env = pure (some [x, y]))
    (hs : swapsWithSole [.Tuple [.Name x px, .Name y py] kt pt] (.Tuple [a, b] k2 pt2) pos.line X.env = pure false := by rfl) :
    PS X (.Assign [.Tuple [.Name x px, .Name y py] kt pt] (.Tuple [a, b] k2 pt2) pos) (tPar i j ta) := by
  intro pins s σ H D I h
  rw [exec_Assign_arm]
  refine wpAny_bind (wpAny_standAt ?_)
  rw [hs]
  refine wpAny_bind (wpAny_pure ?_)
  rw [if_neg (by decide)]
  refine wpAny_bind (Tuple_ (thn (ha _ pins s σ H _ I h) fun us s1 ⟨vs, H1, I1, r1, q1⟩ => ?_))
  obtain ⟨v, w, e1, q1⟩ := q1
  subst e1
  obtain ⟨u1, u2, rfl, rv, rw'⟩ : ∃ u1 u2, us = [u1, u2] ∧ RelV v u1 ∧ RelV w u2 := by
    cases r1 with
    | cons p q =>
      cases q with
      | cons p' q' =>
        cases q'
        exact ⟨_, _, rfl, p, p'⟩
  refine wpAny_newObj_type ?_ (by show 2 ≤ sizeLine; decide)
  have I2 : Inv X pins σ H1 { s1 with heap := s1.heap.push { cls := .type "tuple", data := .seq [u1, u2].toArray } } := I1.kept (t' := s1.toks) fun b o e => Heap.get?_push_of_some _ e
  rw [hw]
  refine wpAny_bind (wpAny_pure ?_)
  show wpAny (model X.prog X.w) X.A (do rule "assign.swapped-stores"; let items ← unpackItems (.ref s1.heap.objs.size) 2 none; assignInOrder [fun v => bindName X.env y v, fun v => bindName X.env x v] items.reverse; pure Flow.next) _ _ _
  refine wpAny_bind (wpAny_rule (wpAny_bind (unpackItems_tuple (items := #[u1, u2]) (I.ok.hd hc) (IsTup.new s1.heap _) fun h' hx' => ?_)))
  have I3 := I2.kept (h' := h') (t' := s1.toks) fun b o e => hx' b o (Nat.ne_of_lt (Heap.lt_size e)) e
  show wpAny _ _ (assignInOrder [fun v => bindName X.env y v, fun v => bindName X.env x v] [u2, u1] >>= fun _ => pure Flow.next) _ _ _
  refine wpAny_bind (assignInOrder_cons (wpAny_bindName (store_ok I3 hN hj (.inl hy) rw' (fun s2 I4 => ?_) (.inr hy))))
  refine assignInOrder_cons (wpAny_bindName (store_ok I4 hN hi (.inl hx) rv (fun s3 I5 => assignInOrder_nil (wpAny_pure ?_)) (.inr hx)))
  rw [List.set_comm _ _ (Ne.symm hij)] at I5
  exact ⟨_, H1, I5, q1⟩
/-- name op= e -/
def tAug (i : Nat) (te : TE) (ti : TIp) : TS := fun D σ H => ∃ x, σ[i]? = some (some x) ∧ te σ H fun y H1 => ti x y H1 fun z H2 => D.nx (σ.set i (some z)) H2
theorem ps_aug {i : Nat} {x : Str} {e : Expr} {te : TE} {op : Operator} {ti : TIp} {pos' : Pos} (hN : X.N.Nodup) (hi : X.N[i]? = some x) (hx : Loc X.env.scope x) (he : PE X e te) (ho : PIp X op ti) (hf : X.fn x = true ∨ X.env.scope.names.lookup x = some .local := by first | exact .inl rfl | exact .inr rfl | assumption) :
    PS X (.AugAssign (.Name x pos') op e pos) (tAug i te ti) := by
  intro pins s σ H D I h
  obtain ⟨v, e1, h⟩ := h
  obtain ⟨m, hn, hl⟩ := I.loc
  have vis : Vis X.env.scope x := by rcases hx with k | k; exact .inl k; exact .inr (.inl k)
  obtain ⟨u, r, l⟩ := hl i x v hi e1 vis
  refine wpAny_AugAssign_Name ?_
  have go : wpAny (model X.prog X.w) X.A (eval e X.env) (fun w s₂ => wpAny (model X.prog X.w) X.A (inplaceOp op u w) (fun r s₃ => wpAny (model X.prog X.w) X.A (storeName X.env x r) (fun _ => SP X pins D .next) X.xe s₃) X.xe s₂) X.xe s := by
    refine thn (he pins s σ H _ I h) fun w s1 ⟨y, H1, I1, r1, q1⟩ => ?_
    refine thn (ho pins s1 σ H1 v y u w _ I1 r r1 q1) fun z s2 ⟨zv, H2, I2, r2, q2⟩ => ?_
    exact store_ok I2 hN hi hx r2 (fun s3 I3 => ⟨_, H2, I3, q2⟩) hf
  rcases l with ⟨hk, hm⟩ | ⟨hk, c, hc, hcell⟩
  · exact wpAny_loadName_local I.ok.kind hk hn hm go
  · rcases hk with hk | hk
    · exact wpAny_loadName_cell I.ok.kind hk hc hcell go
    · rcases hx with k | k
      · have : X.env.scope.names.lookup x = some .free := hk
        rw [k] at this; cases this
      · have : X.env.scope.names.lookup x = some .free := hk
        rw [k] at this; cases this
/-- ints -/
def ipI (f : Int → Int → Int) : TIp := fun x y H Q => ∃ i j, x = .int i ∧ y = .int j ∧ Q (.int (f i j)) H
theorem ip_add : PIp X .Add (ipI fun i j => i + j) := by
  intro pins s σ H x y v u Q I r1 r2 h
  obtain ⟨i, j, e1, e2, q⟩ := h
  subst e1; subst e2
  obtain ⟨t, rfl⟩ := r1
  obtain ⟨t', rfl⟩ := r2
  exact iadd_int ⟨.int _, H, I.tok _, ⟨_, rfl⟩, q⟩
end

/-! ### while -/
section
variable {X : Cx} {pos : Pos}
/-- the invariant W with its measure -/
def tWhile (c : TT) (tb : TS) : TS := fun D σ H => ∃ W : Nat → St → Hp → Prop, (∃ m, W m σ H) ∧ ∀ m σ H, W m σ H →
  c σ H fun b H1 => if b = true then ∃ N : St → Hp → Prop, (∀ σ' H', N σ' H' → ∃ m', m' < m ∧ W m' σ' H') ∧ tb { D with nx := N, ct := N, bk := D.nx } σ H1 else D.nx σ H1
theorem ps_while {c : Expr} {body : List Stmt} {tc : TT} {tb : TS} (hp : PassesOwn (model X.prog X.w) X.A X.env X.xe) (hc : PT X c tc) (hb : PSs X body tb) : PS X (.While c body [] pos) (tWhile tc tb) := by
  intro pins s σ H D I h
  obtain ⟨W, ⟨m0, w0⟩, turn⟩ := h
  refine wpAny_While (codeAny_whileLoop (fun n s' => ∃ σ' H', Inv X pins σ' H' s' ∧ W n σ' H') ?_ m0 ⟨σ, H, I, w0⟩)
  rintro n s1 ⟨σ1, H1, I1, w1⟩
  refine wpAny_passesOwn hp (thn (hc pins s1 σ1 H1 _ I1 (turn n σ1 H1 w1)) fun b s2 ⟨H2, I2, q2⟩ => ?_)
  cases b with
  | true =>
    obtain ⟨N, hN, q2⟩ := q2
    rw [if_pos rfl]
    refine wpAny_passesOwn hp (thn (hb pins s2 σ1 H2 _ I2 q2) fun f s3 q3 => ?_)
    cases f with
    | next =>
      obtain ⟨σ3, H3, I3, n3⟩ := q3
      obtain ⟨m', hm, w3⟩ := hN σ3 H3 n3
      exact ⟨m', hm, σ3, H3, I3, w3⟩
    | cont =>
      obtain ⟨σ3, H3, I3, n3⟩ := q3
      obtain ⟨m', hm, w3⟩ := hN σ3 H3 n3
      exact ⟨m', hm, σ3, H3, I3, w3⟩
    | brk => exact q3
    | ret v => exact q3
  | false =>
    rw [if_neg Bool.false_ne_true]
    exact wpAny_execs_nil ⟨σ1, H2, I2, q2⟩
end

/-! ### what a loop or a comprehension walks -/
/-- at turn i: it yields x (the heap may grow), or it stops -/
structure It where
  go : Nat → Hp → Prop
  yld : Nat → Hp → V → Hp → Prop
  stop : Nat → Hp → Prop
/-- the iterator's own objects may turn: they are not the frame's, not pinned, younger than the entry (or a comprehension's own) -/
def FpOk (X : Cx) (pins : List (Addr × Obj)) (H : Hp) (b : Addr) : Prop :=
  H b = none ∧ b ≠ X.env.locals ∧ b ∉ X.fs ∧ (b ∈ X.ex ∨ X.s₀.heap.objs.size ≤ b) ∧ (∀ x c, X.env.cells.lookup x = some c → c ≠ b) ∧ ∀ p ∈ X.pn ++ pins, p.1 ≠ b
theorem Inv.fpOk {X : Cx} {pins : List (Addr × Obj)} {σ : St} {H H' : Hp} {s : Shared} {b : Addr} (I : Inv X pins σ H s) (hb : s.heap.objs.size ≤ b) (hn : H' b = none) : FpOk X pins H' b := by
  refine ⟨hn, Nat.ne_of_gt (Nat.lt_of_lt_of_le I.lt hb), I.nofs hb, .inr (Nat.le_trans I.sz hb), fun x c e z => ?_, fun p hp z => ?_⟩
  · obtain ⟨v, q⟩ := I.cell x c e
    exact absurd (Nat.lt_of_lt_of_le q.lt (by rw [z]; exact hb)) (Nat.lt_irrefl _)
  · exact absurd (Nat.lt_of_lt_of_le (Heap.lt_size (I.pin p hp).1) (by rw [z]; exact hb)) (Nat.lt_irrefl _)
structure Turn (P : Program) (w : World) (K : PySem.W.Frag) (tg : Expr) (J : It) (fp : List Addr) (it : Addr) (tn : Nat → Heap → Prop) : Prop where
  mem : it ∈ fp
  obj : ∀ i h, tn i h → ∀ b ∈ fp, ∃ o, h.get? b = some o ∧ ∀ v, o.data ≠ .cell v
  keep : ∀ i h h', tn i h → (∀ b ∈ fp, ∀ o, h.get? b = some o → h'.get? b = some o) → tn i h'
  item : ∀ (X : Cx), X.prog = P → X.w = w → X.K = K → X.calm = true → ∀ (i : Nat) (pins : List (Addr × Obj)) (s : Shared) (σ : St) (H : Hp) (E : Value → Shared → Prop), Inv X pins σ H s → (∀ b ∈ fp, FpOk X pins H b) → tn i s.heap → J.go i H →
    wpAny (model P w) X.A (pyNext (.ref it)) (fun r s1 => ∃ u, r = some u ∧
      wpAny (model P w) X.A (letOwnedTupleGo tg (.ref it) u) (fun _ s2 => ∃ x H', Inv X pins σ H' s2 ∧ RelV x u ∧ J.yld i H x H' ∧ tn (i + 1) s2.heap ∧ ∀ b ∈ fp, H' b = none) E s1) E s
  done : ∀ (X : Cx), X.prog = P → X.w = w → X.K = K → X.calm = true → ∀ (i : Nat) (pins : List (Addr × Obj)) (s : Shared) (σ : St) (H : Hp) (E : Value → Shared → Prop), Inv X pins σ H s → (∀ b ∈ fp, FpOk X pins H b) → tn i s.heap → J.stop i H →
    wpAny (model P w) X.A (pyNext (.ref it)) (fun r s1 => r = none ∧ Inv X pins σ H s1) E s
  self : ∀ (A : Around) (i : Nat) (s : Shared) (Q : Value → Shared → Prop) (E : Value → Shared → Prop), tn i s.heap → Q (.ref it) s → wpAny (model P w) A (pyIter (.ref it)) Q E s
abbrev TI := St → Hp → (It → Hp → Prop) → Prop
/-- an iterator has come -/
def PIE (X : Cx) (pins : List (Addr × Obj)) (σ : St) (tg : Expr) (R : It → Hp → Prop) (itv : Value) (s2 : Shared) : Prop :=
  ∃ (it : Addr) (fp : List Addr) (tn : Nat → Heap → Prop) (J : It) (H' : Hp), itv = .ref it ∧ Inv X pins σ H' s2 ∧ Turn X.prog X.w X.K tg J fp it tn ∧ tn 0 s2.heap ∧ (∀ b ∈ fp, FpOk X pins H' b) ∧ R J H'
def PI (X : Cx) (tg iter : Expr) (wi : TI) : Prop :=
  ∀ (pins : List (Addr × Obj)) (s : Shared) (σ : St) (H : Hp) (R : It → Hp → Prop), Inv X pins σ H s → wi σ H R →
    wpAny (model X.prog X.w) X.A (eval iter X.env) (fun v s1 => wpAny (model X.prog X.w) X.A (pyIter v) (PIE X pins σ tg R) X.xe s1) X.xe s

/-- the step ahead of the store is nothing for an iterator that keeps no tuple -/
theorem go_of {M : Model} {A : Around} {E : Value → Shared → Prop} {s : Shared} {tg : Expr} {it : Addr} {u : Value} {o : Obj} {n : String} {vs : Array Value} {Q : Unit → Shared → Prop} (ho : s.heap.get? it = some o) (hc : o.cls = .type n) (hd : o.data = .fields vs)
    (hn : ["enumerate", "zip", "dict_itemiterator", "dict_reverseitemiterator", "odict_iterator", "itertools.zip_longest", "itertools.pairwise"].contains n = false) (hQ : Q () s) : wpAny M A (letOwnedTupleGo tg (.ref it) u) Q E s := by
  unfold letOwnedTupleGo
  cases tg <;> first
    | exact wpAny_pure hQ
    | (cases u <;> first
        | exact wpAny_pure hQ
        | (refine wpAny_bind (wpAny_load ho ?_)
           rw [hc, hd]
           show wpAny M A (if (["enumerate", "zip", "dict_itemiterator", "dict_reverseitemiterator", "odict_iterator", "itertools.zip_longest", "itertools.pairwise"].contains n && vs[0]? == some (rawInt _)) = true then _ else _) Q E s
           rw [if_neg (by intro h; rw [hn, Bool.false_and] at h; cases h)]
           exact wpAny_pure hQ))

/-- the list at a, as it stands at each turn (a loop may append to it) -/
def Itl (K : PySem.W.Frag) (a : Addr) : It :=
  ⟨fun i H => ∃ xs x, SqL K H a xs ∧ xs[i]? = some x, fun i H x H' => H' = H ∧ ∀ xs, SqL K H a xs → xs[i]? = some x, fun i H => ∃ xs, SqL K H a xs ∧ xs.length ≤ i⟩
/-- lo, lo + 1, .. (n of them) -/
def Itr (lo : Int) (n : Nat) : It := ⟨fun i _ => i < n, fun i H x H' => H' = H ∧ x = .int (lo + i), fun i _ => n ≤ i⟩
theorem turn_list {P : Program} {w : World} {K : PySem.W.Frag} {tg : Expr} (a it : Addr) : Turn P w K tg (Itl K a) [it] it (fun i h => h.IsListIter it a i) where
  mem := by simp
  obj := fun i h st b hb => by
    have e : b = it := by simpa using hb
    subst e
    obtain ⟨o, e, c, d⟩ := st
    exact ⟨o, e, fun v z => by rw [d] at z; cases z⟩
  keep := fun i h h' st k => st.at fun o e => k it (by simp) o e
  item := by
    intro X hP hw hK hc i pins s σ H E I hf st hg
    subst hP hw hK
    obtain ⟨xs, x, hq, hx⟩ := hg
    obtain ⟨its, rv, p, hz⟩ := I.list hq
    obtain ⟨u, hu, ru⟩ := rv.get hx
    obtain ⟨f0, f1, f2, f3, f4, f5⟩ := hf it (by simp)
    refine wpAny_pyNext_list_item st p.isList (x := u) (by simpa using hu) fun h' st' sb => ?_
    have I1 : Inv X pins σ H { s with heap := h' } := I.turned (t' := s.toks) (fun b o hb e => (sb.2 b hb).trans e) f0 f1 f3 f4 f5
    obtain ⟨o, e, c, d⟩ := id st'
    exact ⟨u, rfl, go_of (s := { s with heap := h' }) e c d (by decide) ⟨x, H, I1, ru, ⟨rfl, fun ys hy => by rw [I.list_inj hy hq]; exact hx⟩, st', fun b hb => (hf b hb).1⟩⟩
  done := by
    intro X hP hw hK hc i pins s σ H E I hf st hg
    subst hP hw hK
    obtain ⟨xs, hq, hx⟩ := hg
    obtain ⟨its, rv, p, hz⟩ := I.list hq
    obtain ⟨f0, f1, f2, f3, f4, f5⟩ := hf it (by simp)
    have hl := rv.length
    exact wpAny_pyNext_list_end (I.ok.hd hc) st p.isList (by simp; omega) fun h' eb => ⟨rfl, I.turned (t' := s.toks) (fun b o hb e => eb b o hb e) f0 f1 f3 f4 f5⟩
  self := fun _ _ _ _ _ st h => wpAny_pyIter_listiter st h
theorem turn_range {P : Program} {w : World} {K : PySem.W.Frag} {tg : Expr} (it : Addr) (lo : Int) (n : Nat) : Turn P w K tg (Itr lo n) [it] it (fun i h => IsRangeIter h it (lo + (i : Nat) * 1) ((n : Int) - (i : Nat)) 1) where
  mem := by simp
  obj := fun i h st b hb => by
    have e : b = it := by simpa using hb
    subst e
    exact ⟨_, st, fun v z => by
      have z' : Data.fields _ = Data.cell v := z
      cases z'⟩
  keep := fun i h h' st k => k it (by simp) _ st
  item := by
    intro X hP hw hK hc i pins s σ H E I hf st hg
    subst hP hw hK
    obtain ⟨f0, f1, f2, f3, f4, f5⟩ := hf it (by simp)
    have W := Walks.range (prog := X.prog) (w := X.w) (I.ok.hd hc) it lo 1 n
    refine W.item i s _ _ hg st fun v h' tk hv st' kk => ?_
    obtain ⟨t, rfl⟩ := hv
    have I1 : Inv X pins σ H { s with heap := h', toks := tk } := I.turned (fun b o hb e => kk b o (by simpa using hb) e) f0 f1 f3 f4 f5
    refine ⟨_, rfl, go_of (s := { s with heap := h', toks := tk }) (n := "range_iterator") st' rfl rfl (by decide) ⟨.int (lo + i), H, I1, ⟨t, ?_⟩, ⟨rfl, rfl⟩, st', fun b hb => (hf b hb).1⟩⟩
    rw [Int.mul_one]
  done := by
    intro X hP hw hK hc i pins s σ H E I hf st hg
    subst hP hw hK
    obtain ⟨f0, f1, f2, f3, f4, f5⟩ := hf it (by simp)
    exact wpAny_pyNext_range_end (I.ok.hd hc) st (by have : n ≤ i := hg; omega) fun h' eb => ⟨rfl, I.turned (t' := s.toks) (fun b o hb e => eb b o hb e) f0 f1 f3 f4 f5⟩
  self := fun _ _ _ _ _ st h => wpAny_pyIter_rangeiter st h
end L2

namespace L2
open PySem PySem.Spec PyProof.Rows
section
variable {X : Cx} {tg : Expr}
def iList (K : PySem.W.Frag) (tl : TE) : TI := fun σ H R => tl σ H fun x H1 => ∃ a, x = .ref a ∧ (∃ xs, SqL K H1 a xs) ∧ R (Itl K a) H1
theorem pi_list {l : Expr} {tl : TE} (hl : PE X l tl) : PI X tg l (iList X.K tl) := by
  intro pins s σ H R I h
  refine thn (hl pins s σ H _ I h) fun v s1 ⟨x, H1, I1, r1, q1⟩ => ?_
  obtain ⟨a, e, ⟨xs, hq⟩, q⟩ := q1
  subst e
  cases r1
  obtain ⟨its, rv, p, hz⟩ := I1.list hq
  refine wpAny_pyIter_list p.isList ?_
  refine ⟨s1.heap.objs.size, [s1.heap.objs.size], _, _, H1, rfl, I1.kept (t' := s1.toks) fun b o e => Heap.get?_push_of_some _ e, turn_list a _, ⟨_, Heap.get?_push_size _ rfl, rfl, rfl⟩, fun b hb => ?_, q⟩
  have e : b = s1.heap.objs.size := by simpa using hb
  subst e
  exact I1.fpOk (Nat.le_refl _) (I1.hok.fresh (Nat.le_refl _))
/-- a range object just made, walked -/
theorem range_it {pins : List (Addr × Obj)} {σ : St} {H : Hp} {s : Shared} {R : It → Hp → Prop} {E : Value → Shared → Prop} {lo hi : Int} {t u v : Tok} {tk : Nat} (I : Inv X pins σ H s) (h1 : -(2 ^ 62) ≤ lo) (h2 : lo < 2 ^ 62) (h3 : -(2 ^ 62) ≤ hi) (h4 : hi < 2 ^ 62)
    (q : R (Itr lo (hi - lo).toNat) H) : wpAny (model X.prog X.w) X.A (pyIter (.ref s.heap.objs.size)) (PIE X pins σ tg R) E { s with heap := s.heap.push { cls := .type "range", data := .fields #[.int lo t, .int hi u, .int 1 v] }, toks := tk } := by
  refine wpAny_pyIter_range (IsRange.new ..) (small_one h1 h2 h3 h4) ?_
  have I1 : Inv X pins σ H { s with heap := s.heap.push { cls := .type "range", data := .fields #[.int lo t, .int hi u, .int 1 v] }, toks := tk } := I.kept fun b o e => Heap.get?_push_of_some _ e
  refine ⟨(s.heap.push { cls := .type "range", data := .fields #[.int lo t, .int hi u, .int 1 v] }).objs.size, [(s.heap.push { cls := .type "range", data := .fields #[.int lo t, .int hi u, .int 1 v] }).objs.size], _, _, H, rfl,
    I1.kept (t' := tk) fun b o e => Heap.get?_push_of_some _ e, turn_range _ lo (hi - lo).toNat, ?_, fun b hb => ?_, q⟩
  · have e1 : lo + ((0 : Nat) : Int) * 1 = lo := by simp
    have e2 : (((hi - lo).toNat : Nat) : Int) - ((0 : Nat) : Int) = Builtin.Range.rangeSize lo hi 1 := by rw [rangeSize_one]; split <;> omega
    show IsRangeIter _ _ (lo + ((0 : Nat) : Int) * 1) ((((hi - lo).toNat : Nat) : Int) - ((0 : Nat) : Int)) 1
    rw [e1, e2]
    exact Heap.get?_push_size _ rfl
  · have e : b = (s.heap.push { cls := .type "range", data := .fields #[.int lo t, .int hi u, .int 1 v] }).objs.size := by simpa using hb
    subst e
    exact I1.fpOk (Nat.le_refl _) (I1.hok.fresh (Nat.le_refl _))
def iRng1 (ta : TA) : TI := fun σ H R => ta σ H fun vs H1 => ∃ j : Int, vs = [.int j] ∧ -(2 ^ 62) ≤ j ∧ j < 2 ^ 62 ∧ R (Itr 0 j.toNat) H1
theorem pi_range1 {a : Expr} {ta : TA} {p pos : Pos} (hg : Gl X "range") (hm : X.mg "range" = none) (ha : PA X [a] ta) (hs : starEach [a] X.env = [(false, eval a X.env)] := by rfl) : PI X tg (.Call (.Name "range" p) [a] [] pos) (iRng1 ta) := by
  intro pins s σ H R I h
  refine Call_ (ld_blt I hg hm boot_range (PyProof.Rows.callWith_type1 (thn (ha pos pins s σ H _ I h) fun us s1 ⟨vs, H1, I1, r1, q1⟩ => ?_) hs rfl))
  obtain ⟨j, e, q1, q2, q⟩ := q1
  subst e
  cases r1 with
  | cons r rr =>
    cases rr
    obtain ⟨t, rfl⟩ := r
    exact call_range_1 (range_it I1 (by omega) (by omega) q1 q2 (by simpa using q))

/-! ### for -/
/-- W: the invariant by the turn and a measure; N: what the body is to reach -/
def tFor (wi : TI) (g : TG) (tb : TS) : TS := fun D σ H => wi σ H fun J H1 => ∃ W : Nat → Nat → St → Hp → Prop, (∃ m, W 0 m σ H1) ∧ ∀ i m σ H, W i m σ H →
  (J.stop i H ∧ D.nx σ H) ∨ (J.go i H ∧ ∃ N : St → Hp → Prop, (∀ σ' H', N σ' H' → ∃ m', m' < m ∧ W (i + 1) m' σ' H') ∧ ∀ x H', J.yld i H x H' → g x σ H' fun σ2 H2 => tb { D with nx := N, ct := N, bk := D.nx } σ2 H2)
/-- the records at fp as they stand -/
def pinsAt (fp : List Addr) (h : Heap) : List (Addr × Obj) := fp.filterMap fun b => (h.get? b).map fun o => (b, o)
theorem mem_pinsAt {fp : List Addr} {h : Heap} {b : Addr} {o : Obj} (hb : b ∈ fp) (e : h.get? b = some o) : (b, o) ∈ pinsAt fp h := List.mem_filterMap.mpr ⟨b, hb, by rw [e]; rfl⟩
theorem of_pinsAt {fp : List Addr} {h : Heap} {p : Addr × Obj} (hp : p ∈ pinsAt fp h) : p.1 ∈ fp ∧ h.get? p.1 = some p.2 := by
  obtain ⟨b, hb, e⟩ := List.mem_filterMap.mp hp
  cases q : h.get? b with
  | none => rw [q] at e; cases e
  | some o =>
    rw [q] at e
    have e' : (b, o) = p := Option.some.inj e
    subst e'
    exact ⟨hb, q⟩
theorem Inv.pinned {pins : List (Addr × Obj)} {σ : St} {H : Hp} {s : Shared} {fp : List Addr} (I : Inv X pins σ H s) (hf : ∀ b ∈ fp, FpOk X pins H b) (ho : ∀ b ∈ fp, ∃ o, s.heap.get? b = some o ∧ ∀ v, o.data ≠ .cell v) : Inv X (pins ++ pinsAt fp s.heap) σ H s :=
  I.pins_of fun p hp => (List.mem_append.mp hp).elim (fun z => I.pin p (List.mem_append_right _ z)) fun z => by
    obtain ⟨hb, e⟩ := of_pinsAt z
    obtain ⟨f0, f1, f2, _⟩ := hf p.1 hb
    obtain ⟨o, e', d⟩ := ho p.1 hb
    rw [e] at e'; cases e'
    exact ⟨e, f0, f1, f2, d⟩
theorem Inv.unpinned {pins pl : List (Addr × Obj)} {σ : St} {H : Hp} {s : Shared} (I : Inv X (pins ++ pl) σ H s) : Inv X pins σ H s := I.pins_of fun p hp => I.pin p (List.mem_append_right _ (List.mem_append_left _ hp))
theorem ps_for {iter : Expr} {body : List Stmt} {wi : TI} {g : TG} {tb : TS} {pos : Pos} (hp : PassesOwn (model X.prog X.w) X.A X.env X.xe) (hc : X.calm = true) (hi : PI X tg iter wi) (hg : PG X tg g) (hb : PSs X body tb)
    (hs : ∀ x, foldedSetIterable iter X.env x = pure x := by intro _; rfl) : PS X (.For tg iter body [] pos) (tFor wi g tb) := by
  intro pins s σ H D I h
  refine wpAny_For (thn (hi pins s σ H _ I h) fun v s1 h1 => thn h1 fun itv s2 h2 => ?_) hs
  obtain ⟨it, fp, tn, J, H2, e, I2, T, st2, f2, W, ⟨m0, w0⟩, turn⟩ := h2
  subst e
  -- what stays true of the iterator's objects through the loop
  have stat : ∀ {H' : Hp}, (∀ b ∈ fp, H' b = none) → ∀ b ∈ fp, FpOk X pins H' b := fun hn b hb => ⟨hn b hb, (f2 b hb).2⟩
  refine codeAny_forLoop_any (fun n s' => ∃ i σ' H', Inv X pins σ' H' s' ∧ tn i s'.heap ∧ (∀ b ∈ fp, H' b = none) ∧ W i n σ' H') ?_ m0 ⟨0, σ, H2, I2, st2, fun b hb => (f2 b hb).1, w0⟩
  rintro n s3 ⟨i, σ3, H3, I3, st3, fr3, w3⟩
  rcases turn i n σ3 H3 w3 with ⟨stop, qn⟩ | ⟨go, N, hN, step⟩
  · refine wpAny_passesOwn hp (thn (T.done X rfl rfl rfl hc i pins s3 σ3 H3 X.xe I3 (stat fr3) st3 stop) fun r s4 ⟨hr, I4⟩ => ?_)
    subst hr
    exact wpAny_execs_nil ⟨σ3, H3, I4, qn⟩
  · refine wpAny_passesOwn hp (thn (T.item X rfl rfl rfl hc i pins s3 σ3 H3 X.xe I3 (stat fr3) st3 go) fun r s4 ⟨u, hr, h4⟩ => ?_)
    subst hr
    refine wpAny_passesOwn hp (thn h4 fun _ s5 ⟨x, H5, I5, r5, y5, st5, fr5⟩ => ?_)
    have I5' := I5.pinned (stat fr5) (T.obj _ _ st5)
    refine wpAny_passesOwn hp (thn (hg _ s5 σ3 H5 x u _ I5' r5 (step x H5 y5)) fun _ s6 ⟨σ6, H6, I6, q6⟩ => ?_)
    refine wpAny_passesOwn hp (thn (hb _ s6 σ6 H6 _ I6 q6) fun f s7 q7 => ?_)
    have again : ∀ {σ7 : St} {H7 : Hp}, Inv X (pins ++ pinsAt fp s5.heap) σ7 H7 s7 → N σ7 H7 → ∃ m, m < n ∧ ∃ i σ' H', Inv X pins σ' H' s7 ∧ tn i s7.heap ∧ (∀ b ∈ fp, H' b = none) ∧ W i m σ' H' := fun {σ7 H7} I7 n7 => by
      obtain ⟨m', hm, w7⟩ := hN σ7 H7 n7
      refine ⟨m', hm, i + 1, σ7, H7, I7.unpinned, T.keep _ _ _ st5 fun b hb o e => (I7.pin (b, o) (List.mem_append_right _ (List.mem_append_right _ (mem_pinsAt hb e)))).1, fun b hb => ?_, w7⟩
      obtain ⟨o, e, d⟩ := T.obj _ _ st5 b hb
      exact (I7.pin (b, o) (List.mem_append_right _ (List.mem_append_right _ (mem_pinsAt hb e)))).2.1
    cases f with
    | next => obtain ⟨σ7, H7, I7, n7⟩ := q7; exact again I7 n7
    | cont => obtain ⟨σ7, H7, I7, n7⟩ := q7; exact again I7 n7
    | brk => obtain ⟨σ7, H7, I7, q7⟩ := q7; exact ⟨σ7, H7, I7.unpinned, q7⟩
    | ret v => obtain ⟨x7, σ7, H7, I7, r7, q7⟩ := q7; exact ⟨x7, σ7, H7, I7.unpinned, r7, q7⟩
end

/-! ### the forms one uses -/
end L2

namespace L2
open PySem PySem.Spec PyProof.Rows

abbrev R2 := V → V → Hp → VK → Prop
/-- a two-place operation on values: f is binaryOp op, inplaceOp op or compareOp op -/
def OpR (X : Cx) (f : Value → Value → Sem Value) (r : R2) : Prop :=
  ∀ (pins : List (Addr × Obj)) (s : Shared) (σ : St) (H : Hp) (x y : V) (v u : Value) (Q : VK), Inv X pins σ H s → RelV x v → RelV y u → r x y H Q →
    wpAny (model X.prog X.w) X.A (f v u) (EP X pins σ Q) X.xe s
/-- a one-place operation -/
def UnR (X : Cx) (f : Value → Sem Value) (r : V → Hp → VK → Prop) : Prop :=
  ∀ (pins : List (Addr × Obj)) (s : Shared) (σ : St) (H : Hp) (x : V) (v : Value) (Q : VK), Inv X pins σ H s → RelV x v → r x H Q →
    wpAny (model X.prog X.w) X.A (f v) (EP X pins σ Q) X.xe s
/-- a call of a value that is known (a builtin, a type) with values -/
def CallR (X : Cx) (f : Value) (r : List V → Hp → VK → Prop) : Prop :=
  ∀ (pins : List (Addr × Obj)) (s : Shared) (σ : St) (H : Hp) (xs : List V) (us : List Value) (Q : VK), Inv X pins σ H s → Vals xs us → r xs H Q →
    wpAny (model X.prog X.w) X.A (call f us) (EP X pins σ Q) X.xe s

def tOp (r : R2) (ta tb : TE) : TE := fun σ H Q => ta σ H fun x H1 => tb σ H1 fun y H2 => r x y H2 Q
def tUn (r : V → Hp → VK → Prop) (ta : TE) : TE := fun σ H Q => ta σ H fun x H1 => r x H1 Q
/-- ints in, under C, and a value out -/
def rI (C : Int → Int → Prop) (g : Int → Int → V) : R2 := fun x y H Q => ∃ i j, x = .int i ∧ y = .int j ∧ C i j ∧ Q (g i j) H
def rI0 (g : Int → Int → V) : R2 := fun x y H Q => ∃ i j, x = .int i ∧ y = .int j ∧ Q (g i j) H
def rU (g : Int → V) : V → Hp → VK → Prop := fun x H Q => ∃ i, x = .int i ∧ Q (g i) H

section
variable {X : Cx} {a b c : Expr} {ta tb tc : TE} {pos : Pos}

theorem binT (ha : PE X a ta) (hb : PE X b tb) {pins : List (Addr × Obj)} {s : Shared} {σ : St} {H : Hp} {R : V → V → Hp → Prop} (I : Inv X pins σ H s)
    (h : ta σ H fun x H1 => tb σ H1 fun y H2 => R x y H2) {Q : Value → Shared → Prop} {f : Value → Value → Sem Value}
    (hf : ∀ v u s2 x y H2, Inv X pins σ H2 s2 → RelV x v → RelV y u → R x y H2 → wpAny (model X.prog X.w) X.A (f v u) Q X.xe s2) :
    wpAny (model X.prog X.w) X.A (eval a X.env) (fun v s₁ => wpAny (model X.prog X.w) X.A (eval b X.env) (fun u s₂ => wpAny (model X.prog X.w) X.A (f v u) Q X.xe s₂) X.xe s₁) X.xe s := by
  refine thn (ha pins s σ H _ I h) fun v s1 ⟨x, H1, I1, r1, q1⟩ => ?_
  refine thn (hb pins s1 σ H1 _ I1 q1) fun u s2 ⟨y, H2, I2, r2, q2⟩ => ?_
  exact hf v u s2 x y H2 I2 r1 r2 q2

theorem pe_op {op : Operator} {r : R2} (ho : OpR X (binaryOp op) r) (ha : PE X a ta) (hb : PE X b tb) : PE X (.BinOp a op b pos) (tOp r ta tb) := by
  intro pins s σ H Q I h
  exact wpAny_BinOp (binT ha hb I h fun v u s2 x y H2 I2 rx ry q => ho pins s2 σ H2 x y v u Q I2 rx ry q)
theorem pe_un {op : UnaryOp} {r : V → Hp → VK → Prop} (ho : UnR X (unaryOp op) r) (ha : PE X a ta) : PE X (.UnaryOp op a pos) (tUn r ta) := by
  intro pins s σ H Q I h
  exact UnaryOp_ (thn (ha pins s σ H _ I h) fun v s1 ⟨x, H1, I1, r1, q1⟩ => ho pins s1 σ H1 x v Q I1 r1 q1)

/-! ### ints -/
theorem opI {f : Value → Value → Sem Value} {C : Int → Int → Prop} {g : Int → Int → Int}
    (rule : ∀ (i j : Int) (t u : Tok) (s : Shared) (Q : Value → Shared → Prop) (E : Value → Shared → Prop), C i j → Q (.int (g i j) s.toks) { s with toks := s.toks + 1 } → wpAny (model X.prog X.w) X.A (f (.int i t) (.int j u)) Q E s) :
    OpR X f (rI C fun i j => .int (g i j)) := by
  intro pins s σ H x y v u Q I rx ry h
  obtain ⟨i, j, rfl, rfl, hc, q⟩ := h
  obtain ⟨t, rfl⟩ := rx
  obtain ⟨t', rfl⟩ := ry
  exact rule i j t t' s _ _ hc ⟨.int (g i j), H, I.tok _, ⟨_, rfl⟩, q⟩
theorem opI0 {f : Value → Value → Sem Value} {g : Int → Int → Int}
    (rule : ∀ (i j : Int) (t u : Tok) (s : Shared) (Q : Value → Shared → Prop) (E : Value → Shared → Prop), Q (.int (g i j) s.toks) { s with toks := s.toks + 1 } → wpAny (model X.prog X.w) X.A (f (.int i t) (.int j u)) Q E s) :
    OpR X f (rI0 fun i j => .int (g i j)) := by
  intro pins s σ H x y v u Q I rx ry h
  obtain ⟨i, j, rfl, rfl, q⟩ := h
  obtain ⟨t, rfl⟩ := rx
  obtain ⟨t', rfl⟩ := ry
  exact rule i j t t' s _ _ ⟨.int (g i j), H, I.tok _, ⟨_, rfl⟩, q⟩
theorem opB0 {f : Value → Value → Sem Value} {g : Int → Int → Bool}
    (rule : ∀ (i j : Int) (t u : Tok) (s : Shared) (Q : Value → Shared → Prop) (E : Value → Shared → Prop), Q (.bool (g i j)) s → wpAny (model X.prog X.w) X.A (f (.int i t) (.int j u)) Q E s) :
    OpR X f (rI0 fun i j => .bl (g i j)) := by
  intro pins s σ H x y v u Q I rx ry h
  obtain ⟨i, j, rfl, rfl, q⟩ := h
  obtain ⟨t, rfl⟩ := rx
  obtain ⟨t', rfl⟩ := ry
  exact rule i j t t' s _ _ ⟨.bl (g i j), H, I, rfl, q⟩

def CDiv (i j : Int) : Prop := 0 < j ∧ j < 1073741824
def CMul (i j : Int) : Prop := (-(2 ^ 64) < i ∧ i < 2 ^ 64) ∨ (-(2 ^ 64) < j ∧ j < 2 ^ 64)
theorem CMul.ok {i j : Int} (h : CMul i j) : IntMulOk i j := by
  rcases h with ⟨h1, h2⟩ | ⟨h1, h2⟩
  · exact .of_left (intBits_le_64 h1 h2)
  · exact .of_right (intBits_le_64 h1 h2)

theorem op_add : OpR X (binaryOp .Add) (rI0 fun i j => .int (i + j)) := opI0 fun _ _ _ _ _ _ _ q => add_int q
theorem op_sub : OpR X (binaryOp .Sub) (rI0 fun i j => .int (i - j)) := opI0 fun _ _ _ _ _ _ _ q => sub_int q
theorem op_mul : OpR X (binaryOp .Mult) (rI CMul fun i j => .int (i * j)) := opI fun _ _ _ _ _ _ _ hc q => mul_int q hc.ok
/-- // by a positive divisor -/
theorem op_fdiv : OpR X (binaryOp .FloorDiv) (rI CDiv fun i j => .int (i / j)) := opI fun i j _ _ _ _ _ hc q => by
  have h1 : (0 : Int) < j := hc.1
  have h2 : j < 1073741824 := hc.2
  exact floordiv_int (by omega) (by rw [Int.fdiv_eq_ediv_of_nonneg i (by omega)]; exact q) (.inl (PyProof.noPylong_small (by omega)))
/-- % by a positive divisor of any size -/
theorem op_mod : OpR X (binaryOp .Mod) (rI (fun _ j => 0 < j) fun i j => .int (i % j)) := opI fun i j _ _ _ _ _ hc q => by
  have h1 : (0 : Int) < j := hc
  exact mod_int' (by omega) (by rw [Int.fmod_eq_emod_of_nonneg i (by omega)]; exact q)

theorem unI {f : Value → Sem Value} {g : Int → Int}
    (rule : ∀ (i : Int) (t : Tok) (s : Shared) (Q : Value → Shared → Prop) (E : Value → Shared → Prop), Q (.int (g i) s.toks) { s with toks := s.toks + 1 } → wpAny (model X.prog X.w) X.A (f (.int i t)) Q E s) :
    UnR X f (rU fun i => .int (g i)) := by
  intro pins s σ H x v Q I rx h
  obtain ⟨i, rfl, q⟩ := h
  obtain ⟨t, rfl⟩ := rx
  exact rule i t s _ _ ⟨.int (g i), H, I.tok _, ⟨_, rfl⟩, q⟩
theorem un_neg : UnR X (unaryOp .USub) (rU fun i => .int (-i)) := unI fun _ _ _ _ _ q => neg_int q

/-! ### bools among ints: n += (a < b) -/
end

/-! ### comparisons -/
/-- the scalars that == tells apart as data does -/
def scal : V → V → Bool
  | .non, .non => true | .non, .int _ => true | .int _, .non => true | .non, .bl _ => true | .bl _, .non => true | .non, .str _ => true | .str _, .non => true
  | .int _, .int _ => true | .bl _, .bl _ => true | .str _, .str _ => true | .byt _, .byt _ => true
  | .int _, .str _ => true | .str _, .int _ => true | .bl _, .str _ => true | .str _, .bl _ => true
  | _, _ => false
def rEq : R2 := fun x y H Q => scal x y = true ∧ Q (.bl (decide (x = y))) H
def rNe : R2 := fun x y H Q => scal x y = true ∧ Q (.bl (!decide (x = y))) H

theorem dec_int {i j : Int} : decide (V.int i = V.int j) = (i == j) := by
  rw [Bool.eq_iff_iff]
  simp
theorem dec_bl {i j : Bool} : decide (V.bl i = V.bl j) = (i == j) := by
  rw [Bool.eq_iff_iff]
  simp
theorem dec_str {i j : Str} : decide (V.str i = V.str j) = (i == j) := by
  rw [Bool.eq_iff_iff]
  simp
theorem dec_byt {i j : Array UInt8} : decide (V.byt i = V.byt j) = (i.toList == j.toList) := by
  rw [Bool.eq_iff_iff]
  cases i
  cases j
  simp

section
variable {X : Cx} {a b c : Expr} {ta tb tc : TE} {pos : Pos}
theorem fin_bl {pins : List (Addr × Obj)} {σ : St} {H : Hp} {s : Shared} {Q : VK} {k k' : Bool} (I : Inv X pins σ H s) (q : Q (.bl k) H) (e : k = k') : EP X pins σ Q (.bool k') s := by
  subst e
  exact ⟨.bl k, H, I, rfl, q⟩
theorem op_eq : OpR X (compareOp .Eq) rEq := by
  intro pins s σ H x y v u Q I rx ry h
  obtain ⟨hs, q⟩ := h
  cases x with
  | non =>
    cases rx
    cases y with
    | non => cases ry; exact PySem.EqNone.eq_none_none (fin_bl I q (by simp))
    | bl j => cases ry; exact PySem.EqNone.eq_none_bool (fin_bl I q (by simp))
    | int j => obtain ⟨t', rfl⟩ := ry; exact PySem.EqNone.eq_none_int (fin_bl I q (by simp))
    | str j => obtain ⟨t', rfl⟩ := ry; exact PySem.EqNone.eq_none_str (fin_bl I q (by simp))
    | _ => exact absurd (show false = true from hs) Bool.false_ne_true
  | bl i =>
    cases rx
    cases y with
    | non => cases ry; exact PySem.EqNone.eq_bool_none (fin_bl I q (by simp))
    | bl j => cases ry; exact eq_bool (fin_bl I q dec_bl)
    | str j => obtain ⟨t', rfl⟩ := ry; exact PySem.EqMixed.eq_bool_str (fin_bl I q (by simp))
    | _ => exact absurd (show false = true from hs) Bool.false_ne_true
  | int i =>
    obtain ⟨t, rfl⟩ := rx
    cases y with
    | non => cases ry; exact PySem.EqNone.eq_int_none (fin_bl I q (by simp))
    | int j => obtain ⟨t', rfl⟩ := ry; exact eq_int (fin_bl I q dec_int)
    | str j => obtain ⟨t', rfl⟩ := ry; exact PySem.EqMixed.eq_int_str (fin_bl I q (by simp))
    | _ => exact absurd (show false = true from hs) Bool.false_ne_true
  | str i =>
    obtain ⟨t, rfl⟩ := rx
    cases y with
    | non => cases ry; exact PySem.EqNone.eq_str_none (fin_bl I q (by simp))
    | bl j => cases ry; exact PySem.EqMixed.eq_str_bool (fin_bl I q (by simp))
    | int j => obtain ⟨t', rfl⟩ := ry; exact PySem.EqMixed.eq_str_int (fin_bl I q (by simp))
    | str j => obtain ⟨t', rfl⟩ := ry; exact eq_str (fin_bl I q dec_str)
    | _ => exact absurd (show false = true from hs) Bool.false_ne_true
  | byt i =>
    obtain ⟨t, rfl⟩ := rx
    cases y with
    | byt j => obtain ⟨t', rfl⟩ := ry; exact PySem.W.eq_bytes (fin_bl I q dec_byt)
    | _ => exact absurd (show false = true from hs) Bool.false_ne_true
  | _ => cases y <;> exact absurd (show false = true from hs) Bool.false_ne_true
theorem op_ne : OpR X (compareOp .NotEq) rNe := by
  intro pins s σ H x y v u Q I rx ry h
  obtain ⟨hs, q⟩ := h
  cases x with
  | non =>
    cases rx
    cases y with
    | non => cases ry; exact PySem.EqNone.ne_none_none (fin_bl I q (by simp))
    | bl j => cases ry; exact PySem.EqNone.ne_none_bool (fin_bl I q (by simp))
    | int j => obtain ⟨t', rfl⟩ := ry; exact PySem.EqNone.ne_none_int (fin_bl I q (by simp))
    | str j => obtain ⟨t', rfl⟩ := ry; exact PySem.EqNone.ne_none_str (fin_bl I q (by simp))
    | _ => exact absurd (show false = true from hs) Bool.false_ne_true
  | bl i =>
    cases rx
    cases y with
    | non => cases ry; exact PySem.EqNone.ne_bool_none (fin_bl I q (by simp))
    | bl j => cases ry; exact ne_bool (fin_bl I q (congrArg not dec_bl))
    | str j => obtain ⟨t', rfl⟩ := ry; exact PySem.EqMixed.ne_bool_str (fin_bl I q (by simp))
    | _ => exact absurd (show false = true from hs) Bool.false_ne_true
  | int i =>
    obtain ⟨t, rfl⟩ := rx
    cases y with
    | non => cases ry; exact PySem.EqNone.ne_int_none (fin_bl I q (by simp))
    | int j => obtain ⟨t', rfl⟩ := ry; exact ne_int (fin_bl I q (congrArg not dec_int))
    | str j => obtain ⟨t', rfl⟩ := ry; exact PySem.EqMixed.ne_int_str (fin_bl I q (by simp))
    | _ => exact absurd (show false = true from hs) Bool.false_ne_true
  | str i =>
    obtain ⟨t, rfl⟩ := rx
    cases y with
    | non => cases ry; exact PySem.EqNone.ne_str_none (fin_bl I q (by simp))
    | bl j => cases ry; exact PySem.EqMixed.ne_str_bool (fin_bl I q (by simp))
    | int j => obtain ⟨t', rfl⟩ := ry; exact PySem.EqMixed.ne_str_int (fin_bl I q (by simp))
    | str j => obtain ⟨t', rfl⟩ := ry; exact ne_str (fin_bl I q (congrArg not dec_str))
    | _ => exact absurd (show false = true from hs) Bool.false_ne_true
  | byt i =>
    obtain ⟨t, rfl⟩ := rx
    cases y with
    | byt j => obtain ⟨t', rfl⟩ := ry; exact PySem.W.ne_bytes (fin_bl I q (congrArg not dec_byt))
    | _ => exact absurd (show false = true from hs) Bool.false_ne_true
  | _ => cases y <;> exact absurd (show false = true from hs) Bool.false_ne_true

theorem op_lt : OpR X (compareOp .Lt) (rI0 fun i j => .bl (decide (i < j))) := opB0 fun _ _ _ _ _ _ _ q => lt_int q
theorem op_le : OpR X (compareOp .LtE) (rI0 fun i j => .bl (decide (i ≤ j))) := opB0 fun _ _ _ _ _ _ _ q => le_int q
theorem op_gt : OpR X (compareOp .Gt) (rI0 fun i j => .bl (decide (j < i))) := opB0 fun _ _ _ _ _ _ _ q => gt_int q

theorem op_notN : OpR X (compareOp .IsNot) (fun x y H Q => y = .non ∧ Q (.bl (!decide (x = .non))) H) := by
  intro pins s σ H x y v u Q I rx ry h
  obtain ⟨rfl, q⟩ := h
  cases ry
  refine isnot_none_gen (fin_bl I q ?_)
  cases x <;> first
    | (cases rx; rfl)
    | (obtain ⟨t, rfl⟩ := rx; rfl)

theorem nomark (b : Expr) {op : CmpOp} (h : op ≠ .In := by decide) (h2 : op ≠ .NotIn := by decide) : behindInMarks op b = false := by
  have e1 : (op == CmpOp.In) = false := by cases op <;> first | rfl | exact absurd rfl h
  have e2 : (op == CmpOp.NotIn) = false := by cases op <;> first | rfl | exact absurd rfl h2
  cases b <;> simp [behindInMarks, e1, e2]
/-- a comparison as a value; hm: nomark b, or (for in, not in) by with_unfolding_all rfl -/
theorem pe_cmpR {op : CmpOp} {r : R2} (ho : OpR X (compareOp op) r) (ha : PE X a ta) (hb : PE X b tb) (hm : behindInMarks op b = false) : PE X (.Compare a [op] [b] pos) (tOp r ta tb) := by
  intro pins s σ H Q I h
  exact wpAny_Compare1 (binT ha hb I h fun v u s2 x y H2 I2 rx ry q => ho pins s2 σ H2 x y v u Q I2 rx ry q) hm
/-- a reading of a value as a test -/
def tTest (t : TE) : TT := fun σ H Q => t σ H fun x H' => ∃ k, x = .bl k ∧ Q k H'
theorem pt_cmpR {op : CmpOp} {r : R2} (ho : OpR X (compareOp op) r) (ha : PE X a ta) (hb : PE X b tb) (hm : behindInMarks op b = false) : PT X (.Compare a [op] [b] pos) (tTest (tOp r ta tb)) := by
  intro pins s σ H Q I h
  refine wpAny_isTrue_Compare1 (thn (ha pins s σ H _ I h) fun v s1 ⟨x, H1, I1, r1, q1⟩ => thn (hb pins s1 σ H1 _ I1 q1) fun u s2 ⟨y, H2, I2, r2, q2⟩ =>
    thn (ho pins s2 σ H2 x y v u _ I2 r1 r2 q2) fun c s3 ⟨z, H3, I3, r3, k, e, q3⟩ => ?_) hm
  subst e
  cases r3
  exact wpAny_truthy_bool ⟨H3, I3, q3⟩
/-- a op1 b op2 c -/
def tChain (r r' : R2) (ta tb tc : TE) : TE := fun σ H Q => ta σ H fun x H1 => tb σ H1 fun y H2 => r x y H2 fun z H3 => ∃ k, z = .bl k ∧
  (if k = true then tc σ H3 fun w' H4 => r' y w' H4 Q else Q (.bl false) H3)
theorem pe_chain {op op' : CmpOp} {r r' : R2} (ho : OpR X (compareOp op) r) (ho' : OpR X (compareOp op') r') (ha : PE X a ta) (hb : PE X b tb) (hc : PE X c tc)
    (hm : lastMarks [op, op'] [b, c] = false := by with_unfolding_all rfl) : PE X (.Compare a [op, op'] [b, c] pos) (tChain r r' ta tb tc) := by
  intro pins s σ H Q I h
  refine Compare_chain (thn (ha pins s σ H _ I h) fun v s1 ⟨x, H1, I1, r1, q1⟩ => chain_link (thn (hb pins s1 σ H1 _ I1 q1) fun u s2 ⟨y, H2, I2, r2, q2⟩ =>
    thn (ho pins s2 σ H2 x y v u _ I2 r1 r2 q2) fun d s3 ⟨z, H3, I3, r3, k, e, q3⟩ => ?_)) hm
  subst e
  cases r3
  refine wpAny_truthy_bool ?_
  cases k with
  | false => exact ite_ff ⟨.bl false, H3, I3, rfl, q3⟩
  | true => exact ite_tt (chain_last (thn (hc pins s3 σ H3 _ I3 q3) fun w' s4 ⟨z', H4, I4, r4, q4⟩ => ho' pins s4 σ H4 y z' u w' Q I4 r2 r4 q4))
theorem pt_chain {op op' : CmpOp} {r r' : R2} (ho : OpR X (compareOp op) r) (ho' : OpR X (compareOp op') r') (ha : PE X a ta) (hb : PE X b tb) (hc : PE X c tc)
    (hm : lastMarks [op, op'] [b, c] = false := by with_unfolding_all rfl) : PT X (.Compare a [op, op'] [b, c] pos) (tTest (tChain r r' ta tb tc)) := by
  intro pins s σ H Q I h
  refine isTrue_chain (thn (ha pins s σ H _ I h) fun v s1 ⟨x, H1, I1, r1, q1⟩ => test_link (thn (hb pins s1 σ H1 _ I1 q1) fun u s2 ⟨y, H2, I2, r2, q2⟩ =>
    thn (ho pins s2 σ H2 x y v u _ I2 r1 r2 q2) fun d s3 ⟨z, H3, I3, r3, k, e, q3⟩ => ?_)) hm
  subst e
  cases r3
  refine wpAny_truthy_bool ?_
  cases k with
  | false =>
    obtain ⟨k', e', q'⟩ := q3
    cases e'
    exact ite_ff ⟨H3, I3, q'⟩
  | true =>
    refine ite_tt (test_last (thn (hc pins s3 σ H3 _ I3 q3) fun w' s4 ⟨z', H4, I4, r4, q4⟩ => thn (ho' pins s4 σ H4 y z' u w' _ I4 r2 r4 q4) fun d' s5 ⟨z2, H5, I5, r5, k2, e2, q5⟩ => ?_))
    subst e2
    cases r5
    exact wpAny_truthy_bool ⟨H5, I5, q5⟩

/-! ### truth -/
theorem line63 : (sizeLine : Nat) < 2 ^ 63 := by rw [sizeLine_eq]; decide

/-! ### strs and bytes -/
theorem op_add_str : OpR X (binaryOp .Add) (fun x y H Q => ∃ i j, x = .str i ∧ y = .str j ∧ i.length + j.length ≤ sizeLine ∧ Q (.str (i ++ j)) H) := by
  intro pins s σ H x y v u Q I rx ry h
  obtain ⟨i, j, rfl, rfl, hz, q⟩ := h
  obtain ⟨t, rfl⟩ := rx
  obtain ⟨t', rfl⟩ := ry
  exact add_str (fun t' tk => ⟨.str (i ++ j), H, I.tok _, ⟨_, rfl⟩, q⟩) hz

/-! ### scalar builtins, by CallR -/
theorem vals1 {x : V} {us : List Value} (r : Vals [x] us) : ∃ u, us = [u] ∧ RelV x u := by
  cases r with
  | cons r1 r2 => cases r2; exact ⟨_, rfl, r1⟩
theorem vals2 {x y : V} {us : List Value} (r : Vals [x, y] us) : ∃ u w', us = [u, w'] ∧ RelV x u ∧ RelV y w' := by
  cases r with
  | cons r1 r2 =>
    cases r2 with
    | cons r3 r4 => cases r4; exact ⟨_, _, rfl, r1, r3⟩
theorem call_int1 : CallR X (.type "int") (fun xs H Q => (∃ i, xs = [.int i] ∧ Q (.int i) H) ∨ ∃ k, xs = [.bl k] ∧ Q (.int (if k then 1 else 0)) H) := by
  intro pins s σ H xs us Q I r h
  rcases h with ⟨i, rfl, q⟩ | ⟨k, rfl, q⟩
  · obtain ⟨u, rfl, t, rfl⟩ := vals1 r
    exact call_int_int ⟨.int i, H, I, ⟨_, rfl⟩, q⟩
  · obtain ⟨u, rfl, r1⟩ := vals1 r
    cases r1
    exact call_int_bool ⟨.int (if k then 1 else 0), H, I.tok _, ⟨_, rfl⟩, q⟩
end
end L2

namespace L2
open PySem PySem.Spec PyProof.Rows

/-! ### an instance, its attributes a map -/
structure ObjM (h : Heap) (x dx C : Addr) (mA : Str → Option Value) : Prop where
  obj : h.get? x = some (PySem.W.instObj C dx)
  ns : h.Ns1 dx mA
  ne : dx ≠ x

theorem lookIn_ns {h : Heap} {dx : Addr} {mA : Str → Option Value} (n : h.Ns1 dx mA) : ∃ od, h.get? dx = some od ∧ ∀ name, PySem.W.lookIn name od = some (mA name) := by
  obtain ⟨o, es, ep, ho, hd, hk, _, hm⟩ := n
  refine ⟨o, ho, fun name => ?_⟩
  have e := hm name
  unfold nsFind findBy at e
  rw [← Array.find?_toList] at e
  unfold PySem.W.lookIn
  rw [hd]
  dsimp only
  split
  · rename_i y q
    rw [q] at e
    exact congrArg some e
  · rename_i q
    rw [q] at e
    have a : es.toList.any (·.refKey) = false := by
      rw [List.any_eq_false]
      intro y hy
      obtain ⟨z, t, hkey⟩ := hk y (Array.mem_toList_iff.mp hy)
      simp [DictEntry.refKey, hkey]
    have a' : ¬ es.toList.any (·.refKey) = true := by rw [a]; exact Bool.false_ne_true
    rw [if_neg a']
    exact congrArg some e

theorem ObjM.look {h : Heap} {x dx C : Addr} {mA : Str → Option Value} (I : ObjM h x dx C mA) : ∃ od, PySem.W.InstAt h x (PySem.W.instObj C dx) C (some od) ∧ ∀ name, PySem.W.lookIn name od = some (mA name) :=
  let ⟨od, ho, hl⟩ := lookIn_ns I.ns
  ⟨od, ⟨I.obj, rfl, rfl, ho⟩, hl⟩

section
variable {prog : Program} {w : World} {A : Around} {E : Value → Shared → Prop} {s : Shared} {K : PySem.W.Frag} {x dx C f : Addr} {mA : Str → Option Value} {name : Str} {v : Value}

theorem get_map {expr : Bool} {Q : Value → Shared → Prop} (X : K.In s.heap) (I : ObjM s.heap x dx C mA) (hg : PySem.W.plainGet K C name = true) (hh : PySem.W.hasDictIn K C = true)
    (ha : PySem.W.findIn K (.ref C) name = some none) (hv : mA name = some v) (hv' : PySem.W.handedIn v = true) (h : Q v { s with toks := s.toks + 1 }) :
    wpAny (model prog w) A (getAttr (.ref x) name expr) Q E s := by
  obtain ⟨od, J, hl⟩ := I.look
  exact PySem.W.get_value X J (PySem.W.plainGet_of hg).1 (PySem.W.findObj_own hh ha rfl (by rw [hl, hv])) hv' h

theorem set_map {ns : List Str} {Q : Unit → Shared → Prop} (X : K.In s.heap) (I : ObjM s.heap x dx C mA)
    (hs : PySem.W.findIn K (.ref C) "__setattr__" = some (some (.builtin "object.__setattr__"))) (hp : PySem.W.plainOver K C = true) (ht : PySem.W.takerIn K C name = some none) (hh : PySem.W.hasDictIn K C = true)
    (hw : PySem.Within mA ns) (hsz : ns.length ≤ sizeLine)
    (h : ∀ h', ObjM h' x dx C (fun y => if y = name then some v else mA y) → Heap.SameBut dx s.heap h' → Q () { s with heap := h', toks := s.toks + 2 }) :
    wpAny (model prog w) A (setAttr (.ref x) name v) Q E s := by
  obtain ⟨od, J, hl⟩ := I.look
  refine PySem.W.set_plain X J hs (PySem.W.osa_open (s := { s with toks := s.toks + 1 }) (r := none) X J hp ht fun b => ?_)
  obtain ⟨cd, hc, hd'⟩ := PySem.W.any_some hh
  have hx : s.heap.get? x = some ⟨.ref C, some dx, .plain, #[]⟩ := I.obj
  refine wpAny_bind (wpAny_pure (wpAny_bind (wpAny_bind (wpAny_loadPart hx (wpAny_bind (PySem.W.Looks.here (s := { s with toks := s.toks + 1 }) (PySem.W.looks_clsIn X hc) ?_))))))
  rw [hd']
  refine wpAny_pure (a := some dx) (wpAny_bind (wpAny_pure (wpAny_bind ?_)))
  refine wpAny_nsSet1 (s := { s with toks := s.toks + 1 }) I.ns fun h' hn2 hs2 => ?_
  obtain ⟨oD, esD, epD, hoD, hdD, hcD⟩ := hn2.count (PySem.Within.cons name v hw)
  refine wpAny_bind (wpAny_lookBehind hoD (by rw [hdD]; exact pastItsLine_dict (Nat.le_trans hcD (by rw [List.length_cons]; omega))) ?_)
  exact wpAny_pure (h _ ⟨(hs2.2 _ (Ne.symm I.ne)).trans I.obj, hn2, I.ne⟩ hs2)

/-- C(..): the dict at the heap's end, the instance behind it; then its __init__ -/
theorem make_map {R : Result → Shared → Prop} {vs : List Value} {kw : List (Str × Value)} (X : K.In s.heap) (hm : PySem.W.makesIn K C = true)
    (hi : PySem.W.findIn K (.ref C) "__init__" = some (some (.ref f))) (hf : PySem.W.typeIn K (.ref f) = some (.type "function"))
    (h : codeAny (model prog w) (A.under (.builtin "type.__call__" ⟨.ref C :: vs, kw⟩)) (.call (.ref f) ⟨.ref (s.heap.objs.size + 1) :: vs, kw⟩) (PySem.W.InitBack (s.heap.objs.size + 1) R)
      { s with heap := (s.heap.push PySem.W.emptyDict).push (PySem.W.instObj C s.heap.objs.size) }) :
    codeAny (model prog w) A (.call (.ref C) ⟨vs, kw⟩) R s := by
  obtain ⟨hh, g, d, t, os⟩ := s
  exact PySem.W.make_core (PySem.W.makes_of X hm) (PySem.W.looks_findIn X hi) (fun self => PySem.W.bind_fn X self hf) (.inl rfl) h
end

/-! ### the attributes as a list of pairs -/
def putF (f : Str) (v : V) : List (Str × V) → List (Str × V)
  | [] => [(f, v)]
  | (g, x) :: r => if g = f then (g, v) :: r else (g, x) :: putF f v r
theorem lookup_putF (f g : Str) (v : V) : ∀ fs : List (Str × V), (putF f v fs).lookup g = if g = f then some v else fs.lookup g
  | [] => by
    show List.lookup g [(f, v)] = _
    by_cases h : g = f
    · have hb : (g == f) = true := beq_iff_eq.mpr h
      simp only [List.lookup, hb, if_pos h]
    · have hb : (g == f) = false := beq_eq_false_iff_ne.mpr h
      simp only [List.lookup, hb, if_neg h]
  | (k, x) :: r => by
    have ih := lookup_putF f g v r
    rw [show putF f v ((k, x) :: r) = (if k = f then (k, v) :: r else (k, x) :: putF f v r) from rfl]
    by_cases hk : k = f
    · rw [if_pos hk]
      by_cases h : g = k
      · have hb : (g == k) = true := beq_iff_eq.mpr h
        simp only [List.lookup, hb, if_pos (h.trans hk)]
      · have hb : (g == k) = false := beq_eq_false_iff_ne.mpr h
        simp only [List.lookup, hb, if_neg (fun e : g = f => h (e.trans hk.symm))]
    · rw [if_neg hk]
      by_cases h : g = k
      · have hb : (g == k) = true := beq_iff_eq.mpr h
        simp only [List.lookup, hb, if_neg (fun e : g = f => hk (h.symm.trans e))]
      · have hb : (g == k) = false := beq_eq_false_iff_ne.mpr h
        simp only [List.lookup, hb]
        exact ih
theorem keys_putF (f : Str) (v : V) : ∀ fs : List (Str × V), f ∈ (putF f v fs).map (·.1) ∧ ∀ g, g ∈ fs.map (·.1) → g ∈ (putF f v fs).map (·.1)
  | [] => ⟨by simp [putF], fun g h => by simp at h⟩
  | (k, x) :: r => by
    obtain ⟨i1, i2⟩ := keys_putF f v r
    rw [show putF f v ((k, x) :: r) = (if k = f then (k, v) :: r else (k, x) :: putF f v r) from rfl]
    by_cases hk : k = f
    · rw [if_pos hk]
      subst hk
      exact ⟨by simp, fun g h => by simpa using h⟩
    · rw [if_neg hk]
      refine ⟨?_, fun g h => ?_⟩
      · rw [List.map_cons]
        exact List.mem_cons_of_mem _ i1
      · rw [List.map_cons] at h ⊢
        rcases List.mem_cons.mp h with e | e
        · exact List.mem_cons.mpr (.inl e)
        · exact List.mem_cons_of_mem _ (i2 g e)
theorem length_putF (f : Str) (v : V) : ∀ fs : List (Str × V), (putF f v fs).length ≤ fs.length + 1
  | [] => by simp [putF]
  | (k, x) :: r => by
    have ih := length_putF f v r
    rw [show putF f v ((k, x) :: r) = (if k = f then (k, v) :: r else (k, x) :: putF f v r) from rfl]
    by_cases hk : k = f
    · rw [if_pos hk, List.length_cons, List.length_cons]; omega
    · rw [if_neg hk, List.length_cons, List.length_cons]; omega

theorem RelO.some_of {v : V} {o : Option Value} (r : RelO (some v) o) : ∃ u, o = some u ∧ RelV v u := by
  cases o with
  | none => exact (show False from r).elim
  | some u => exact ⟨u, rfl, r⟩
theorem handed_of {v : V} {u : Value} (r : RelV v u) : PySem.W.handedIn u = true := by
  cases v with
  | non => cases (show u = Value.none from r); rfl
  | bl b => cases (show u = Value.bool b from r); rfl
  | int i => obtain ⟨t, e⟩ := (show ∃ t, u = Value.int i t from r); cases e; rfl
  | str x => obtain ⟨t, e⟩ := (show ∃ t, u = Value.str x t from r); cases e; rfl
  | byt b => obtain ⟨t, e⟩ := (show ∃ t, u = Value.bytes b t from r); cases e; rfl
  | flt b => obtain ⟨t, e⟩ := (show ∃ t, u = Value.float b t from r); cases e; rfl
  | ref a => cases (show u = Value.ref a from r); rfl
  | ty n => cases (show u = Value.type n from r); rfl

section
variable {P : Program} {w : World} {H H' : Hp} {h h' : Heap} {a C dx : Addr} {fs fs' : List (Str × V)}
theorem ins_get (hok : HOk P w H h) (e : H a = some (.ins C dx fs)) : ∃ mA, ObjM h a dx C mA ∧ (∀ f, RelO (fs.lookup f) (mA f)) ∧ PySem.Within mA (fs.map (·.1)) ∧ fs.length ≤ 1000 ∧ H dx = some (.own a) := by
  obtain ⟨d, z, ne, ob, mA, n, r, q⟩ := (show ObjOk P w H h a (.ins C dx fs) from hok a _ e)
  exact ⟨mA, ⟨ob, n, ne⟩, r, q, z, d⟩
end

/-! ### what of the text a class must have -/
structure Cls (K : PySem.W.Frag) (C : Addr) : Prop where
  pg : PySem.W.plainGet K C Str.empty = true
  hd : PySem.W.hasDictIn K C = true
  po : PySem.W.plainOver K C = true
  sa : PySem.W.findIn K (.ref C) "__setattr__" = some (some (.builtin "object.__setattr__"))
theorem Cls.get {K : PySem.W.Frag} {C : Addr} (c : Cls K C) (f : Str) : PySem.W.plainGet K C f = true := c.pg
/-- no class of it has the name -/
def NoAttr (K : PySem.W.Frag) (C : Addr) (f : Str) : Prop := PySem.W.findIn K (.ref C) f = some none
theorem NoAttr.taker {K : PySem.W.Frag} {C : Addr} {f : Str} (n : NoAttr K C f) : PySem.W.takerIn K C f = some none := by
  unfold PySem.W.takerIn
  rw [show PySem.W.findIn K (.ref C) f = some none from n]
  rfl

section
variable {X : Cx} {pins : List (Addr × Obj)} {σ : St} {H : Hp} {s : Shared} {a C dx : Addr} {fs : List (Str × V)} {f : Str} {v : V} {A : Around} {E : Value → Shared → Prop}

theorem getattr_ok {b : Bool} {Q : Value → Shared → Prop} (I : Inv X pins σ H s) (e : H a = some (.ins C dx fs)) (c : Cls X.K C) (n : NoAttr X.K C f) (l : fs.lookup f = some v)
    (h : ∀ u s', Inv X pins σ H s' → RelV v u → Q u s') : wpAny (model X.prog X.w) A (getAttr (.ref a) f b) Q E s := by
  obtain ⟨mA, O, r, _, _, _⟩ := ins_get I.hok e
  obtain ⟨u, hu, ru⟩ := RelO.some_of (v := v) (o := mA f) (by rw [← l]; exact r f)
  exact get_map I.kIn O (c.get f) c.hd n hu (handed_of ru) (h u _ (I.tok _) ru)

theorem setattr_ok {y : V} {u : Value} {Q : Unit → Shared → Prop} (I : Inv X pins σ H s) (e : H a = some (.ins C dx fs)) (c : Cls X.K C) (n : NoAttr X.K C f) (hl : fs.length < 1000) (ry : RelV y u)
    (h : ∀ s', Inv X pins σ (upd H a (.ins C dx (putF f y fs))) s' → Q () s') : wpAny (model X.prog X.w) A (setAttr (.ref a) f u) Q E s := by
  obtain ⟨mA, O, r, wi, _, ho⟩ := ins_get I.hok e
  have hz : (fs.map (·.1)).length ≤ sizeLine := by rw [List.length_map, sizeLine_eq]; omega
  refine set_map I.kIn O c.sa c.po n.taker c.hd wi hz fun h' O' sb => h _ ?_
  have hd : ∃ o, h'.get? dx = some o := let ⟨o, _, _, e', _⟩ := O'.ns; ⟨o, e'⟩
  refine I.write (x := a) (e := dx) (by rw [e]; exact True.intro) (.inr ho) (fun b q hb z => (sb.2 b hb).trans z) hd ?_
  refine ⟨by rw [upd_ne O.ne]; exact ho, ?_, O.ne, O'.obj, _, O'.ns, fun g => ?_, fun g hg => ?_⟩
  · have := length_putF f y fs; omega
  · show RelO ((putF f y fs).lookup g) (if g = f then some u else mA g)
    rw [lookup_putF]
    by_cases q : g = f
    · rw [if_pos q, if_pos q]; exact ry
    · rw [if_neg q, if_neg q]; exact r g
  · by_cases q : g = f
    · rw [q]; exact (keys_putF f y fs).1
    · refine (keys_putF f y fs).2 g (wi g fun z => hg ?_)
      show (if g = f then some u else mA g) = none
      rw [if_neg q]; exact z

/-- a new instance, tracked, without attributes -/
theorem Inv.made (I : Inv X pins σ H s) : Inv X pins σ (upd (upd H s.heap.objs.size (.own (s.heap.objs.size + 1))) (s.heap.objs.size + 1) (.ins C s.heap.objs.size []))
    { s with heap := (s.heap.push PySem.W.emptyDict).push (PySem.W.instObj C s.heap.objs.size) } := by
  have e1 : (s.heap.push PySem.W.emptyDict).get? s.heap.objs.size = some PySem.W.emptyDict := Heap.get?_push_size s.heap rfl
  have e2 : ((s.heap.push PySem.W.emptyDict).push (PySem.W.instObj C s.heap.objs.size)).get? (s.heap.objs.size + 1) = some (PySem.W.instObj C s.heap.objs.size) := by
    have := Heap.get?_push_size (s.heap.push PySem.W.emptyDict) (o := PySem.W.instObj C s.heap.objs.size) rfl
    rwa [Heap.size_push] at this
  have e3 : (s.heap.push PySem.W.emptyDict).Ns s.heap.objs.size (fun _ => none) := ⟨PySem.W.emptyDict, #[], _, e1, rfl, (fun e he => absurd he (by simp)), fun _ => rfl⟩
  have I1 := I.laid (a := s.heap.objs.size) (o := .own (s.heap.objs.size + 1)) (h' := s.heap.push PySem.W.emptyDict) (t' := s.toks) (fun b u q => Heap.get?_push_of_some _ q) (Nat.le_refl _) ⟨_, e1⟩
  refine I1.laid (a := s.heap.objs.size + 1) (o := .ins C s.heap.objs.size []) (t' := s.toks) (fun b u q => Heap.get?_push_of_some _ q) (Nat.le_of_eq (Heap.size_push _ _)) ?_
  have ne : s.heap.objs.size ≠ s.heap.objs.size + 1 := Nat.ne_of_lt (Nat.lt_succ_self _)
  refine ⟨by rw [upd_ne ne, upd_same], Nat.zero_le _, ne, e2, fun _ => none, (Heap.Ns1.of_empty e3).at fun o q => Heap.get?_push_of_some _ q, fun _ => True.intro, fun y hy => absurd rfl hy⟩

/-- e.f where nothing but the object is asked: through attributeBase (super) and the last hold -/
theorem attr_of {prog : Program} {w : World} {env : Env} {e : Expr} {f : Str} {pos : Pos} {s : Shared} {Q : Value → Shared → Prop} (hb : attributeBase e f env (eval e env) = eval e env)
    (h : wpAny (model prog w) A (eval e env) (fun o s₁ => wpAny (model prog w) A (getAttr o f true) Q E s₁) E s) : wpAny (model prog w) A (eval (.Attribute e f pos) env) Q E s :=
  Attribute_any_ h (by rw [arm_eval_Attribute, hb])
end

/-! ### readings and rules -/
/-- e.f, an attribute of the instance -/
def tFld (K : PySem.W.Frag) (ta : TE) (f : Str) : TE := fun σ H Q => ta σ H fun x H1 => ∃ a C dx fs v, x = .ref a ∧ H1 a = some (.ins C dx fs) ∧ Cls K C ∧ NoAttr K C f ∧ fs.lookup f = some v ∧ Q v H1
/-- e.f = value -/
def sFld (K : PySem.W.Frag) (ta tv : TE) (f : Str) : TS := fun D σ H => tv σ H fun y H1 => ta σ H1 fun x H2 => ∃ a C dx fs, x = .ref a ∧ H2 a = some (.ins C dx fs) ∧ Cls K C ∧ NoAttr K C f ∧ fs.length < 1000 ∧
  D.nx σ (upd H2 a (.ins C dx (putF f y fs)))

section
variable {X : Cx} {o e value : Expr} {f : Str} {pos pos' tpos : Pos} {ta tv : TE}
theorem pe_fld (he : PE X e ta) (hb : attributeBase e f X.env (eval e X.env) = eval e X.env) : PE X (.Attribute e f pos) (tFld X.K ta f) := by
  intro pins s σ H Q I h
  refine attr_of hb (thn (he pins s σ H _ I h) fun u s1 ⟨x, H1, I1, rx, a, C, dx, fs, v, ex, ea, c, n, l, q⟩ => ?_)
  subst ex
  obtain rfl : u = Value.ref a := rx
  exact getattr_ok I1 ea c n l fun u' s2 I2 ru => ⟨v, H1, I2, ru, q⟩
theorem ps_fld (ha : PE X o ta) (hv : PE X value tv) (hs : swapsWith value (some (.Attribute o f pos')) pos.line X.env = pure false) : PS X (.Assign [.Attribute o f pos'] value pos) (sFld X.K ta tv f) := by
  intro pins s σ H D I h
  refine plainObj_wpAny_Assign_Attribute (thn (hv pins s σ H _ I h) fun u s1 ⟨y, H1, I1, ry, q⟩ => thn (ha pins s1 σ H1 _ I1 q) fun ov s2 ⟨x, H2, I2, rx, a, C, dx, fs, ex, ea, c, n, l, q2⟩ => ?_) hs
  subst ex
  obtain rfl : ov = Value.ref a := rx
  exact setattr_ok I2 ea c n l ry fun s3 I3 => ⟨σ, _, I3, q2⟩

end

/-! ### isinstance -/
section
variable {X : Cx} {pins : List (Addr × Obj)} {σ : St} {H : Hp} {s : Shared} {A : Around} {E : Value → Shared → Prop} {Q : Value → Shared → Prop} {c : Value} {b : Bool}
/-- the type of a value, as the fragment's deciders take it; for an instance its class -/
inductive TyOf (K : PySem.W.Frag) (H : Hp) : V → Value → Prop where
  | non : TyOf K H .non (.type "NoneType")
  | bl (x : Bool) : TyOf K H (.bl x) (.type "bool")
  | int (i : Int) : TyOf K H (.int i) (.type "int")
  | str (x : Str) : TyOf K H (.str x) (.type "str")
  | flt (x : UInt64) : TyOf K H (.flt x) (.type "float")
  | lst {a : Addr} {xs : List V} (e : H a = some (.lst xs)) : TyOf K H (.ref a) (.type "list")
  | frz {a : Addr} {o : Obj} {xs : List V} (e : H a = some (.frz o (.lst xs))) : TyOf K H (.ref a) (.type "list")
  | tup {a : Addr} {xs : List V} (e : H a = some (.tup xs)) : TyOf K H (.ref a) (.type "tuple")
  | dK {a : Addr} {kvs : List (Key × V)} (e : H a = some (.dK kvs)) : TyOf K H (.ref a) (.type "dict")
  | dT {a : Addr} {kvs : List (List Key × V)} (e : H a = some (.dT kvs)) : TyOf K H (.ref a) (.type "dict")
  | ins {a C dx : Addr} {fs : List (Str × V)} (e : H a = some (.ins C dx fs)) (cl : Cls K C) (ha : PySem.W.findIn K (.ref C) "__class__" = some (some (.builtin "object.__class__")))
      (hn : PySem.W.specialIn K (.builtin "object.__class__") "__get__" = some (some (.builtin "getset_descriptor.__get__"))) (htk : PySem.W.takesIn K (.builtin "object.__class__") = some true)
      (hm : PySem.W.mroIn K C (.type "object") = some true) : TyOf K H (.ref a) (.ref C)
/-- isinstance(x, c) for one class c, a built-in or an own one: kitOne's answer -/
theorem isinst_ok {x : V} {u t : Value} (I : Inv X pins σ H s) (rx : RelV x u) (ty : TyOf X.K H x t) (e : PySem.W.kitOne X.K t c = some b) (h : ∀ tk, Q (.bool b) { s with toks := tk }) :
    wpAny (model X.prog X.w) A (call (.builtin "isinstance") [u, c]) Q E s := by
  cases ty with
  | non => cases (show u = Value.none from rx); exact PySem.W.kia_one PySem.W.kitx_none I.kIn True.intro e (fun z => nomatch z) h
  | bl y => cases (show u = Value.bool y from rx); exact PySem.W.kia_one PySem.W.kitx_bool I.kIn True.intro e (fun z => nomatch z) h
  | int i => obtain ⟨t, q⟩ := (show ∃ t, u = Value.int i t from rx); cases q; exact PySem.W.kia_one PySem.W.kitx_int I.kIn True.intro e (fun z => nomatch z) h
  | str y => obtain ⟨t, q⟩ := (show ∃ t, u = Value.str y t from rx); cases q; exact PySem.W.kia_one PySem.W.kitx_str I.kIn True.intro e (fun z => nomatch z) h
  | flt y => obtain ⟨t, q⟩ := (show ∃ t, u = Value.float y t from rx); cases q; exact PySem.W.kia_one PySem.W.kitx_float I.kIn True.intro e (fun z => nomatch z) h
  | @lst a xs ea =>
    cases (show u = Value.ref a from rx)
    obtain ⟨_, _, n, _, h1⟩ := (show ObjOk X.prog X.w H s.heap a (.lst xs) from I.hok a _ ea)
    exact PySem.W.kia_one PySem.W.kitx_list I.kIn ⟨_, h1, rfl⟩ e (fun z => nomatch z) h
  | @frz a ob xs ea =>
    cases (show u = Value.ref a from rx)
    obtain ⟨_, _, _, n, _, h1⟩ := (show ObjOk X.prog X.w H s.heap a (.frz ob (.lst xs)) from I.hok a _ ea)
    exact PySem.W.kia_one PySem.W.kitx_list I.kIn ⟨_, h1, rfl⟩ e (fun z => nomatch z) h
  | @tup a xs ea =>
    cases (show u = Value.ref a from rx)
    obtain ⟨_, _, _, p⟩ := (show ObjOk X.prog X.w H s.heap a (.tup xs) from I.hok a _ ea)
    obtain ⟨o, h1, h2, _⟩ := p
    exact PySem.W.kia_one PySem.W.kitx_tuple I.kIn ⟨o, h1, h2⟩ e (fun z => nomatch z) h
  | @dK a kvs ea =>
    cases (show u = Value.ref a from rx)
    obtain ⟨_, _, vs, _, p⟩ := (show ObjOk X.prog X.w H s.heap a (.dK kvs) from I.hok a _ ea)
    obtain ⟨o, es, ep, h1, h2, _⟩ := p
    exact PySem.W.kia_one PySem.W.kitx_dict I.kIn ⟨o, h1, h2.1⟩ e (fun z => nomatch z) h
  | @dT a kvs ea =>
    cases (show u = Value.ref a from rx)
    obtain ⟨_, _, xs, _, o, es, ep, h1, h2, _⟩ := (show ObjOk X.prog X.w H s.heap a (.dT kvs) from I.hok a _ ea)
    exact PySem.W.kia_one PySem.W.kitx_dict I.kIn ⟨o, h1, h2.1⟩ e (fun z => nomatch z) h
  | @ins a C dx fs ea cl ha hn htk hm =>
    cases (show u = Value.ref a from rx)
    obtain ⟨mA, O, _⟩ := ins_get I.hok ea
    obtain ⟨od, J, _⟩ := O.look
    exact PySem.W.kia_one (PySem.W.kitx_own (cl.get _) cl.hd ha hn htk hm) I.kIn J e (fun z => nomatch z) h
end
end L2

namespace L2
open PySem PySem.Spec PyProof.Rows

/-! ### room -/
structure Room (k : Nat) (A : Around) : Prop where
  hd : A.handled = none
  dp : A.depth + 3 * k + 5 < recursionLimit
  un : A.units + 16 * k + 200 < cLine
theorem Room.mono {j k : Nat} {A : Around} (r : Room k A) (h : j ≤ k) : Room j A := ⟨r.hd, by have := r.dp; omega, by have := r.un; omega⟩
theorem Room.deeper {k : Nat} {A : Around} (r : Room (k + 1) A) (env : Env) : Room k (A.deeper env) :=
  ⟨r.hd, by have := r.dp; show A.depth + 1 + 3 * k + 5 < _; omega, by have := r.un; show A.units + 3 + 16 * k + 200 < _; omega⟩
theorem make_depth {A : Around} {C : Addr} {us : List Value} {kw : List (Str × Value)} : (A.under (.builtin "type.__call__" ⟨.ref C :: us, kw⟩)).depth = A.depth + 1 := by
  first | rfl | simp [Around.under, Code.weight, Code.isCreation, Code.isGuard, Code.isCaller, Code.frames, Code.isFrame, guardIds]
theorem make_units {A : Around} {C : Addr} {us : List Value} {kw : List (Str × Value)} : (A.under (.builtin "type.__call__" ⟨.ref C :: us, kw⟩)).units = A.units + 1 := by
  first | rfl | simp [Around.under, Code.cUnits, Code.frames, Code.isFrame]
theorem Room.make {k : Nat} {A : Around} (r : Room (k + 1) A) (C : Addr) (us : List Value) (kw : List (Str × Value)) : Room k (A.under (.builtin "type.__call__" ⟨.ref C :: us, kw⟩)) :=
  ⟨r.hd, by have := r.dp; rw [make_depth]; omega, by have := r.un; rw [make_units]; omega⟩
theorem Room.depth {k : Nat} {A : Around} (r : Room k A) : A.depth < recursionLimit := by have := r.dp; omega
theorem Room.units {k : Nat} {A : Around} (r : Room k A) : A.units + 64 < cLine := by have := r.un; omega

/-! ### argument lists and displays -/
def tNil : TA := fun _ H Q => Q [] H
def tCons (ta : TE) (tr : TA) : TA := fun σ H Q => ta σ H fun x H1 => tr σ H1 fun xs H2 => Q (x :: xs) H2
section
variable {X : Cx} {e : Expr} {es : List Expr} {te : TE} {t : TA} {pos : Pos}
theorem pa_nil : PA X [] tNil := fun _ _ _ _ H Q I h => Calls.spliced_nil ⟨[], H, I, .nil, h⟩
theorem pa_cons (ha : PE X e te) (hr : PA X es t) (hs : starEach (e :: es) X.env = (false, eval e X.env) :: starEach es X.env := by rfl) : PA X (e :: es) (tCons te t) := by
  intro pos pins s σ H Q I h
  rw [hs]
  show wpAny _ _ (spliced ((false, eval e X.env) :: backTo pos (starEach es X.env))) _ _ s
  refine Calls.spliced_cons (thn (ha pins s σ H _ I h) fun u s1 ⟨x, H1, I1, r1, q1⟩ => ?_)
  exact thn (hr pos pins s1 σ H1 _ I1 q1) fun us s2 ⟨xs, H2, I2, r2, q2⟩ => ⟨x :: xs, H2, I2, .cons r1 r2, q2⟩

/-- a tuple, a list of written items -/
def tTup (t : TA) : TE := fun σ H Q => t σ H fun xs H1 => xs.length ≤ sizeLine ∧ ∀ p, H1 p = none → Q (.ref p) (upd H1 p (.tup xs))
def tLst (t : TA) : TE := fun σ H Q => t σ H fun xs H1 => xs.length ≤ sizeLine ∧ ∀ p, H1 p = none → Q (.ref p) (upd H1 p (.lst xs))
theorem pe_tup {x1} (h : PA X es t) : PE X (.Tuple es x1 pos) (tTup t) := by
  intro pins s σ H Q I hq
  refine wpAny_Tuple_spliced (thn (h pos pins s σ H _ I hq) fun us s1 ⟨xs, H1, I1, r, z, q⟩ => ⟨by rw [← r.length]; exact z, ?_⟩)
  have hf : H1 s1.heap.objs.size = none := I1.hok.fresh (Nat.le_refl _)
  refine ⟨.ref s1.heap.objs.size, upd H1 s1.heap.objs.size (.tup xs), I1.laid (t' := s1.toks) (fun b u e => Heap.get?_push_of_some _ e) (Nat.le_refl _) ?_, rfl, q _ hf⟩
  exact ⟨z, us, r, ⟨_, Heap.get?_push_size _ rfl, rfl, _, rfl⟩⟩
theorem pe_lst (h : PA X es t) : PE X (.List es pos) (tLst t) := by
  intro pins s σ H Q I hq
  refine wpAny_List_spliced (thn (h pos pins s σ H _ I hq) fun us s1 ⟨xs, H1, I1, r, z, q⟩ => ⟨by rw [← r.length]; exact z, ?_⟩)
  have hf : H1 s1.heap.objs.size = none := I1.hok.fresh (Nat.le_refl _)
  refine ⟨.ref s1.heap.objs.size, upd H1 s1.heap.objs.size (.lst xs), I1.laid (t' := s1.toks) (fun b u e => Heap.get?_push_of_some _ e) (Nat.le_refl _) ?_, rfl, q _ hf⟩
  exact ⟨z, us, 0, r, Heap.get?_push_size _ rfl⟩
end

/-! ### what a def promises -/
/-- a def's promise: the bound arguments in the parameters' order, the heap, the wanted end, the wanted exception -/
abbrev Sp := List V → Hp → VK → XK → Prop
/-- how an exception lies behind a call (file 08 gives it): the callers' frames, abstract heap and state ahead of the call, the wish, the exception, the state -/
abbrev CXT := List Env → Hp → Shared → XK → Value → Shared → Prop

/-- the state at a call -/
structure Env0 (P : Program) (w : World) (K : PySem.W.Frag) (mg : Str → Option Value) (base : Heap) (A : Around) (outer : List Env) (s : Shared) (H : Hp) : Prop where
  frames : A.frames = some outer
  mod : Mod K mg base
  bs : ∀ b o, base.get? b = some o → s.heap.get? b = some o ∧ H b = none
  bsz : base.objs.size ≤ s.heap.objs.size
  funs : s.heap.FunFrames base outer
  frf : ∀ b ∈ frs outer, H b = none
  hok : HOk P w H s.heap
  bare : AllBare s.gens
/-- a call's end -/
def CE (outer : List Env) (P : Program) (w : World) (H : Hp) (s : Shared) (Q : VK) (u : Value) (s' : Shared) : Prop :=
  ∃ v H', s'.os = s.os ∧ AllBare s'.gens ∧ Un (frs outer) [] H H' s.heap s'.heap ∧ HOk P w H' s'.heap ∧ RelV v u ∧ Q v H'
def CR (CX : CXT) (outer : List Env) (P : Program) (w : World) (H : Hp) (s : Shared) (Q : VK) (E : XK) (r : Result) (s' : Shared) : Prop :=
  match r with
  | .ok (.ret u) => CE outer P w H s Q u s'
  | .ok _ => False
  | .error e => CX outer H s E e s'
structure FnOk (P : Program) (w : World) (K : PySem.W.Frag) (mg : Str → Option Value) (base : Heap) (CX : CXT) (k : Nat) (f : Addr) (fd : FuncData) (ps : List Str) (sp : Sp) : Prop where
  len : ∀ vs H Q E, sp vs H Q E → vs.length = ps.length
  run : ∀ (A : Around) (outer : List Env) (s : Shared) (H : Hp) (args : Args) (us : List Value) (vs : List V) (Q : VK) (E : XK), Room k A → Env0 P w K mg base A outer s H → BindsTo s fd args (ps.zip us) → Vals vs us → sp vs H Q E →
    codeAny (model P w) A (.call (.ref f) args) (CR CX outer P w H s Q E) s
theorem FnOk.mono {P : Program} {w : World} {K : PySem.W.Frag} {mg : Str → Option Value} {base : Heap} {CX : CXT} {j k : Nat} {f : Addr} {fd : FuncData} {ps : List Str} {sp : Sp} (F : FnOk P w K mg base CX j f fd ps sp) (h : j ≤ k) :
    FnOk P w K mg base CX k f fd ps sp := ⟨F.len, fun A outer s H args us vs Q E hr => F.run A outer s H args us vs Q E (hr.mono h)⟩

theorem Env0.make {P : Program} {w : World} {K : PySem.W.Frag} {mg : Str → Option Value} {base : Heap} {A : Around} {outer : List Env} {s : Shared} {H : Hp} (e : Env0 P w K mg base A outer s H) (C : Addr) (us : List Value) (kw : List (Str × Value)) :
    Env0 P w K mg base (A.under (.builtin "type.__call__" ⟨.ref C :: us, kw⟩)) outer s H := ⟨by first | exact e.frames | (simpa [Around.under, Code.envs, Code.isFrame, pushEnvs] using e.frames), e.mod, e.bs, e.bsz, e.funs, e.frf, e.hok, e.bare⟩

section
variable {X : Cx} {pins : List (Addr × Obj)} {σ : St} {H : Hp} {s s' : Shared}
/-- from a body: what a callee wants -/
theorem Inv.env0 (I : Inv X pins σ H s) : Env0 X.prog X.w X.K X.mg X.base X.A X.stack s H :=
  ⟨I.ok.frames, I.ok.mod, I.bs, Nat.le_trans I.ok.bsz I.sz, I.stack, I.stkFree, I.hok, I.bare⟩
/-- behind a call -/
theorem Inv.after {Q : VK} {u : Value} (I : Inv X pins σ H s) (h : CE X.stack X.prog X.w H s Q u s') : EP X pins σ Q u s' := by
  obtain ⟨v, H', os, bare, un, hok, r, q⟩ := h
  obtain ⟨hh, g, d, t, os'⟩ := s'
  obtain rfl : os' = s.os := os
  exact ⟨v, H', I.call (h' := hh) (g' := g) (d' := d) (t' := t) (ch := []) un hok bare (fun b z => absurd z (by simp)), r, q⟩
end

/-! ### calls -/
/-- f(..): the written arguments, then the defaults dvs; E: what is wanted of an exception -/
def tCall (sp : Sp) (dvs : List V) (E : XK) (t : TA) : TE := fun σ H Q => t σ H fun vs H1 => sp (vs ++ dvs) H1 Q E
/-- C(..): a new instance and its dict, then __init__ -/
def tMake (C : Addr) (sp : Sp) (dvs : List V) (E : XK) (t : TA) : TE := fun σ H Q => t σ H fun vs H1 => ∀ x dx, H1 x = none → H1 dx = none → dx ≠ x →
  sp (.ref x :: (vs ++ dvs)) (upd (upd H1 dx (.own x)) x (.ins C dx [])) (fun v H2 => v = .non ∧ Q (.ref x) H2) E

/-- how the parameters are bound: us the positional arguments, kw the keywords' values by name, ds the defaults that fill up -/
def Binds (K : PySem.W.Frag) (fd : FuncData) (ps : List Str) (ds : List Value) : Prop :=
  ∀ (s : Shared) (us : List Value), K.In s.heap → (us ++ ds).length = ps.length → BindsTo s fd ⟨us, []⟩ (ps.zip (us ++ ds))
/-- every parameter is given -/
theorem Binds.all {K : PySem.W.Frag} {fd : FuncData} {ps : List Str} (h : ∀ us : List Value, us.length = ps.length → bindArgs fd ⟨us, []⟩ = pure (ps.zip us)) : Binds K fd ps [] := fun s us _ hl => by
  rw [List.append_nil] at hl ⊢
  exact .of_eq (h us hl)

/-- an exception of a callee reaches what this body wants of exceptions -/
def Passes (CX : CXT) (X : Cx) (E : XK) : Prop := ∀ (pins : List (Addr × Obj)) (σ : St) (H : Hp) (s : Shared) (e : Value) (s' : Shared), Inv X pins σ H s → CX X.stack H s E e s' → X.xe e s'

section
variable {X : Cx} {CX : CXT} {k : Nat} {f C : Addr} {fd : FuncData} {ps : List Str} {sp : Sp} {dvs : List V} {ds : List Value} {E : XK} {x m : Str} {p pos apos : Pos} {e o : Expr} {es : List Expr} {ta : TE} {t : TA}

/-- the callee runs -/
theorem run_fn {pins : List (Addr × Obj)} {σ : St} {H : Hp} {s : Shared} {Q : VK} {us : List Value} {vs : List V} (F : FnOk X.prog X.w X.K X.mg X.base CX k f fd ps sp) (hr : Room k X.A) (hb : Binds X.K fd ps ds) (hd : Vals dvs ds) (hx : Passes CX X E)
    (I : Inv X pins σ H s) (r : Vals vs us) (h : sp (vs ++ dvs) H Q E) : wpAny (model X.prog X.w) X.A (call (.ref f) us) (EP X pins σ Q) X.xe s := by
  have r2 : Vals (vs ++ dvs) (us ++ ds) := r.append hd
  have hl : (us ++ ds).length = ps.length := by rw [← r2.length]; exact F.len _ _ _ _ h
  refine wpAny_call (codeAny_mono (F.run X.A X.stack s H ⟨us, []⟩ (us ++ ds) (vs ++ dvs) Q E hr I.env0 (hb s us I.kIn hl) r2 h) fun r s' hq => ?_)
  cases r with
  | error e => exact hx pins σ H s e s' I hq
  | ok fl =>
    cases fl with
    | ret u => exact I.after hq
    | next => exact False.elim hq
    | brk => exact False.elim hq
    | cont => exact False.elim hq

theorem pe_call (F : FnOk X.prog X.w X.K X.mg X.base CX k f fd ps sp) (hr : Room k X.A) (hg : Gl X x) (hm : X.mg x = some (.ref f)) (hk : PySem.W.keepIn X.K (.ref f) = true) (hb : Binds X.K fd ps ds) (hd : Vals dvs ds) (hx : Passes CX X E)
    (ha : PA X (e :: es) t) (hdb : (x == ("__debug__" : Str)) = false := by decide) (he : starEach (e :: es) X.env = (false, eval e X.env) :: starEach es X.env := by rfl) (hpl : (backTo pos (starEach es X.env)).any (·.1) = false := by rfl) :
    PE X (.Call (.Name x p) (e :: es) [] pos) (tCall sp dvs E t) := by
  intro pins s σ H Q I h
  refine wpAny_Call_Name_kw (ld_glob I hg hm ?_ hdb)
  refine PySem.W.callWith_K (h₀ := X.base) I.ok.mod.kin hk (thn (ha pos pins s σ H _ I h) fun us s1 ⟨vs, H1, I1, r, q⟩ => ⟨I1.kIn, ?_⟩) he hpl
  exact run_fn F hr hb hd hx I1 r q

/-- what a class must have to be made -/
structure Mk (K : PySem.W.Frag) (C f : Addr) : Prop where
  makes : PySem.W.makesIn K C = true
  init : PySem.W.findIn K (.ref C) "__init__" = some (some (.ref f))
  fn : PySem.W.isFn K (.ref f) = true
  kp : PySem.W.keepIn K (.ref C) = true

theorem run_make {pins : List (Addr × Obj)} {σ : St} {H : Hp} {s : Shared} {Q : VK} {us : List Value} {vs : List V} (M : Mk X.K C f) (F : FnOk X.prog X.w X.K X.mg X.base CX k f fd ps sp) (hr : Room (k + 1) X.A) (hb : Binds X.K fd ps ds) (hd : Vals dvs ds)
    (hx : Passes CX X E) (I : Inv X pins σ H s) (r : Vals vs us)
    (h : ∀ x dx, H x = none → H dx = none → dx ≠ x → sp (.ref x :: (vs ++ dvs)) (upd (upd H dx (.own x)) x (.ins C dx [])) (fun v H2 => v = .non ∧ Q (.ref x) H2) E) :
    wpAny (model X.prog X.w) X.A (call (.ref C) us) (EP X pins σ Q) X.xe s := by
  have hq := h (s.heap.objs.size + 1) s.heap.objs.size (I.hok.fresh (Nat.le_succ _)) (I.hok.fresh (Nat.le_refl _)) (Nat.ne_of_lt (Nat.lt_succ_self _))
  have I2 := Inv.made (C := C) I
  have r2 : Vals (V.ref (s.heap.objs.size + 1) :: (vs ++ dvs)) (Value.ref (s.heap.objs.size + 1) :: (us ++ ds)) := .cons rfl (r.append hd)
  have hl : (Value.ref (s.heap.objs.size + 1) :: us ++ ds).length = ps.length := by
    have e := r2.length
    rw [F.len _ _ _ _ hq] at e
    exact e.symm
  refine wpAny_call (make_map (f := f) I.kIn M.makes M.init (beq_iff_eq.mp M.fn) (codeAny_mono (F.run _ X.stack _ _ ⟨Value.ref (s.heap.objs.size + 1) :: us, []⟩ (Value.ref (s.heap.objs.size + 1) :: (us ++ ds)) _ _ E (hr.make C us [])
    (I2.env0.make C us []) (hb _ (Value.ref (s.heap.objs.size + 1) :: us) I2.kIn hl) r2 hq) fun r s' hq' => ?_))
  cases r with
  | error e => exact hx pins σ _ _ e s' I2 hq'
  | ok fl =>
    cases fl with
    | ret u =>
      obtain ⟨v, H', I3, rv, ev, q3⟩ := I2.after hq'
      subst ev
      exact ⟨rv, ⟨V.ref (s.heap.objs.size + 1), H', I3, rfl, q3⟩⟩
    | next => exact False.elim hq'
    | brk => exact False.elim hq'
    | cont => exact False.elim hq'
theorem pe_make (M : Mk X.K C f) (F : FnOk X.prog X.w X.K X.mg X.base CX k f fd ps sp) (hr : Room (k + 1) X.A) (hg : Gl X x) (hm : X.mg x = some (.ref C)) (hb : Binds X.K fd ps ds) (hd : Vals dvs ds) (hx : Passes CX X E)
    (ha : PA X (e :: es) t) (hdb : (x == ("__debug__" : Str)) = false := by decide) (he : starEach (e :: es) X.env = (false, eval e X.env) :: starEach es X.env := by rfl) (hpl : (backTo pos (starEach es X.env)).any (·.1) = false := by rfl) :
    PE X (.Call (.Name x p) (e :: es) [] pos) (tMake C sp dvs E t) := by
  intro pins s σ H Q I h
  refine wpAny_Call_Name_kw (ld_glob I hg hm ?_ hdb)
  refine PySem.W.callWith_K (h₀ := X.base) I.ok.mod.kin M.kp (thn (ha pos pins s σ H _ I h) fun us s1 ⟨vs, H1, I1, r, q⟩ => ⟨I1.kIn, ?_⟩) he hpl
  exact run_make M F hr hb hd hx I1 r q
end

/-! ### keywords -/
section
variable {X : Cx} {CX : CXT} {k : Nat} {f C : Addr} {fd : FuncData} {ps ks : List Str} {sp : Sp} {E : XK} {x m : Str} {p pos apos kpos : Pos} {e o : Expr} {es : List Expr} {kws : List Keyword} {te ta : TE} {t tk : TA} {nm : Option Str}

variable {g : List Value → List Value → List Value} {gV : List V → List V → List V}
end

/-! ### a def's body keeps its promise -/
/-- names: the parameters first -/
structure FnScope (N P : List Str) (sc : Scope) : Prop where
  kind : sc.kind = .function
  co : sc.isCoroutine = false
  gen : sc.isGenerator = false
  nd : N.Nodup
  pre : N.take P.length = P
  par : ∀ x ∈ P, sc.names.lookup x = some .local ∨ sc.names.lookup x = some .cell
  nofree : ∀ y ∈ sc.names, y.2 ≠ .free

theorem bindL_out {kindOf : Str → Option NameKind} {x : Str} : ∀ {binds : List (Str × Value)} {m : Str → Option Value}, (∀ v, (x, v) ∉ binds) → bindL kindOf binds m x = m x
  | [], _, _ => rfl
  | (n, v) :: r, m, h => by
    unfold bindL
    rw [bindL_out fun w hw => h w (List.mem_cons_of_mem _ hw)]
    split
    · have : x ≠ n := by rintro rfl; exact h v List.mem_cons_self
      simp [this]
    · rfl
theorem bindC_out {kindOf : Str → Option NameKind} {x : Str} : ∀ {binds : List (Str × Value)} {m : Str → Option Value}, (∀ v, (x, v) ∉ binds) → bindC kindOf binds m x = m x
  | [], _, _ => rfl
  | (n, v) :: r, m, h => by
    unfold bindC
    rw [bindC_out fun w hw => h w (List.mem_cons_of_mem _ hw)]
    split
    · rfl
    · have : x ≠ n := by rintro rfl; exact h v List.mem_cons_self
      simp [this]
theorem bindL_get {kindOf : Str → Option NameKind} {x : Str} {v : Value} : ∀ {P : List Str} {vs : List Value} {i : Nat} {m : Str → Option Value}, P.Nodup → P[i]? = some x → vs[i]? = some v → kindOf x = some .local →
    bindL kindOf (P.zip vs) m x = some v
  | [], _, _, _, _, h, _, _ => by simp at h
  | _ :: _, [], _, _, _, _, h, _ => by simp at h
  | p :: P, w :: vs, 0, m, nd, h1, h2, hk => by
    simp at h1 h2; subst h1; subst h2
    show bindL kindOf ((p, w) :: P.zip vs) m p = _
    unfold bindL
    rw [bindL_out fun v hv => (List.nodup_cons.mp nd).1 (List.of_mem_zip hv).1, if_pos hk]
    simp
  | p :: P, w :: vs, i + 1, m, nd, h1, h2, hk => by
    show bindL kindOf ((p, w) :: P.zip vs) m x = _
    unfold bindL
    exact bindL_get (i := i) (List.nodup_cons.mp nd).2 (by simpa using h1) (by simpa using h2) hk
theorem bindC_get {kindOf : Str → Option NameKind} {x : Str} {v : Value} : ∀ {P : List Str} {vs : List Value} {i : Nat} {m : Str → Option Value}, P.Nodup → P[i]? = some x → vs[i]? = some v → kindOf x ≠ some .local →
    bindC kindOf (P.zip vs) m x = some v
  | [], _, _, _, _, h, _, _ => by simp at h
  | _ :: _, [], _, _, _, _, h, _ => by simp at h
  | p :: P, w :: vs, 0, m, nd, h1, h2, hk => by
    simp at h1 h2; subst h1; subst h2
    show bindC kindOf ((p, w) :: P.zip vs) m p = _
    unfold bindC
    rw [bindC_out fun v hv => (List.nodup_cons.mp nd).1 (List.of_mem_zip hv).1, if_neg hk]
    simp
  | p :: P, w :: vs, i + 1, m, nd, h1, h2, hk => by
    show bindC kindOf ((p, w) :: P.zip vs) m x = _
    unfold bindC
    exact bindC_get (i := i) (List.nodup_cons.mp nd).2 (by simpa using h1) (by simpa using h2) hk

/-- the names' values at the entry -/
def start (N : List Str) (vs : List V) : St := vs.map some ++ List.replicate (N.length - vs.length) none

/-- the context of a def's body, at its entry; an exception leaves the frame, then lies as CX says -/
def cxOf (CX : CXT) (P : Program) (w : World) (K : PySem.W.Frag) (mg : Str → Option Value) (base : Heap) (N : List Str) (qual : Str) (scope : Scope) (f : Addr) (cd : Value) (A : Around) (outer : List Env) (s : Shared) (H : Hp) (E : XK) : Cx where
  prog := P
  w := w
  K := K
  mg := mg
  base := base
  A := A.deeper (envOfC qual scope s.heap.objs.size f cd)
  N := N
  s₀ := s
  H₀ := H
  env := envOfC qual scope s.heap.objs.size f cd
  outer := outer
  stack := envOfC qual scope s.heap.objs.size f cd :: outer
  ex := []
  calm := true
  fn := fun _ => true
  pn := []
  xe := fun e s' => wpAny (model P w) (A.deeper (envOfC qual scope s.heap.objs.size f cd)) (leaving (envOfC qual scope s.heap.objs.size f cd) e) (fun _ s'' => CX outer H s E e s'') (fun e' s'' => CX outer H s E e' s'') s'

theorem cell_has {sc : Scope} {n : Nat} {x : Str} (h : sc.names.lookup x = some .cell) : ∃ c, (cellsFrom n sc.names []).lookup x = some c := by
  have q := PySem.W.cellsFrom_some sc.names n [] (.inl h)
  exact Option.isSome_iff_exists.mp q

theorem inv_start {CX : CXT} {P : Program} {w : World} {K : PySem.W.Frag} {mg : Str → Option Value} {base : Heap} {N ps : List Str} {qual : Str} {scope : Scope} {f : Addr} {cd : Value} {A : Around} {outer : List Env} {s s1 : Shared} {H : Hp} {E : XK} {us : List Value} {vs : List V}
    (S : FnScope N ps scope) (hd : A.handled = none) (e0 : Env0 P w K mg base A outer s H) (hl : vs.length = ps.length) (r : Vals vs us)
    (x : InCallC s s.heap.objs.size (bindL (envOfC qual scope s.heap.objs.size f cd).kindOf (ps.zip us) fun _ => none) (cellsFrom (s.heap.objs.size + 1) scope.names []) (bindC (envOfC qual scope s.heap.objs.size f cd).kindOf (ps.zip us) fun _ => none) s1) :
    Inv (cxOf CX P w K mg base N qual scope f cd A outer s H E) [] (start N vs) H s1 := by
  have hpl : ps.length ≤ N.length := by have := congrArg List.length S.pre; rw [List.length_take] at this; omega
  obtain ⟨h1, tk, rfl, hk⟩ := x.done
  have noA : ∀ b : Addr, b ∉ (cxOf CX P w K mg base N qual scope f cd A outer s H E).ex := fun b z => absurd (show b ∈ ([] : List Addr) from z) (by simp)
  refine ⟨⟨e0.mod, S.kind, rfl, rfl, Nat.le_refl _, fun y z c h1 h2 => ?_, fun y hy => ?_, fun y c _ h => ?_, fun _ => hd, Around.frames_deeper e0.frames, .inr ⟨rfl, rfl⟩, fun b z => absurd z (noA b), e0.bs, e0.bsz, fun b _ _ => noA b, fun b z => absurd z (noA b), e0.funs, e0.frf⟩,
    rfl, e0.bare, Un.kept hk, ⟨_, x.toInCall.ns, fun i y v h1 h2 h3 => ?_⟩, fun y c h => ⟨_, x.cell y c h⟩, e0.hok.fresh (Nat.le_refl _), fun y c h => ?_, fun p hp => absurd (show p ∈ ([] : List (Addr × Obj)) from hp) (by simp), e0.hok.kept hk, ?_⟩
  · exact name_of_addr x.apart (PySem.mem_of_lookup h1) (PySem.mem_of_lookup h2)
  · have hy : scope.names.lookup y = some .cell ∨ scope.names.lookup y = some .free := hy
    rcases hy with hy | hy
    · exact cell_has hy
    · exact absurd rfl (S.nofree _ (PySem.mem_of_lookup hy))
  · exact Nat.le_of_lt (x.above y c (PySem.mem_of_lookup h))
  · have hi : i < vs.length := by
      unfold start at h2
      by_cases hi : i < vs.length
      · exact hi
      · rw [List.getElem?_append_right (by simpa using hi)] at h2
        rw [List.getElem?_replicate] at h2
        split at h2 <;> cases h2
    have ha : vs[i]? = some v := by
      unfold start at h2
      rw [List.getElem?_append_left (by simpa using hi), List.getElem?_map] at h2
      cases e : vs[i]? with
      | none => rw [e] at h2; cases h2
      | some a => rw [e] at h2; cases h2; rfl
    obtain ⟨u, hu, rv⟩ := r.get ha
    have hp : ps[i]? = some y := by
      rw [← S.pre, List.getElem?_take_of_lt (by omega)]; exact h1
    have ndP : ps.Nodup := by rw [← S.pre]; exact S.nd.sublist (List.take_sublist _ _)
    refine ⟨u, rv, ?_⟩
    rcases S.par y (List.mem_of_getElem? hp) with k | k
    · exact .inl ⟨k, bindL_get ndP hp hu k⟩
    · obtain ⟨c, e⟩ := cell_has (n := s.heap.objs.size + 1) k
      refine .inr ⟨.inl k, c, e, ?_⟩
      have q := x.cell y c e
      rw [bindC_get ndP hp hu (by show scope.names.lookup y ≠ _; rw [k]; decide)] at q
      exact q
  · exact e0.hok.fresh (Nat.le_of_lt (x.above y c (PySem.mem_of_lookup h)))
  · unfold start
    show _ = N.length
    rw [List.length_append, List.length_map, List.length_replicate]
    omega

/-- THE RULE: a def (or a method) of the text, by its body. The body's reading t is chosen for each entry; it is run at the parameters' values -/
theorem fn_of {CX : CXT} {P : Program} {w : World} {K : PySem.W.Frag} {mg : Str → Option Value} {base : Heap} {k : Nat} {f : Addr} {name qual : Str} {params : Arguments} {body : List Stmt} {scope : Scope} {dV kV doc pm cdv ct oc : Value} {an od : Option Addr}
    {osl : Array (Option Value)} {N ps : List Str} {sp : Sp} (lk : K.lookup f = some ⟨oc, od, .func (PySem.W.fnOf name qual params body scope dV kV doc pm an cdv ct), osl⟩) (hcd : PySem.W.codeIn K cdv qual = true) (S : FnScope N ps scope)
    (len : ∀ vs H Q E, sp vs H Q E → vs.length = ps.length)
    (hbody : ∀ (A : Around) (outer : List Env) (s : Shared) (H : Hp) (vs : List V) (Q : VK) (E : XK), Room k (A.deeper (envOfC qual scope s.heap.objs.size f cdv)) → sp vs H Q E →
      ∃ t, PSs (cxOf CX P w K mg base N qual scope f cdv A outer s H E) body t ∧ t { nx := fun _ H' => Q .non H', rt := Q } (start N vs) H) :
    FnOk P w K mg base CX (k + 1) f (PySem.W.fnOf name qual params body scope dV kV doc pm an cdv ct) ps sp := by
  refine ⟨len, fun A outer s H args us vs Q E hr e0 hb r hsp => ?_⟩
  have hl := len _ _ _ _ hsp
  have KX : K.In s.heap := e0.mod.kin.keeps fun b o e => (e0.bs b o e).1
  have lim : s.heap.NoLimit := e0.mod.nolimit.keeps fun b o e => (e0.bs b o e).1
  have hkind : ∀ y ∈ ps.zip us, scope.names.lookup y.1 = some .local ∨ (scope.names.lookup y.1 = some .cell ∧ ((cellsFrom (s.heap.objs.size + 1) scope.names []).lookup y.1).isSome = true) := fun ⟨n, v⟩ hy => by
    rcases S.par n (List.of_mem_zip hy).1 with q | q
    · exact .inl q
    · exact .inr ⟨q, PySem.W.cellsFrom_some _ _ _ (.inl q)⟩
  refine codeAny_call_function hr.depth (KX _ _ lk) rfl S.co S.gen rfl (PySem.W.codeRec_of KX hcd) (hb _ _ _ _ ?_)
  refine wpAny_newFunctionEnv_cells S.kind hkind fun env he s1 x => ?_
  subst he
  refine ⟨lim.keeps x.toInCall.keep, codeAny_func ?_⟩
  obtain ⟨t, ht, hq⟩ := hbody A outer s H vs Q E (hr.deeper _) hsp
  have I : Inv (cxOf CX P w K mg base N qual scope f cdv A outer s H E) [] (start N vs) H s1 := inv_start S hr.hd e0 hl r x
  refine wpAny_mono (ht [] s1 (start N vs) H _ I hq) (fun fl s' hs => ?_) fun e s' hs => hs
  have fin : ∀ {σ' : St} {H' : Hp} {v : V} {u : Value}, Inv (cxOf CX P w K mg base N qual scope f cdv A outer s H E) [] σ' H' s' → RelV v u → Q v H' → CE outer P w H s Q u s' :=
    fun {σ' H' v u} J rv q => ⟨v, H', J.os, J.bare, J.base, J.hok, rv, q⟩
  cases fl with
  | ret u =>
    obtain ⟨v, σ', H', J, rv, q⟩ := hs
    exact fin J rv q
  | next =>
    obtain ⟨σ', H', J, q⟩ := hs
    exact fin (v := V.non) (u := Value.none) J rfl q
  | brk =>
    obtain ⟨_, _, _, q⟩ := hs
    exact False.elim q
  | cont =>
    obtain ⟨_, _, _, q⟩ := hs
    exact False.elim q
end L2

namespace L2
open PySem PySem.Spec PyProof.Rows
section
variable {X : Cx} {x : Str} {p pos : Pos} {e : Expr} {es : List Expr} {t : TA} {id T : String} {r : List V → Hp → VK → Prop}

def tCB (r : List V → Hp → VK → Prop) (t : TA) : TE := fun σ H Q => t σ H fun vs H1 => r vs H1 Q
/-- f(e, ..), f a built-in function -/
theorem pe_callB (hc : CallR X (.builtin id) r) (hg : Gl X x) (hm : X.mg x = none) (hv : bootBuiltins x = some (.builtin id)) (ha : PA X (e :: es) t) (hn : x ≠ "__name__" := by decide) (hdb : (x == ("__debug__" : Str)) = false := by decide)
    (he : starEach (e :: es) X.env = (false, eval e X.env) :: starEach es X.env := by rfl) (hpl : (backTo pos (starEach es X.env)).any (·.1) = false := by rfl) : PE X (.Call (.Name x p) (e :: es) [] pos) (tCB r t) := by
  intro pins s σ H Q I h
  refine wpAny_Call_Name_kw (ld_blt I hg hm hv ?_ hn hdb)
  exact PyProof.Rows.callWith_builtin1 (thn (ha pos pins s σ H _ I h) fun us s1 ⟨vs, H1, I1, r1, q1⟩ => hc pins s1 σ H1 vs us Q I1 r1 q1) he hpl
/-- T(e, ..), T a built-in type -/
theorem pe_callTy (hc : CallR X (.type T) r) (hg : Gl X x) (hm : X.mg x = none) (hv : bootBuiltins x = some (.type T)) (ha : PA X (e :: es) t) (hn : x ≠ "__name__" := by decide) (hdb : (x == ("__debug__" : Str)) = false := by decide)
    (he : starEach (e :: es) X.env = (false, eval e X.env) :: starEach es X.env := by rfl) (hpl : (backTo pos (starEach es X.env)).any (·.1) = false := by rfl) : PE X (.Call (.Name x p) (e :: es) [] pos) (tCB r t) := by
  intro pins s σ H Q I h
  refine wpAny_Call_Name_kw (ld_blt I hg hm hv ?_ hn hdb)
  exact PyProof.Rows.callWith_type1 (thn (ha pos pins s σ H _ I h) fun us s1 ⟨vs, H1, I1, r1, q1⟩ => hc pins s1 σ H1 vs us Q I1 r1 q1) he hpl
end
end L2

namespace HT
open PySem PyProof.Rows

section
open PySem.SeqAt
open PySem.AutoSeq1 (wpAny_loadPart')
open PySem.MeetsSeq PySem.MeetsSeq2 PySem.MeetsSeq3

end

section
variable {prog : Program} {w : World} {A : Around} {E : Value → Shared → Prop} {s : Shared}

/-! ### t[a:b], not the whole -/
/-- a slice's bound as a place among n (d where it is left out) -/
def sIx (n d : Nat) : Option Int → Nat
  | none => d
  | some v => if v < 0 then (v + (n : Int)).toNat else min v.toNat n

end
end HT

namespace L2
open PySem PySem.Spec PyProof.Rows

/-! ### the parts of a slice -/
abbrev TO := St → Hp → (Option Int → Hp → Prop) → Prop
/-- a slice's part (left out, or an int) -/
def PO (X : Cx) (e : Option Expr) (t : TO) : Prop :=
  ∀ (pins : List (Addr × Obj)) (s : Shared) (σ : St) (H : Hp) (Q : Option Int → Hp → Prop), Inv X pins σ H s → t σ H Q →
    wpAny (model X.prog X.w) X.A (evalPart e X.env) (fun u s' => ∃ o H', Inv X pins σ H' s' ∧ IsPart u o ∧ Q o H') X.xe s
def tNoPart : TO := fun _ H Q => Q none H
def tPart (t : TE) : TO := fun σ H Q => t σ H fun x H1 => ∃ i, x = .int i ∧ Q (some i) H1

section
variable {X : Cx} {e : Expr} {te : TE} {lo hi : Option Expr} {tl th : TO} {pos p2 : Pos}

theorem po_none : PO X none tNoPart := by
  intro pins s σ H Q I h
  rw [evalPart_none]
  exact wpAny_pure ⟨none, H, I, .none, h⟩
theorem po_some (h : PE X e te) : PO X (some e) (tPart te) := by
  intro pins s σ H Q I hw
  rw [evalPart_some]
  refine thn (h pins s σ H _ I hw) fun u s1 ⟨x, H1, I1, r1, q1⟩ => ?_
  obtain ⟨i, rfl, q⟩ := q1
  obtain ⟨t, rfl⟩ := r1
  exact ⟨some i, H1, I1, .int i t, q⟩

/-- what a slice of a value is, by values: the slice object stands at sl -/
def SlR (X : Cx) (r : V → Option Int → Option Int → Hp → VK → Prop) : Prop :=
  ∀ (pins : List (Addr × Obj)) (s : Shared) (σ : St) (H : Hp) (x : V) (v vl vu : Value) (lo hi : Option Int) (sl : Addr) (Q : VK), Inv X pins σ H s → RelV x v → s.heap.IsSliceOf sl vl vu .none → IsPart vl lo → IsPart vu hi → r x lo hi H Q →
    ∃ T id, typeLookup (.type T) "__getitem__" = pure (some (.builtin id)) ∧ s.TypeIs v T ∧ wpAny (model X.prog X.w) X.A (getItem v (.ref sl)) (EP X pins σ Q) X.xe s
def tSl (r : V → Option Int → Option Int → Hp → VK → Prop) (te : TE) (tl th : TO) : TE := fun σ H Q => te σ H fun x H1 => tl σ H1 fun l H2 => th σ H2 fun u H3 => r x l u H3 Q
/-- a[lo:hi], any a -/
theorem pe_slice {r : V → Option Int → Option Int → Hp → VK → Prop} (hr : SlR X r) (he : PE X e te) (hl : PO X lo tl) (hu : PO X hi th) : PE X (.Subscript e (.Slice lo hi none p2) pos) (tSl r te tl th) := by
  intro pins s σ H Q I h
  refine Subscript_ (thn (he pins s σ H _ I h) fun v s1 ⟨x, H1, I1, r1, q1⟩ => ?_)
  refine wpAny_Slice (thn (hl pins s1 σ H1 _ I1 q1) fun vl s2 ⟨l, H2, I2, pl, q2⟩ => thn (hu pins s2 σ H2 _ I2 q2) fun vu s3 ⟨u, H3, I3, pu, q3⟩ => ?_)
  rw [evalPart_none]
  refine wpAny_pure ?_
  have I4 : Inv X pins σ H3 { s3 with heap := s3.heap.push { cls := .type "slice", data := .fields #[vl, vu, .none] } } := I3.kept (t' := s3.toks) fun b ob q => Heap.get?_push_of_some _ q
  obtain ⟨T, id, hT, ht, hg⟩ := hr pins { s3 with heap := s3.heap.push { cls := .type "slice", data := .fields #[vl, vu, .none] } } σ H3 x v vl vu l u s3.heap.objs.size Q I4 r1 (Heap.IsSliceOf.new ..) pl pu q3
  show wpAny (model X.prog X.w) X.A (subscriptTail e (.Slice lo hi none p2) v (.ref s3.heap.objs.size)) (EP X pins σ Q) X.xe { s3 with heap := s3.heap.push { cls := .type "slice", data := .fields #[vl, vu, .none] } }
  exact tail_any (ops := [.ref s3.heap.objs.size, v]) ht hT hg (by with_unfolding_all rfl)

/-- the items of xs[lo:hi] -/
def cutV (xs : List V) (lo hi : Option Int) : List V := (xs.drop (HT.sIx xs.length 0 lo)).take (HT.sIx xs.length xs.length hi - HT.sIx xs.length 0 lo)
theorem cutV_length (xs : List V) (lo hi : Option Int) : (cutV xs lo hi).length ≤ xs.length := by
  unfold cutV
  rw [List.length_take, List.length_drop]
  omega

/-! ### t < u, t + u -/
end
end L2

namespace L2
open PySem PySem.Spec PyProof.Rows

/-! ### places -/
/-- the place that an index of any sign means -/
def ixN (n : Nat) (i : Int) : Option Nat := if 0 ≤ i then (if i < n then some i.toNat else none) else if -(n : Int) ≤ i then some (i + n).toNat else none
def atI {α : Type} (xs : List α) (i : Int) : Option α := (ixN xs.length i).bind fun j => xs[j]?
theorem ixN_seq {n : Nat} {i : Int} {j : Nat} (h : ixN n i = some j) : seqIndex? i n = some j ∧ j < n ∧ -(n : Int) ≤ i ∧ i < n := by
  unfold ixN at h
  by_cases h0 : 0 ≤ i
  · rw [if_pos h0] at h
    by_cases h1 : i < n
    · rw [if_pos h1] at h
      have e : i.toNat = j := Option.some.inj h
      exact ⟨by rw [seqIndex_of h0 h1, e], by omega, by omega, h1⟩
    · rw [if_neg h1] at h; cases h
  · rw [if_neg h0] at h
    by_cases h1 : -(n : Int) ≤ i
    · rw [if_pos h1] at h
      have e : (i + n).toNat = j := Option.some.inj h
      exact ⟨by rw [seqIndex_neg (by omega) h1, e], by omega, h1, by omega⟩
    · rw [if_neg h1] at h; cases h
theorem atI_get {α : Type} {xs : List α} {i : Int} {v : α} (h : atI xs i = some v) : ∃ j, seqIndex? i xs.length = some j ∧ xs[j]? = some v ∧ j < xs.length ∧ -(xs.length : Int) ≤ i ∧ i < xs.length := by
  unfold atI at h
  cases e : ixN xs.length i with
  | none => rw [e] at h; cases h
  | some j =>
    rw [e] at h
    obtain ⟨h1, h2, h3, h4⟩ := ixN_seq e
    exact ⟨j, h1, h, h2, h3, h4⟩
theorem atI_nat {α : Type} {xs : List α} {j : Nat} {v : α} (h : xs[j]? = some v) : atI xs (j : Int) = some v := by
  have hj : j < xs.length := (List.getElem?_eq_some_iff.mp h).1
  have e : ixN xs.length (j : Int) = some j := by
    unfold ixN
    rw [if_pos (by omega), if_pos (by omega)]; simp
  unfold atI; rw [e]; exact h
theorem atI_last {α : Type} (xs : List α) (v : α) : atI (xs ++ [v]) (-1) = some v := by
  have hl : (xs ++ [v]).length = xs.length + 1 := by simp
  have e : ixN (xs ++ [v]).length (-1) = some xs.length := by
    unfold ixN
    rw [hl, if_neg (by decide), if_pos (by omega)]
    congr 1
    omega
  unfold atI
  rw [e]
  show (xs ++ [v])[xs.length]? = some v
  simp

/-! ### what may be subscripted -/
/-- what stands as an index of a plain subscript -/
def PlainIx (b : Expr) : Prop := ∀ o i, subscripted b false o i = operate [o, i] (getItem o i)
/-- a subscript by values -/
def IxR (X : Cx) (r : R2) : Prop :=
  ∀ (value slice : Expr) (pins : List (Addr × Obj)) (s : Shared) (σ : St) (H : Hp) (x y : V) (v u : Value) (Q : VK), Inv X pins σ H s → RelV x v → RelV y u → r x y H Q →
    subscripted slice false v u = operate [v, u] (getItem v u) → wpAny (model X.prog X.w) X.A (subscriptTail value slice v u) (EP X pins σ Q) X.xe s
/-- a call of a builtin's method by values: the receiver, the arguments -/
def MtR (X : Cx) (id : String) (r : V → List V → Hp → VK → Prop) : Prop :=
  ∀ (pins : List (Addr × Obj)) (s : Shared) (σ : St) (H : Hp) (x : V) (xs : List V) (v : Value) (us : List Value) (Q : VK), Inv X pins σ H s → RelV x v → Vals xs us → r x xs H Q →
    wpAny (model X.prog X.w) X.A (call (.builtin id) (v :: us)) (EP X pins σ Q) X.xe s
section
variable {X : Cx} {a b : Expr} {ta tb : TE} {pos : Pos}
/-- a[b] -/
theorem pe_ix {r : R2} (hr : IxR X r) (ha : PE X a ta) (hb : PE X b tb) (hs : PlainIx b) : PE X (.Subscript a b pos) (tOp r ta tb) := by
  intro pins s σ H Q I h
  exact Subscript_ (binT ha hb I h fun v u s2 x y H2 I2 rx ry q => hr a b pins s2 σ H2 x y v u Q I2 rx ry q (hs _ _))

def rIxL (K : PySem.W.Frag) : R2 := fun x y H Q => ∃ p xs i v, x = .ref p ∧ y = .int i ∧ SqL K H p xs ∧ atI xs i = some v ∧ Q v H
def rIxT (K : PySem.W.Frag) : R2 := fun x y H Q => ∃ p xs i v, x = .ref p ∧ y = .int i ∧ SqT K H p xs ∧ atI xs i = some v ∧ Q v H
def rIxS : R2 := fun x y H Q => ∃ z i c, x = .str z ∧ y = .int i ∧ z.length ≤ sizeLine ∧ atI z.cps.toList i = some c ∧ Q (.str ⟨#[c]⟩) H
theorem ix_list : IxR X (rIxL X.K) := by
  intro value slice pins s σ H x y v u Q I rx ry h hs
  obtain ⟨p, xs, i, z, rfl, rfl, hq, he, q⟩ := h
  cases rx
  obtain ⟨t, rfl⟩ := ry
  obtain ⟨its, r, pl, hz⟩ := I.list hq
  obtain ⟨j, h1, h2, h3, h4, h5⟩ := atI_get he
  obtain ⟨w, ew, rw'⟩ := r.get h2
  have hl := r.length
  have hn := line63
  have fin : EP X pins σ Q w s := ⟨z, H, I, rw', q⟩
  by_cases h0 : 0 ≤ i
  · have hj : i.toNat = j := by
      rw [seqIndex_of h0 h5] at h1
      exact Option.some.inj h1
    exact item_listR pl.isList h0 (by omega) (by rw [hj]; simpa using ew) fin hs
  · have hj : (i + (its.toArray.size : Int)).toNat = j := by
      rw [seqIndex_neg (by omega) h4] at h1
      rw [List.size_toArray, ← hl]
      exact Option.some.inj h1
    exact subscriptTail_builtinR (x := w) pl.isList.typeIs slot_list_getitem.lookup
      (wpAny_getItem_list_neg (Q := fun r s' => r = w ∧ EP X pins σ Q r s') pl.isList (by omega) (by rw [List.size_toArray] <;> omega) (by omega) (by rw [hj]; simpa using ew) ⟨rfl, fin⟩) hs
theorem ix_tup : IxR X (rIxT X.K) := by
  intro value slice pins s σ H x y v u Q I rx ry h hs
  obtain ⟨p, xs, i, z, rfl, rfl, hq, he, q⟩ := h
  cases rx
  obtain ⟨t, rfl⟩ := ry
  obtain ⟨its, r, pl, hz⟩ := I.tuple hq
  obtain ⟨j, h1, h2, h3, h4, h5⟩ := atI_get he
  obtain ⟨w, ew, rw'⟩ := r.get h2
  have hl := r.length
  have hn := line63
  have fin : EP X pins σ Q w s := ⟨z, H, I, rw', q⟩
  exact subscriptTail_builtinR (x := w) pl.typeIs slot_tuple_getitem.lookup
    (getItem_tuple (j := j) (Q := fun r s' => r = w ∧ EP X pins σ Q r s') pl (by omega) (by omega) (by rw [List.size_toArray, ← hl]; exact h1) (by simpa using ew) ⟨rfl, fin⟩) hs
theorem ix_str : IxR X rIxS := by
  intro value slice pins s σ H x y v u Q I rx ry h hs
  obtain ⟨z, i, c, rfl, rfl, hz, he, q⟩ := h
  obtain ⟨t, rfl⟩ := rx
  obtain ⟨t', rfl⟩ := ry
  obtain ⟨j, h1, h2, h3, h4, h5⟩ := atI_get he
  have hl : z.cps.toList.length = z.length := by simp [Str.length]
  rw [hl] at h1 h4 h5
  have hn := line63
  exact tail_any (typeIs_str s z t) slot_str_getitem.lookup (getItem_str (c := c) (by
    have e1 : decide (i < -(2 ^ 63 : Int)) = false := decide_eq_false (by omega)
    have e2 : decide (i ≥ 2 ^ 63) = false := decide_eq_false (by omega)
    rw [e1, e2, Bool.or_false]) (by rw [h1]; simpa using h2) ⟨.str ⟨#[c]⟩, H, I.tok _, ⟨_, rfl⟩, q⟩) hs

/-! ### xs[i] = v, any sign -/
/-- the list's object behind a store -/
theorem mapSeq_set (its : List Value) (n j : Nat) (u : Value) : Obj.mapSeq (·.setIfInBounds j u) { cls := .type "list", data := .seq its.toArray n } = { cls := .type "list", data := .seq (its.set j u).toArray n } := by
  simp [Obj.mapSeq]
theorem Inv.lst {pins : List (Addr × Obj)} {σ : St} {H : Hp} {s : Shared} {p : Addr} {xs : List V} (I : Inv X pins σ H s) (h : H p = some (.lst xs)) :
    ∃ (its : List Value) (n : Nat), Vals xs its ∧ s.heap.get? p = some { cls := .type "list", data := .seq its.toArray n } ∧ xs.length ≤ sizeLine := by
  obtain ⟨z, its, n, r, e⟩ := I.hok p _ h
  exact ⟨its, n, r, e, z⟩
/-- the list at p is written by an update of its object -/
theorem Inv.lstUpd {pins : List (Addr × Obj)} {σ : St} {H : Hp} {s : Shared} {p : Addr} {xs ys : List V} {its its' : List Value} {n n' : Nat} {f : Obj → Obj} (I : Inv X pins σ H s) (h : H p = some (.lst xs))
    (ho : s.heap.get? p = some { cls := .type "list", data := .seq its.toArray n }) (hf : f { cls := .type "list", data := .seq its.toArray n } = { cls := .type "list", data := .seq its'.toArray n' }) (r : Vals ys its') (hz : ys.length ≤ sizeLine) (t : Nat) :
    Inv X pins σ (upd H p (.lst ys)) { s with heap := s.heap.update p f, toks := t } := by
  have e : (s.heap.update p f).get? p = some { cls := .type "list", data := .seq its'.toArray n' } := by
    rw [Heap.get?_update_self f ho (by rw [hf] <;> rfl), hf]
  refine I.write (x := p) (e := p) (by rw [h]; trivial) (.inl rfl) (fun b u hb q => (Heap.get?_update_other _ _ (Ne.symm hb)).trans q) ⟨_, e⟩ ?_
  exact ⟨hz, its', n', r, e⟩
def rSetL : V → V → V → Hp → (Hp → Prop) → Prop := fun o i v H Q => ∃ p xs k j, o = .ref p ∧ i = .int k ∧ H p = some (.lst xs) ∧ ixN xs.length k = some j ∧ Q (upd H p (.lst (xs.set j v)))
theorem set_list : PSet X rSetL := by
  intro pins s σ H o i v ov iv u Q I ro ri rv h
  obtain ⟨p, xs, k, j, rfl, rfl, hp, hj, q⟩ := h
  cases ro
  obtain ⟨t, rfl⟩ := ri
  obtain ⟨its, n, r, ho, hz⟩ := I.lst hp
  obtain ⟨h1, h2, h3, h4⟩ := ixN_seq hj
  have hl := r.length
  have hn := line63
  have I' : Inv X pins σ (upd H p (.lst (xs.set j v))) { s with heap := s.heap.update p (Obj.mapSeq (·.setIfInBounds j u)) } :=
    I.lstUpd hp ho (mapSeq_set its n j u) (r.set rv j) (by rw [List.length_set]; exact hz) s.toks
  by_cases h0 : 0 ≤ k
  · have hk : k.toNat = j := by
      rw [seqIndex_of h0 h4] at h1
      exact Option.some.inj h1
    exact PySem.W.ki_setAt ho h0 (by omega) (by rw [List.size_toArray, ← hl]; exact h4) (by rw [hk]; exact ⟨_, I', q⟩)
  · have hk : (k + (its.toArray.size : Int)).toNat = j := by
      rw [seqIndex_neg (by omega) h3] at h1
      rw [List.size_toArray, ← hl]
      exact Option.some.inj h1
    exact PySem.W.ki_setBack ho (by omega) (by rw [List.size_toArray, ← hl]; exact h3) (by omega) (by rw [hk]; exact ⟨_, I', q⟩)

/-! ### slices -/
theorem slice_bounds (lo hi : Option Int) (n : Nat) : (sliceBounds lo hi none n).1 = ((HT.sIx n 0 lo : Nat) : Int) ∧ (sliceBounds lo hi none n).2.1 = ((HT.sIx n n hi : Nat) : Int) ∧ (sliceBounds lo hi none n).2.2 = 1 := by
  refine ⟨?_, ?_, rfl⟩
  · cases lo with
    | none => simp [sliceBounds, HT.sIx]
    | some i =>
      simp only [sliceBounds, HT.sIx, Option.getD_none, show (1 : Int) > 0 by decide, if_true]
      by_cases h : i < 0
      · simp only [h, if_true] <;> omega
      · simp only [h, if_false] <;> omega
  · cases hi with
    | none => simp [sliceBounds, HT.sIx]
    | some i =>
      simp only [sliceBounds, HT.sIx, Option.getD_none, show (1 : Int) > 0 by decide, if_true]
      by_cases h : i < 0
      · simp only [h, if_true] <;> omega
      · simp only [h, if_false] <;> omega
theorem slicePick_cut (its : List Value) (lo hi : Option Int) : slicePick its.toArray lo hi none = ((its.drop (HT.sIx its.length 0 lo)).take (HT.sIx its.length its.length hi - HT.sIx its.length 0 lo)).toArray := by
  obtain ⟨h1, h2, h3⟩ := slice_bounds lo hi its.toArray.size
  unfold slicePick
  rw [h1, h2, h3]
  simp only [sliceRange_one, pick_run, List.size_toArray] <;> rfl
/-- xs[lo:hi] of a list: a new list -/
def rSlL (K : PySem.W.Frag) : V → Option Int → Option Int → Hp → VK → Prop := fun x lo hi H Q => ∃ a xs, x = .ref a ∧ SqL K H a xs ∧ ∀ p, H p = none → Q (.ref p) (upd H p (.lst (cutV xs lo hi)))
theorem sl_list : SlR X (rSlL X.K) := by
  intro pins s σ H x v vl vu lo hi sl Q I rx hs pl pu h
  obtain ⟨a, xs, rfl, hx, q⟩ := h
  cases rx
  obtain ⟨its, r, ht, hz⟩ := I.list hx
  have hlen := r.length
  refine ⟨"list", _, slot_list_getitem.lookup, ht.isList.typeIs, ?_⟩
  refine wpAny_getItem_list_slice ht.isList hs pl pu .none (by simp) ?_ (by rw [List.size_toArray] <;> omega)
  rw [slicePick_cut, ← hlen]
  refine ⟨.ref s.heap.objs.size, _, I.laid (t' := s.toks) (o := .lst (cutV xs lo hi)) (fun b ob q => Heap.get?_push_of_some _ q) (Nat.le_refl _) ?_, rfl, q _ (I.hok.fresh (Nat.le_refl _))⟩
  exact ⟨Nat.le_trans (cutV_length xs lo hi) hz, _, 0, (r.drop (HT.sIx xs.length 0 lo)).take (HT.sIx xs.length xs.length hi - HT.sIx xs.length 0 lo), Heap.get?_push_size _ rfl⟩

/-! ### in, not in: flat items -/

/-! ### len, list(x), tuple(x) of any list or tuple that is read -/
theorem call_len_seq : CallR X (.builtin "len") (fun xs H Q => ∃ p ys, xs = [.ref p] ∧ (SqL X.K H p ys ∨ SqT X.K H p ys) ∧ Q (.int ys.length) H) := by
  intro pins s σ H xs us Q I r h
  obtain ⟨p, ys, rfl, hq, q⟩ := h
  obtain ⟨u, rfl, rx⟩ := vals1 r
  cases rx
  have hn := line63
  rcases hq with hq | hq
  · obtain ⟨its, r', pl, hz⟩ := I.list hq
    have hlen := r'.length
    exact Calls.call_len_list pl.isList (by simp only [List.size_toArray] <;> omega) ⟨.int ys.length, H, I.tok _, ⟨s.toks + 1, by rw [List.size_toArray, hlen]⟩, q⟩
  · obtain ⟨its, r', pl, hz⟩ := I.tuple hq
    have hlen := r'.length
    exact len_tuple pl (by simp only [List.size_toArray] <;> omega) ⟨.int ys.length, H, I.tok _, ⟨s.toks + 1, by rw [List.size_toArray, hlen]⟩, q⟩
theorem call_len_str : CallR X (.builtin "len") (fun xs H Q => ∃ z, xs = [.str z] ∧ z.length ≤ sizeLine ∧ Q (.int z.length) H) := by
  intro pins s σ H xs us Q I r h
  obtain ⟨z, rfl, hz, q⟩ := h
  obtain ⟨u, rfl, t, rfl⟩ := vals1 r
  have hn := line63
  exact len_str (by omega) ⟨.int z.length, H, I.tok _, ⟨_, rfl⟩, q⟩
theorem call_list_of : CallR X (.type "list") (fun xs H Q => ∃ p ys, xs = [.ref p] ∧ (SqL X.K H p ys ∨ SqT X.K H p ys) ∧ ∀ l, H l = none → Q (.ref l) (upd H l (.lst ys))) := by
  intro pins s σ H xs us Q I r h
  obtain ⟨p, ys, rfl, hq, q⟩ := h
  obtain ⟨u, rfl, rx⟩ := vals1 r
  cases rx
  have fin : ∀ (its : List Value), Vals ys its → ys.length ≤ sizeLine → ∀ (h' : Heap) (c' : Nat), (∀ b o', s.heap.get? b = some o' → h'.get? b = some o') →
      h'.get? s.heap.objs.size = some { cls := .type "list", dict := none, data := .seq its.toArray c', slots := #[] } → EP X pins σ Q (.ref s.heap.objs.size) { s with heap := h' } := fun its r' hz h' c' kp e =>
    ⟨.ref s.heap.objs.size, _, I.laid (t' := s.toks) kp (Nat.le_refl _) (show ObjOk X.prog X.w _ h' _ (.lst ys) from ⟨hz, its, c', r', e⟩), rfl, q _ (I.hok.fresh (Nat.le_refl _))⟩
  rcases hq with hq | hq
  · obtain ⟨its, r', pl, hz⟩ := I.list hq
    have hlen := r'.length
    obtain ⟨o, ho, hc, n, hd⟩ := pl.isList
    exact call_list_seq p (.inl rfl) ho hc hd (fun h' c' kp e => fin its r' hz h' c' kp e) (by simp only [List.size_toArray] <;> omega)
  · obtain ⟨its, r', pl, hz⟩ := I.tuple hq
    have hlen := r'.length
    obtain ⟨o, ho, hc, n, hd⟩ := pl
    exact call_list_seq p (.inr rfl) ho hc hd (fun h' c' kp e => fin its r' hz h' c' kp e) (by simp only [List.size_toArray] <;> omega)

/-! ### the call of a builtin's method: o.m(..) -/
/-- the value is of that builtin type -/
def tyV (K : PySem.W.Frag) (T : String) (x : V) (H : Hp) : Prop := match x with
  | .str _ => T = "str"
  | .int _ => T = "int"
  | .ref p => (T = "list" ∧ ∃ xs, SqL K H p xs) ∨ (T = "tuple" ∧ ∃ o, K.lookup p = some o ∧ o.cls = .type "tuple" ∧ o.dict = none) ∨
      (T = "dict" ∧ ((∃ kvs, H p = some (.dK kvs)) ∨ ∃ kvs, H p = some (.dT kvs))) ∨ (T = "set" ∧ ∃ S n, H p = some (.set S n))
  | _ => False
theorem tyV_is {pins : List (Addr × Obj)} {σ : St} {H : Hp} {s : Shared} {T : String} {x : V} {v : Value} (I : Inv X pins σ H s) (r : RelV x v) (ty : tyV X.K T x H) :
    s.TypeIs v T ∧ ∀ a, v = .ref a → ∃ ob, s.heap.get? a = some ob ∧ ob.dict = none := by
  cases x with
  | str z =>
    obtain ⟨t, rfl⟩ := r
    cases (show T = "str" from ty)
    exact ⟨typeIs_str s z t, fun _ e => nomatch e⟩
  | int i =>
    obtain ⟨t, rfl⟩ := r
    cases (show T = "int" from ty)
    exact ⟨typeIs_int s i t, fun _ e => nomatch e⟩
  | ref p =>
    cases r
    rcases ty with ⟨rfl, xs, hq⟩ | ⟨rfl, o, hk, hc, hd⟩ | ⟨rfl, hk⟩ | ⟨rfl, S, n, hk⟩
    · obtain ⟨its, _, pl, _⟩ := I.list hq
      refine ⟨pl.isList.typeIs, fun a e => ?_⟩
      cases e
      obtain ⟨o, n, e, c, hd, _⟩ := pl
      exact ⟨o, e, hd⟩
    · refine ⟨⟨o, I.kIn p o hk, hc⟩, fun a e => ?_⟩
      cases e
      exact ⟨o, I.kIn _ o hk, hd⟩
    · have z : ∃ o, s.heap.get? p = some o ∧ o.ExactDict := by
        rcases hk with ⟨kvs, hk⟩ | ⟨kvs, hk⟩
        · obtain ⟨_, _, _, _, o, _, _, e, ex, _⟩ := I.hok p _ hk
          exact ⟨o, e, ex⟩
        · obtain ⟨_, _, _, _, o, _, _, e, ex, _⟩ := I.hok p _ hk
          exact ⟨o, e, ex⟩
      obtain ⟨o, e, ex⟩ := z
      refine ⟨⟨o, e, ex.1⟩, fun a e2 => ?_⟩
      cases e2
      exact ⟨o, e, ex.2.1⟩
    · obtain ⟨o, _, _, _, e, ex, _⟩ := I.hok p _ hk
      refine ⟨⟨o, e, ex.1⟩, fun a e2 => ?_⟩
      cases e2
      exact ⟨o, e, ex.2.1⟩
  | _ => exact False.elim ty
def tBM (K : PySem.W.Frag) (T : String) (r : V → List V → Hp → VK → Prop) (to : TE) (t : TA) : TE := fun σ H Q => to σ H fun x H1 => tyV K T x H1 ∧ t σ H1 fun xs H2 => r x xs H2 Q
variable {o e : Expr} {es : List Expr} {to : TE} {t : TA} {name : Str} {apos cpos : Pos} {T id : String} {r : V → List V → Hp → VK → Prop}
theorem pe_bm (pa : PlainAttrs T) (slot : Slot T name id) (hty : typeOf (.builtin id) = pure (.type "method_descriptor")) (hm : MtR X id r) (ho : PE X o to) (ha : PA X (e :: es) t)
    (hbase : attributeBase o name X.env (eval o X.env) = eval o X.env := by rfl)
    (hfew : ((backTo cpos (starEach (e :: es) X.env)).all (fun x => !x.1) && (backToKw cpos (keywordEach [] X.env)).all (fun x => x.1.isSome)
      && decide ((e :: es).length + ([] : List Keyword).length + (if ([] : List Keyword).isEmpty then 0 else 1) < 30)) = true := by rfl)
    (hline : (apos.endLine == cpos.line) = true := by rfl) (hs : starEach (e :: es) X.env = (false, eval e X.env) :: starEach es X.env := by rfl) (hplain : (backTo cpos (starEach es X.env)).any (·.1) = false := by rfl) :
    PE X (.Call (.Attribute o name apos) (e :: es) [] cpos) (tBM X.K T r to t) := by
  intro pins s σ H Q I h
  refine wpAny_Call_method_late hbase hfew hline rfl (thn (ho pins s σ H _ I h) fun v s1 ⟨x, H1, I1, r1, ty, q1⟩ => ?_)
  obtain ⟨h1, h2⟩ := tyV_is I1 r1 ty
  refine ⟨T, id, pa, slot, hty, h1, h2, ?_⟩
  have hA := ha cpos pins s1 σ H1 _ I1 q1
  rw [hs] at hA ⊢
  refine Calls.callWith_builtin (by show (false || (backTo cpos (starEach es X.env)).any (·.1)) = false; rw [hplain] <;> rfl) (Calls.evalArgs_plain ?_)
  exact thn hA fun us s2 ⟨vs, H2, I2, r2, q2⟩ => hm pins s2 σ H2 x vs v us Q I2 r1 r2 q2
/- xs.append(e), list.index on a module's tuple .. are MtR facts of 06m -/
end
end L2

namespace L2
open PySem PySem.Spec PyProof.Rows

def MtM (X : Cx) (id : String) (r : V → List V → Hp → VK → Prop) : Prop :=
  ∀ (pins : List (Addr × Obj)) (s : Shared) (σ : St) (H : Hp) (x : V) (xs : List V) (v : Value) (us : List Value) (Q : VK), Inv X pins σ H s → RelV x v → Vals xs us → r x xs H Q →
    wpAny (model X.prog X.w) X.A (call (.builtin id) (v :: us)) (EP X pins σ Q) X.xe s

/-! ### lists of values -/
theorem Vals.one : ∀ {x : V} {us : List Value}, Vals [x] us → ∃ u, us = [u] ∧ RelV x u
  | _, _, .cons r .nil => ⟨_, rfl, r⟩

section
variable {X : Cx} {pins : List (Addr × Obj)} {σ : St} {H : Hp} {s : Shared} {l b : Addr} {xs ys zs : List V}

/-! ### the two steps: a tracked list is rewritten, a new list is laid -/
theorem Inv.lset {its its' : List Value} {n : Nat} {f : Array Value → Array Value} {t' : Nat} (I : Inv X pins σ H s) (hH : H l = some (.lst xs))
    (e : s.heap.get? l = some { cls := .type "list", data := .seq its.toArray n }) (hf : f its.toArray = its'.toArray) (hv : Vals ys its') (hz : ys.length ≤ sizeLine) :
    Inv X pins σ (upd H l (.lst ys)) { s with heap := s.heap.update l (Obj.mapSeq f), toks := t' } := by
  have q := PySem.IsL.update e f
  rw [hf] at q
  refine I.write (x := l) (e := l) (by rw [hH]; exact trivial) (.inl rfl) (fun b' u hb hu => (Heap.get?_update_other s.heap (Obj.mapSeq f) (Ne.symm hb)).trans hu) ⟨_, q⟩ ?_
  exact ⟨hz, its', _, hv, q⟩
theorem Inv.lnew {its : List Value} {t' : Nat} (I : Inv X pins σ H s) (hv : Vals ys its) (hz : ys.length ≤ sizeLine) :
    Inv X pins σ (upd H s.heap.objs.size (.lst ys)) { s with heap := s.heap.push { cls := .type "list", data := .seq its.toArray }, toks := t' } :=
  I.laid (fun _ _ q => Heap.get?_push_of_some _ q) (Nat.le_refl _) ⟨hz, its, 0, hv, Heap.get?_push_size _ rfl⟩
theorem Inv.fresh (I : Inv X pins σ H s) : H s.heap.objs.size = none := I.hok.fresh (Nat.le_refl _)
theorem Inv.lstM (I : Inv X pins σ H s) (hH : H l = some (.lst xs)) : xs.length ≤ sizeLine ∧ ∃ (its : List Value) (n : Nat), Vals xs its ∧ xs.length = its.length ∧ s.heap.get? l = some { cls := .type "list", data := .seq its.toArray n } := by
  obtain ⟨z, its, n, r, e⟩ := I.hok l _ hH
  exact ⟨z, its, n, r, r.length, e⟩

end

section
variable {X : Cx}

/-! ### methods -/
def rAppend : V → List V → Hp → VK → Prop := fun x vs H Q => ∃ l xs y, x = .ref l ∧ vs = [y] ∧ H l = some (.lst xs) ∧ xs.length < sizeLine ∧ Q .non (upd H l (.lst (xs ++ [y])))
theorem mt_append : MtM X "list.append" rAppend := by
  intro pins s σ H x vs v us Q I rx rv h
  obtain ⟨l, xs, y, rfl, rfl, hH, hz, q⟩ := h
  cases rx
  obtain ⟨u, rfl, ru⟩ := rv.one
  obtain ⟨z, its, n, r, hl, e⟩ := I.lstM hH
  refine call_meets F.slot_list_append ⟨_, e, rfl⟩ F.entry_list_append (F.args_list_append_2 _ _) (PySem.list_append l its.toArray n u (by rw [List.size_toArray]; omega)) ⟨e, ?_⟩
  refine ⟨.non, _, I.lset (its' := its ++ [u]) hH e (by simp) (r.append (.cons ru .nil)) ?_, rfl, q⟩
  rw [List.length_append, List.length_singleton]
  omega

/-! ### list + list, list += list, list * int -/
def rCat : R2 := fun x y H Q => ∃ l b xs zs, x = .ref l ∧ y = .ref b ∧ H l = some (.lst xs) ∧ H b = some (.lst zs) ∧ xs.length + zs.length ≤ sizeLine ∧ ∀ p, H p = none → Q (.ref p) (upd H p (.lst (xs ++ zs)))
theorem op_cat : OpR X (binaryOp .Add) rCat := by
  intro pins s σ H x y v u Q I rx ry h
  obtain ⟨l, b, xs, zs, rfl, rfl, hH, hB, hz, q⟩ := h
  cases rx
  cases ry
  obtain ⟨z, its, n, r, hl, e⟩ := I.lstM hH
  obtain ⟨z2, its2, n2, r2, hl2, e2⟩ := I.lstM hB
  refine PySem.P.add_list e e2 ?_ (by rw [List.size_toArray, List.size_toArray]; omega)
  have ea : its.toArray ++ its2.toArray = (its ++ its2).toArray := by simp
  rw [ea]
  exact ⟨.ref _, _, I.lnew (t' := s.toks) (r.append r2) (by rw [List.length_append]; omega), rfl, q _ I.fresh⟩

/-! ### del xs[i] -/
end

/-! ### xs[a:b] = ys -/
section
variable {prog : Program} {w : World} {A : Around} {E : Value → Shared → Prop} {s : Shared}
end

section
variable {X : Cx}
end
end L2

namespace L2
open PySem PySem.Spec PyProof.Rows

/-! ### lists of pairs as tables -/
section
variable {κ : Type} [DecidableEq κ]
def valV (kvs : List (κ × V)) (k : κ) : Option V := (kvs.find? fun kv => decide (kv.1 = k)).map (·.2)
/-- in its place, or at the end -/
def putK (kvs : List (κ × V)) (k : κ) (v : V) : List (κ × V) :=
  if (kvs.any fun kv => decide (kv.1 = k)) = true then kvs.map (fun kv => if kv.1 = k then (kv.1, v) else kv) else kvs ++ [(k, v)]

theorem valV_pos {p : κ × V} {r : List (κ × V)} {k : κ} (e : p.1 = k) : valV (p :: r) k = some p.2 := by simp [valV, List.find?_cons, e]
theorem valV_neg {p : κ × V} {r : List (κ × V)} {k : κ} (e : ¬ p.1 = k) : valV (p :: r) k = valV r k := by simp [valV, List.find?_cons, e]
theorem valV_any (k : κ) : ∀ kvs : List (κ × V), (kvs.any fun kv => decide (kv.1 = k)) = (valV kvs k).isSome
  | [] => rfl
  | p :: r => by
    rw [List.any_cons]
    by_cases e : p.1 = k
    · simp only [valV_pos e, decide_eq_true e, Bool.true_or, Option.isSome_some]
    · rw [valV_neg e, decide_eq_false e, Bool.false_or]; exact valV_any k r
theorem length_putK (kvs : List (κ × V)) (k : κ) (v : V) : (putK kvs k v).length ≤ kvs.length + 1 := by
  unfold putK
  split
  · rw [List.length_map]; omega
  · rw [List.length_append, List.length_cons, List.length_nil]; omega
theorem putK_new {kvs : List (κ × V)} {k : κ} (v : V) (h : valV kvs k = none) : putK kvs k v = kvs ++ [(k, v)] := by
  unfold putK
  rw [valV_any, h]
  exact if_neg (by decide)

theorem RelO.isSome_eq {o : Option V} {u : Option Value} (r : RelO o u) : o.isSome = u.isSome := by
  cases o with
  | none => cases u with
    | none => rfl
    | some _ => exact (show False from r).elim
  | some _ => cases u with
    | none => exact (show False from r).elim
    | some _ => rfl

/-- raw tables of the same keys -/
theorem KV.val {kvs : List (κ × V)} {vs : List (κ × Value)} (r : KV kvs vs) (k : κ) : RelO (valV kvs k) (valueAt vs k) := by
  unfold KV at r
  induction r with
  | nil => exact True.intro
  | @cons p q ps qs h t ih =>
    obtain ⟨h1, h2⟩ := h
    by_cases e : p.1 = k
    · have e' : q.1 = k := h1.symm.trans e
      have b : valueAt (q :: qs) k = some q.2 := by simp [valueAt, List.find?_cons, e']
      rw [valV_pos e, b]; exact h2
    · have e' : ¬ q.1 = k := fun z => e (h1.trans z)
      have b : valueAt (q :: qs) k = valueAt qs k := by simp [valueAt, List.find?_cons, e']
      rw [valV_neg e, b]; exact ih
theorem KV.any {kvs : List (κ × V)} {vs : List (κ × Value)} (r : KV kvs vs) (k : κ) : (kvs.any fun kv => decide (kv.1 = k)) = vs.any fun kv => decide (kv.1 = k) := by
  unfold KV at r
  induction r with
  | nil => rfl
  | cons h t ih => rw [List.any_cons, List.any_cons, ih, h.1]
theorem KV.repl {kvs : List (κ × V)} {vs : List (κ × Value)} (r : KV kvs vs) (k : κ) {y : V} {u : Value} (ry : RelV y u) :
    KV (kvs.map fun kv => if kv.1 = k then (kv.1, y) else kv) (vs.map fun kv => if kv.1 = k then (kv.1, u) else kv) := by
  unfold KV at r ⊢
  induction r with
  | nil => exact .nil
  | @cons p q ps qs h t ih =>
    rw [List.map_cons, List.map_cons]
    refine .cons ?_ ih
    obtain ⟨h1, h2⟩ := h
    by_cases e : p.1 = k
    · rw [if_pos e, if_pos (h1.symm.trans e)]; exact ⟨h1, ry⟩
    · rw [if_neg e, if_neg (fun z => e (h1.trans z))]; exact ⟨h1, h2⟩
theorem KV.put {kvs : List (κ × V)} {vs : List (κ × Value)} (r : KV kvs vs) (k : κ) {y : V} {u : Value} (ry : RelV y u) : KV (putK kvs k y) (stored vs k u) := by
  unfold putK stored
  rw [r.any k]
  by_cases e : (vs.any fun kv => decide (kv.1 = k)) = true
  · rw [if_pos e, if_pos e]; exact r.repl k ry
  · rw [if_neg e, if_neg e]; exact Paired.snoc r ⟨rfl, ry⟩
theorem KV.length {kvs : List (κ × V)} {vs : List (κ × Value)} (r : KV kvs vs) : kvs.length = vs.length := Paired.length r
end

/-! ### a tracked dict, its keys ints and texts or tuples of these -/
theorem kV_is {P : Program} {w : World} {k : Key} {u : Value} (r : RelV (kV k) u) : (mixKind P w).is k u = true := by
  cases k with
  | inl i => obtain ⟨t, e⟩ := (show ∃ t, u = Value.int i t from r); subst e; exact mixKind_int P w i t
  | inr x => obtain ⟨t, e⟩ := (show ∃ t, u = Value.str x t from r); subst e; exact mixKind_str P w x t
theorem items_are {P : Program} {w : World} : ∀ {ks : List Key} {us : List Value}, Vals (ks.map kV) us → ItemsAre (mixKind P w) ks us
  | [], _, r => by rw [List.map_nil] at r; cases r; exact .nil
  | k :: ks, _, r => by
    rw [List.map_cons] at r
    cases r with
    | cons h t => exact .cons (kV_is h) (items_are t)

/-- raw entries of a dict with tuple keys -/
abbrev KT (H : Hp) : List (List Key × V) → List (List Key × Addr × Value) → Prop := Paired fun p q => p.1 = q.1 ∧ H q.2.1 = some (.tup (p.1.map kV)) ∧ RelV p.2 q.2.2
theorem KT.val {H : Hp} {kvs : List (List Key × V)} {xs : List (List Key × Addr × Value)} (r : KT H kvs xs) (k : List Key) : RelO (valV kvs k) ((atKey xs k).map (·.2)) := by
  induction r with
  | nil => exact True.intro
  | @cons p q ps qs h t ih =>
    obtain ⟨h1, _, h2⟩ := h
    by_cases e : p.1 = k
    · have e' : q.1 = k := h1.symm.trans e
      have b : atKey (q :: qs) k = some q.2 := by simp [atKey, List.find?_cons, e']
      rw [valV_pos e, b]; exact h2
    · have e' : ¬ q.1 = k := fun z => e (h1.trans z)
      have b : atKey (q :: qs) k = atKey qs k := by simp [atKey, List.find?_cons, e']
      rw [valV_neg e, b]; exact ih
theorem KT.repl {H : Hp} {kvs : List (List Key × V)} {xs : List (List Key × Addr × Value)} (r : KT H kvs xs) (k : List Key) {y : V} {u : Value} (ry : RelV y u) :
    KT H (kvs.map fun kv => if kv.1 = k then (kv.1, y) else kv) (xs.map (putAt k u)) := by
  induction r with
  | nil => exact .nil
  | @cons p q ps qs h t ih =>
    rw [List.map_cons, List.map_cons]
    refine .cons ?_ ih
    obtain ⟨h1, h2, h3⟩ := h
    unfold putAt
    by_cases e : p.1 = k
    · rw [if_pos e, if_pos (h1.symm.trans e)]; exact ⟨h1, h2, ry⟩
    · rw [if_neg e, if_neg (fun z => e (h1.trans z))]; exact ⟨h1, h2, h3⟩
theorem KT.put {H : Hp} {kvs : List (List Key × V)} {xs : List (List Key × Addr × Value)} (r : KT H kvs xs) (k : List Key) {b : Addr} {y : V} {u : Value} (hb : H b = some (.tup (k.map kV))) (ry : RelV y u) :
    KT H (putK kvs k y) (storedH xs k b u) := by
  have e : (kvs.any fun kv => decide (kv.1 = k)) = (atKey xs k).isSome := by
    rw [valV_any, (r.val k).isSome_eq, Option.isSome_map]
  unfold putK storedH
  rw [e]
  by_cases q : (atKey xs k).isSome = true
  · rw [if_pos q, if_pos q]; exact r.repl k ry
  · rw [if_neg q, if_neg q]; exact Paired.snoc r ⟨rfl, hb, ry⟩
theorem KT.keeps {H H' : Hp} {kvs : List (List Key × V)} {xs : List (List Key × Addr × Value)} (r : KT H kvs xs) (ht : ∀ b ys, H b = some (.tup ys) → H' b = some (.tup ys)) : KT H' kvs xs :=
  Paired.mapP r fun _ _ z => ⟨z.1, ht _ _ z.2.1, z.2.2⟩

section
variable {P : Program} {w : World} {H : Hp} {h : Heap} {a : Addr}
theorem rd_of {u : HO} (ok : HOk P w H h) (e : Rd H a u) : ObjOk P w H h a u := e.ok ok
theorem dk_rd {kvs : List (Key × V)} (ok : HOk P w H h) (e : Rd H a (.dK kvs)) : kvs.length ≤ sizeLine ∧ (a == sysModules) = false ∧ ∃ vs, KV kvs vs ∧ h.DictOf (mixKind P w) a vs :=
  show ObjOk P w H h a (.dK kvs) from rd_of ok e
theorem dk_of {kvs : List (Key × V)} (ok : HOk P w H h) (e : H a = some (.dK kvs)) : kvs.length ≤ sizeLine ∧ (a == sysModules) = false ∧ ∃ vs, KV kvs vs ∧ h.DictOf (mixKind P w) a vs := dk_rd ok (.inl e)
/-- a tracked tuple of ints and texts is a key -/
theorem key_of {ks : List Key} (ok : HOk P w H h) (e : H a = some (.tup (ks.map kV))) : (tupleKind (mixKind P w)).is h ks a := by
  obtain ⟨_, its, r, o, h1, h2, n, h3⟩ := (show ObjOk P w H h a (.tup (ks.map kV)) from ok a _ e)
  exact ⟨o, its.toArray, n, h1, h2, h3, by simpa using items_are r⟩
theorem dt_rd {kvs : List (List Key × V)} (ok : HOk P w H h) (e : Rd H a (.dT kvs)) : kvs.length ≤ sizeLine ∧ (a == sysModules) = false ∧
    ∃ xs, KT H kvs xs ∧ h.DictOfH (tupleKind (mixKind P w)) a xs := by
  obtain ⟨z, y, xs, r, o, es, ep, h1, h2, h3, h4, h5⟩ := (show ObjOk P w H h a (.dT kvs) from rd_of ok e)
  refine ⟨z, y, xs, r, o, es, ep, h1, h2, h3, h4, fun x hx => ?_, h5⟩
  have all : ∀ {l : List (List Key × V)} {m : List (List Key × Addr × Value)}, KT H l m → ∀ x ∈ m, (tupleKind (mixKind P w)).is h x.1 x.2.1 := by
    intro l m q
    induction q with
    | nil => intro x hx; exact nomatch hx
    | @cons p q ps qs hq t ih =>
      intro x hx
      rcases List.mem_cons.mp hx with e | hx
      · subst e
        exact key_of ok (by rw [← hq.1]; exact hq.2.1)
      · exact ih x hx
  exact all r x hx
theorem dt_of {kvs : List (List Key × V)} (ok : HOk P w H h) (e : H a = some (.dT kvs)) : kvs.length ≤ sizeLine ∧ (a == sysModules) = false ∧
    ∃ xs, KT H kvs xs ∧ h.DictOfH (tupleKind (mixKind P w)) a xs := dt_rd ok (.inl e)
end

/-- what the dict at a holds at the key y -/
def DGet (H : Hp) (a : Addr) (y : V) (r : Option V) : Prop :=
  (∃ kvs k, Rd H a (.dK kvs) ∧ y = kV k ∧ r = valV kvs k) ∨ ∃ kvs k b, Rd H a (.dT kvs) ∧ y = .ref b ∧ H b = some (.tup (k.map kV)) ∧ r = valV kvs k
/-- the heap behind a[y] = v -/
def DPut (H : Hp) (a : Addr) (y v : V) (H' : Hp) : Prop :=
  (∃ kvs k, H a = some (.dK kvs) ∧ y = kV k ∧ kvs.length < sizeLine ∧ H' = upd H a (.dK (putK kvs k v))) ∨
  ∃ kvs k b, H a = some (.dT kvs) ∧ y = .ref b ∧ H b = some (.tup (k.map kV)) ∧ kvs.length < sizeLine ∧ H' = upd H a (.dT (putK kvs k v))
theorem DGet.t {H : Hp} {a b : Addr} {kvs : List (List Key × V)} {k : List Key} (e : H a = some (.dT kvs)) (eb : H b = some (.tup (k.map kV))) : DGet H a (.ref b) (valV kvs k) := .inr ⟨kvs, k, b, .inl e, rfl, eb, rfl⟩
theorem DPut.t {H : Hp} {a b : Addr} {kvs : List (List Key × V)} {k : List Key} {v : V} (e : H a = some (.dT kvs)) (eb : H b = some (.tup (k.map kV))) (hl : kvs.length < sizeLine) :
    DPut H a (.ref b) v (upd H a (.dT (putK kvs k v))) := .inr ⟨kvs, k, b, e, rfl, eb, hl, rfl⟩

section
variable {X : Cx} {pins : List (Addr × Obj)} {σ : St} {H : Hp} {s : Shared} {a : Addr} {y v : V} {u r : Value} {o : Option V} {A : Around} {E : Value → Shared → Prop}

theorem Inv.big (I : Inv X pins σ H s) : sysModules < s.heap.objs.size := by
  have h : mainGlobals < s.heap.objs.size := (I.mod.glob.keeps I.bk).lt
  exact Nat.lt_trans (by decide) h

/-- d[y], there -/
theorem d_getItem {Q : Value → Shared → Prop} (hu : A.units + 1 < cLine) (I : Inv X pins σ H s) (g : DGet H a y (some v)) (ry : RelV y u) (h : ∀ w' s', Inv X pins σ H s' → RelV v w' → Q w' s') :
    wpAny (model X.prog X.w) A (getItem (.ref a) u) Q E s := by
  rcases g with ⟨kvs, k, e, ey, l⟩ | ⟨kvs, k, b, e, ey, eb, l⟩
  · subst ey
    obtain ⟨z, hd, vs, rel, dd⟩ := dk_rd I.hok e
    obtain ⟨w', hw, rw'⟩ := RelO.some_of (v := v) (o := valueAt vs k) (by rw [l]; exact rel.val k)
    exact wpAny_getItem_of (kV_is ry) dd.mapOf hw (h w' _ (I.tok _) rw')
  · subst ey
    cases (show u = Value.ref b from ry)
    obtain ⟨z, hd, xs, rel, dd⟩ := dt_rd I.hok e
    obtain ⟨w', hw, rw'⟩ := RelO.some_of (v := v) (o := (atKey xs k).map (·.2)) (by rw [l]; exact rel.val k)
    obtain ⟨p, hp, hp2⟩ := Option.map_eq_some_iff.mp hw
    refine wpAny_getItem_heap (tupleKind_room_in1 hu) (key_of I.hok eb) dd hp ?_
    rw [hp2]
    exact h w' _ (I.tok _) rw'
theorem d_notIn {Q : Value → Shared → Prop} (hu : A.units + 1 < cLine) (I : Inv X pins σ H s) (g : DGet H a y o) (ry : RelV y u) (h : ∀ s', Inv X pins σ H s' → Q (.bool (!o.isSome)) s') :
    wpAny (model X.prog X.w) A (compareOp .NotIn u (.ref a)) Q E s := by
  rcases g with ⟨kvs, k, e, ey, l⟩ | ⟨kvs, k, b, e, ey, eb, l⟩
  · subst ey
    obtain ⟨z, hd, vs, rel, dd⟩ := dk_rd I.hok e
    refine wpAny_notIn_of (kV_is ry) hd dd.mapOf ?_
    rw [← (rel.val k).isSome_eq, ← l]
    exact h _ (I.tok _)
  · subst ey
    cases (show u = Value.ref b from ry)
    obtain ⟨z, hd, xs, rel, dd⟩ := dt_rd I.hok e
    refine wpAny_notIn_heap (tupleKind_room_in1 hu) (key_of I.hok eb) hd dd ?_
    have q := (rel.val k).isSome_eq
    rw [Option.isSome_map] at q
    rw [← q, ← l]
    exact h _ (I.tok _)
/-- a dict's object is replaced -/
theorem d_write {h' : Heap} {t' : Nat} {ob : HO} (I : Inv X pins σ H s) (mu : Mut (H a)) (hs : Heap.SameBut a s.heap h') (he : ∃ q, h'.get? a = some q) (new : ObjOk X.prog X.w (upd H a ob) h' a ob) :
    Inv X pins σ (upd H a ob) { s with heap := h', toks := t' } :=
  I.write (x := a) (e := a) mu (.inl rfl) (fun b q hb z => (hs.2 b hb).trans z) he new
theorem dk_new {P : Program} {w : World} {H' : Hp} {h' : Heap} {kvs : List (Key × V)} {vs : List (Key × Value)} (z : kvs.length ≤ sizeLine) (hd : (a == sysModules) = false) (rel : KV kvs vs) (dd : h'.DictOf (mixKind P w) a vs) :
    ObjOk P w H' h' a (.dK kvs) := ⟨z, hd, vs, rel, dd⟩
/-- d[y] = v -/
theorem d_setItem {H' : Hp} {Q : Unit → Shared → Prop} (hu : A.units + 1 < cLine) (I : Inv X pins σ H s) (g : DPut H a y v H') (ry : RelV y u) (rv : RelV v r) (h : ∀ s', Inv X pins σ H' s' → Q () s') :
    wpAny (model X.prog X.w) A (setItem (.ref a) u r) Q E s := by
  rcases g with ⟨kvs, k, e, ey, l, eH⟩ | ⟨kvs, k, b, e, ey, eb, l, eH⟩
  · subst ey eH
    obtain ⟨z, hd, vs, rel, dd⟩ := dk_of I.hok e
    have hz : vs.length ≤ sizeLine := by rw [← rel.length]; exact z
    have hl : (putK kvs k v).length ≤ sizeLine := by have := length_putK kvs k v; omega
    refine wpAny_setItem_pairs (hsz := hz) (kV_is ry) dd fun h' dd' hs => h _ ?_
    have he : ∃ q, h'.get? a = some q := let ⟨q, _, _, hq, _⟩ := dd'; ⟨q, hq⟩
    exact d_write I (by rw [e]; exact True.intro) hs he (dk_new hl hd (rel.put k rv) dd')
  · subst ey eH
    cases (show u = Value.ref b from ry)
    obtain ⟨z, hd, xs, rel, dd⟩ := dt_of I.hok e
    have hz : xs.length ≤ sizeLine := by rw [← Paired.length rel]; exact z
    have hl : (putK kvs k v).length ≤ sizeLine := by have := length_putK kvs k v; omega
    refine wpAny_setItem_heap (hsz := hz) (tupleKind_room_in1 hu) (key_of I.hok eb) dd fun h' dd' hs => h _ ?_
    obtain ⟨q, es, ep, hq, h2, h3, h4, _, h5⟩ := dd'
    refine d_write I (by rw [e]; exact True.intro) hs ⟨q, hq⟩ ⟨hl, hd, _, (rel.put k eb rv).keeps fun c ys ec => ?_, q, es, ep, hq, h2, h3, h4, h5⟩
    rw [upd_ne (ne_of ec e (fun z => nomatch z))]
    exact ec
end

section
variable {X : Cx} {pins : List (Addr × Obj)} {σ : St} {H : Hp} {s : Shared} {a : Addr} {kvs : List (Key × V)} {k : Key} {u : Value} {A : Around} {E : Value → Shared → Prop}
end

/-! ### readings and rules -/
/-- the element of a subscription, not a slice -/
def NoSl (i : Expr) : Prop := ∀ ov iv, subscripted i false ov iv = operate [ov, iv] (getItem ov iv)
theorem subD_of {prog : Program} {w : World} {A : Around} {E : Value → Shared → Prop} {s : Shared} {env : Env} {value slice : Expr} {pos : Pos} {T id : String} {Q : Value → Shared → Prop}
    (hl : typeLookup (.type T) "__getitem__" = pure (some (.builtin id))) (hs : NoSl slice)
    (h : wpAny (model prog w) A (eval value env) (fun o s₁ => wpAny (model prog w) A (eval slice env) (fun i s₂ => s₂.TypeIs o T ∧ wpAny (model prog w) A (getItem o i) Q E s₂) E s₁) E s) :
    wpAny (model prog w) A (eval (.Subscript value slice pos) env) Q E s := by
  refine Subscript_ (wpAny_mono h (fun o s₁ h₁ => wpAny_mono h₁ (fun i s₂ h₂ => ?_) fun _ _ x => x) fun _ _ x => x)
  obtain ⟨hT, h₂⟩ := h₂
  unfold subscriptTail
  refine wpAny_bind ?_
  rw [getitemInPython_of_ne hT.not_modules]
  refine wpAny_bind (wpAny_specialOf hT hl ?_)
  have fin : wpAny (model prog w) A (subscripted slice false o i) (fun r s₃ => wpAny (model prog w) A (letTemporaryGo value o r >>= fun _ => pure r) Q E s₃) E s₂ := by
    rw [hs o i]
    exact wpAny_operating (wpAny_mono h₂ (fun r s₃ h₃ => wpAny_bind (wpAny_letTemporaryGo (wpAny_pure h₃))) fun _ _ x => x)
  first
    | exact wpAny_pure (wpAny_bind fin)
    | exact wpAny_bind (wpAny_pure (wpAny_bind fin))
    | exact wpAny_bind fin

theorem dict_typeIs {X : Cx} {pins : List (Addr × Obj)} {σ : St} {H : Hp} {s : Shared} {a : Addr} {y : V} {o : Option V} (I : Inv X pins σ H s) (g : DGet H a y o) : s.TypeIs (.ref a) "dict" := by
  rcases g with ⟨kvs, k, e, _, _⟩ | ⟨kvs, k, b, e, _, _, _⟩
  · obtain ⟨_, _, vs, _, dd⟩ := dk_rd I.hok e
    exact dd.typeIs
  · obtain ⟨_, _, xs, _, dd⟩ := dt_rd I.hok e
    exact dd.typeIs

/-- d[y] -/
def tDGet (td ty : TE) : TE := fun σ H Q => td σ H fun x H1 => ty σ H1 fun y H2 => ∃ a v, x = .ref a ∧ DGet H2 a y (some v) ∧ Q v H2
def tDNotIn (ty td : TE) : TE := fun σ H Q => ty σ H fun y H1 => td σ H1 fun x H2 => ∃ a o, x = .ref a ∧ DGet H2 a y o ∧ Q (.bl (!o.isSome)) H2
/-- d[y] = v -/
def sDPut (td ty tv : TE) : TS := fun D σ H => tv σ H fun v H1 => td σ H1 fun x H2 => ty σ H2 fun y H3 => ∃ a H4, x = .ref a ∧ DPut H3 a y v H4 ∧ D.nx σ H4

section
variable {X : Cx} {o i e value : Expr} {pos pos' tpos : Pos} {td ty tv : TE}
theorem pe_dget (hu : X.A.units + 1 < cLine) (ho : PE X o td) (hi : PE X i ty) (hs : NoSl i) : PE X (.Subscript o i pos) (tDGet td ty) := by
  intro pins s σ H Q I h
  refine subD_of PySem.F.slot_dict_getitem.lookup hs (thn (ho pins s σ H _ I h) fun u s1 ⟨x, H1, I1, rx, q1⟩ => thn (hi pins s1 σ H1 _ I1 q1) fun iv s2 ⟨y, H2, I2, ry, a, v, ex, g, q2⟩ => ?_)
  subst ex
  obtain rfl : u = Value.ref a := rx
  exact ⟨dict_typeIs I2 g, d_getItem hu I2 g ry fun w' s3 I3 rw' => ⟨v, H2, I3, rw', q2⟩⟩
theorem pc_dnotin (hu : X.A.units + 1 < cLine) (hi : PE X i ty) (ho : PE X o td) : PC X .NotIn i o (tDNotIn ty td) := by
  intro pins s σ H Q I h
  refine thn (hi pins s σ H _ I h) fun iv s1 ⟨y, H1, I1, ry, q1⟩ => thn (ho pins s1 σ H1 _ I1 q1) fun u s2 ⟨x, H2, I2, rx, a, ov, ex, g, q2⟩ => ?_
  subst ex
  obtain rfl : u = Value.ref a := rx
  exact d_notIn hu I2 g ry fun s3 I3 => ⟨.bl (!ov.isSome), H2, I3, rfl, q2⟩
theorem ps_dput (hu : X.A.units + 1 < cLine) (ho : PE X o td) (hi : PE X i ty) (hv : PE X value tv) (hs : swapsWith value (some (.Subscript o i pos')) pos.line X.env = pure false) :
    PS X (.Assign [.Subscript o i pos'] value pos) (sDPut td ty tv) := by
  intro pins s σ H D I h
  refine wpAny_Assign_Subscript (thn (hv pins s σ H _ I h) fun r s1 ⟨v, H1, I1, rv, q1⟩ => thn (ho pins s1 σ H1 _ I1 q1) fun u s2 ⟨x, H2, I2, rx, q2⟩ => thn (hi pins s2 σ H2 _ I2 q2) fun iv s3 ⟨y, H3, I3, ry, a, H4, ex, g, q3⟩ => ?_) hs
  subst ex
  obtain rfl : u = Value.ref a := rx
  exact d_setItem hu I3 g ry rv fun s4 I4 => ⟨σ, H4, I4, q3⟩
end

/-! ### displays -/
theorem dt_empty {P : Program} {w : World} {H : Hp} (h : Heap) (hb : sysModules < h.objs.size) : ObjOk P w H (h.push { cls := .type "dict", data := .dict #[] }) h.objs.size (.dT []) :=
  ⟨Nat.zero_le _, beq_eq_false_iff_ne.mpr (Ne.symm (Nat.ne_of_lt hb)), [], .nil, _, #[], 0, Heap.get?_push_size _ rfl, ⟨rfl, rfl, rfl⟩, rfl, rfl, List.nodup_nil⟩
def tDNewT : TE := fun _ H Q => ∀ p, H p = none → Q (.ref p) (upd H p (.dT []))
section
variable {X : Cx} {pos : Pos}
theorem pe_dnewT : PE X (.Dict [] [] pos) tDNewT := fun pins s σ H Q I h =>
  wpAny_Dict_empty ⟨.ref s.heap.objs.size, _, I.laid (a := s.heap.objs.size) (o := .dT []) (t' := s.toks) (fun _ _ q => Heap.get?_push_of_some _ q) (Nat.le_refl _) (dt_empty s.heap I.big), rfl, h _ (I.hok.fresh (Nat.le_refl _))⟩
end

/-! ### methods -/

section
variable {X : Cx} {pins : List (Addr × Obj)} {σ : St} {H : Hp} {s : Shared} {a : Addr} {y d : V} {u r : Value} {o : Option V} {A : Around} {E : Value → Shared → Prop}
end

section
variable {X : Cx} {o e f : Expr} {apos cpos : Pos} {td ty tx : TE}
end

/-! ### dict(d): a copy -/
section
variable {X : Cx} {pins : List (Addr × Obj)} {σ : St} {H : Hp} {s : Shared} {a : Addr} {kvs : List (Key × V)} {A : Around} {E : Value → Shared → Prop}
end

section
variable {X : Cx} {pins : List (Addr × Obj)} {σ : St} {H : Hp} {s : Shared} {a : Addr} {y : V} {u : Value} {A : Around} {E : Value → Shared → Prop}
end
end L2

namespace Att
open PySem PySem.W PySem.Calls PyProof.Rows

/-! ### the script -/
theorem ints_of_wellAll {P : Params} {h : Heap} : ∀ (ns : List Int) (vs : List Value), WellAll P h vs (ns.map WData.int) → IntsAre vs ns := by
  intro ns
  induction ns with
  | nil =>
    intro vs w
    rw [List.map_nil] at w
    cases w
    exact .nil
  | cons n ns ih =>
    intro vs w
    rw [List.map_cons] at w
    cases w with
    | cons a b =>
      cases a
      exact .cons _ _ (ih _ b)

theorem script_of {l : OpenLaw} {n : Nat} (hn : l.most = some n) {P : Params} {h : Heap} {args : List WData} {vals : List Value}
    (hpre : l.row.toRowW.claim.pre args = true) (hwl : WellAll P h vals args) :
    ∃ a vs ns, vals = [Value.ref a] ∧ args = [WData.list (ns.map WData.int)] ∧ h.get? a = some { cls := .type "list", data := .seq vs.toArray } ∧ IntsAre vs ns ∧ ns.length ≤ n := by
  have hsh : WShape.hasAll [] args [.list .int] = true := (pre_splitW hpre).1
  have hc : l.pre.holds [] { args := args } = true := (pre_splitW hpre).2
  obtain ⟨d, r, rfl, h1, h2⟩ := hasAllW_cons hsh
  obtain rfl := hasAllW_nil h2
  obtain ⟨xs, rfl, h3⟩ := hasW_list h1
  obtain ⟨ns, rfl⟩ := items_int h3
  have hlen : ns.length ≤ n := by
    unfold OpenLaw.pre at hc
    have h4 : (WTm.not (.lt (.lit (.int (n : Int))) (.len (.arg 0)))).holds [] { args := [.list (ns.map .int)] } = true := by
      have h4 := (holds_andW hc).1
      rw [hn] at h4
      exact h4
    have h5 := condW_of h4 (w_not (w_lt w_lit (w_len_list (w_arg rfl))))
    rw [List.length_map] at h5
    refine Nat.le_of_not_lt fun q => ?_
    have q' : (n : Int) < ((ns.length : Nat) : Int) := by omega
    first
      | (rw [decide_eq_true q'] at h5; exact absurd h5 (by decide))
      | (simp at h5; omega)
  cases hwl with
  | cons w1 w2 =>
    cases w2
    cases w1 with
    | list ho hall => exact ⟨_, _, ns, rfl, rfl, ho, ints_of_wellAll ns _ hall, hlen⟩

theorem post_true (l : OpenLaw) (args : List WData) : l.row.toRowW.claim.post args (.bool true) args = true :=
  postW_of (r := l.row.toRowW) (X := (true == true))
    (show WShape.has [] (.bool true) .bool = true by first | rfl | decide | simp [WShape.has, WShape.arms, WShape.armsAll])
    (show (WTm.eq .res (.lit (.bool true))).value [] { args := args, res := some (.bool true), after := args } = some (.bool (true == true)) from w_eq_bool (w_res rfl) w_lit) rfl

/-! ### the attachment: holds_open's last premise (the goal 'hc' behind k_head) from a wpAny of the law's body -/

/-- the same from a codeAny of the CALL (for a layer whose function contracts speak of calls) -/
theorem attach_call {l : OpenLaw} {n : Nat} {q : Program} {loose : List Str} {XP : (Str → Option Value) → Heap → Prop} {YP : World → Heap → Prop} {d : DefRec}
    (hn : l.most = some n) (hdf : d.params.defaults = [])
    (call : ∀ (w : World) (s₀ s₁ : Shared) (mg mb : Str → Option Value) (fa : Addr) (o : Obj) (pm cd doc : Value) (a : Addr) (vs : List Value) (ns : List Int),
      Ground q loose [] XP w s₀ mg mb s₁.heap → YP w s₁.heap →
      s₁.heap.get? fa = some o → o.data = .func (docDef d.name d.params d.body d.scope pm cd doc) → s₁.heap.CodeRec cd d.name → mg d.name = some (.ref fa) →
      s₁.heap.get? a = some { cls := .type "list", data := .seq vs.toArray } → IntsAre vs ns → ns.length ≤ n → s₁.gens = #[] →
      codeAny (model l.prog w) callerA (.call (.ref fa) ⟨[.ref a], []⟩) (fun r s' => r = .ok (.ret (.bool true)) ∧ OldK s₁.heap s'.heap ∧ s'.os = s₁.os ∧ AllBare s'.gens) s₁) :
    WalkO q loose XP YP l.row.toRowW d [] (fun f vs => PySem.call f vs) := by
  intro w s₀ s₁ mg mb G Y fa o pm cd doc dV kV ho hd hcd hD hmg hg args vals as hpre hlay hrd hwl hlo
  obtain rfl : dV = .none := Dflts.none hD hdf
  obtain rfl : kV = .none := Dflts.noKw hD
  obtain ⟨a, vs, ns, rfl, rfl, hobj, hints, hlen⟩ := script_of hn hpre hwl
  refine enter_call (codeAny_mono (call w s₀ s₁ mg mb fa o pm cd doc a vs ns G Y ho (fd_plain hd) hcd hmg hobj hints hlen hg) fun r s' hq => ?_)
  obtain ⟨rfl, h2, h3, h4⟩ := hq
  exact ⟨.inl ⟨.bool true, .bool true, [], rfl, fun _ => rfl, .bool true, post_true l _, fun _ => ⟨List.Pairwise.nil, fun _ hm => (nomatch hm)⟩⟩, h2, h3, h4⟩

/-! ### rules over ANY heap (no ledger) from facts about the written part K: the library's own take a ledger (News) for what they write -/
section
variable {prog : Program} {w : World} {A : Around} {E : Value → Shared → Prop} {s : Shared} {K : Frag}

/-! the whole heap as the ledger: makes every rule that writes through a ledger a rule over any heap -/

end
end Att

namespace L2
open PySem PySem.Spec PyProof.Rows

theorem vals_ints : ∀ {vs : List Value} {ns : List Int}, IntsAre vs ns → Vals (ns.map V.int) vs
  | _, _, .nil => .nil
  | _, _, .cons n t h => .cons ⟨t, rfl⟩ (vals_ints h)

/-- nothing is tracked but the script, known to the object (or it is an object of the module) -/
def Only (H : Hp) : Prop := ∀ b, H b = none ∨ ∃ o xs, H b = some (.frz o (.lst xs))

/-- THE HEAD: the law's promise, at the heap behind the top. F, the promise of the law's def, may use that base is part of the heap (so K.In base, base.Ns mainGlobals mg stand in Mod) -/
theorem law_call {P : Program} {w : World} {K : PySem.W.Frag} {mg mb : Str → Option Value} {CX : CXT} {k : Nat} {fa a : Addr} {fd : FuncData} {x : Str} {sp : Sp} {s₁ : Shared} {vs : List Value} {ns : List Int}
    (KX : K.In s₁.heap) (hns : s₁.heap.Ns mainGlobals mg) (hb : s₁.heap.Ns builtinsNs mb) (hbb : ∀ x : Str, x ≠ "__name__" → mb x = bootBuiltins x) (hlim : s₁.heap.NoLimit) (hg : s₁.gens = #[])
    (ha : s₁.heap.get? a = some { cls := .type "list", data := .seq vs.toArray }) (hi : IntsAre vs ns) (hl : ns.length ≤ sizeLine) (hr : Room k callerA)
    (F : ∀ base : Heap, K.In base → base.Ns mainGlobals mg → FnOk P w K mg base CX k fa fd [x] sp) (hbind : ∀ (s : Shared) (u : Value), BindsTo s fd ⟨[u], []⟩ [(x, u)])
    (hsp : ∀ H : Hp, Only H → SqL K H a (ns.map V.int) → sp [.ref a] H (fun v _ => v = .bl true) fun _ _ _ => False)
    (hCX : ∀ H e s', CX [] H s₁ (fun _ _ _ => False) e s' → False) :
    codeAny (model P w) callerA (.call (.ref fa) ⟨[.ref a], []⟩) (fun r s' => r = .ok (.ret (.bool true)) ∧ OldK s₁.heap s'.heap ∧ s'.os = s₁.os ∧ AllBare s'.gens) s₁ := by
  have rv := vals_ints hi
  have lenV := hi.length
  -- from an abstract heap in which nothing but the script may be tracked
  have core : ∀ H : Hp, Only H → SqL K H a (ns.map V.int) → HOk P w H s₁.heap → (∀ b, H b ≠ none → b = a) → (H a ≠ none → K.lookup a = none) →
      codeAny (model P w) callerA (.call (.ref fa) ⟨[.ref a], []⟩) (fun r s' => r = .ok (.ret (.bool true)) ∧ OldK s₁.heap s'.heap ∧ s'.os = s₁.os ∧ AllBare s'.gens) s₁ := by
    intro H hO hS hok hA hK
    have base_of : ∀ {b : Addr} {o : Obj}, s₁.heap.get? b = some o → H b = none → (hidT s₁.heap H).get? b = some o := fun e n => hidT_get e n
    have noA : ∀ {b : Addr} {o : Obj} {es : Array DictEntry} {ep : Nat}, s₁.heap.get? b = some o → o.data = .dict es ep → H b = none := fun {b o es ep} e d => by
      cases q : H b with
      | none => rfl
      | some u =>
        have e' : b = a := hA b (by rw [q]; simp)
        subst e'
        rw [ha] at e; cases e
        have d' : Data.seq vs.toArray _ = Data.dict es ep := d
        cases d'
    have nsK : ∀ {b : Addr} {m : Str → Option Value}, s₁.heap.Ns b m → (hidT s₁.heap H).Ns b m := fun {b m} ⟨o, es, ep, e, d, r⟩ => ⟨o, es, ep, base_of e (noA e d), d, r⟩
    have hKb : K.In (hidT s₁.heap H) := fun b o e => base_of (KX b o e) (by
      cases q : H b with
      | none => rfl
      | some u =>
        have e' : b = a := hA b (by rw [q]; simp)
        subst e'
        rw [hK (by rw [q]; simp)] at e; cases e)
    have hM : Mod K mg (hidT s₁.heap H) := ⟨hKb, nsK hns, ⟨mb, nsK hb, hbb⟩, let ⟨mc, h1, h2⟩ := hlim; ⟨mc, nsK h1, h2⟩⟩
    have e0 : Env0 P w K mg (hidT s₁.heap H) callerA [] s₁ H := ⟨rfl, hM, fun b o e => of_hidT e, Nat.le_of_eq (hidT_size _ _), trivial, fun b hb => absurd (show b ∈ ([] : List Addr) from hb) (by simp), hok, .of_eq hg⟩
    refine codeAny_mono ((F _ hKb (nsK hns)).run callerA [] s₁ H ⟨[.ref a], []⟩ [.ref a] [.ref a] _ _ hr e0 (hbind s₁ (.ref a)) (.cons rfl .nil) (hsp H hO hS)) fun r s' h => ?_
    cases r with
    | error e => exact (hCX H e s' h).elim
    | ok fl =>
      cases fl with
      | next => exact False.elim h
      | brk => exact False.elim h
      | cont => exact False.elim h
      | ret u =>
        obtain ⟨v, H', os, bare, un, hok', r', q⟩ := h
        have q' : v = .bl true := q
        subst q'
        obtain rfl : u = Value.bool true := r'
        refine ⟨rfl, OldK.of_keep fun b o e => ?_, os, bare⟩
        cases q : H b with
        | none => exact un.keep b o e q (by intro z; exact absurd (show b ∈ ([] : List Addr) from z) (by simp)) (by simp)
        | some u =>
          rcases hO b with z | ⟨ob, xs, z⟩
          · rw [q] at z; cases z
          · have z2 := un.frzs b ob _ z
            obtain ⟨e1, _⟩ := hok b _ z
            obtain ⟨e2, _⟩ := hok' b _ z2
            rw [e] at e1; cases e1
            exact e2
  cases hk : K.lookup a with
  | some o =>
    -- the script is one of the module's own objects
    have e := KX a o hk
    rw [ha] at e
    cases e
    refine core (fun _ => none) (fun _ => .inl rfl) (.inr ⟨_, vs.toArray, _, hk, rfl, rfl, rfl, by rw [List.size_toArray, lenV]; exact hl, by simpa using rv⟩) (fun b u z => by have z' : (none : Option HO) = some u := z; cases z') (fun b z => absurd rfl z) fun z => absurd rfl z
  | none =>
    refine core (fun b => if b = a then some (.frz { cls := .type "list", data := .seq vs.toArray } (.lst (ns.map V.int))) else none) (fun b => ?_) (.inl (.inr ⟨{ cls := .type "list", data := .seq vs.toArray }, if_pos rfl⟩)) (fun b u z => ?_) (fun b z => ?_) fun _ => hk
    · by_cases hb : b = a
      · exact .inr ⟨_, _, if_pos hb⟩
      · exact .inl (if_neg hb)
    · by_cases hb : b = a
      · have z' := (if_pos hb).symm.trans z
        cases z'
        subst hb
        exact ⟨ha, by rw [List.length_map]; exact hl, vs, _, rv, ha⟩
      · have z' := (if_neg hb).symm.trans z
        cases z'
    · by_cases hb : b = a
      · exact hb
      · exact absurd (if_neg hb) z
end L2

namespace L2
open PySem PySem.Spec PyProof.Rows

/-- the goal that k_head leaves (case hc), from the law's promise. F gives the function object fd (K's own) once, then the promise over every base -/
theorem walk_of {l : PySem.W.OpenLaw} {n k : Nat} {q : Program} {loose : List Str} {XP : (Str → Option Value) → Heap → Prop} {YP : World → Heap → Prop} {d : DefRec} {K : Params → PySem.W.Frag} {CX : World → CXT} {sp : World → Sp} {x : Str}
    (hn : l.most = some n) (hn2 : n ≤ sizeLine) (hdf : d.params.defaults = []) (hr : Room k callerA)
    (hY : ∀ (w : World) (h : Heap), YP w h → (K w.params).In h)
    (F : ∀ (w : World) (mg : Str → Option Value) (fa : Addr) (h : Heap), (K w.params).In h → h.Ns mainGlobals mg → mg d.name = some (.ref fa) →
      ∃ fd : FuncData, (∀ (s : Shared) (u : Value), BindsTo s fd ⟨[u], []⟩ [(x, u)]) ∧
        ∀ base : Heap, (K w.params).In base → base.Ns mainGlobals mg → FnOk l.prog w (K w.params) mg base (CX w) k fa fd [x] (sp w))
    (hsp : ∀ (w : World) (H : Hp) (a : Addr) (ns : List Int), ns.length ≤ n → Only H → SqL (K w.params) H a (ns.map V.int) → sp w [.ref a] H (fun v _ => v = .bl true) fun _ _ _ => False)
    (hCX : ∀ (w : World) (H : Hp) (s : Shared) (e : Value) (s' : Shared), CX w [] H s (fun _ _ _ => False) e s' → False) :
    PySem.W.WalkO q loose XP YP l.row.toRowW d [] (fun f vs => PySem.call f vs) := by
  refine Att.attach_call hn hdf fun w s₀ s₁ mg mb fa o pm cd doc a vs ns G Y ho hd hcd hmg hobj hints hlen hg => ?_
  have KX := hY w _ Y
  obtain ⟨fd, hb, hF⟩ := F w mg fa _ KX G.T.g hmg
  exact law_call KX G.T.g G.T.b G.T.builtins G.T.nolimit hg hobj hints (Nat.le_trans hlen hn2) hr hF hb (fun H hO hS => hsp w H a ns hlen hO hS) fun H e s' => hCX w H s₁ e s'
/-- the same where the promise hangs on the written part alone: (sp := My.sp_law), no hole under a binder -/
theorem walk_ofK {l : PySem.W.OpenLaw} {n k : Nat} {q : Program} {loose : List Str} {XP : (Str → Option Value) → Heap → Prop} {YP : World → Heap → Prop} {d : DefRec} {K : Params → PySem.W.Frag} {CX : CXT} {sp : PySem.W.Frag → Sp} {x : Str}
    (hn : l.most = some n) (hn2 : n ≤ sizeLine) (hdf : d.params.defaults = []) (hr : Room k callerA)
    (hY : ∀ (w : World) (h : Heap), YP w h → (K w.params).In h)
    (F : ∀ (w : World) (mg : Str → Option Value) (fa : Addr) (h : Heap), (K w.params).In h → h.Ns mainGlobals mg → mg d.name = some (.ref fa) →
      ∃ fd : FuncData, (∀ (s : Shared) (u : Value), BindsTo s fd ⟨[u], []⟩ [(x, u)]) ∧
        ∀ base : Heap, (K w.params).In base → base.Ns mainGlobals mg → FnOk l.prog w (K w.params) mg base CX k fa fd [x] (sp (K w.params)))
    (hsp : ∀ (K : PySem.W.Frag) (H : Hp) (a : Addr) (ns : List Int), ns.length ≤ n → Only H → SqL K H a (ns.map V.int) → sp K [.ref a] H (fun v _ => v = .bl true) fun _ _ _ => False)
    (hCX : ∀ (H : Hp) (s : Shared) (e : Value) (s' : Shared), CX [] H s (fun _ _ _ => False) e s' → False) :
    PySem.W.WalkO q loose XP YP l.row.toRowW d [] (fun f vs => PySem.call f vs) :=
  walk_of (K := K) (CX := fun _ => CX) (sp := fun w => sp (K w.params)) hn hn2 hdf hr hY F (fun w H a ns h1 h2 h3 => hsp (K w.params) H a ns h1 h2 h3) fun _ H s e s' => hCX H s e s'
end L2

/- THE LAST THEOREM (shape; LID, My.* are yours):
   My.Adr: a structure of the addresses that your layer names (classes, functions); My.Txt K t: a structure (Prop) of the equations over K;
   My.txt_mk : {K} {implicit addresses ..} (e1 : nsIn K mainGlobals "law" = some (some (.ref f))) (e2 : K.lookup f = some ⟨oc, od, .func (fnOf "law" "law" params body scope dV kV doc pm an cdv ct), sl⟩) (e3 : codeIn K cdv "law" = true) .. : ∃ t, My.Txt K t

set_option maxRecDepth 100000 in
set_option maxHeartbeats 0 in
theorem PySem.Challenge.cw_LID_holds : PySem.Challenge.rw_LID.Holds := by
  w_on; o_law; k_head; (case hw => w_witness2)
  k_fill
  refine L2.walk_of (l := PySem.Challenge.rw_LID) (n := 63) (k := 40) (x := "script") (CX := fun w => ..) (sp := fun _ => My.sp_law) rfl (by decide) rfl ⟨rfl, by decide, by decide⟩ (fun w h Y => PySem.W.kIn_of Y) ?F ?S ?C
  case F =>
    intro w mg fa h KX G hmg
    have T : ∃ t, My.Txt (L2.KOf KX) t := by
      dsimp only [L2.KOf]                          -- K must stand as «<heap const> w.params» for k_is
      refine' My.txt_mk ?e1 ?e2 ?e3 ..
      (case e1 => PySem.W.k_is)                    -- in the order: a name -> its address -> its object -> its parts
      (case e2 => PySem.W.k_is)
      ..
    obtain ⟨t, T⟩ := T
    have e0 := hmg.symm.trans (PySem.W.mg_of KX G T.law)
    cases e0                                       -- fa is the law's own address
    exact ⟨_, fun s u => .of_eq rfl, fun base kb nb => My.law_fn T kb nb⟩     -- if «.of_eq rfl» comes too early: refine' ⟨_, ?b, fun base kb nb => My.law_fn T kb nb⟩; exact fun s u => .of_eq rfl
  case S => exact fun w H a ns hl hO hS => ..
  case C => exact ..
(the tactic k_is has no namespace: write k_is) -/

/-! SHORT WORDS over the layer: a def of the text, its body, what a loop and a test want. -/
namespace L2
open PySem PySem.Spec PyProof.Rows

/-! ### the text by places -/
/-- the j-th statement of a class's body -/
def inClass (s : Stmt) (j : Nat) : Stmt := match s with
  | .ClassDef _ _ _ body _ _ _ _ _ _ _ => body.getD j (.Pass ⟨0, 0, 0, 0⟩)
  | _ => .Pass ⟨0, 0, 0, 0⟩
def defArgs (s : Stmt) : Arguments := match s with
  | .FunctionDef _ a _ _ _ _ _ _ _ _ => a
  | _ => { posonlyargs := [], args := [], vararg := none, kwonlyargs := [], kw_defaults := [], kwarg := none, defaults := [] }
def defBody (s : Stmt) : List Stmt := match s with
  | .FunctionDef _ _ b _ _ _ _ _ _ _ => b
  | _ => []
def defScope (s : Stmt) : Scope := match s with
  | .FunctionDef _ _ _ _ _ _ sc _ _ _ => sc
  | _ => { kind := .function, names := [], isGenerator := false, isCoroutine := false }

/-! ### no exception leaves a def -/
abbrev CX0 : CXT := fun _ _ _ _ _ _ => False
abbrev E0 : XK := fun _ _ _ => False
theorem pass0 {X : Cx} : Passes CX0 X E0 := fun _ _ _ _ _ _ _ h => h.elim

/-! ### a def (or method) of the text as it stands behind the top -/
structure Fun (K : PySem.W.Frag) (x qual : Str) (st : Stmt) (f : Addr) (fd : FuncData) : Prop where
  ex : ∃ (oc : Value) (od : Option Addr) (kV doc pm : Value) (an : Option Addr) (cdv ct : Value) (osl : Array (Option Value)),
    fd = PySem.W.fnOf x qual (defArgs st) (defBody st) (defScope st) .none kV doc pm an cdv ct ∧ K.lookup f = some ⟨oc, od, .func fd, osl⟩ ∧ PySem.W.codeIn K cdv qual = true
  kp : PySem.W.keepIn K (.ref f) = true
section
variable {P : Program} {w : World} {K : PySem.W.Frag} {mg : Str → Option Value} {base : Heap}
/-- THE RULE for a def: its body as a term of rules, and the reading of that term -/
theorem Fun.ok {x qual : Str} {st : Stmt} {f : Addr} {fd : FuncData} {N ps : List Str} {k : Nat} {sp : Sp} (F : Fun K x qual st f fd) (S : FnScope N ps (defScope st)) (len : ∀ vs H Q E, sp vs H Q E → vs.length = ps.length)
    (hbody : ∀ (cdv : Value) (A : Around) (outer : List Env) (s : Shared) (H : Hp) (vs : List V) (Q : VK) (E : XK), Room k (A.deeper (envOfC qual (defScope st) s.heap.objs.size f cdv)) → sp vs H Q E →
      ∃ t, PSs (cxOf CX0 P w K mg base N qual (defScope st) f cdv A outer s H E).nox (defBody st) t ∧ t { nx := fun _ H' => Q .non H', rt := Q } (start N vs) H) : FnOk P w K mg base CX0 (k + 1) f fd ps sp := by
  obtain ⟨oc, od, kV, doc, pm, an, cdv, ct, osl, rfl, lk, hcd⟩ := F.ex
  refine fn_of lk hcd S len fun A outer s H vs Q E hr hsp => ?_
  obtain ⟨t, h, q⟩ := hbody cdv A outer s H vs Q E hr hsp
  exact ⟨t, h.nox, q⟩
/-- how its arguments bind (no defaults): h is «fun _ _ _ _ _ _ us hl => match us, hl with | [_, _], _ => rfl», one _ a parameter -/
theorem Fun.binds {x qual : Str} {st : Stmt} {f : Addr} {fd : FuncData} {ps : List Str} (F : Fun K x qual st f fd)
    (h : ∀ (kV doc pm : Value) (an : Option Addr) (cdv ct : Value) (us : List Value), us.length = ps.length → bindArgs (PySem.W.fnOf x qual (defArgs st) (defBody st) (defScope st) .none kV doc pm an cdv ct) ⟨us, []⟩ = pure (ps.zip us)) : Binds K fd ps [] := by
  obtain ⟨oc, od, kV, doc, pm, an, cdv, ct, osl, rfl, lk, hcd⟩ := F.ex
  exact .all (h kV doc pm an cdv ct)
theorem fun_mk {x qual : Str} {st : Stmt} {f : Addr} {oc : Value} {od an : Option Addr} {osl : Array (Option Value)} {kV doc pm cdv ct : Value} (l : K.lookup f = some ⟨oc, od, .func (PySem.W.fnOf x qual (defArgs st) (defBody st) (defScope st) .none kV doc pm an cdv ct), osl⟩)
    (c : PySem.W.codeIn K cdv qual = true) (k : PySem.W.keepIn K (.ref f) = true) : Fun K x qual st f (PySem.W.fnOf x qual (defArgs st) (defBody st) (defScope st) .none kV doc pm an cdv ct) := ⟨⟨oc, od, kV, doc, pm, an, cdv, ct, osl, rfl, l, c⟩, k⟩
end
theorem hu_of {A : Around} {k : Nat} (hr : Room k A) : A.units + 1 < cLine := Nat.lt_of_le_of_lt (Nat.add_le_add_left (by decide : 1 ≤ 64) _) hr.units
theorem small1000 {n : Nat} (h : n ≤ 1000) : n < sizeLine := Nat.lt_of_le_of_lt h (by decide)

/-! ### expressions in short: the name that stands in the i-th slot -/
section
variable {X : Cx}
end

/-! ### tests -/
theorem iteF {A B : Prop} (h : B) : if false = true then A else B := by
  rw [if_neg Bool.false_ne_true]
  exact h
theorem iteT {A B : Prop} (h : A) : if true = true then A else B := by
  rw [if_pos rfl]
  exact h
theorem ite2 {c A B : Prop} [Decidable c] (h1 : c → A) (h2 : ¬ c → B) : if c then A else B := by
  by_cases h : c
  · rw [if_pos h]
    exact h1 h
  · rw [if_neg h]
    exact h2 h
theorem iteNS {c A B : Prop} [Decidable c] (hc : c) (h : B) : if (!decide c) = true then A else B := by
  rw [decide_eq_true hc]
  exact iteF h

/-! ### heaps -/
/-- all that was tracked is as it was -/
def Same (H H' : Hp) : Prop := ∀ b o, H b = some o → H' b = some o
theorem Same.refl (H : Hp) : Same H H := fun _ _ h => h
theorem Same.trans {H H1 H2 : Hp} (a : Same H H1) (b : Same H1 H2) : Same H H2 := fun c o h => b c o (a c o h)
theorem Same.free {H H' : Hp} (e : Same H H') {l : Addr} (h : H' l = Option.none) : H l = Option.none := by
  cases q : H l with
  | none => rfl
  | some o =>
    rw [e l o q] at h
    cases h
theorem Same.seq {K : PySem.W.Frag} {H H' : Hp} {a : Addr} {xs : List V} (e : Same H H') (h : SqL K H a xs) : SqL K H' a xs := by
  rcases h with (h | ⟨o, h⟩) | h
  · exact .inl (.inl (e _ _ h))
  · exact .inl (.inr ⟨o, e _ _ h⟩)
  · exact .inr h

/-! ### a dict's pairs: keys that differ -/
section
variable {κ : Type} [DecidableEq κ]
end
end L2

set_option linter.all false
set_option maxRecDepth 100000
set_option maxHeartbeats 400000
/-! comprehensions over the layer -/
namespace L2
open PySem PySem.Spec PyProof.Rows

theorem lookup_mapg {g : Str → Addr} (y : Str) : ∀ l : List Str, (l.map fun n => (n, g n)).lookup y = if y ∈ l then some (g y) else none
  | [] => by simp
  | n :: r => by
    rw [List.map_cons, List.lookup_cons]
    by_cases e : y = n
    · subst e; simp
    · have hb : (y == n) = false := beq_eq_false_iff_ne.mpr e
      rw [hb, lookup_mapg y r]
      simp [e]
/-- the cells that a comprehension takes with it -/
def closL (env : Env) (names : List (Str × NameKind)) : List (Str × Addr) :=
  ((names.filter fun x => decide (x.2 = .free)).map (·.1)).reverse.map fun n => (n, (env.cells.lookup n).getD 0)
theorem closL_lookup {env : Env} {names : List (Str × NameKind)} {y : Str} : (closL env names).lookup y = if (y, NameKind.free) ∈ names then some ((env.cells.lookup y).getD 0) else none := by
  unfold closL
  rw [lookup_mapg (g := fun n => (env.cells.lookup n).getD 0)]
  have e : (y ∈ ((names.filter fun x => decide (x.2 = NameKind.free)).map (·.1)).reverse) ↔ (y, NameKind.free) ∈ names := by
    rw [List.mem_reverse, List.mem_map]
    constructor
    · rintro ⟨⟨n, k⟩, h1, rfl⟩
      have h2 := List.mem_filter.mp h1
      have h3 : k = NameKind.free := by simpa using h2.2
      rw [h3] at h2
      exact h2.1
    · intro h
      exact ⟨(y, .free), List.mem_filter.mpr ⟨h, by simp⟩, rfl⟩
  by_cases h : (y, NameKind.free) ∈ names
  · rw [if_pos (e.mpr h), if_pos h]
  · rw [if_neg (fun q => h (e.mp q)), if_neg h]
theorem forIn_clos {env : Env} : ∀ (names : List (Str × NameKind)) (cs : List (Str × Addr)), (∀ x ∈ names, x.2 = .free → ∃ c, env.cells.lookup x.1 = some c) →
    (forIn names cs fun (x : Str × NameKind) (r : List (Str × Addr)) => (if (x.2 == NameKind.free) = true then (cellOf env x.1 >>= fun c => pure (ForInStep.yield ((x.1, c) :: r))) else pure (ForInStep.yield r) : Sem (ForInStep (List (Str × Addr)))))
      = pure (closL env names ++ cs)
  | [], cs, _ => rfl
  | (n, k) :: r, cs, h => by
    rw [List.forIn_cons]
    by_cases hk : k = .free
    · subst hk
      obtain ⟨c, hc⟩ := h (n, .free) List.mem_cons_self rfl
      have e : cellOf env n = pure c := by
        unfold cellOf
        rw [hc]
      have ih := forIn_clos r ((n, c) :: cs) (fun x hx => h x (List.mem_cons_of_mem _ hx))
      simp only [beq_self_eq_true, if_true, e, pure_bind]
      rw [ih]
      unfold closL
      simp [hc]
    · have hb : (k == NameKind.free) = false := by simpa using hk
      have ih := forIn_clos r cs (fun x hx => h x (List.mem_cons_of_mem _ hx))
      simp only [hb, Bool.false_eq_true, if_false, pure_bind]
      rw [ih]
      unfold closL
      simp [hk]
theorem closureFor_cells {sc : Scope} {env : Env} (h : ∀ x ∈ sc.names, x.2 = .free → ∃ c, env.cells.lookup x.1 = some c) : closureFor sc env = pure (closL env sc.names) := by
  have e := forIn_clos (env := env) sc.names [] h
  rw [List.append_nil] at e
  unfold closureFor
  show (forIn sc.names [] _ >>= _) = _
  refine Eq.trans (congrArg (fun m => m >>= _) e) ?_
  rw [pure_bind]
theorem relabel_free {env : Env} (hf : env.scope.kind = .function) : ∀ {names : List (Str × NameKind)} {x : Str}, names.lookup x = some .free → env.kindOf x = some .cell →
    (names.map fun (n, k) => if (k == NameKind.free && env.scope.kind == .function && env.kindOf n == some .cell) then (n, NameKind.cell) else (n, k)).lookup x = some .cell
  | [], _, h, _ => by simp at h
  | (n, k) :: r, x, h, hc => by
    have ih := @relabel_free env hf r x
    show List.lookup x ((if (k == NameKind.free && env.scope.kind == .function && env.kindOf n == some .cell) = true then (n, NameKind.cell) else (n, k)) :: _) = _
    cases hx : x == n with
    | true =>
      have e : x = n := eq_of_beq hx
      subst e
      simp only [List.lookup_cons, hx] at h
      cases h
      have c : ((NameKind.free == NameKind.free) && env.scope.kind == .function && env.kindOf x == some NameKind.cell) = true := by simp [hf, hc]
      rw [if_pos c]
      simp [List.lookup_cons, hx]
    | false =>
      simp only [List.lookup_cons, hx] at h
      by_cases hc' : (k == NameKind.free && env.scope.kind == .function && env.kindOf n == some .cell) = true
      · rw [if_pos hc']; simp only [List.lookup_cons, hx]; exact ih h hc
      · rw [if_neg hc']; simp only [List.lookup_cons, hx]; exact ih h hc
/-- kinds behind the relabelling come from the scope -/
theorem relabel_kind {env : Env} : ∀ {names : List (Str × NameKind)} {x : Str} {k' : NameKind},
    (names.map fun (n, k) => if (k == NameKind.free && env.scope.kind == .function && env.kindOf n == some .cell) then (n, NameKind.cell) else (n, k)).lookup x = some k' →
    ∃ k, names.lookup x = some k ∧ (k' = k ∨ (k = .free ∧ k' = .cell))
  | [], _, _, h => by simp at h
  | (n, k) :: r, x, k', h => by
    have ih := @relabel_kind env r x k'
    change List.lookup x ((if (k == NameKind.free && env.scope.kind == .function && env.kindOf n == some .cell) = true then (n, NameKind.cell) else (n, k)) :: _) = _ at h
    cases hx : x == n with
    | true =>
      by_cases hc' : (k == NameKind.free && env.scope.kind == .function && env.kindOf n == some .cell) = true
      · rw [if_pos hc'] at h
        simp only [List.lookup_cons, hx] at h
        have hk : k = .free := by simp at hc'; exact hc'.1.1
        exact ⟨k, by simp only [List.lookup_cons, hx], .inr ⟨hk, (Option.some.inj h).symm⟩⟩
      · rw [if_neg hc'] at h
        simp only [List.lookup_cons, hx] at h
        exact ⟨k, by simp only [List.lookup_cons, hx], .inl (Option.some.inj h).symm⟩
    | false =>
      by_cases hc' : (k == NameKind.free && env.scope.kind == .function && env.kindOf n == some .cell) = true
      · rw [if_pos hc'] at h
        simp only [List.lookup_cons, hx] at h ⊢
        exact ih h
      · rw [if_neg hc'] at h
        simp only [List.lookup_cons, hx] at h ⊢
        exact ih h

/-- what is seen of a comprehension's scope: esc the scope around it; fr: the names of the frame that it takes, ix their slots -/
structure CompSc (esc sc : Scope) (N fr : List Str) (ix : List Nat) : Prop where
  k1 : sc.kind = .function
  a1 : ∀ y ∈ sc.names, y.2 ≠ .cell
  a2 : ∀ y ∈ sc.names, y.2 = .local → sc.names.lookup y.1 = some .local
  a3 : ∀ y ∈ sc.names, y.2 = .free → esc.names.lookup y.1 = some .cell
  a4 : fr.length = ix.length
  a5 : ∀ q ∈ fr.zip ix, N[q.2]? = some q.1 ∧ esc.names.lookup q.1 = some .cell ∧ sc.names.lookup q.1 = some .free

/-- .. by a look -/
def compChk (esc sc : Scope) (N fr : List Str) (ix : List Nat) : Bool :=
  decide (sc.kind = .function) && (sc.names.all fun y => decide (y.2 ≠ .cell) && (!decide (y.2 = .local) || decide (sc.names.lookup y.1 = some .local)) && (!decide (y.2 = .free) || decide (esc.names.lookup y.1 = some .cell))) && decide (fr.length = ix.length) &&
    ((fr.zip ix).all fun q => decide (N[q.2]? = some q.1) && decide (esc.names.lookup q.1 = some .cell) && decide (sc.names.lookup q.1 = some .free))
theorem CompSc.of {esc sc : Scope} {N fr : List Str} {ix : List Nat} (h : compChk esc sc N fr ix = true) : CompSc esc sc N fr ix := by
  unfold compChk at h
  simp only [Bool.and_eq_true, List.all_eq_true, decide_eq_true_eq] at h
  obtain ⟨⟨⟨h1, h2⟩, h3⟩, h4⟩ := h
  refine ⟨h1, fun y hy => (h2 y hy).1.1, fun y hy e => ?_, fun y hy e => ?_, h3, fun q hq => ⟨(h4 q hq).1.1, (h4 q hq).1.2, (h4 q hq).2⟩⟩
  · have := (h2 y hy).1.2
    rw [decide_eq_true e] at this
    simpa using this
  · have := (h2 y hy).2
    rw [decide_eq_true e] at this
    simpa using this
/-- a comprehension's block -/
def cxComp (X : Cx) (N' : List Str) (sc : Scope) (fp : List Addr) (pins : List (Addr × Obj)) (s : Shared) (H : Hp) : Cx :=
  { X with N := N', s₀ := s, H₀ := H, env := compEnvC sc (closL X.env sc.names) s.heap.objs.size X.env, outer := X.stack, stack := X.stack, ex := fp, fn := fun _ => false, pn := X.pn ++ pins, xe := fun _ _ => False }
/-- its names' values at the entry: its own ones none, then those of the frame -/
def compSt (own : List Str) (ix : List Nat) (σ : St) : St := List.replicate own.length none ++ ix.map fun i => (σ[i]?).getD none

section
variable {X : Cx} {pins : List (Addr × Obj)} {σ : St} {H : Hp} {s : Shared}
theorem Inv.cellOf (I : Inv X pins σ H s) {sc : Scope} {N fr : List Str} {ix : List Nat} (S : CompSc X.env.scope sc N fr ix) : ∀ x ∈ sc.names, x.2 = .free → ∃ c, X.env.cells.lookup x.1 = some c := fun x hx hf =>
  I.ok.has x.1 (.inl (S.a3 x hx hf))
theorem closL_in (I : Inv X pins σ H s) {sc : Scope} {fr : List Str} {ix : List Nat} (S : CompSc X.env.scope sc X.N fr ix) {x : Str} {c : Addr} (h : (closL X.env sc.names).lookup x = some c) : X.env.cells.lookup x = some c := by
  rw [closL_lookup] at h
  by_cases hm : (x, NameKind.free) ∈ sc.names
  · rw [if_pos hm] at h
    obtain ⟨c', hc'⟩ := I.cellOf S _ hm rfl
    have hc2 : X.env.cells.lookup x = some c' := hc'
    rw [hc2] at h ⊢
    simpa using h
  · rw [if_neg hm] at h; cases h
/-- the block begins -/
theorem Inv.comp (I : Inv X pins σ H s) {sc : Scope} {own fr : List Str} {ix : List Nat} (S : CompSc X.env.scope sc X.N fr ix) {fp : List Addr} (hfp : ∀ b ∈ fp, FpOk X pins H b) (hlt : ∀ b ∈ fp, b < s.heap.objs.size)
    {h' : Heap} {tk : Nat} (hn : ∃ m, h'.Ns s.heap.objs.size m) (hk : ∀ b o, s.heap.get? b = some o → h'.get? b = some o) :
    Inv (cxComp X (own ++ fr) sc fp pins s H) [] (compSt own ix σ) H { s with heap := h', toks := tk } := by
  obtain ⟨m, hn⟩ := hn
  have cl : ∀ {x : Str} {c : Addr}, (closL X.env sc.names).lookup x = some c → X.env.cells.lookup x = some c := fun h => closL_in I S h
  have nstk : ∀ b, b ≠ X.env.locals → b ∉ X.fs → b ∉ frs X.stack := fun b h1 h2 h3 => by
    rcases List.mem_cons.mp (I.stkSub b h3) with e | e
    · exact h1 e
    · exact h2 e
  have ok : (cxComp X (own ++ fr) sc fp pins s H).Ok :=
    { mod := I.ok.mod
      kind := S.k1
      glob := I.ok.glob
      blt := I.ok.blt
      above := Nat.le_refl _
      inj := fun x y c h1 h2 => I.ok.inj x y c (cl h1) (cl h2)
      has := fun x hx => by
        have hx' : (relabel sc X.env).names.lookup x = some .cell ∨ (relabel sc X.env).names.lookup x = some .free := hx
        have fr' : sc.names.lookup x = some .free := by
          rcases hx' with h | h
          · obtain ⟨k, h1, h2⟩ := relabel_kind h
            rcases h2 with h2 | ⟨h2, _⟩
            · exact absurd h2.symm (S.a1 (x, k) (PySem.mem_of_lookup h1))
            · rw [h2] at h1; exact h1
          · obtain ⟨k, h1, h2⟩ := relabel_kind h
            rcases h2 with h2 | ⟨_, h2⟩
            · rw [← h2] at h1; exact h1
            · cases h2
        have hm := PySem.mem_of_lookup fr'
        obtain ⟨c, hc⟩ := I.cellOf S _ hm rfl
        refine ⟨c, ?_⟩
        show (closL X.env sc.names).lookup x = some c
        have hc2 : X.env.cells.lookup x = some c := hc
        rw [closL_lookup, if_pos hm, hc2]
        rfl
      cab := fun x c h => absurd (show false = true from h) Bool.false_ne_true
      hd := I.ok.hd
      frames := I.ok.frames
      stk := .inl rfl
      exf := fun b hb => ⟨Nat.ne_of_lt (hlt b hb), fun x c h => (hfp b hb).2.2.2.2.1 x c (cl h)⟩
      bs := I.bs
      bsz := Nat.le_trans I.ok.bsz I.sz
      noex := fun b o h hb => by
        rcases (hfp b hb).2.2.2.1 with z | z
        · exact I.ok.noex b o h z
        · exact absurd (Nat.lt_of_lt_of_le (Heap.lt_size h) (Nat.le_trans I.ok.bsz z)) (Nat.lt_irrefl _)
      exfs := fun b hb => nstk b (hfp b hb).2.1 (hfp b hb).2.2.1
      funs := I.stack
      frf := I.stkFree }
  refine ⟨ok, rfl, I.bare, Un.kept hk, ⟨m, hn, fun i x v h1 h2 h3 => ?_⟩, fun x c h => ?_, ?_, fun x c h => I.freeC x c (cl h), fun p hp => ?_, I.hok.kept hk, ?_⟩
  · have h1' : (own ++ fr)[i]? = some x := h1
    have h2' : (compSt own ix σ)[i]? = some (some v) := h2
    unfold compSt at h2'
    by_cases hi : i < own.length
    · rw [List.getElem?_append_left (by simpa using hi), List.getElem?_replicate] at h2'
      split at h2' <;> cases h2'
    · rw [List.getElem?_append_right (by omega)] at h1'
      rw [List.getElem?_append_right (by simpa using hi), List.length_replicate, List.getElem?_map] at h2'
      cases e : ix[i - own.length]? with
      | none => rw [e] at h2'; cases h2'
      | some j =>
        rw [e] at h2'
        have hσ : σ[j]? = some (some v) := by
          have h3 : (σ[j]?).getD none = some v := Option.some.inj h2'
          cases e2 : σ[j]? with
          | none => rw [e2] at h3; cases h3
          | some w => rw [e2] at h3; rw [show w = some v from h3]
        have hz : (x, j) ∈ fr.zip ix := by
          rw [List.mem_iff_getElem?]
          refine ⟨i - own.length, ?_⟩
          rw [List.getElem?_zip_eq_some]
          exact ⟨h1', e⟩
        obtain ⟨b1, b2, b3⟩ := S.a5 _ hz
        obtain ⟨m0, hn0, hl0⟩ := I.loc
        obtain ⟨u, ru, lk⟩ := hl0 j x v b1 hσ (.inr (.inl b2))
        refine ⟨u, ru, ?_⟩
        rcases lk with ⟨q1, _⟩ | ⟨_, c, hc, hcell⟩
        · have q1' : X.env.scope.names.lookup x = some .local := q1
          have b2' : X.env.scope.names.lookup x = some .cell := b2
          rw [b2'] at q1'; cases q1'
        · refine .inr ⟨.inl ?_, c, ?_, ?_⟩
          · exact relabel_free I.ok.kind b3 b2
          · show (closL X.env sc.names).lookup x = some c
            rw [closL_lookup, if_pos (PySem.mem_of_lookup b3), hc]
            rfl
          · obtain ⟨o, ho, hd⟩ := hcell
            exact ⟨o, hk _ _ ho, hd⟩
  · obtain ⟨v, o, ho, hd⟩ := I.cell x c (cl h)
    exact ⟨v, o, hk _ _ ho, hd⟩
  · exact I.hok.fresh (Nat.le_refl _)
  · have hp' : p ∈ X.pn ++ pins := by
      have : p ∈ (X.pn ++ pins) ++ [] := hp
      simpa using this
    obtain ⟨e, n, ne, nf, d⟩ := I.pin p hp'
    exact ⟨hk _ _ e, n, Nat.ne_of_lt (Heap.lt_size e), nstk p.1 ne nf, d⟩
  · show (compSt own ix σ).length = (own ++ fr).length
    unfold compSt
    rw [List.length_append, List.length_replicate, List.length_map, List.length_append, S.a4]
/-- the block is left: C, its own names' object, may have changed -/
theorem Inv.uncomp {s0 s' : Shared} {H1 H' : Hp} {N' : List Str} {sc : Scope} {fp : List Addr} {σ' : St} {h'' : Heap} (I : Inv X pins σ H s0) (hfp : ∀ b ∈ fp, FpOk X pins H b)
    (hos : s.os = s0.os) (hu : Un (frs X.stack) fp H H1 s0.heap s.heap) (I' : Inv (cxComp X N' sc fp pins s H1) [] σ' H' s') (hsz : s0.heap.objs.size ≤ s.heap.objs.size)
    (hs : Heap.SameBut s.heap.objs.size s'.heap h'') : Inv X pins σ H' { s' with heap := h'' } := by
  have hC : H' s.heap.objs.size = none := I'.free
  have u2 : Un (frs X.stack) fp H1 H' s.heap s'.heap := I'.base
  have ne : ∀ b o, s0.heap.get? b = some o → b ≠ s.heap.objs.size := fun b o e => Nat.ne_of_lt (Nat.lt_of_lt_of_le (Heap.lt_size e) hsz)
  have u3 := hu.trans u2
  refine I.call' (s' := { s' with heap := h'' }) (ch := fp) ?_ ?_ ?_ I'.bare ?_
  · show s'.os = s0.os
    exact I'.os.trans hos
  · refine ⟨fun b o e n hb hx => ?_, fun b o e n hb hx => ?_, u3.free, fun b o e hx => ?_, u3.tups, u3.frzs, u3.tbls⟩
    · exact (hs.2 b (ne b o e)).trans (u3.keep b o e n hb hx)
    · obtain ⟨sl, q⟩ := u3.slot b o e n hb hx
      exact ⟨sl, (hs.2 b (ne b o e)).trans q⟩
    · obtain ⟨o', q⟩ := u3.there b o e hx
      exact ⟨o', (hs.2 b (ne b o e)).trans q⟩
  · intro b ob e
    refine (I'.hok b ob e).stay (fun c w' hc q => (hs.2 c ?_).trans q) (fun _ q => q) fun _ _ q => q
    rintro rfl
    rcases hc with z | z
    · rw [← z, hC] at e; cases e
    · rw [hC] at z; cases z
  · intro b hb
    obtain ⟨_, f1, _, f3, f4, f5⟩ := hfp b hb
    exact ⟨f3, f1, f4, f5⟩
end
end L2

namespace L2
open PySem PySem.Spec PyProof.Rows
section
variable {prog : Program} {w : World} {A : Around} {R : Result → Shared → Prop} {s : Shared}
theorem codeAny_compLoop_own {elt target iter : Expr} {ifs : List Expr} {scope : Scope} {pos : Pos} {it acc : Value} {env : Env} (I : Nat → Shared → Prop)
    (turn : ∀ n s, I n s → wpAny (model prog w) A (pyNext it) (fun r s₁ => match r with
      | none => R (.ok .next) s₁
      | some v => wpAny (model prog w) A (letOwnedTupleGo target it v) (fun _ s₁' => wpAny (model prog w) A (assign target env v) (fun _ s₂ =>
          wpAny (model prog w) A (forIn ifs true fun c r => if r = true then do let ok ← isTrue c env (eval c env); pure (ForInStep.yield ok) else pure (ForInStep.yield r)) (fun ok s₃ =>
            if ok = true then wpAny (model prog w) A (eval elt env) (fun x s₄ =>
              wpAny (model prog w) A (call (.builtin "list.append") [acc, x]) (fun _ s₅ => ∃ m, m < n ∧ I m s₅) (fun _ _ => False) s₄) (fun _ _ => False) s₃
            else ∃ m, m < n ∧ I m s₃) (fun _ _ => False) s₂) (fun _ _ => False) s₁') (fun _ _ => False) s₁) (fun _ _ => False) s)
    (n : Nat) (h : I n s) :
    codeAny (model prog w) A (.compLoop (.ListComp elt [⟨target, iter, ifs, 0⟩] scope pos) 0 it acc env) R s := by
  refine codeAny_loop rfl I (fun n s hI => ?_) n h
  show wpAny _ A ((compTurn (.ListComp elt [⟨target, iter, ifs, 0⟩] scope pos) 0 it acc env).onRaise (fun x => do noteFrame x env; theTreesLotGoes x)) _ _ s
  refine wpAny_noted ?_
  rw [compTurn_list]
  refine wpAny_bind (wpAny_standAt (wpAny_bind (wpAny_mono (turn n s hI) (fun r s₁ h₁ => ?_) fun _ _ h' => h'.elim)))
  cases r with
  | none => exact wpAny_pure h₁
  | some v =>
    refine wpAny_bind (wpAny_mono h₁ (fun _ s₁' h₁' => ?_) fun _ _ h' => h'.elim)
    refine wpAny_bind (wpAny_mono h₁' (fun _ s₂ h₂ => wpAny_bind (wpAny_mono h₂ (fun ok s₃ h₃ => ?_) fun _ _ h' => h'.elim)) fun _ _ h' => h'.elim)
    cases ok with
    | false => exact wpAny_pure ⟨rfl, h₃⟩
    | true =>
      exact wpAny_bind (wpAny_bind (wpAny_mono h₃ (fun x s₄ h₄ => wpAny_bind (wpAny_mono h₄ (fun _ s₅ h₅ => wpAny_pure (wpAny_pure ⟨rfl, h₅⟩)) fun _ _ h' => h'.elim)) fun _ _ h' => h'.elim))
end

/-- the tests of a clause -/
def PTs (X : Cx) (ifs : List Expr) (t : TT) : Prop :=
  ∀ (pins : List (Addr × Obj)) (s : Shared) (σ : St) (H : Hp) (Q : Bool → Hp → Prop), Inv X pins σ H s → t σ H Q →
    wpAny (model X.prog X.w) X.A (forIn ifs true fun c r => if r = true then do let ok ← isTrue c X.env (eval c X.env); pure (ForInStep.yield ok) else pure (ForInStep.yield r)) (TP X pins σ Q) X.xe s
def tYes : TT := fun _ H Q => Q true H
theorem pts_nil {X : Cx} : PTs X [] tYes := fun _ _ _ H _ I h => wpAny_tests_nil ⟨H, I, h⟩
theorem pts_one {X : Cx} {c : Expr} {t : TT} (h : PT X c t) : PTs X [c] t := fun pins s σ H Q I hw => wpAny_tests_one (h pins s σ H Q I hw)

/-- what a comprehension's block wants: p its list; W the word by the turn, a measure, the items so far, the block's names, the heap -/
def CompBl (J : It) (g : TG) (tt : TT) (te : TE) (p : Addr) (σ0 : St) (H1 : Hp) (Q : Hp → Prop) : Prop :=
  ∃ W : Nat → Nat → List V → St → Hp → Prop, (∃ m, W 0 m [] σ0 (upd H1 p (.lst []))) ∧ ∀ i m ys σ' H', W i m ys σ' H' → H' p = some (.lst ys) ∧
    ((J.stop i H' ∧ Q H') ∨ (J.go i H' ∧ ∀ x H2, J.yld i H' x H2 → g x σ' H2 fun σ3 H3 => tt σ3 H3 fun b H4 =>
      if b = true then te σ3 H4 fun y H5 => H5 p = some (.lst ys) ∧ ys.length < sizeLine ∧ ∃ m', m' < m ∧ W (i + 1) m' (ys ++ [y]) σ3 (upd H5 p (.lst (ys ++ [y]))) else ∃ m', m' < m ∧ W (i + 1) m' ys σ3 H4))
def tComp (wi : TI) (g : TG) (tt : TT) (te : TE) (own : List Str) (ix : List Nat) : TE := fun σ H Q => wi σ H fun J H1 => ∀ p, H1 p = none → CompBl J g tt te p (compSt own ix σ) H1 (Q (.ref p))

section
variable {X : Cx} {tg iter elt : Expr} {ifs : List Expr} {sc : Scope} {own fr : List Str} {ix : List Nat} {wi : TI} {g : TG} {tt : TT} {te : TE} {pos spos : Pos}
/-- the block from the iterator on, whatever is wanted behind it -/
theorem comp_block (hc : X.calm = true) (S : CompSc X.env.scope sc X.N fr ix) {pins : List (Addr × Obj)} {σ : St} {H1 : Hp} {s2 : Shared} {it : Addr} {fp : List Addr} {tn : Nat → Heap → Prop} {J : It}
    (I2 : Inv X pins σ H1 s2) (T : Turn X.prog X.w X.K tg J fp it tn) (st2 : tn 0 s2.heap) (f2 : ∀ b ∈ fp, FpOk X pins H1 b) {Q : Hp → Prop}
    (q : CompBl J g tt te s2.heap.objs.size (compSt own ix σ) H1 Q)
    (hg : ∀ (fp : List Addr) (pins : List (Addr × Obj)) (s : Shared) (H : Hp), PG (cxComp X (own ++ fr) sc fp pins s H) tg g) (ht : ∀ (fp : List Addr) (pins : List (Addr × Obj)) (s : Shared) (H : Hp), PTs (cxComp X (own ++ fr) sc fp pins s H) ifs tt)
    (he : ∀ (fp : List Addr) (pins : List (Addr × Obj)) (s : Shared) (H : Hp), PE (cxComp X (own ++ fr) sc fp pins s H) elt te)
    {use : Option (Value → Sem Unit)} {Q2 : Value → Shared → Prop}
    (fin : ∀ s' H', (∃ m, s'.heap.Ns (s2.heap.objs.size + 1) m) → H' (s2.heap.objs.size + 1) = none → (∀ h'', Heap.SameBut (s2.heap.objs.size + 1) s'.heap h'' → Inv X pins σ H' { s' with heap := h'' }) → Q H' →
      compPost (model X.prog X.w) X.A X.xe use Q2 (.ref s2.heap.objs.size) (s2.heap.objs.size + 1) (.ok .next) s') :
    wpAny (model X.prog X.w) X.A (newList []) (fun acc s₃ => wpAny (model X.prog X.w) X.A (newFunctionEnv sc X.env.globals (closL X.env sc.names) [] X.env.qual none .none (some X.env)) (fun cenv s₄ =>
      codeAny (model X.prog X.w) X.A (.compStart (.ListComp elt [⟨tg, iter, ifs, 0⟩] sc pos) 0 (.ref it) acc { cenv with scope := relabel sc X.env }) (compPost (model X.prog X.w) X.A X.xe use Q2 acc cenv.locals) s₄) X.xe s₃) X.xe s2 := by
  refine wpAny_newObj_type (wpAny_newFunctionEnv S.a1 (by intro y hy; simp at hy) (fun h₁ hns₁ hsb₁ => ?_) S.k1)
  dsimp only at hns₁ hsb₁ ⊢
  have hsz : (s2.heap.push { cls := .type "list", dict := none, data := .seq ([] : List Value).toArray }).objs.size = s2.heap.objs.size + 1 := Heap.size_push _ _
  have I3 : Inv X pins σ (upd H1 s2.heap.objs.size (.lst [])) { s2 with heap := s2.heap.push { cls := .type "list", dict := none, data := .seq ([] : List Value).toArray } } :=
    I2.laid (t' := s2.toks) (fun b u e => Heap.get?_push_of_some _ e) (Nat.le_refl _) ⟨Nat.zero_le _, [], 0, .nil, Heap.get?_push_size _ rfl⟩
  have lt2 : ∀ b ∈ fp, b < s2.heap.objs.size := fun b hb => let ⟨o, ho, _⟩ := T.obj 0 _ st2 b hb; Heap.lt_size ho
  have nep : ∀ b ∈ fp, b ≠ s2.heap.objs.size := fun b hb => Nat.ne_of_lt (lt2 b hb)
  have f3 : ∀ b ∈ fp, FpOk X pins (upd H1 s2.heap.objs.size (.lst [])) b := fun b hb => ⟨by rw [upd_ne (nep b hb)]; exact (f2 b hb).1, (f2 b hb).2⟩
  have hk : ∀ b o, (s2.heap.push { cls := .type "list", dict := none, data := .seq ([] : List Value).toArray }).get? b = some o → h₁.get? b = some o := fun b o e =>
    (hsb₁.2 b (Nat.ne_of_lt (Heap.lt_size e))).trans (Heap.get?_push_of_some _ e)
  have I4 := I3.comp (own := own) (h' := h₁) (tk := s2.toks + ([] : List (Str × Value)).length) S f3 (fun b hb => by show b < _; rw [hsz]; exact Nat.lt_succ_of_lt (lt2 b hb)) ⟨_, hns₁⟩ hk
  obtain ⟨W, ⟨m0, w0⟩, turn⟩ := q
  have st4 : tn 0 h₁ := T.keep 0 _ _ st2 fun b hb o e => hk b o (Heap.get?_push_of_some _ e)
  have loop : codeAny (model X.prog X.w) X.A (.compLoop (.ListComp elt [⟨tg, iter, ifs, 0⟩] sc pos) 0 (.ref it) (.ref s2.heap.objs.size)
      (compEnvC sc (closL X.env sc.names) (s2.heap.push { cls := .type "list", dict := none, data := .seq ([] : List Value).toArray }).objs.size X.env))
      (compPost (model X.prog X.w) X.A X.xe use Q2 (.ref s2.heap.objs.size) (s2.heap.objs.size + 1)) { s2 with heap := h₁, toks := s2.toks + ([] : List (Str × Value)).length } := by
    refine codeAny_compLoop_own (fun n s' => ∃ i ys σ' H', Inv (cxComp X (own ++ fr) sc fp pins { s2 with heap := s2.heap.push { cls := .type "list", dict := none, data := .seq ([] : List Value).toArray } } (upd H1 s2.heap.objs.size (.lst []))) [] σ' H' s' ∧
      tn i s'.heap ∧ (∀ b ∈ fp, H' b = none) ∧ W i n ys σ' H') ?_ m0 ⟨0, [], _, _, I4, st4, fun b hb => (f3 b hb).1, w0⟩
    rintro n s' ⟨i, ys, σ', H', I', st', fr', w'⟩
    obtain ⟨hp, tr⟩ := turn i n ys σ' H' w'
    have stat : ∀ {K : Hp}, (∀ b ∈ fp, K b = none) → ∀ b ∈ fp, FpOk (cxComp X (own ++ fr) sc fp pins { s2 with heap := s2.heap.push { cls := .type "list", dict := none, data := .seq ([] : List Value).toArray } } (upd H1 s2.heap.objs.size (.lst []))) [] K b := fun {K} hn b hb => by
      have ⟨_, g1, g2, g3, g4, g5⟩ := f2 b hb
      refine ⟨hn b hb, ?_, ?_, .inl hb, fun x c e => g4 x c (closL_in I2 S e), fun p hp => g5 p ?_⟩
      · show b ≠ (s2.heap.push _).objs.size
        rw [hsz]
        exact Nat.ne_of_lt (Nat.lt_succ_of_lt (lt2 b hb))
      · intro h3
        rcases List.mem_cons.mp (I2.stkSub b h3) with e | e
        · exact g1 e
        · exact g2 e
      · have : p ∈ (X.pn ++ pins) ++ [] := hp
        simpa using this
    rcases tr with ⟨stop, qn⟩ | ⟨go, step⟩
    · refine thn (T.done (cxComp X (own ++ fr) sc fp pins { s2 with heap := s2.heap.push { cls := .type "list", dict := none, data := .seq ([] : List Value).toArray } } (upd H1 s2.heap.objs.size (.lst []))) rfl rfl rfl hc i [] s' σ' H' _ I' (stat fr') st' stop) fun r s4 ⟨hr, I5⟩ => ?_
      subst hr
      obtain ⟨m5, hn5, _⟩ := id I5.loc
      have hn5' : s4.heap.Ns (s2.heap.objs.size + 1) m5 := by
        have z : s4.heap.Ns (s2.heap.push { cls := .type "list", dict := none, data := .seq ([] : List Value).toArray }).objs.size m5 := hn5
        rw [hsz] at z
        exact z
      have fC : H' (s2.heap.objs.size + 1) = none := by
        have z : H' (s2.heap.push { cls := .type "list", dict := none, data := .seq ([] : List Value).toArray }).objs.size = none := I5.free
        rw [hsz] at z
        exact z
      refine fin s4 H' ⟨m5, hn5'⟩ fC (fun h'' hs => ?_) qn
      rw [← hsz] at hs
      exact I2.uncomp (s := { s2 with heap := s2.heap.push { cls := .type "list", dict := none, data := .seq ([] : List Value).toArray } }) f2 rfl
        (Un.laid (fun b u e => Heap.get?_push_of_some _ e) (Nat.le_refl _) (I2.hok.fresh (Nat.le_refl _))) I5 (by show _ ≤ (s2.heap.push _).objs.size; rw [hsz]; exact Nat.le_succ _) hs
    · refine thn (T.item (cxComp X (own ++ fr) sc fp pins { s2 with heap := s2.heap.push { cls := .type "list", dict := none, data := .seq ([] : List Value).toArray } } (upd H1 s2.heap.objs.size (.lst []))) rfl rfl rfl hc i [] s' σ' H' _ I' (stat fr') st' go) fun r s4 ⟨u, hr, h4⟩ => ?_
      subst hr
      refine thn h4 fun _ s5 ⟨x, H5, I5, r5, y5, st5, fr5⟩ => ?_
      have I5' := I5.pinned (stat fr5) (T.obj _ _ st5)
      refine thn (hg _ _ _ _ _ s5 σ' H5 x u _ I5' r5 (step x H5 y5)) fun _ s6 ⟨σ6, H6, I6, q6⟩ => ?_
      have again : ∀ {σ7 : St} {H7 : Hp} {s7 : Shared} {ys' : List V}, Inv (cxComp X (own ++ fr) sc fp pins { s2 with heap := s2.heap.push { cls := .type "list", dict := none, data := .seq ([] : List Value).toArray } } (upd H1 s2.heap.objs.size (.lst []))) ([] ++ pinsAt fp s5.heap) σ7 H7 s7 →
          (∃ m', m' < n ∧ W (i + 1) m' ys' σ7 H7) → ∃ m, m < n ∧ ∃ i ys σ' H', Inv (cxComp X (own ++ fr) sc fp pins { s2 with heap := s2.heap.push { cls := .type "list", dict := none, data := .seq ([] : List Value).toArray } } (upd H1 s2.heap.objs.size (.lst []))) [] σ' H' s7 ∧
            tn i s7.heap ∧ (∀ b ∈ fp, H' b = none) ∧ W i m ys σ' H' := fun {σ7 H7 s7 ys'} I7 ⟨m', hm, w7⟩ => by
        refine ⟨m', hm, i + 1, ys', σ7, H7, I7.unpinned, T.keep _ _ _ st5 fun b hb o e => (I7.pin (b, o) (List.mem_append_right _ (List.mem_append_right _ (mem_pinsAt hb e)))).1, fun b hb => ?_, w7⟩
        obtain ⟨o, e, d⟩ := T.obj _ _ st5 b hb
        exact (I7.pin (b, o) (List.mem_append_right _ (List.mem_append_right _ (mem_pinsAt hb e)))).2.1
      refine thn (ht _ _ _ _ _ s6 σ6 H6 _ I6 q6) fun ok s7 ⟨H7, I7, q7⟩ => ?_
      cases ok with
      | false =>
        rw [if_neg Bool.false_ne_true] at q7
        rw [if_neg Bool.false_ne_true]
        exact again I7 q7
      | true =>
        rw [if_pos rfl] at q7
        rw [if_pos rfl]
        refine thn (he _ _ _ _ _ s7 σ6 H7 _ I7 q7) fun xv s8 ⟨y, H8, I8, r8, hp8, hz8, q8⟩ => ?_
        refine thn (mt_append _ s8 σ6 H8 (.ref s2.heap.objs.size) [y] (.ref s2.heap.objs.size) [xv] (fun _ H9 => H9 = upd H8 s2.heap.objs.size (.lst (ys ++ [y]))) I8 rfl (.cons r8 .nil) ⟨_, ys, y, rfl, rfl, hp8, hz8, rfl⟩) fun _ s9 ⟨_, H9, I9, _, e9⟩ => ?_
        subst e9
        exact again I9 q8
  have e1 : (compPost (model X.prog X.w) X.A X.xe use Q2 (.ref s2.heap.objs.size) (s2.heap.push { cls := .type "list", dict := none, data := .seq ([] : List Value).toArray }).objs.size) = compPost (model X.prog X.w) X.A X.xe use Q2 (.ref s2.heap.objs.size) (s2.heap.objs.size + 1) := by rw [hsz]
  show codeAny _ _ _ (compPost (model X.prog X.w) X.A X.xe use Q2 (.ref s2.heap.objs.size) (s2.heap.push { cls := .type "list", dict := none, data := .seq ([] : List Value).toArray }).objs.size) _
  rw [e1]
  exact codeAny_compStart_list loop (T.self _ 0 _ _ _ st4 loop)

theorem pe_lcomp (own fr : List Str) (ix : List Nat) (hc : X.calm = true) (hi : PI X tg iter wi)
    (hg : ∀ (fp : List Addr) (pins : List (Addr × Obj)) (s : Shared) (H : Hp), PG (cxComp X (own ++ fr) sc fp pins s H) tg g) (ht : ∀ (fp : List Addr) (pins : List (Addr × Obj)) (s : Shared) (H : Hp), PTs (cxComp X (own ++ fr) sc fp pins s H) ifs tt)
    (he : ∀ (fp : List Addr) (pins : List (Addr × Obj)) (s : Shared) (H : Hp), PE (cxComp X (own ++ fr) sc fp pins s H) elt te)
    (hS : compChk X.env.scope sc X.N fr ix = true := by kernel_rfl) (hs : ∀ x, foldedSetIterable iter X.env x = pure x := by intro _; rfl) : PE X (.ListComp elt [⟨tg, iter, ifs, 0⟩] sc pos) (tComp wi g tt te own ix) := by
  intro pins s σ H Q I h
  have S := CompSc.of hS
  rw [eval_ListComp]
  refine wpAny_comprehension_free (use := none) rfl hs (closureFor_cells (I.cellOf S)) S.k1 S.a2 (thn (hi pins s σ H _ I h) fun v s1 h1 => thn h1 fun itv s2 h2 => ?_)
  obtain ⟨it, fp, tn, J, H2, e, I2, T, st2, f2, q⟩ := h2
  subst e
  refine comp_block hc S I2 T st2 f2 (q _ (I2.hok.fresh (Nat.le_refl _))) hg ht he fun s' H' hn _ hI hq => ?_
  obtain ⟨m, hn⟩ := hn
  exact ⟨m, hn, fun h'' hs'' => ⟨.ref s2.heap.objs.size, H', hI h'' hs'', rfl, hq⟩⟩
/-- name = [..] on one row -/
theorem ps_setcomp {i : Nat} {y : Str} {py : Pos} (own fr : List Str) (ix : List Nat) (hN : X.N.Nodup) (hyi : X.N[i]? = some y) (hy : X.env.scope.names.lookup y = some .local) (hc : X.calm = true) (hi : PI X tg iter wi)
    (hg : ∀ (fp : List Addr) (pins : List (Addr × Obj)) (s : Shared) (H : Hp), PG (cxComp X (own ++ fr) sc fp pins s H) tg g) (ht : ∀ (fp : List Addr) (pins : List (Addr × Obj)) (s : Shared) (H : Hp), PTs (cxComp X (own ++ fr) sc fp pins s H) ifs tt)
    (he : ∀ (fp : List Addr) (pins : List (Addr × Obj)) (s : Shared) (H : Hp), PE (cxComp X (own ++ fr) sc fp pins s H) elt te)
    (hsw : swapsWith (.ListComp elt [⟨tg, iter, ifs, 0⟩] sc pos) (some (.Name y py)) spos.line X.env = pure true := by rfl)
    (hS : compChk X.env.scope sc X.N fr ix = true := by kernel_rfl) (hs : ∀ x, foldedSetIterable iter X.env x = pure x := by intro _; rfl) : PS X (.Assign [.Name y py] (.ListComp elt [⟨tg, iter, ifs, 0⟩] sc pos) spos) (tAsg (tComp wi g tt te own ix) (gName i)) := by
  intro pins s σ H D I h
  have S := CompSc.of hS
  rw [exec_Assign_Name_used _ _ _ _ hsw]
  refine wpAny_bind (wpAny_standAt (wpAny_bind ?_))
  show wpAny _ X.A (do let _ ← comprehension (.ListComp elt [⟨tg, iter, ifs, 0⟩] sc pos) sc X.env _ (newList []) false (eval iter X.env) (some (assign (.Name y py) X.env))) _ _ s
  refine wpAny_bind (thn (wpAny_comprehension_free (use := some (assign (.Name y py) X.env)) (Q := fun _ s' => SP X pins D .next s') rfl hs (closureFor_cells (I.cellOf S)) S.k1 S.a2
    (thn (hi pins s σ H _ I h) fun v s1 h1 => thn h1 fun itv s2 h2 => ?_)) fun _ s' hq => wpAny_pure (wpAny_pure hq))
  obtain ⟨it, fp, tn, J, H2, e, I2, T, st2, f2, q⟩ := h2
  subst e
  refine comp_block hc S I2 T st2 f2 (q _ (I2.hok.fresh (Nat.le_refl _))) hg ht he fun s' H' hn hCo hI hq => ?_
  obtain ⟨m, hn⟩ := hn
  have I5 : Inv X pins σ H' s' := hI s'.heap (Heap.SameBut.refl ..)
  have hC1 : s2.heap.objs.size + 1 ≠ X.env.locals := Nat.ne_of_gt (Nat.lt_succ_of_lt I2.lt)
  have hC2 : ∀ x c, X.env.cells.lookup x = some c → c ≠ s2.heap.objs.size + 1 := fun x c e z => by
    obtain ⟨v, o, ho, _⟩ := I2.cell x c e
    have := Heap.lt_size ho
    rw [z] at this
    exact absurd this (Nat.not_lt.mpr (Nat.le_succ _))
  have hC3 : ∀ p ∈ X.pn ++ pins, p.1 ≠ s2.heap.objs.size + 1 := fun p hp z => by
    have := Heap.lt_size (I2.pin p hp).1
    rw [z] at this
    exact absurd this (Nat.not_lt.mpr (Nat.le_succ _))
  refine wpAny_assign_Name (store_ok2 I5 hN hyi (.inl hy) (v := .ref s2.heap.objs.size) rfl (fun s6 I6 sb => ?_) (.inr hy))
  obtain ⟨a, sb, ha⟩ := sb
  have ne : s2.heap.objs.size + 1 ≠ a := by
    rcases ha with z | z
    · rw [z]; exact hC1
    · exact (hC2 _ _ z).symm
  refine ⟨m, hn.sameBut sb ne, fun h'' hs'' => ?_⟩
  refine ⟨_, H', I6.turned (t' := s6.toks) (it := s2.heap.objs.size + 1) (fun b o hb e => (hs''.2 b hb).trans e) hCo hC1 (.inr ?_) hC2 hC3, hq⟩
  exact Nat.le_trans I2.sz (Nat.le_succ _)
end
end L2

set_option linter.all false
set_option maxRecDepth 100000
set_option maxHeartbeats 400000
namespace L2
open PySem PySem.Spec PyProof.Rows

/-! ### the signs of a text, walked -/
def Its (x : Str) : It := ⟨fun i _ => i < x.cps.size, fun i H y H' => H' = H ∧ ∃ c, x.cps[i]? = some c ∧ y = .str ⟨#[c]⟩, fun i _ => x.cps.size ≤ i⟩
/-- the step ahead of the store is nothing for an iterator whose kind is another one -/
theorem turn_str {P : Program} {w : World} {K : PySem.W.Frag} {tg : Expr} (x : Str) (it : Addr) {St : Nat → Heap → Prop}
    (W : ∀ A' : Around, A'.handled = none → Walks P w A' it [it] [it] x.cps.size (SignAt x) St) (hobj : ∀ i h, St i h → ∃ o n vs, h.get? it = some o ∧ o.cls = .type n ∧ o.data = .fields vs ∧
      ["enumerate", "zip", "dict_itemiterator", "dict_reverseitemiterator", "odict_iterator", "itertools.zip_longest", "itertools.pairwise"].contains n = false)
    (hself : ∀ (A : Around) (i : Nat) (s : Shared) (Q : Value → Shared → Prop) (E : Value → Shared → Prop), St i s.heap → Q (.ref it) s → wpAny (model P w) A (pyIter (.ref it)) Q E s) :
    Turn P w K tg (Its x) [it] it (fun i h => i ≤ x.cps.size ∧ St i h) where
  mem := by simp
  obj := fun i h st b hb => by
    have e : b = it := by simpa using hb
    subst e
    obtain ⟨o, n, vs, ho, _, hd, _⟩ := hobj i h st.2
    exact ⟨o, ho, fun v z => by rw [hd] at z; cases z⟩
  keep := fun i h h' st k => ⟨st.1, (W callerA rfl).frame i h h' st.2 k⟩
  item := by
    intro X hP hw hK hc i pins s σ H E I hf st hg
    subst hP hw hK
    obtain ⟨f0, f1, f2, f3, f4, f5⟩ := hf it (by simp)
    refine (W X.A (I.ok.hd hc)).item i s _ _ hg st.2 fun v h' tk hv st' kk => ?_
    obtain ⟨c, u, hcx, rfl⟩ := hv
    have I1 : Inv X pins σ H { s with heap := h', toks := tk } := I.turned (fun b o hb e => kk b o (by simpa using hb) e) f0 f1 f3 f4 f5
    obtain ⟨o, n, vs, ho, hcl, hd, hn⟩ := hobj _ _ st'
    exact ⟨_, rfl, go_of (s := { s with heap := h', toks := tk }) ho hcl hd hn ⟨.str ⟨#[c]⟩, H, I1, ⟨u, rfl⟩, ⟨rfl, c, hcx, rfl⟩, ⟨hg, st'⟩, fun b hb => (hf b hb).1⟩⟩
  done := by
    intro X hP hw hK hc i pins s σ H E I hf st hg
    subst hP hw hK
    obtain ⟨f0, f1, f2, f3, f4, f5⟩ := hf it (by simp)
    have hg' : x.cps.size ≤ i := hg
    have e : i = x.cps.size := Nat.le_antisymm st.1 hg'
    subst e
    exact (W X.A (I.ok.hd hc)).done s _ _ st.2 fun h' tk kk => ⟨rfl, I.turned (fun b o hb e => kk b o (by simpa using hb) e) f0 f1 f3 f4 f5⟩
  self := fun A i s Q E st h => hself A i s Q E st.2 h
def iStr (tl : TE) : TI := fun σ H R => tl σ H fun x H1 => ∃ z, x = .str z ∧ R (Its z) H1
theorem pi_str {X : Cx} {tg l : Expr} {tl : TE} (hl : PE X l tl) : PI X tg l (iStr tl) := by
  intro pins s σ H R I h
  refine thn (hl pins s σ H _ I h) fun v s1 ⟨x, H1, I1, r1, q1⟩ => ?_
  obtain ⟨z, e, q⟩ := q1
  subst e
  obtain ⟨t, rfl⟩ := r1
  have fin : ∀ (o : Obj), FpOk X pins H1 s1.heap.objs.size := fun o => I1.fpOk (Nat.le_refl _) (I1.hok.fresh (Nat.le_refl _))
  cases ha : z.cps.all (· < 128)
  · refine wpAny_pyIter_wide ha ?_
    refine ⟨s1.heap.objs.size, [s1.heap.objs.size], _, Its z, H1, rfl, I1.kept (t' := s1.toks) fun b o e => Heap.get?_push_of_some _ e,
      turn_str z _ (fun A' hA => Walks.strWide hA _ z t) (fun i h st => let ⟨o, ho, h1, h2⟩ := st; ⟨o, _, _, ho, h1, h2, by decide⟩) (fun A i s Q E st h => wpAny_pyIter_striter_wide st h),
      ⟨Nat.zero_le _, _, Heap.get?_push_size _ rfl, rfl, rfl⟩, fun b hb => ?_, q⟩
    have e : b = s1.heap.objs.size := by simpa using hb
    subst e
    exact I1.fpOk (Nat.le_refl _) (I1.hok.fresh (Nat.le_refl _))
  · refine wpAny_pyIter_ascii ha ?_
    refine ⟨s1.heap.objs.size, [s1.heap.objs.size], _, Its z, H1, rfl, I1.kept (t' := s1.toks) fun b o e => Heap.get?_push_of_some _ e,
      turn_str z _ (fun A' hA => Walks.strAscii hA _ z t) (fun i h st => let ⟨o, ho, h1, h2⟩ := st; ⟨o, _, _, ho, h1, h2, by decide⟩) (fun A i s Q E st h => wpAny_pyIter_striter_ascii st h),
      ⟨Nat.zero_le _, _, Heap.get?_push_size _ rfl, rfl, rfl⟩, fun b hb => ?_, q⟩
    have e : b = s1.heap.objs.size := by simpa using hb
    subst e
    exact I1.fpOk (Nat.le_refl _) (I1.hok.fresh (Nat.le_refl _))

/-! ### the forms one uses: a loop over what goes through a list of values that the body leaves as it is; a comprehension likewise -/
/-- J goes through xs: where Pv holds at turn i, it yields some value that is xs's i-th by rel -/
structure Goes (J : It) (n : Nat) (Ok : Hp → Prop) (Y : Nat → Hp → V → Prop) : Prop where
  go : ∀ i H, Ok H → i < n → J.go i H
  yld : ∀ i H x H', Ok H → i < n → J.yld i H x H' → H' = H ∧ Y i H x
  stop : ∀ H, Ok H → J.stop n H
theorem goes_list {K : PySem.W.Frag} {a : Addr} {xs : List V} : Goes (Itl K a) xs.length (fun H => SqL K H a xs) (fun i _ x => xs[i]? = some x) where
  go := fun i H h hi => ⟨xs, xs[i], h, by simp [hi]⟩
  yld := fun i H x H' h hi y => ⟨y.1, y.2 xs h⟩
  stop := fun H h => ⟨xs, h, Nat.le_refl _⟩
theorem goes_range {lo : Int} {n : Nat} : Goes (Itr lo n) n (fun _ => True) (fun i _ x => x = .int (lo + i)) where
  go := fun i H _ hi => hi
  yld := fun i H x H' _ hi y => ⟨y.1, y.2⟩
  stop := fun H _ => Nat.le_refl _
theorem goes_str {z : Str} : Goes (Its z) z.cps.size (fun _ => True) (fun i _ x => ∃ c, z.cps[i]? = some c ∧ x = .str ⟨#[c]⟩) where
  go := fun i H _ hi => hi
  yld := fun i H x H' _ hi y => ⟨y.1, y.2⟩
  stop := fun H _ => Nat.le_refl _
theorem for_goes {J : It} {n : Nat} {Ok : Hp → Prop} {Y : Nat → Hp → V → Prop} (G : Goes J n Ok Y) {g : TG} {tb : TS} {D : Ends} {σ : St} {H : Hp} (Pv : Nat → St → Hp → Prop) (h0 : Pv 0 σ H) (hl : ∀ i σ H, i ≤ n → Pv i σ H → Ok H)
    (hs : ∀ i x σ H, i < n → Y i H x → Pv i σ H → g x σ H fun σ2 H2 => tb { D with nx := Pv (i + 1), ct := Pv (i + 1), bk := D.nx } σ2 H2) (hd : ∀ σ H, Pv n σ H → D.nx σ H) :
    ∃ W : Nat → Nat → St → Hp → Prop, (∃ m, W 0 m σ H) ∧ ∀ i m σ H, W i m σ H →
      (J.stop i H ∧ D.nx σ H) ∨ (J.go i H ∧ ∃ N : St → Hp → Prop, (∀ σ' H', N σ' H' → ∃ m', m' < m ∧ W (i + 1) m' σ' H') ∧ ∀ x H', J.yld i H x H' → g x σ H' fun σ2 H2 => tb { D with nx := N, ct := N, bk := D.nx } σ2 H2) := by
  refine ⟨fun i m σ H => m = n - i ∧ i ≤ n ∧ Pv i σ H, ⟨n, by simp, Nat.zero_le _, h0⟩, ?_⟩
  rintro i m σ H ⟨rfl, hi, p⟩
  have q := hl i σ H hi p
  by_cases hlt : i < n
  · refine .inr ⟨G.go i H q hlt, Pv (i + 1), fun σ' H' p' => ⟨n - (i + 1), by omega, rfl, hlt, p'⟩, fun x H' y => ?_⟩
    obtain ⟨e, y⟩ := G.yld i H x H' q hlt y
    subst e
    exact hs i x σ _ hlt y p
  · have e : i = n := by omega
    subst e
    exact .inl ⟨G.stop H q, hd σ H p⟩
/-- one turn is done -/
def CNx (n : Nat) (Pv : Nat → List V → St → Hp → Prop) (i : Nat) (ys : List V) (σ : St) (H : Hp) : Prop := ∃ m', m' < n - i ∧ m' = n - (i + 1) ∧ i + 1 ≤ n ∧ Pv (i + 1) ys σ H
theorem cnx {n : Nat} {Pv : Nat → List V → St → Hp → Prop} {i : Nat} {ys : List V} {σ : St} {H : Hp} (hi : i < n) (h : Pv (i + 1) ys σ H) : CNx n Pv i ys σ H := ⟨n - (i + 1), by omega, rfl, hi, h⟩
theorem comp_goes {J : It} {n : Nat} {Ok : Hp → Prop} {Y : Nat → Hp → V → Prop} (G : Goes J n Ok Y) {g : TG} {tt : TT} {te : TE} {p : Addr} {σ : St} {H : Hp} {Q : Hp → Prop} (Pv : Nat → List V → St → Hp → Prop)
    (h0 : Pv 0 [] σ (upd H p (.lst []))) (hl : ∀ i ys σ H, i ≤ n → Pv i ys σ H → Ok H ∧ H p = some (.lst ys))
    (hs : ∀ i x ys σ H, i < n → Y i H x → Pv i ys σ H → g x σ H fun σ3 H3 => tt σ3 H3 fun b H4 => if b = true then te σ3 H4 fun y H5 => H5 p = some (.lst ys) ∧ ys.length < sizeLine ∧ CNx n Pv i (ys ++ [y]) σ3 (upd H5 p (.lst (ys ++ [y]))) else CNx n Pv i ys σ3 H4)
    (hd : ∀ ys σ H, Pv n ys σ H → Q H) : CompBl J g tt te p σ H Q := by
  refine ⟨fun i m ys σ H => m = n - i ∧ i ≤ n ∧ Pv i ys σ H, ⟨n, by simp, Nat.zero_le _, h0⟩, ?_⟩
  rintro i m ys σ' H' ⟨rfl, hi, pv⟩
  obtain ⟨ok, hp⟩ := hl i ys σ' H' hi pv
  refine ⟨hp, ?_⟩
  by_cases hlt : i < n
  · refine .inr ⟨G.go i H' ok hlt, fun x H2 y => ?_⟩
    obtain ⟨e, y⟩ := G.yld i H' x H2 ok hlt y
    subst e
    exact hs i x ys σ' _ hlt y pv
  · have e : i = n := by omega
    subst e
    exact .inl ⟨G.stop H' ok, hd ys σ' H' pv⟩
/-- while: Pv the word, μ the measure -/
def WNx (Pv : St → Hp → Prop) (μ : St → Hp → Nat) (tb : TS) (D : Ends) (σ : St) (H H1 : Hp) : Prop :=
  tb { D with nx := fun σ' H' => Pv σ' H' ∧ μ σ' H' < μ σ H, ct := fun σ' H' => Pv σ' H' ∧ μ σ' H' < μ σ H, bk := D.nx } σ H1
theorem while_w {c : TT} {tb : TS} {D : Ends} {σ : St} {H : Hp} (Pv : St → Hp → Prop) (μ : St → Hp → Nat) (h0 : Pv σ H)
    (hs : ∀ σ H, Pv σ H → c σ H fun b H1 => if b = true then ∃ N : St → Hp → Prop, (∀ σ' H', N σ' H' → ∃ m', m' < μ σ H ∧ m' = μ σ' H' ∧ Pv σ' H') ∧ tb { D with nx := N, ct := N, bk := D.nx } σ H1 else D.nx σ H1) : tWhile c tb D σ H := by
  refine ⟨fun m σ H => m = μ σ H ∧ Pv σ H, ⟨_, rfl, h0⟩, ?_⟩
  rintro m σ H ⟨rfl, p⟩
  exact hs σ H p
theorem wnx {tb : TS} {D : Ends} {σ : St} {H H1 : Hp} {Pv : St → Hp → Prop} {μ : St → Hp → Nat} (h : WNx Pv μ tb D σ H H1) :
    ∃ N : St → Hp → Prop, (∀ σ' H', N σ' H' → ∃ m', m' < μ σ H ∧ m' = μ σ' H' ∧ Pv σ' H') ∧ tb { D with nx := N, ct := N, bk := D.nx } σ H1 :=
  ⟨fun σ' H' => Pv σ' H' ∧ μ σ' H' < μ σ H, fun _ _ q => ⟨_, q.2, rfl, q.1⟩, h⟩
end L2

set_option linter.all false
set_option maxRecDepth 100000
set_option maxHeartbeats 400000
namespace L2
open PySem PySem.Spec PyProof.Rows

theorem vals_ix : ∀ {xs : List V} {us : List Value}, xs.length = us.length → (∀ (i : Nat) (x : V) (u : Value), xs[i]? = some x → us[i]? = some u → RelV x u) → Vals xs us
  | [], [], _, _ => .nil
  | [], _ :: _, h, _ => by simp at h
  | _ :: _, [], h, _ => by simp at h
  | x :: xs, u :: us, h, f => .cons (f 0 x u rfl rfl) (vals_ix (by simpa using h) fun i y v h1 h2 => f (i + 1) y v (by simpa using h1) (by simpa using h2))
section
variable {X : Cx}
/-- isinstance(x, a built-in type); isinstance(x, an own class) -/
theorem call_isT {T : String} : CallR X (.builtin "isinstance") (fun xs H Q => ∃ x t b, xs = [x, .ty T] ∧ TyOf X.K H x t ∧ PySem.W.kitOne X.K t (.type T) = some b ∧ Q (.bl b) H) := by
  intro pins s σ H xs us Q I r h
  obtain ⟨x, t, b, rfl, ty, e, q⟩ := h
  obtain ⟨u, w', rfl, ru, rw'⟩ := vals2 r
  cases rw'
  exact isinst_ok I ru ty e fun tk => ⟨.bl b, H, I.tok _, rfl, q⟩
end

/-! ### a row of written ints as arguments -/
end L2

set_option linter.all false
set_option maxRecDepth 100000
set_option maxHeartbeats 400000
namespace L2
open PySem PySem.Spec PyProof.Rows

/-! ### defs in short -/
/-- the def x of the text stands behind the top -/
structure Fn (K : PySem.W.Frag) (mg : Str → Option Value) (x : Str) (st : Stmt) : Prop where
  ex : ∃ (f : Addr) (fd : FuncData), mg x = some (.ref f) ∧ Fun K x x st f fd
/-- .. and keeps its promise -/
def Def (P : Program) (w : World) (K : PySem.W.Frag) (mg : Str → Option Value) (base : Heap) (k : Nat) (x : Str) (ps : List Str) (sp : Sp) : Prop :=
  ∃ (f : Addr) (fd : FuncData), mg x = some (.ref f) ∧ PySem.W.keepIn K (.ref f) = true ∧ Binds K fd ps [] ∧ FnOk P w K mg base CX0 k f fd ps sp
section
variable {P : Program} {w : World} {K : PySem.W.Frag} {mg : Str → Option Value} {base : Heap} {x : Str} {st : Stmt} {N ps : List Str} {k j : Nat} {sp : Sp}
theorem Def.up (D : Def P w K mg base j x ps sp) (h : j ≤ k) : Def P w K mg base k x ps sp := by
  obtain ⟨f, fd, a, b, c, d⟩ := D
  exact ⟨f, fd, a, b, c, d.mono h⟩
theorem Def.of (F : Fn K mg x st) (S : FnScope N ps (defScope st))
    (hb : ∀ (kV doc pm : Value) (an : Option Addr) (cdv ct : Value) (us : List Value), us.length = ps.length → bindArgs (PySem.W.fnOf x x (defArgs st) (defBody st) (defScope st) .none kV doc pm an cdv ct) ⟨us, []⟩ = pure (ps.zip us))
    (len : ∀ vs H Q E, sp vs H Q E → vs.length = ps.length)
    (hbody : ∀ (f : Addr) (cdv : Value) (A : Around) (outer : List Env) (s : Shared) (H : Hp) (vs : List V) (Q : VK) (E : XK), Room k (A.deeper (envOfC x (defScope st) s.heap.objs.size f cdv)) → sp vs H Q E →
      ∃ t, PSs (cxOf CX0 P w K mg base N x (defScope st) f cdv A outer s H E).nox (defBody st) t ∧ t { nx := fun _ H' => Q .non H', rt := Q } (start N vs) H) : Def P w K mg base (k + 1) x ps sp := by
  obtain ⟨f, fd, hm, F⟩ := F.ex
  exact ⟨f, fd, hm, F.kp, F.binds hb, F.ok S len fun cdv A outer s H vs Q E hr h => hbody f cdv A outer s H vs Q E hr h⟩
end
section
variable {X : Cx} {x : Str} {ps : List Str} {sp : Sp} {k : Nat} {e : Expr} {es : List Expr} {t : TA} {p pos : Pos}
theorem pe_callD (D : Def X.prog X.w X.K X.mg X.base k x ps sp) (hr : Room k X.A) (ha : PA X (e :: es) t) (hg : Gl X x := by rfl) (hdb : (x == ("__debug__" : Str)) = false := by decide)
    (he : starEach (e :: es) X.env = (false, eval e X.env) :: starEach es X.env := by rfl) (hpl : (backTo pos (starEach es X.env)).any (·.1) = false := by rfl) :
    PE X (.Call (.Name x p) (e :: es) [] pos) (tCall sp [] E0 t) := by
  obtain ⟨f, fd, hm, hk, hb, F⟩ := D
  exact pe_call F hr hg hm hk hb .nil pass0 ha hdb he hpl
end

/-! ### heaps that only grow -/
theorem same_upd {H : Hp} {p : Addr} {o : HO} (h : H p = none) : Same H (upd H p o) := fun b u e => by rw [upd_ne (ne_of_none e h)]; exact e
theorem Same.upd {H H1 : Hp} {p : Addr} {o : HO} (s : Same H H1) (h : H1 p = none) : Same H (upd H1 p o) := s.trans (same_upd h)
end L2

set_option linter.all false
set_option maxRecDepth 100000
set_option maxHeartbeats 400000
namespace L2
open PySem PySem.Spec PyProof.Rows
/-! ### the judgements, sealed: Lean does not look into them while a term is built -/
structure QE (X : Cx) (e : Expr) (t : TE) : Prop where
  h : PE X e t
structure QT (X : Cx) (e : Expr) (t : TT) : Prop where
  h : PT X e t
structure QW (X : Cx) (e : Expr) (t : TT) : Prop where
  h : PW X e t
structure QA (X : Cx) (es : List Expr) (t : TA) : Prop where
  h : PA X es t
structure QS (X : Cx) (st : Stmt) (t : TS) : Prop where
  h : PS X st t
structure QSs (X : Cx) (st : List Stmt) (t : TS) : Prop where
  h : PSs X st t
structure QG (X : Cx) (e : Expr) (t : TG) : Prop where
  h : PG X e t
structure QGs (X : Cx) (es : List Expr) (t : TGs) : Prop where
  h : PGs X es t
structure QI (X : Cx) (tg iter : Expr) (t : TI) : Prop where
  h : PI X tg iter t
structure QO (X : Cx) (e : Option Expr) (t : TO) : Prop where
  h : PO X e t
structure QTs (X : Cx) (es : List Expr) (t : TT) : Prop where
  h : PTs X es t
section
variable {X : Cx} {a b c e o i l : Expr} {es rest : List Expr} {ta tb tc te to ti td ty tv tl : TE} {tA tB' : TT} {t : TA} {pos p p2 pos' apos cpos tpos : Pos} {x : Str}
theorem qv (i : Nat) {x : Str} {pos : Pos} (hN : X.N[i]? = some x := by rfl) (hv : Vis X.env.scope x := by first | exact Or.inl rfl | exact Or.inr (Or.inl rfl) | exact Or.inr (Or.inr rfl)) (hd : (x == ("__debug__" : Str)) = false := by decide)
    (hcd : (x == ("__classdict__" : Str)) = false := by decide) : QE X (.Name x pos) (tVar i) := ⟨pe_var hN hv hd hcd⟩
theorem qe_int {i j pos} : QE X (.Constant (.int i) j pos) (tC (.int i)) := ⟨pe_int⟩
theorem qe_bl {b j pos} : QE X (.Constant (.bool b) j pos) (tC (.bl b)) := ⟨pe_bl⟩
theorem qe_non {j pos} : QE X (.Constant .none j pos) (tC .non) := ⟨pe_non⟩
theorem qe_str {x j pos} : QE X (.Constant (.str x) j pos) (tC (.str x)) := ⟨pe_str⟩
theorem qe_glob {x : Str} {v : V} {u : Value} {pos : Pos} (hm : X.mg x = some u) (r : RelV v u) (hg : Gl X x := by rfl) (hd : (x == ("__debug__" : Str)) = false := by decide) : QE X (.Name x pos) (tC v) := ⟨pe_glob hg hm r hd⟩
theorem qe_bltn {x : Str} {v : V} {u : Value} {pos : Pos} (hm : X.mg x = none) (hv : bootBuiltins x = some u) (r : RelV v u) (hg : Gl X x := by rfl) (hn : x ≠ "__name__" := by decide) (hd : (x == ("__debug__" : Str)) = false := by decide) : QE X (.Name x pos) (tC v) := ⟨pe_bltn hg hm hv r hn hd⟩
theorem qe_op {op : Operator} {r : R2} (ho : OpR X (binaryOp op) r) (ha : QE X a ta) (hb : QE X b tb) : QE X (.BinOp a op b pos) (tOp r ta tb) := ⟨pe_op ho ha.h hb.h⟩
theorem qe_un {op : UnaryOp} {r : V → Hp → VK → Prop} (ho : UnR X (unaryOp op) r) (ha : QE X a ta) : QE X (.UnaryOp op a pos) (tUn r ta) := ⟨pe_un ho ha.h⟩
theorem qe_cmp {op : CmpOp} {r : R2} (ho : OpR X (compareOp op) r) (ha : QE X a ta) (hb : QE X b tb) (hm : behindInMarks op b = false := by first | exact nomark _ | rfl) : QE X (.Compare a [op] [b] pos) (tOp r ta tb) := ⟨pe_cmpR ho ha.h hb.h hm⟩
theorem qt_cmp {op : CmpOp} {r : R2} (ho : OpR X (compareOp op) r) (ha : QE X a ta) (hb : QE X b tb) (hm : behindInMarks op b = false := by first | exact nomark _ | rfl) : QT X (.Compare a [op] [b] pos) (tTest (tOp r ta tb)) := ⟨pt_cmpR ho ha.h hb.h hm⟩
theorem qe_chain {op op' : CmpOp} {r r' : R2} (ho : OpR X (compareOp op) r) (ho' : OpR X (compareOp op') r') (ha : QE X a ta) (hb : QE X b tb) (hc : QE X c tc) (hm : lastMarks [op, op'] [b, c] = false := by with_unfolding_all rfl) :
    QE X (.Compare a [op, op'] [b, c] pos) (tChain r r' ta tb tc) := ⟨pe_chain ho ho' ha.h hb.h hc.h hm⟩
theorem qt_chain {op op' : CmpOp} {r r' : R2} (ho : OpR X (compareOp op) r) (ho' : OpR X (compareOp op') r') (ha : QE X a ta) (hb : QE X b tb) (hc : QE X c tc) (hm : lastMarks [op, op'] [b, c] = false := by with_unfolding_all rfl) :
    QT X (.Compare a [op, op'] [b, c] pos) (tTest (tChain r r' ta tb tc)) := ⟨pt_chain ho ho' ha.h hb.h hc.h hm⟩
theorem qe_one {op} (h : QE X a ta) : QE X (.BoolOp op [a] pos) ta := ⟨pe_one h.h⟩
theorem qe_and (ha : QE X a ta) (hb : QE X (.BoolOp .And (b :: rest) pos) tb) : QE X (.BoolOp .And (a :: b :: rest) pos) (tAndV ta tb) := ⟨pe_and ha.h hb.h⟩
theorem qe_or (ha : QE X a ta) (hb : QE X (.BoolOp .Or (b :: rest) pos) tb) : QE X (.BoolOp .Or (a :: b :: rest) pos) (tOrV ta tb) := ⟨pe_or ha.h hb.h⟩
theorem qe_not (ha : QE X a ta) : QE X (.UnaryOp .Not a pos) (tNotV ta) := ⟨pe_not ha.h⟩
theorem qw_and1 (ha : QT X a tA) : QW X (.BoolOp .And [a] pos) tA := ⟨pw_and1 ha.h⟩
theorem qw_or1 (ha : QT X a tA) : QW X (.BoolOp .Or [a] pos) tA := ⟨pw_or1 ha.h⟩
theorem qw_and (ha : QT X a tA) (hb : QW X (.BoolOp .And (b :: rest) pos) tB') : QW X (.BoolOp .And (a :: b :: rest) pos) (tAnd tA tB') := ⟨pw_and ha.h hb.h⟩
theorem qw_or (ha : QT X a tA) (hb : QW X (.BoolOp .Or (b :: rest) pos) tB') : QW X (.BoolOp .Or (a :: b :: rest) pos) (tOr tA tB') := ⟨pw_or ha.h hb.h⟩
theorem qt_w (h : QW X a tA) : QT X a tA := ⟨h.h.pt⟩
theorem qt_not (ha : QT X a tA) : QT X (.UnaryOp .Not a pos) (tNot tA) := ⟨pt_not ha.h⟩
/-- a value that is a bool, as a test -/
theorem qt_val {t : TE} (h : QE X e t) (he : ∀ whole, isTrue e X.env whole = (do let v ← whole; standAt e.pos; holding [v] (truthy v)) := by intro _; rfl) : QT X e (tB t) := ⟨pt_val h.h he⟩
theorem qe_fld {f : Str} (he : QE X e ta) (hb : attributeBase e f X.env (eval e X.env) = eval e X.env := by rfl) : QE X (.Attribute e f pos) (tFld X.K ta f) := ⟨pe_fld he.h hb⟩
theorem qe_tup {x1} (h : QA X es t) : QE X (.Tuple es x1 pos) (tTup t) := ⟨pe_tup h.h⟩
theorem qe_lst (h : QA X es t) : QE X (.List es pos) (tLst t) := ⟨pe_lst h.h⟩
theorem qe_ix {r : R2} (hr : IxR X r) (ha : QE X a ta) (hb : QE X b tb) (hs : PlainIx b := by exact fun _ _ => rfl) : QE X (.Subscript a b pos) (tOp r ta tb) := ⟨pe_ix hr ha.h hb.h hs⟩
theorem qo_none : QO X none tNoPart := ⟨po_none⟩
theorem qo_some (h : QE X e te) : QO X (some e) (tPart te) := ⟨po_some h.h⟩
theorem qe_slice {r : V → Option Int → Option Int → Hp → VK → Prop} {lo hi : Option Expr} {t1 t2 : TO} (hr : SlR X r) (he : QE X e te) (hl : QO X lo t1) (hu : QO X hi t2) : QE X (.Subscript e (.Slice lo hi none p2) pos) (tSl r te t1 t2) := ⟨pe_slice hr he.h hl.h hu.h⟩
theorem qe_callD {ps : List Str} {sp : Sp} {k : Nat} (D : Def X.prog X.w X.K X.mg X.base k x ps sp) (hr : Room k X.A) (ha : QA X (e :: es) t) (hg : Gl X x := by rfl) (hdb : (x == ("__debug__" : Str)) = false := by decide)
    (he : starEach (e :: es) X.env = (false, eval e X.env) :: starEach es X.env := by rfl) (hpl : (backTo pos (starEach es X.env)).any (·.1) = false := by rfl) :
    QE X (.Call (.Name x p) (e :: es) [] pos) (tCall sp [] E0 t) := ⟨pe_callD D hr ha.h hg hdb he hpl⟩
theorem qe_callB {id : String} {r : List V → Hp → VK → Prop} (hc : CallR X (.builtin id) r) (hm : X.mg x = none) (hv : bootBuiltins x = some (.builtin id)) (ha : QA X (e :: es) t) (hg : Gl X x := by rfl) (hn : x ≠ "__name__" := by decide) (hdb : (x == ("__debug__" : Str)) = false := by decide)
    (he : starEach (e :: es) X.env = (false, eval e X.env) :: starEach es X.env := by rfl) (hpl : (backTo pos (starEach es X.env)).any (·.1) = false := by rfl) : QE X (.Call (.Name x p) (e :: es) [] pos) (tCB r t) := ⟨pe_callB hc hg hm hv ha.h hn hdb he hpl⟩
theorem qe_callTy {T : String} {r : List V → Hp → VK → Prop} (hc : CallR X (.type T) r) (hm : X.mg x = none) (hv : bootBuiltins x = some (.type T)) (ha : QA X (e :: es) t) (hg : Gl X x := by rfl) (hn : x ≠ "__name__" := by decide) (hdb : (x == ("__debug__" : Str)) = false := by decide)
    (he : starEach (e :: es) X.env = (false, eval e X.env) :: starEach es X.env := by rfl) (hpl : (backTo pos (starEach es X.env)).any (·.1) = false := by rfl) : QE X (.Call (.Name x p) (e :: es) [] pos) (tCB r t) := ⟨pe_callTy hc hg hm hv ha.h hn hdb he hpl⟩
theorem qe_bm {T id : String} {name : Str} {r : V → List V → Hp → VK → Prop} (pa : PlainAttrs T) (slot : Slot T name id) (hty : typeOf (.builtin id) = pure (.type "method_descriptor")) (hm : MtR X id r) (ho : QE X o to) (ha : QA X (e :: es) t)
    (hbase : attributeBase o name X.env (eval o X.env) = eval o X.env := by rfl)
    (hfew : ((backTo cpos (starEach (e :: es) X.env)).all (fun x => !x.1) && (backToKw cpos (keywordEach [] X.env)).all (fun x => x.1.isSome)
      && decide ((e :: es).length + ([] : List Keyword).length + (if ([] : List Keyword).isEmpty then 0 else 1) < 30)) = true := by rfl)
    (hline : (apos.endLine == cpos.line) = true := by rfl) (hs : starEach (e :: es) X.env = (false, eval e X.env) :: starEach es X.env := by rfl) (hplain : (backTo cpos (starEach es X.env)).any (·.1) = false := by rfl) :
    QE X (.Call (.Attribute o name apos) (e :: es) [] cpos) (tBM X.K T r to t) := ⟨pe_bm pa slot hty hm ho.h ha.h hbase hfew hline hs hplain⟩
theorem qe_dget (hu : X.A.units + 1 < cLine) (ho : QE X o td) (hi : QE X i ty) (hs : NoSl i := by exact fun _ _ => rfl) : QE X (.Subscript o i pos) (tDGet td ty) := ⟨pe_dget hu ho.h hi.h hs⟩
theorem qt_dnotin (hu : X.A.units + 1 < cLine) (hi : QE X i ty) (ho : QE X o td) (hm : behindInMarks .NotIn o = false := by rfl) : QT X (.Compare i [.NotIn] [o] pos) (tB (tDNotIn ty td)) := ⟨pt_cmp (pc_dnotin hu hi.h ho.h) hm⟩
theorem qe_dnewT : QE X (.Dict [] [] pos) tDNewT := ⟨pe_dnewT⟩
theorem qa_nil : QA X [] tNil := ⟨pa_nil⟩
theorem qa_cons {e : Expr} {es : List Expr} {te : TE} {t : TA} (ha : QE X e te) (hr : QA X es t) (hs : starEach (e :: es) X.env = (false, eval e X.env) :: starEach es X.env := by rfl) : QA X (e :: es) (tCons te t) := ⟨pa_cons ha.h hr.h hs⟩
theorem qe_lcomp {tg iter elt : Expr} {ifs : List Expr} {sc : Scope} {wi : TI} {g : TG} {tt : TT} (own fr : List Str) (ix : List Nat) (hi : QI X tg iter wi)
    (hg : ∀ (fp : List Addr) (pins : List (Addr × Obj)) (s : Shared) (H : Hp), QG (cxComp X (own ++ fr) sc fp pins s H) tg g) (ht : ∀ (fp : List Addr) (pins : List (Addr × Obj)) (s : Shared) (H : Hp), QTs (cxComp X (own ++ fr) sc fp pins s H) ifs tt)
    (he : ∀ (fp : List Addr) (pins : List (Addr × Obj)) (s : Shared) (H : Hp), QE (cxComp X (own ++ fr) sc fp pins s H) elt te) (hc : X.calm = true := by rfl)
    (hS : compChk X.env.scope sc X.N fr ix = true := by kernel_rfl) (hs : ∀ x, foldedSetIterable iter X.env x = pure x := by intro _; rfl) : QE X (.ListComp elt [⟨tg, iter, ifs, 0⟩] sc pos) (tComp wi g tt te own ix) :=
  ⟨pe_lcomp own fr ix hc hi.h (fun a b c d => (hg a b c d).h) (fun a b c d => (ht a b c d).h) (fun a b c d => (he a b c d).h) hS hs⟩
theorem qts_nil : QTs X [] tYes := ⟨pts_nil⟩
theorem qts_one {t : TT} (h : QT X c t) : QTs X [c] t := ⟨pts_one h.h⟩
/-! statements -/
variable {st : Stmt} {rs : List Stmt} {ts us : TS}
theorem qss_nil : QSs X [] tNext := ⟨pss_nil⟩
theorem qss_cons (h1 : QS X st ts) (h2 : QSs X rs us) : QSs X (st :: rs) (tSeq ts us) := ⟨pss_cons h1.h h2.h⟩
theorem qss_one (h1 : QS X st ts) : QSs X [st] ts := ⟨pss_one h1.h⟩
theorem qs_never : QS X st tNever := ⟨ps_never⟩
theorem qss_never : QSs X rs tNever := ⟨pss_never⟩
theorem qs_expr (he : QE X e te) (hs : swapsWith e none pos.line X.env = pure false := by rfl) : QS X (.Expr e pos) (tDrop te) := ⟨ps_expr he.h hs⟩
theorem qs_ret (he : QE X e te) : QS X (.Return (some e) pos) (tRet te) := ⟨ps_ret he.h⟩
theorem qs_if {sa sb : List Stmt} {tt : TT} (hc : QT X c tt) (ha : QSs X sa ts) (hb : QSs X sb us) : QS X (.If c sa sb pos) (tIfS tt ts us) := ⟨ps_if hc.h ha.h hb.h⟩
theorem qs_set {x : Str} (i : Nat) (hN : X.N.Nodup) (he : QE X e te) (hi : X.N[i]? = some x := by rfl) (hx : Loc X.env.scope x := by first | exact Or.inl rfl | exact Or.inr rfl) (hs : swapsWith e (some (.Name x pos')) pos.line X.env = pure false := by rfl)
    (hf : X.fn x = true ∨ X.env.scope.names.lookup x = some .local := by first | exact .inl rfl | exact .inr rfl) : QS X (.Assign [.Name x pos'] e pos) (tAsg te (gName i)) := ⟨ps_set hN hi hx he.h hs hf⟩
theorem qs_asg {tg : Expr} {g : TG} (he : QE X e te) (hg : QG X tg g) (hs : swapsWithSole [tg] e pos.line X.env = pure false := by rfl) (hw : swappedStores [tg] e X.env = pure none := by rfl)
    (h1 : (assignEach [tg] X.env).map (·.2) = [assign tg X.env] := by rfl) : QS X (.Assign [tg] e pos) (tAsg te g) := ⟨ps_asg he.h hg.h hs hw h1⟩
theorem qs_par {x y : Str} {px py pt pt2 : Pos} {kt k2} (i j : Nat) (hN : X.N.Nodup) (ha : QA X [a, b] t) (hc : X.calm = true := by rfl) (hi : X.N[i]? = some x := by rfl) (hj : X.N[j]? = some y := by rfl) (hij : i ≠ j := by decide)
    (hx : X.env.scope.names.lookup x = some .local := by rfl) (hy : X.env.scope.names.lookup y = some .local := by rfl)
    (hw : swappedStores [.Tuple [.Name x px, .Name y py] kt pt] (.Tuple [a, b] k2 pt2) X.env = pure (some [x, y]) := by rfl)
    (hs : swapsWithSole [.Tuple [.Name x px, .Name y py] kt pt] (.Tuple [a, b] k2 pt2) pos.line X.env = pure false := by rfl) :
    QS X (.Assign [.Tuple [.Name x px, .Name y py] kt pt] (.Tuple [a, b] k2 pt2) pos) (tPar i j t) := ⟨ps_par hc hN hi hj hij hx hy ha.h hw hs⟩
theorem qs_aug {x : Str} {op : Operator} {ti : TIp} (i : Nat) (hN : X.N.Nodup) (ho : PIp X op ti) (he : QE X e te) (hi : X.N[i]? = some x := by rfl) (hx : Loc X.env.scope x := by first | exact Or.inl rfl | exact Or.inr rfl)
    (hf : X.fn x = true ∨ X.env.scope.names.lookup x = some .local := by first | exact .inl rfl | exact .inr rfl) : QS X (.AugAssign (.Name x pos') op e pos) (tAug i te ti) := ⟨ps_aug hN hi hx he.h ho hf⟩
theorem qs_fld {f : Str} {value : Expr} (ha : QE X o ta) (hv : QE X value tv) (hs : swapsWith value (some (.Attribute o f pos')) pos.line X.env = pure false := by rfl) : QS X (.Assign [.Attribute o f pos'] value pos) (sFld X.K ta tv f) := ⟨ps_fld ha.h hv.h hs⟩
theorem qs_dput {value : Expr} (hu : X.A.units + 1 < cLine) (ho : QE X o td) (hi : QE X i ty) (hv : QE X value tv) (hs : swapsWith value (some (.Subscript o i pos')) pos.line X.env = pure false := by rfl) :
    QS X (.Assign [.Subscript o i pos'] value pos) (sDPut td ty tv) := ⟨ps_dput hu ho.h hi.h hv.h hs⟩
theorem qs_while {body : List Stmt} {tt : TT} {tb : TS} (hc : QT X c tt) (hb : QSs X body tb) (hp : PassesOwn (model X.prog X.w) X.A X.env X.xe := by exact PassesOwn.never) : QS X (.While c body [] pos) (tWhile tt tb) := ⟨ps_while hp hc.h hb.h⟩
theorem qs_for {tg iter : Expr} {body : List Stmt} {wi : TI} {g : TG} {tb : TS} (hi : QI X tg iter wi) (hg : QG X tg g) (hb : QSs X body tb) (hc : X.calm = true := by rfl) (hp : PassesOwn (model X.prog X.w) X.A X.env X.xe := by exact PassesOwn.never)
    (hs : ∀ x, foldedSetIterable iter X.env x = pure x := by intro _; rfl) : QS X (.For tg iter body [] pos) (tFor wi g tb) := ⟨ps_for hp hc hi.h hg.h hb.h hs⟩
theorem qs_setcomp {tg iter elt : Expr} {ifs : List Expr} {sc : Scope} {wi : TI} {g : TG} {tt : TT} {y : Str} {py spos : Pos} (j : Nat) (own fr : List Str) (ix : List Nat) (hN : X.N.Nodup) (hi : QI X tg iter wi)
    (hg : ∀ (fp : List Addr) (pins : List (Addr × Obj)) (s : Shared) (H : Hp), QG (cxComp X (own ++ fr) sc fp pins s H) tg g) (ht : ∀ (fp : List Addr) (pins : List (Addr × Obj)) (s : Shared) (H : Hp), QTs (cxComp X (own ++ fr) sc fp pins s H) ifs tt)
    (he : ∀ (fp : List Addr) (pins : List (Addr × Obj)) (s : Shared) (H : Hp), QE (cxComp X (own ++ fr) sc fp pins s H) elt te) (hyi : X.N[j]? = some y := by rfl) (hy : X.env.scope.names.lookup y = some .local := by rfl) (hc : X.calm = true := by rfl)
    (hsw : swapsWith (.ListComp elt [⟨tg, iter, ifs, 0⟩] sc pos) (some (.Name y py)) spos.line X.env = pure true := by rfl)
    (hS : compChk X.env.scope sc X.N fr ix = true := by kernel_rfl) (hs : ∀ x, foldedSetIterable iter X.env x = pure x := by intro _; rfl) : QS X (.Assign [.Name y py] (.ListComp elt [⟨tg, iter, ifs, 0⟩] sc pos) spos) (tAsg (tComp wi g tt te own ix) (gName j)) :=
  ⟨ps_setcomp own fr ix hN hyi hy hc hi.h (fun a b c d => (hg a b c d).h) (fun a b c d => (ht a b c d).h) (fun a b c d => (he a b c d).h) hsw hS hs⟩
/-! targets, iterators -/
theorem qg_name {x : Str} (i : Nat) (hN : X.N.Nodup) (hi : X.N[i]? = some x := by rfl) (hx : Loc X.env.scope x := by first | exact Or.inl rfl | exact Or.inr rfl) (hf : X.fn x = true ∨ X.env.scope.names.lookup x = some .local := by first | exact .inl rfl | exact .inr rfl) :
    QG X (.Name x pos) (gName i) := ⟨pg_name hN hi hx hf⟩
theorem qgs_nil : QGs X [] gNil := ⟨pgs_nil⟩
theorem qgs_cons {t : TG} {u : TGs} (h1 : QG X e t) (h2 : QGs X es u) (hs : (assignEach (e :: es) X.env).map (·.2) = assign e X.env :: (assignEach es X.env).map (·.2) := by rfl) : QGs X (e :: es) (gCons t u) := ⟨pgs_cons h1.h h2.h hs⟩
theorem qg_tup {k : Nat} {t : TGs} {n : Nat} (h : QGs X es t) (hc : X.calm = true := by rfl) (hn : (assignEach es X.env).length = n := by rfl) (hst : (assignEach es X.env).findIdx? (·.1) = none := by rfl) : QG X (.Tuple es k pos) (gTup X.K n t) := ⟨pg_tup hc h.h hn hst⟩
theorem qg_sub {t : TSet} (ho : QE X o to) (hi : QE X i ti) (hs : PSet X t)
    (ha : ∀ v, assign (.Subscript o i pos) X.env v = (do
      let ov ← holding [v] (eval o X.env)
      let iv ← holding [v, ov] (eval i X.env)
      standAt pos
      holding [v, ov, iv] (setItem ov iv v)
      release [v, ov, iv] []) := by intro _; rfl) : QG X (.Subscript o i pos) (gSub to ti t) := ⟨pg_sub ho.h hi.h hs ha⟩
theorem qi_list {tg : Expr} (hl : QE X l tl) : QI X tg l (iList X.K tl) := ⟨pi_list hl.h⟩
theorem qi_str {tg : Expr} (hl : QE X l tl) : QI X tg l (iStr tl) := ⟨pi_str hl.h⟩
theorem qi_range1 {tg : Expr} (hm : X.mg "range" = none) (ha : QA X [a] t) (hg : Gl X "range" := by rfl) (hs : starEach [a] X.env = [(false, eval a X.env)] := by rfl) : QI X tg (.Call (.Name "range" p) [a] [] pos) (iRng1 t) := ⟨pi_range1 hg hm ha.h hs⟩
end
/-! ### a def by its sealed body -/
theorem Def.by {P : Program} {w : World} {K : PySem.W.Frag} {mg : Str → Option Value} {base : Heap} {x : Str} {st : Stmt} {N ps : List Str} {k : Nat} {sp : Sp} (F : Fn K mg x st) (S : FnScope N ps (defScope st))
    (hb : ∀ (kV doc pm : Value) (an : Option Addr) (cdv ct : Value) (us : List Value), us.length = ps.length → bindArgs (PySem.W.fnOf x x (defArgs st) (defBody st) (defScope st) .none kV doc pm an cdv ct) ⟨us, []⟩ = pure (ps.zip us))
    (len : ∀ vs H Q E, sp vs H Q E → vs.length = ps.length)
    (hbody : ∀ (f : Addr) (cdv : Value) (A : Around) (outer : List Env) (s : Shared) (H : Hp) (vs : List V) (Q : VK) (E : XK), Room k (A.deeper (envOfC x (defScope st) s.heap.objs.size f cdv)) → sp vs H Q E →
      ∃ t, QSs (cxOf CX0 P w K mg base N x (defScope st) f cdv A outer s H E).nox (defBody st) t ∧ t { nx := fun _ H' => Q .non H', rt := Q } (start N vs) H) : Def P w K mg base (k + 1) x ps sp :=
  Def.of F S hb len fun f cdv A outer s H vs Q E hr h => let ⟨t, h1, h2⟩ := hbody f cdv A outer s H vs Q E hr h; ⟨t, h1.h, h2⟩
end L2

set_option linter.all false
set_option maxRecDepth 100000
set_option maxHeartbeats 400000
namespace L2
open PySem PySem.Spec PyProof.Rows
/-! ### data: what == reads -/
mutual
inductive Rds (K : PySem.W.Frag) (H : Hp) : V → PyData → Prop
  | non : Rds K H .non .none
  | bl (b : Bool) : Rds K H (.bl b) (.bool b)
  | int (i : Int) : Rds K H (.int i) (.int i)
  | str (x : Str) : Rds K H (.str x) (.str x)
  | lst {a : Addr} {xs : List V} {ds : List PyData} : SqL K H a xs → RdsAll K H xs ds → Rds K H (.ref a) (.list ds)
  | tup {a : Addr} {xs : List V} {ds : List PyData} : SqT K H a xs → RdsAll K H xs ds → Rds K H (.ref a) (.tuple ds)
inductive RdsAll (K : PySem.W.Frag) (H : Hp) : List V → List PyData → Prop
  | nil : RdsAll K H [] []
  | cons {x : V} {d : PyData} {xs : List V} {ds : List PyData} : Rds K H x d → RdsAll K H xs ds → RdsAll K H (x :: xs) (d :: ds)
end
section
variable {X : Cx} {pins : List (Addr × Obj)} {σ : St} {H : Hp} {s : Shared}
mutual
theorem reads_of (I : Inv X pins σ H s) : ∀ {x : V} {d : PyData}, Rds X.K H x d → ∀ u, RelV x u → ∃ as, Reads s.heap u d as
  | _, _, .non, u, r => by cases r; exact ⟨[], .none⟩
  | _, _, .bl b, u, r => by cases r; exact ⟨[], .bool b⟩
  | _, _, .int i, u, r => by obtain ⟨t, rfl⟩ := r; exact ⟨[], .int i t⟩
  | _, _, .str x, u, r => by obtain ⟨t, rfl⟩ := r; exact ⟨[], .str x t⟩
  | _, _, .lst (a := a) hq ha, u, r => by
    cases r
    obtain ⟨its, rv, ⟨o, n, ho, hc, hd, hs⟩, _⟩ := I.list hq
    obtain ⟨as, q⟩ := readsAll_of I ha its rv
    exact ⟨a :: as, .list ho hc hs (by simpa using q)⟩
  | _, _, .tup (a := a) hq ha, u, r => by
    cases r
    obtain ⟨its, rv, ⟨o, ho, hc, n, hs⟩, _⟩ := I.tuple hq
    obtain ⟨as, q⟩ := readsAll_of I ha its rv
    exact ⟨as, .tuple ho hc hs (by simpa using q)⟩
theorem readsAll_of (I : Inv X pins σ H s) : ∀ {xs : List V} {ds : List PyData}, RdsAll X.K H xs ds → ∀ us, Vals xs us → ∃ as, ReadsAll s.heap us ds as
  | _, _, .nil, us, r => by cases r; exact ⟨[], .nil⟩
  | _, _, .cons h t, us, r => by
    cases r with
    | cons r1 r2 =>
      obtain ⟨as, q1⟩ := reads_of I h _ r1
      obtain ⟨bs, q2⟩ := readsAll_of I t _ r2
      exact ⟨as ++ bs, .cons q1 q2⟩
end
theorem op_eqD (hu : X.A.units + 64 < cLine) : OpR X (compareOp .Eq) (fun x y H Q => ∃ dx dy, Rds X.K H x dx ∧ Rds X.K H y dy ∧ SeqAt.shaped dx = true ∧ SeqAt.shaped dy = true ∧ Q (.bl (PyData.eqv dx dy)) H) := by
  intro pins s σ H x y v u Q I rx ry h
  obtain ⟨dx, dy, h1, h2, s1, s2, q⟩ := h
  obtain ⟨as, r1⟩ := reads_of I h1 v rx
  obtain ⟨bs, r2⟩ := reads_of I h2 u ry
  exact eq_dataH r1 r2 s1 s2 hu ⟨.bl _, H, I, rfl, q⟩
theorem op_neD (hu : X.A.units + 64 < cLine) : OpR X (compareOp .NotEq) (fun x y H Q => ∃ dx dy, Rds X.K H x dx ∧ Rds X.K H y dy ∧ SeqAt.shaped dx = true ∧ SeqAt.shaped dy = true ∧ Q (.bl (!PyData.eqv dx dy)) H) := by
  intro pins s σ H x y v u Q I rx ry h
  obtain ⟨dx, dy, h1, h2, s1, s2, q⟩ := h
  obtain ⟨as, r1⟩ := reads_of I h1 v rx
  obtain ⟨bs, r2⟩ := reads_of I h2 u ry
  exact ne_dataH r1 r2 s1 s2 hu ⟨.bl _, H, I, rfl, q⟩
end
/-! texts; lists of texts; pairs of ints; lists of these -/
theorem rds_strs {K : PySem.W.Frag} {H : Hp} : ∀ zs : List Str, RdsAll K H (zs.map V.str) (zs.map PyData.str)
  | [] => .nil
  | z :: zs => .cons (.str z) (rds_strs zs)
theorem eqv_strs : ∀ xs ys : List Str, PyData.eqvAll (xs.map PyData.str) (ys.map PyData.str) = decide (xs = ys)
  | [], [] => by simp [PyData.eqvAll]
  | [], _ :: _ => by simp [PyData.eqvAll]
  | _ :: _, [] => by simp [PyData.eqvAll]
  | x :: xs, y :: ys => by
    simp only [List.map_cons, PyData.eqvAll, PyData.eqv, eqv_strs xs ys]
    by_cases h : x = y <;> by_cases h' : xs = ys <;> simp [h, h']
theorem lay_strs : ∀ {xs : List Str}, (∀ x ∈ xs, PySem.PyData.strOk x = true) → PyData.canLayAll0 (xs.map PyData.str) = true ∧ PyData.depthAll (xs.map PyData.str) = 0
  | [], _ => ⟨rfl, rfl⟩
  | x :: xs, h => by
    obtain ⟨h1, h2⟩ := lay_strs (xs := xs) fun y hy => h y (List.mem_cons_of_mem _ hy)
    refine ⟨?_, ?_⟩
    · simp only [List.map_cons, PyData.canLayAll0, PyData.canLay0, h1, Bool.and_true]
      exact h x List.mem_cons_self
    · simp [PyData.depthAll, PyData.depth, h2]
theorem shaped_strs {xs : List Str} (h : ∀ x ∈ xs, PySem.PyData.strOk x = true) : SeqAt.shaped (.list (xs.map PyData.str)) = true := by
  obtain ⟨h1, h2⟩ := lay_strs h
  unfold SeqAt.shaped
  simp [PyData.canLay0, PyData.depth, h1, h2]
abbrev pairD (p : Int × Int) : PyData := .tuple [.int p.1, .int p.2]
theorem eqv_pair (p q : Int × Int) : PyData.eqv (pairD p) (pairD q) = decide (p = q) := by
  simp only [pairD, PyData.eqv, PyData.eqvAll, Bool.and_true]
  obtain ⟨p1, p2⟩ := p
  obtain ⟨q1, q2⟩ := q
  by_cases h : p1 = q1 <;> by_cases h' : p2 = q2 <;> simp [h, h']
theorem eqv_pairs : ∀ ps qs : List (Int × Int), PyData.eqvAll (ps.map pairD) (qs.map pairD) = decide (ps = qs)
  | [], [] => by simp [PyData.eqvAll]
  | [], _ :: _ => by simp [PyData.eqvAll]
  | _ :: _, [] => by simp [PyData.eqvAll]
  | x :: xs, y :: ys => by
    rw [List.map_cons, List.map_cons]
    show (PyData.eqv (pairD x) (pairD y) && PyData.eqvAll (xs.map pairD) (ys.map pairD)) = _
    rw [eqv_pair, eqv_pairs xs ys]
    by_cases h : x = y <;> by_cases h' : xs = ys <;> simp [h, h']
theorem lay_pairs : ∀ ps : List (Int × Int), PyData.canLayAll0 (ps.map pairD) = true ∧ PyData.depthAll (ps.map pairD) ≤ 1
  | [] => ⟨rfl, by simp [PyData.depthAll]⟩
  | p :: ps => by
    obtain ⟨h1, h2⟩ := lay_pairs ps
    refine ⟨?_, ?_⟩
    · rw [List.map_cons]
      show (PyData.canLay0 (pairD p) && PyData.canLayAll0 (ps.map pairD)) = true
      rw [h1]
      simp [pairD, PyData.canLay0, PyData.canLayAll0]
    · rw [List.map_cons]
      show max (PyData.depth (pairD p)) (PyData.depthAll (ps.map pairD)) ≤ 1
      have : PyData.depth (pairD p) = 1 := by simp [pairD, PyData.depth, PyData.depthAll]
      omega
theorem shaped_pairs (ps : List (Int × Int)) : SeqAt.shaped (.list (ps.map pairD)) = true := by
  obtain ⟨h1, h2⟩ := lay_pairs ps
  unfold SeqAt.shaped
  rw [Bool.and_eq_true]
  refine ⟨by simpa [PyData.canLay0] using h1, decide_eq_true ?_⟩
  simp only [PyData.depth]
  omega
end L2

set_option linter.all false
set_option maxRecDepth 100000
set_option maxHeartbeats 400000
namespace L2
open PySem PySem.Spec PyProof.Rows
/-! ### in, not in: a list of data -/
section
variable {X : Cx}
end
end L2

set_option linter.all false
set_option maxRecDepth 100000
set_option maxHeartbeats 400000
namespace L2
open PySem PySem.Spec PyProof.Rows
theorem Room.u64 {k : Nat} {A : Around} (r : Room k A) : A.units + 64 < cLine := by have := r.un; omega
end L2
namespace L2
theorem iteFb {b : Bool} {A B : Prop} (e : b = false) (h : B) : if b = true then A else B := by rw [e]; exact h
theorem iteTb {b : Bool} {A B : Prop} (e : b = true) (h : A) : if b = true then A else B := by rw [e]; exact h
end L2
namespace L2
open PySem PySem.Spec PyProof.Rows
/-- the law's own def by its sealed body -/
theorem Law.by {P : Program} {w : World} {K : PySem.W.Frag} {mg : Str → Option Value} {base : Heap} {x qual : Str} {st : Stmt} {N ps : List Str} {k : Nat} {sp : Sp} {f : Addr} {fd : FuncData} (F : Fun K x qual st f fd) (S : FnScope N ps (defScope st))
    (len : ∀ vs H Q E, sp vs H Q E → vs.length = ps.length)
    (hbody : ∀ (cdv : Value) (A : Around) (outer : List Env) (s : Shared) (H : Hp) (vs : List V) (Q : VK) (E : XK), Room k (A.deeper (envOfC qual (defScope st) s.heap.objs.size f cdv)) → sp vs H Q E →
      ∃ t, QSs (cxOf CX0 P w K mg base N qual (defScope st) f cdv A outer s H E).nox (defBody st) t ∧ t { nx := fun _ H' => Q .non H', rt := Q } (start N vs) H) : FnOk P w K mg base CX0 (k + 1) f fd ps sp :=
  F.ok S len fun cdv A outer s H vs Q E hr h => let ⟨t, h1, h2⟩ := hbody cdv A outer s H vs Q E hr h; ⟨t, h1.h, h2⟩
/-- a def that the top has made -/
theorem fn_mk {K : PySem.W.Frag} {h : Heap} {mg : Str → Option Value} {x : Str} {st : Stmt} {f : Addr} {oc : Value} {od an : Option Addr} {osl : Array (Option Value)} {kV doc pm cdv ct : Value} (X : K.In h) (G : h.Ns mainGlobals mg)
    (a : PySem.W.nsIn K mainGlobals x = some (some (.ref f))) (l : K.lookup f = some ⟨oc, od, .func (PySem.W.fnOf x x (defArgs st) (defBody st) (defScope st) .none kV doc pm an cdv ct), osl⟩) (c : PySem.W.codeIn K cdv x = true) (k : PySem.W.keepIn K (.ref f) = true) : Fn K mg x st :=
  ⟨f, _, PySem.W.mg_of X G a, fun_mk l c k⟩
end L2
namespace L2
open PySem PySem.Spec PyProof.Rows
/-! the same rules, K named (inside a comprehension) -/
end L2
namespace L2
open PySem PySem.Spec PyProof.Rows
end L2

set_option linter.all false
set_option maxRecDepth 100000
set_option maxHeartbeats 400000
namespace L2
open PySem PySem.Spec PyProof.Rows
/-! ### list(reversed(xs)) -/
section
variable {prog : Program} {w : World} {A : Around} {E : Value → Shared → Prop} {s : Shared} {it l : Addr} {vs : Array Value}
theorem rv_noLen : typeLookup (.type "list_reverseiterator") "__len__" = pure none := by rw [typeLookup_type, builtinLookup_eq_fast]; kernel_rfl
theorem rv_hintAt : typeLookup (.type "list_reverseiterator") "__length_hint__" = pure (some (.builtin "list_reverseiterator.__length_hint__")) := by
  rw [typeLookup_type, builtinLookup_eq_fast]
  kernel_rfl
theorem rv_hint {Q : Bool → Shared → Prop} (ty : s.TypeIs (.ref it) "list_reverseiterator") (q : Q false s) : wpAny (model prog w) A (Builtin.List.listLengthHint (.ref it)) Q E s := by
  unfold Builtin.List.listLengthHint
  refine wpAny_bind (wpAny_specialOf ty rv_noLen ?_)
  show wpAny _ A (specialOf (Value.ref it) (Str.ofString "__length_hint__") >>= _) _ _ s
  refine wpAny_bind (wpAny_specialOf ty rv_hintAt ?_)
  generalize hnm : ("list_reverseiterator.__length_hint__" : String) = nm
  wp_delta
  rw [show splitId nm = some ("list_reverseiterator", "__length_hint__") from by subst hnm; decide +kernel]
  subst hnm
  refine wpAny_bind (wpAny_isInstance (T := "list_reverseiterator") (b := true) ty (by rw [isSubtype_type]; kernel_rfl) ?_)
  refine wpAny_ite_split (fun z => absurd z (by decide)) fun _ => ?_
  refine wpAny_ite_split (fun _ => ?_) fun z => absurd (by decide +kernel) z
  refine wpAny_ite_split (fun z => absurd z (by decide)) fun _ => ?_
  exact wpAny_pure q
/-- a state of which another one differs by heap and tokens -/
theorem rv_extend {R : Result → Shared → Prop} (hh : A.handled = none) (S : Addr) (res : Value) (c : Nat) (ne : l ≠ it) (nS : S ≠ it) (nl : S ≠ l) (hi : s.heap.IsRevIter it l ((vs.size : Int) - 1)) (hl : s.heap.IsList l vs) (hz : vs.size ≤ sizeLine)
    (hS : s.heap.get? S = some { cls := .type "list", data := .seq #[] c })
    (hR : ∀ (h' : Heap) (tk : Nat) (acc : Array Value) (c' : Nat), (∀ b o, b ≠ S → b ≠ it → s.heap.get? b = some o → h'.get? b = some o) → h'.get? S = some { cls := .type "list", dict := none, data := .seq acc c', slots := #[] } →
      ItemsOf (fun i v => vs[vs.size - 1 - i]? = some v) acc vs.size → R (.ok (.ret res)) { s with heap := h', toks := tk }) :
    wpAny (model prog w) A.in1 (Builtin.List.listExtendWith (.ref S) (.ref it) res)
      (fun fin s' => match fin with
        | .done f => R (.ok f) s'
        | .again c' => c'.quiet = true ∧ codeAny (model prog w) A c' R s')
      (fun e s' => R (.error e) s') s := by
  have W := (Walks.listRev (prog := prog) (w := w) (A := A.in1) hh it l ne vs).toS
  have off : S ∉ [it, l] := fun z => by
    rcases List.mem_cons.mp z with z | z
    · exact nS z
    · exact nl (List.mem_singleton.mp z)
  have st : (0 : Nat) ≤ vs.size ∧ s.heap.IsRevIter it l ((vs.size : Int) - 1 - ((0 : Nat) : Int)) ∧ s.heap.IsList l vs := ⟨Nat.zero_le _, by simpa using hi, hl⟩
  unfold Builtin.List.listExtendWith
  refine wpAny_bind (wpAny_typeOf hi.typeIs ?_)
  have d1 : Builtin.List.listSameRef (.ref S) (.ref it) = false := by simp [Builtin.List.listSameRef, nS]
  have d2 : (Value.type "list_reverseiterator" == Value.type "list") = false := by decide
  have d3 : (Value.type "list_reverseiterator" == Value.type "tuple") = false := by decide
  simp only [d1, d2, d3, Bool.or_false, Bool.false_eq_true, if_false]
  refine wpAny_bind (wpAny_pyIter_revIter hi ?_)
  refine wpAny_bind (wpAny_holding (rv_hint hi.typeIs ?_))
  refine wpAny_ite_split (fun z => absurd z (by decide +kernel)) fun _ => ?_
  refine wpAny_pure ⟨plainId_quiet PySem.F.plain_extend_loop _, codeAny_extend_loopS W hz S off res vs.size 0 s #[] c rfl (Nat.zero_le _) st hS (ItemsOf.nil _) fun s' acc c' mv g1 g2 => ?_⟩
  rw [Moved.eq_with mv]
  refine hR s'.heap s'.toks acc c' (fun b o n1 n2 q => mv.heap b o (fun z => ?_) q) g1 g2
  rcases List.mem_cons.mp z with z | z
  · exact n1 z
  · exact n2 (List.mem_singleton.mp z)
theorem rv_list {Q : Value → Shared → Prop} (hh : A.handled = none) (ne : l ≠ it) (hi : s.heap.IsRevIter it l ((vs.size : Int) - 1)) (hl : s.heap.IsList l vs) (hz : vs.size ≤ sizeLine)
    (hQ : ∀ (h' : Heap) (tk : Nat) (acc : Array Value) (c' : Nat), (∀ b o, b ≠ it → s.heap.get? b = some o → h'.get? b = some o) → h'.get? s.heap.objs.size = some { cls := .type "list", dict := none, data := .seq acc c', slots := #[] } →
      ItemsOf (fun i v => vs[vs.size - 1 - i]? = some v) acc vs.size → Q (.ref s.heap.objs.size) { s with heap := h', toks := tk }) : wpAny (model prog w) A (call (.type "list") [.ref it]) Q E s := by
  refine callType_codes (Q₁ := fun obj t => obj = .ref s.heap.objs.size ∧ t = { s with heap := s.heap.push { cls := .type "list", data := .seq #[] } }) PySem.F.called_list
    (PySem.F.typeCall_list_1 _) PySem.F.entry_list_init (code_list_new _ ⟨rfl, rfl⟩) fun obj t z => ?_
  obtain ⟨rfl, rfl⟩ := z
  have new : (s.heap.push { cls := .type "list", data := .seq #[] }).get? s.heap.objs.size = some { cls := .type "list", data := .seq #[] } := Heap.get?_push_size _ rfl
  have up : ∀ b o, s.heap.get? b = some o → (s.heap.push { cls := .type "list", data := .seq #[] }).get? b = some o := fun b o q => Heap.get?_push_of_some _ q
  have lt1 : it < s.heap.objs.size := let ⟨_, ho, _⟩ := hi; Heap.lt_size ho
  have lt2 : l < s.heap.objs.size := let ⟨_, ho, _⟩ := hl; Heap.lt_size ho
  refine ⟨⟨_, new, rfl⟩, PySem.F.args_list_init_2 _ _, ?_⟩
  show wpAny _ _ (do
    let old ← Builtin.List.listItems (.ref s.heap.objs.size)
    Builtin.List.listUpdate (.ref s.heap.objs.size) (fun _ => #[])
    letGo old.toList.reverse
    Builtin.List.listExtendWith (.ref s.heap.objs.size) (.ref it) .none) _ _ _
  refine wpAny_bind ?_
  unfold Builtin.List.listItems
  refine wpAny_bind (wpAny_seqItems new rfl (wpAny_pure ?_))
  show wpAny _ _ (updateSeq s.heap.objs.size (fun _ => #[]) >>= fun _ =>
    letGo (#[] : Array Value).toList.reverse >>= fun _ =>
    Builtin.List.listExtendWith (.ref s.heap.objs.size) (.ref it) .none) _ _ _
  refine wpAny_bind (wpAny_updateSeq new rfl ?_)
  have new2 := Heap.get?_update_self (Obj.mapSeq (fun _ => (#[] : Array Value))) new rfl
  have up2 : ∀ b o, b ≠ s.heap.objs.size → s.heap.get? b = some o → ((s.heap.push { cls := .type "list", data := .seq #[] }).update s.heap.objs.size (Obj.mapSeq (fun _ => (#[] : Array Value)))).get? b = some o :=
    fun b o n q => (Heap.get?_update_other _ _ (Ne.symm n)).trans (up b o q)
  refine wpAny_bind (wpAny_letGo ?_)
  refine rv_extend (A := A.in1) hh s.heap.objs.size .none _ ne (Nat.ne_of_gt lt1) (Nat.ne_of_gt lt2) (hi.at fun o q => up2 _ o (Nat.ne_of_lt lt1) q) (hl.at fun o q => up2 _ o (Nat.ne_of_lt lt2) q) hz new2 fun h' tk acc c' g1 g2 g3 => ?_
  exact ⟨rfl, hQ h' tk acc c' (fun b o n q => g1 b o (Nat.ne_of_lt (Heap.lt_size q)) n (up2 b o (Nat.ne_of_lt (Heap.lt_size q)) q)) g2 g3⟩
end
/-- what list(reversed(xs)) reads -/
def tRev (K : PySem.W.Frag) (te : TE) : TE := fun σ H Q => te σ H fun x H1 => ∃ l ys, x = .ref l ∧ SqL K H1 l ys ∧ ∀ q, H1 q = none → Q (.ref q) (upd H1 q (.lst ys.reverse))
theorem vals_rev {xs : List V} {us : List Value} (r : Vals xs us) {acc : Array Value} (h : ItemsOf (fun i v => us.toArray[us.toArray.size - 1 - i]? = some v) acc us.toArray.size) : Vals xs.reverse acc.toList := by
  have h1 : acc.size = us.length := by simpa using h.1
  have h2 : ∀ j v, acc[j]? = some v → us[us.length - 1 - j]? = some v := fun j v z => by
    have := h.2 j v z
    simpa using this
  have hl := r.length
  refine vals_ix (by have z : acc.toList.length = us.length := h1; rw [List.length_reverse, z, hl]) fun i x u e1 e2 => ?_
  have hi : i < xs.length := by
    have := (List.getElem?_eq_some_iff.mp e1).1
    rwa [List.length_reverse] at this
  rw [List.getElem?_reverse hi] at e1
  have e3 := h2 i u (by rw [← Array.getElem?_toList]; exact e2)
  rw [← hl] at e3
  obtain ⟨u', e4, rv⟩ := r.get e1
  rw [e4] at e3
  obtain rfl := Option.some.inj e3
  exact rv
theorem pe_listrev {X : Cx} {e : Expr} {te : TE} {p p2 pos pos2 : Pos} (hm1 : X.mg "list" = none) (hm2 : X.mg "reversed" = none) (he : PE X e te) (hc : X.calm = true := by rfl) (hg1 : Gl X "list" := by rfl) (hg2 : Gl X "reversed" := by rfl)
    (hs1 : starEach [.Call (.Name "reversed" p2) [e] [] pos2] X.env = [(false, eval (.Call (.Name "reversed" p2) [e] [] pos2) X.env)] := by rfl) (hs2 : starEach [e] X.env = [(false, eval e X.env)] := by rfl) :
    PE X (.Call (.Name "list" p) [.Call (.Name "reversed" p2) [e] [] pos2] [] pos) (tRev X.K te) := by
  intro pins s σ H Q I h
  refine wpAny_Call_Name_kw (ld_blt I hg1 hm1 PyProof.Rows.boot_list ?_)
  refine PyProof.Rows.callWith_type1 ?_ hs1 rfl
  rw [hs1]
  refine Calls.spliced_cons ?_
  refine wpAny_Call_Name_kw (ld_blt I hg2 hm2 PyProof.Rows.boot_reversed ?_)
  refine PyProof.Rows.callWith_type1 ?_ hs2 rfl
  rw [hs2]
  refine Calls.spliced_cons (thn (he pins s σ H _ I h) fun u s1 ⟨x, H1, I1, r1, q1⟩ => ?_)
  refine Calls.spliced_nil ?_
  obtain ⟨l, ys, rfl, hq, q⟩ := q1
  cases r1
  obtain ⟨its, rv, pl, hz⟩ := I1.list hq
  have hz' : its.toArray.size ≤ sizeLine := by rw [List.size_toArray, ← rv.length]; exact hz
  refine call_reversed_list pl.isList ?_
  refine Calls.spliced_nil ?_
  have lt : l < s1.heap.objs.size := let ⟨_, ho, _⟩ := pl.isList; Heap.lt_size ho
  refine rv_list (I1.ok.hd hc) (it := s1.heap.objs.size) (Nat.ne_of_lt lt) ⟨_, Heap.get?_push_size _ rfl, rfl, rfl⟩ (pl.isList.at fun o z => Heap.get?_push_of_some _ z) hz' fun h' tk acc c' g1 g2 g3 => ?_
  have k : ∀ b o, s1.heap.get? b = some o → h'.get? b = some o := fun b o z => g1 b o (Nat.ne_of_lt (Heap.lt_size z)) (Heap.get?_push_of_some _ z)
  refine ⟨.ref (s1.heap.push (revObj l (its.toArray.size - 1))).objs.size, _, I1.laid (t' := tk) k (by simp [Heap.push]) (show ObjOk X.prog X.w _ h' _ (.lst ys.reverse) from ⟨by rw [List.length_reverse]; exact hz, acc.toList, c', vals_rev rv g3, by simpa using g2⟩), rfl,
    q _ (I1.hok.fresh (by simp [Heap.push]))⟩
theorem qe_listrev {X : Cx} {e : Expr} {te : TE} {p p2 pos pos2 : Pos} (hm1 : X.mg "list" = none) (hm2 : X.mg "reversed" = none) (he : QE X e te) (hc : X.calm = true := by rfl) (hg1 : Gl X "list" := by rfl) (hg2 : Gl X "reversed" := by rfl)
    (hs1 : starEach [.Call (.Name "reversed" p2) [e] [] pos2] X.env = [(false, eval (.Call (.Name "reversed" p2) [e] [] pos2) X.env)] := by rfl) (hs2 : starEach [e] X.env = [(false, eval e X.env)] := by rfl) :
    QE X (.Call (.Name "list" p) [.Call (.Name "reversed" p2) [e] [] pos2] [] pos) (tRev X.K te) := ⟨pe_listrev hm1 hm2 he.h hc hg1 hg2 hs1 hs2⟩
end L2

set_option linter.all false
set_option maxRecDepth 100000
set_option maxHeartbeats 400000
namespace L2
open PySem PySem.Spec PyProof.Rows
/-! ### a dict of the text's own, read -/
def KDic (P : Program) (w : World) (K : PySem.W.Frag) (d : Addr) (kvs : List (Key × V)) : Prop := (d == sysModules) = false ∧ ∀ h : Heap, K.In h → ∃ vs, KV kvs vs ∧ h.DictOf (mixKind P w) d vs
section
variable {X : Cx} {d : Addr} {kvs : List (Key × V)}
theorem op_notInK (C : KDic X.prog X.w X.K d kvs) : OpR X (compareOp .NotIn) (fun x y H Q => ∃ k, x = kV k ∧ y = .ref d ∧ Q (.bl (!(valV kvs k).isSome)) H) := by
  intro pins s σ H x y v u Q I rx ry h
  obtain ⟨k, rfl, rfl, q⟩ := h
  cases ry
  obtain ⟨vs, rel, dd⟩ := C.2 _ I.kIn
  refine wpAny_notIn_of (kV_is rx) C.1 dd.mapOf ?_
  rw [← (rel.val k).isSome_eq]
  exact ⟨.bl _, H, I.tok _, rfl, q⟩
theorem ix_dictK (C : KDic X.prog X.w X.K d kvs) {o i : Expr} {pos : Pos} {td ty : TE} (ho : QE X o td) (hi : QE X i ty) (hs : NoSl i := by exact fun _ _ => rfl) :
    QE X (.Subscript o i pos) (tOp (fun x y H Q => ∃ k v, x = .ref d ∧ y = kV k ∧ valV kvs k = some v ∧ Q v H) td ty) := by
  refine ⟨fun pins s σ H Q I h => ?_⟩
  refine subD_of PySem.F.slot_dict_getitem.lookup hs (thn (ho.h pins s σ H _ I h) fun u s1 ⟨x, H1, I1, rx, q1⟩ => thn (hi.h pins s1 σ H1 _ I1 q1) fun iv s2 ⟨y, H2, I2, ry, k, v, ex, ey, l, q2⟩ => ?_)
  subst ex ey
  obtain rfl : u = Value.ref d := rx
  obtain ⟨vs, rel, dd⟩ := C.2 _ I2.kIn
  obtain ⟨w', hw, rw'⟩ := RelO.some_of (v := v) (o := valueAt vs k) (by rw [← l]; exact rel.val k)
  exact ⟨dd.typeIs, wpAny_getItem_of (kV_is ry) dd.mapOf hw ⟨v, H2, I2.tok _, rw', q2⟩⟩
end
/-! ### a dict walked: its keys in order -/
section
variable {prog : Program} {w : World} {A : Around} {E : Value → Shared → Prop} {s : Shared} {d it : Addr} {o : Obj} {es : Array DictEntry} {ep i : Nat}
theorem dw_type (ho : s.heap.get? d = some o) (hx : o.ExactDict) : s.TypeIs (.ref d) "dict" := ⟨o, ho, hx.1⟩
theorem dw_start {Q : Value → Shared → Prop} (lo : (d == sysModules) = false) (ho : s.heap.get? d = some o) (hx : o.ExactDict) (hd : o.data = .dict es ep)
    (q : Q (.ref s.heap.objs.size) { s with heap := s.heap.push { cls := .type "dict_keyiterator", data := .fields #[.ref d, .int 0 0, .int es.size 0, .int ep 0] } }) : wpAny (model prog w) A (pyIter (.ref d)) Q E s := by
  have ty := dw_type ho hx
  refine wpAny_pyIter_slot ty PySem.F.slot_dict_iter ?_
  refine wpAny_call_entry PySem.F.slot_dict_iter ty PySem.F.entry_dict_iter ?_ (PySem.F.args_dict_iter_1 _)
  unfold Builtin.«dict.__iter__» Builtin.Dict.dictSlotNone
  refine wpAny_bind (wpAny_bind (wpAny_notOrdered_dict ty (wpAny_pure ?_)))
  show wpAny _ _ (Builtin.Dict.showsAll d >>= _) _ _ _
  unfold Builtin.Dict.showsAll
  rw [if_neg (by rw [lo]; decide)]
  refine wpAny_bind (wpAny_pure (wpAny_bind (wpAny_dictEntries ho hd (wpAny_bind (wpAny_dictEpoch ho hd ?_)))))
  refine wpAny_bind (wpAny_newObj_type (wpAny_pure ?_))
  refine ⟨_, rfl, "dict_keyiterator", _, ⟨_, Heap.get?_push_size _ rfl, rfl⟩, PySem.F.slot_dict_keyiterator_next.lookup, ?_⟩
  simpa [rawInt] using q
theorem dw_next {Q : Option Value → Shared → Prop} {e : DictEntry} (hit : s.heap.IsKeyIter it d i es.size ep) (ho : s.heap.get? d = some o) (hd : o.data = .dict es ep) (he : es[i]? = some e)
    (q : ∀ h', h'.IsKeyIter it d (i + 1) es.size ep → Heap.SameBut it s.heap h' → Q (some e.key) { s with heap := h' }) : wpAny (model prog w) A (pyNext (.ref it)) Q E s := by
  obtain ⟨oi, hoi, ci, di⟩ := id hit
  have ty := hit.typeIs
  unfold pyNext
  refine wpAny_bind (wpAny_attempt (wpAny_callSpecial?_slot (name := Str.ofString "__next__") ty PySem.F.slot_dict_keyiterator_next ?_))
  refine wpAny_call_entry PySem.F.slot_dict_keyiterator_next ty PySem.F.entry_dict_keyiterator_next ?_ (PySem.F.args_dict_keyiterator_next_1 _)
  refine wpAny_bind (wpAny_pure (wpAny_bind (wpAny_bind ?_)))
  first
    | refine wpAny_bind (wpAny_typeNameOfWhole_keyiter ty (wpAny_pure ?_))
    | refine wpAny_bind (wpAny_typeNameOf_keyiter ty (wpAny_pure ?_))
  refine wpAny_bind (wpAny_fieldsOf hoi di ?_)
  have own : Builtin.Dict_items.ownsTuple "dict_keyiterator" = false := by decide
  simp only [own, Bool.false_eq_true, if_false]
  show wpAny _ _ (if (Value.ref d == Value.none) = true then _ else _) _ _ _
  have nn : ¬ ((Value.ref d == Value.none) = true) := Bool.false_ne_true
  rw [if_neg nn]
  refine wpAny_bind (wpAny_pure (wpAny_bind (wpAny_dictEntries ho hd ?_)))
  rw [if_neg (by simp)]
  refine wpAny_bind (wpAny_pure (wpAny_bind (wpAny_dictEpoch ho hd ?_)))
  rw [if_neg (by simp)]
  refine wpAny_pure ?_
  simp only [show ¬ ((i : Int) < 0) from by omega, if_false, Int.toNat_natCast, he]
  refine wpAny_bind ?_
  first
    | refine wpAny_bind (wpAny_typeNameOfWhole_keyiter ty (wpAny_pure ?_))
    | refine wpAny_bind (wpAny_typeNameOf_keyiter ty (wpAny_pure ?_))
  refine wpAny_bind (wpAny_isOneOf_keyiter ty ?_)
  show wpAny _ _ (setField (.ref it) 1 (rawInt ((i : Int) + 1)) >>= _) _ _ _
  refine wpAny_bind (wpAny_setField hoi di (by simp) ?_)
  have hit' : (s.heap.update it (Obj.mapFields (·.setIfInBounds 1 (rawInt ((i : Int) + 1))))).IsKeyIter it d (i + 1) es.size ep := by
    refine ⟨_, Heap.get?_update_self _ hoi (Obj.isFreed_of_fields (Obj.data_mapFields di _)), (Obj.cls_mapFields ..).trans ci, ?_⟩
    rw [Obj.data_mapFields di]
    simp [rawInt]
  refine wpAny_bind (wpAny_holding (wpAny_bind ?_))
  refine wpAny_isOneOf_keyiter (s := { s with heap := s.heap.update it (Obj.mapFields (·.setIfInBounds 1 (rawInt ((i : Int) + 1)))) }) hit'.typeIs ?_
  show wpAny _ _ (pure e.key) _ _ _
  exact wpAny_pure (wpAny_pure ⟨_, rfl, wpAny_pure (q _ hit' (Heap.SameBut.update ..))⟩)
theorem dw_end {Q : Option Value → Shared → Prop} (hh : A.handled = none) (hit : s.heap.IsKeyIter it d es.size es.size ep) (ho : s.heap.get? d = some o) (hd : o.data = .dict es ep)
    (q : ∀ h', Heap.ExtBut it s.heap h' → Q none { s with heap := h' }) : wpAny (model prog w) A (pyNext (.ref it)) Q E s := by
  obtain ⟨oi, hoi, ci, di⟩ := id hit
  have ty := hit.typeIs
  unfold pyNext
  refine wpAny_bind (wpAny_attempt (wpAny_callSpecial?_slot (name := Str.ofString "__next__") ty PySem.F.slot_dict_keyiterator_next ?_))
  refine wpAny_call_entry PySem.F.slot_dict_keyiterator_next ty PySem.F.entry_dict_keyiterator_next ?_ (PySem.F.args_dict_keyiterator_next_1 _)
  refine wpAny_bind (wpAny_pure (wpAny_bind (wpAny_bind ?_)))
  first
    | refine wpAny_bind (wpAny_typeNameOfWhole_keyiter ty (wpAny_pure ?_))
    | refine wpAny_bind (wpAny_typeNameOf_keyiter ty (wpAny_pure ?_))
  refine wpAny_bind (wpAny_fieldsOf hoi di ?_)
  have own : Builtin.Dict_items.ownsTuple "dict_keyiterator" = false := by decide
  simp only [own, Bool.false_eq_true, if_false]
  show wpAny _ _ (if (Value.ref d == Value.none) = true then _ else _) _ _ _
  have nn : ¬ ((Value.ref d == Value.none) = true) := Bool.false_ne_true
  rw [if_neg nn]
  refine wpAny_bind (wpAny_pure (wpAny_bind (wpAny_dictEntries ho hd ?_)))
  rw [if_neg (by simp)]
  refine wpAny_bind (wpAny_pure (wpAny_bind (wpAny_dictEpoch ho hd ?_)))
  rw [if_neg (by simp)]
  refine wpAny_pure ?_
  simp only [show ¬ ((es.size : Int) < 0) from by omega, if_false, Int.toNat_natCast, Array.getElem?_eq_none (Nat.le_refl es.size)]
  refine wpAny_bind ?_
  first
    | refine wpAny_bind (wpAny_typeNameOfWhole_keyiter ty (wpAny_pure ?_))
    | refine wpAny_bind (wpAny_typeNameOf_keyiter ty (wpAny_pure ?_))
  show wpAny _ _ (setField (.ref it) 0 .none >>= _) _ _ _
  refine wpAny_bind (wpAny_setField hoi di (by simp) ?_)
  show wpAny _ _ (newExc (.type "StopIteration") [] >>= _) _ _ _
  refine wpAny_bind ?_
  simp only [newExc, newTuple]
  refine wpAny_bind (wpAny_newObj_type ?_ (by size_fits))
  refine wpAny_bind (m := firstArgMember _ _) (wpAny_of_eq (a := Value.none) (by
    first
      | rfl
      | (simp only [firstArgMember]; rfl)) ?_)
  refine wpAny_newObj_type ?_ (by size_fits)
  simp only [raiseNew]
  refine wpAny_bind (wpAny_handled ?_)
  rw [show A.in1.handled = none from hh]
  refine wpAny_bind (wpAny_pure (wpAny_throw (wpAny_bind ?_)))
  refine wpAny_isInstance (T := "StopIteration") (b := true) ⟨_, Heap.get?_push_size _ rfl, rfl⟩ isSubtype_stop ?_
  exact wpAny_pure (q _ (((Heap.SameBut.update ..).extBut.push _).push _))
end
theorem paired_at {α β : Type} {F : α → β → Prop} : ∀ {as : List α} {bs : List β} {i : Nat} {a : α}, Paired F as bs → as[i]? = some a → ∃ b, bs[i]? = some b ∧ F a b
  | _, _, _, _, .nil, e => by simp at e
  | _, _, 0, _, .cons r _, e => by simp at e; subst e; exact ⟨_, rfl, r⟩
  | _, _, i + 1, a, .cons _ t, e => by
    obtain ⟨b, h1, h2⟩ := paired_at (i := i) (a := a) t (by simpa using e)
    exact ⟨b, by simpa using h1, h2⟩
/-- the dict at a, frozen as o: its keys (tuples), one behind the other -/
def Itd (a : Addr) (kvs : List (List Key × V)) (ob : Obj) : It :=
  ⟨fun i H => H a = some (.frz ob (.dT kvs)) ∧ i < kvs.length, fun i H x H' => H' = H ∧ ∃ k v b, kvs[i]? = some (k, v) ∧ x = .ref b ∧ H b = some (.tup (k.map kV)), fun i H => H a = some (.frz ob (.dT kvs)) ∧ kvs.length = i⟩
theorem turn_dict {P : Program} {w : World} {K : PySem.W.Frag} {tg : Expr} (a it : Addr) (kvs : List (List Key × V)) (ob : Obj) (es : Array DictEntry) (ep : Nat) (hd : ob.data = .dict es ep) (hn : es.size = kvs.length) :
    Turn P w K tg (Itd a kvs ob) [it] it (fun i h => h.IsKeyIter it a i es.size ep) where
  mem := by simp
  obj := fun i h st b hb => by
    have e : b = it := by simpa using hb
    subst e
    obtain ⟨o, e, c, d⟩ := st
    exact ⟨o, e, fun v z => by rw [d] at z; cases z⟩
  keep := fun i h h' st k => st.at fun o e => k it (by simp) o e
  item := by
    intro X hP hw hK hc i pins s σ H E I hf st hg
    subst hP hw hK
    obtain ⟨hq, hi⟩ := hg
    obtain ⟨f0, f1, f2, f3, f4, f5⟩ := hf it (by simp)
    obtain ⟨g0, g1⟩ := (show ObjOk X.prog X.w H s.heap a (.frz ob (.dT kvs)) from I.hok a _ hq)
    obtain ⟨_, _, xs, rel, o', es', ep', k1, k2, k3, k4, k5⟩ := (show ObjOk X.prog X.w H s.heap a (.dT kvs) from g1)
    rw [g0] at k1
    cases k1
    rw [hd] at k3
    cases k3
    obtain ⟨⟨k, v⟩, hk⟩ : ∃ p, kvs[i]? = some p := ⟨kvs[i], List.getElem?_eq_getElem hi⟩
    obtain ⟨⟨k', b, u⟩, hx, r1, r2, r3⟩ := paired_at rel hk
    have he : es[i]? = some (entryOfKey (tupleKind (mixKind X.prog X.w)) (k', b, u)) := by
      rw [← Array.getElem?_toList, k4, List.getElem?_map, hx]
      rfl
    refine dw_next st g0 hd he fun h' st' sb => ?_
    have I1 : Inv X pins σ H { s with heap := h' } := I.turned (t' := s.toks) (fun b o hb e => (sb.2 b hb).trans e) f0 f1 f3 f4 f5
    obtain ⟨o, e, c, d⟩ := id st'
    exact ⟨_, rfl, go_of (s := { s with heap := h' }) e c d (by decide) ⟨.ref b, H, I1, rfl, ⟨rfl, k, v, b, hk, rfl, r2⟩, st', fun b hb => (hf b hb).1⟩⟩
  done := by
    intro X hP hw hK hc i pins s σ H E I hf st hg
    subst hP hw hK
    obtain ⟨hq, hi⟩ := hg
    obtain ⟨f0, f1, f2, f3, f4, f5⟩ := hf it (by simp)
    obtain ⟨g0, _⟩ := (show ObjOk X.prog X.w H s.heap a (.frz ob (.dT kvs)) from I.hok a _ hq)
    have e : i = es.size := by omega
    subst e
    exact dw_end (I.ok.hd hc) st g0 hd fun h' eb => ⟨rfl, I.turned (t' := s.toks) (fun b o hb e => eb b o hb e) f0 f1 f3 f4 f5⟩
  self := fun _ _ _ _ _ st h => wpAny_pyIter_keyiter st h
/-- for k in d: the dict stands frozen from here on -/
def iDict (td : TE) : TI := fun σ H R => td σ H fun x H1 => ∃ a kvs, x = .ref a ∧ H1 a = some (.dT kvs) ∧ ∀ ob, R (Itd a kvs ob) (upd H1 a (.frz ob (.dT kvs)))
theorem pi_dict {X : Cx} {tg l : Expr} {tl : TE} (hl : PE X l tl) : PI X tg l (iDict tl) := by
  intro pins s σ H R I h
  refine thn (hl pins s σ H _ I h) fun v s1 ⟨x, H1, I1, r1, q1⟩ => ?_
  obtain ⟨a, kvs, e, hq, q⟩ := q1
  subst e
  cases r1
  obtain ⟨z1, z2, xs, rel, o, es, ep, k1, k2, k3, k4, k5⟩ := (show ObjOk X.prog X.w H1 s1.heap a (.dT kvs) from I1.hok a _ hq)
  have hn : es.size = kvs.length := by rw [← Array.length_toList, k4, List.length_map, Paired.length rel]
  have rel' : Paired (fun (p : List Key × V) (q : List Key × Addr × Value) => p.1 = q.1 ∧ upd H1 a (.frz o (.dT kvs)) q.2.1 = some (.tup (p.1.map kV)) ∧ RelV p.2 q.2.2) kvs xs :=
    Paired.mapP rel fun p q z => ⟨z.1, by rw [upd_ne (ne_of z.2.1 hq (fun y => nomatch y))]; exact z.2.1, z.2.2⟩
  have I2 : Inv X pins σ (upd H1 a (.frz o (.dT kvs))) s1 := I1.write (h' := s1.heap) (t' := s1.toks) (x := a) (e := a) (by rw [hq]; exact True.intro) (.inl rfl) (fun b u _ z => z) ⟨o, k1⟩ ⟨k1, z1, z2, xs, rel', o, es, ep, k1, k2, k3, k4, k5⟩
  refine dw_start z2 k1 k2 k3 ?_
  refine ⟨s1.heap.objs.size, [s1.heap.objs.size], _, _, _, rfl, I2.kept (t' := s1.toks) fun b o e => Heap.get?_push_of_some _ e, turn_dict a _ kvs o es ep k3 hn, ⟨_, Heap.get?_push_size _ rfl, rfl, rfl⟩, fun b hb => ?_, q o⟩
  have e : b = s1.heap.objs.size := by simpa using hb
  subst e
  exact I2.fpOk (Nat.le_refl _) (I2.hok.fresh (Nat.le_refl _))
theorem qi_dict {X : Cx} {tg l : Expr} {tl : TE} (hl : QE X l tl) : QI X tg l (iDict tl) := ⟨pi_dict hl.h⟩
theorem goes_dict {a : Addr} {kvs : List (List Key × V)} {ob : Obj} : Goes (Itd a kvs ob) kvs.length (fun H => H a = some (.frz ob (.dT kvs))) (fun i H x => ∃ k v b, kvs[i]? = some (k, v) ∧ x = .ref b ∧ H b = some (.tup (k.map kV))) where
  go := fun i H h hi => ⟨h, hi⟩
  yld := fun i H x H' h hi y => y
  stop := fun H h => ⟨h, rfl⟩
end L2

set_option linter.all false
set_option maxRecDepth 100000
set_option maxHeartbeats 400000
namespace L2
open PySem PySem.Spec PyProof.Rows
/-! ### a text's slices -/
theorem part_of {v : Value} {lo : Option Int} (h : IsPart v lo) : ∃ l : Option (Int × Tok), v = partValue l ∧ l.map (·.1) = lo := by
  cases h with
  | none => exact ⟨none, rfl, rfl⟩
  | int i t => exact ⟨some (i, t), rfl, rfl⟩
theorem sl_str {X : Cx} : SlR X (fun x lo hi H Q => ∃ z, x = .str z ∧ z.length ≤ sizeLine ∧ Q (.str (Txt.slice z lo hi)) H) := by
  intro pins s σ H x v vl vu lo hi sl Q I rx hs pl pu h
  obtain ⟨z, rfl, hz, q⟩ := h
  obtain ⟨t, rfl⟩ := rx
  obtain ⟨l, rfl, rfl⟩ := part_of pl
  obtain ⟨u, rfl, rfl⟩ := part_of pu
  refine ⟨"str", _, PySem.F.slot_str_getitem.lookup, typeIs_str _ _ _, ?_⟩
  refine wpAny_getItem_str_slice (l := l) (u := u) (st := none) hs rfl ?_
  exact post_val_or_str ⟨Nat.le_trans (Txt.slice_le z _ _) hz, fun t' k => ⟨.str (Txt.slice z (l.map (·.1)) (u.map (·.1))), H, I.tok _, ⟨_, rfl⟩, q⟩⟩
theorem slice_to {x : Str} {j : Nat} (h : j ≤ x.length) : Txt.slice x none (some (j : Int)) = ⟨(x.cps.toList.take j).toArray⟩ := by
  have e := StrLaws.sliceText_to (x := x) (j := (j : Int)) ⟨by omega, by simpa [Str.length] using h⟩
  have e2 : Txt.slice x none (some (j : Int)) = StrLaws.sliceText x none (some (j : Int)) := rfl
  rw [e2]
  simpa using e
theorem slice_from {x : Str} {i : Nat} (h : i ≤ x.length) : Txt.slice x (some (i : Int)) none = ⟨(x.cps.toList.drop i).toArray⟩ := by
  have e := StrLaws.sliceText_from (x := x) (i := (i : Int)) ⟨by omega, by simpa [Str.length] using h⟩
  have e2 : Txt.slice x (some (i : Int)) none = StrLaws.sliceText x (some (i : Int)) none := rfl
  rw [e2, e, Int.toNat_natCast]
  congr 1
  rw [List.take_of_length_le]
  rw [List.length_drop]
  omega
end L2

set_option linter.all false
set_option maxRecDepth 100000
set_option maxHeartbeats 400000
namespace L2
open PySem PySem.Spec PyProof.Rows
/-! ### enumerate -/
section
variable {X : Cx} {pins : List (Addr × Obj)} {σ : St} {H : Hp} {s : Shared}
/-- records of ours have turned, and a new object is laid -/
theorem Inv.turnedT {h' : Heap} {t' : Nat} {ch : List Addr} {T : Addr} {o : HO} (I : Inv X pins σ H s) (hf : ∀ b ∈ ch, FpOk X pins H b) (k : ∀ b ob, b ∉ ch → s.heap.get? b = some ob → h'.get? b = some ob)
    (hT : s.heap.objs.size ≤ T) (new : ObjOk X.prog X.w (upd H T o) h' T o) : Inv X pins σ (upd H T o) { s with heap := h', toks := t' } := by
  have hn : H T = none := I.hok.fresh hT
  have ntr : ∀ b u, H b = some u → b ∉ ch := fun b u e z => by
    have := (hf b z).1
    rw [e] at this
    cases this
  have nT : ∀ b ob, s.heap.get? b = some ob → b ≠ T := fun b ob e z => by
    have := Heap.lt_size e
    rw [z] at this
    exact absurd (Nat.lt_of_lt_of_le this hT) (Nat.lt_irrefl _)
  refine I.step (g' := s.gens) (d' := s.drawn) (ch := ch) (fun b hb => ?_) (fun b ob _ _ hc e _ => k b ob hc e) (fun b ob _ _ hc e _ => ⟨ob.slots, k b ob hc e⟩) (fun b ob _ e n => ?_)
    (fun b ob hc e => ⟨ob, k b ob hc e⟩) (fun b xs e => ?_) (fun b ob u e => ?_) (fun b ps e => ⟨#[], ?_⟩) (fun m hm => ?_) (fun b u e => ?_) I.bare
  · obtain ⟨f0, f1, f2, f3, f4, f5⟩ := hf b hb
    exact ⟨f3, f1, f4, f5⟩
  · rw [upd_ne (nT b ob e)]
    exact n
  · rw [upd_ne (ne_of_none e hn)]
    exact e
  · rw [upd_ne (ne_of_none e hn)]
    exact e
  · rw [upd_ne (ne_of_none e hn), e]
    simp
  · obtain ⟨ob, es, ep, ho, r⟩ := hm
    refine ⟨ob, es, ep, k _ ob (fun z => ?_) ho, r⟩
    exact (hf _ z).2.1 rfl
  · by_cases hb : b = T
    · subst hb
      rw [upd_same] at e
      cases e
      exact new
    · rw [upd_ne hb] at e
      refine (I.hok b u e).stay (fun c v hc q => k c v ?_ q) (fun c q => by rw [upd_ne (ne_of_none q hn)]; exact q) fun c xs q => by rw [upd_ne (ne_of_none q hn)]; exact q
      rcases hc with z | z
      · rw [z]; exact ntr b u e
      · exact ntr c _ z
theorem Inv.turnedN {h' : Heap} {t' : Nat} {ch : List Addr} (I : Inv X pins σ H s) (hf : ∀ b ∈ ch, FpOk X pins H b) (k : ∀ b ob, b ∉ ch → s.heap.get? b = some ob → h'.get? b = some ob) : Inv X pins σ H { s with heap := h', toks := t' } := by
  have ntr : ∀ b u, H b = some u → b ∉ ch := fun b u e z => by
    have := (hf b z).1
    rw [e] at this
    cases this
  refine I.step (g' := s.gens) (d' := s.drawn) (ch := ch) (fun b hb => ?_) (fun b ob _ _ hc e _ => k b ob hc e) (fun b ob _ _ hc e _ => ⟨ob.slots, k b ob hc e⟩) (fun b ob _ e n => n)
    (fun b ob hc e => ⟨ob, k b ob hc e⟩) (fun b xs e => e) (fun b ob u e => e) (fun b ps e => ⟨#[], by rw [e]; simp⟩) (fun m hm => ?_) (fun b u e => ?_) I.bare
  · obtain ⟨f0, f1, f2, f3, f4, f5⟩ := hf b hb
    exact ⟨f3, f1, f4, f5⟩
  · obtain ⟨ob, es, ep, ho, r⟩ := hm
    refine ⟨ob, es, ep, k _ ob (fun z => ?_) ho, r⟩
    exact (hf _ z).2.1 rfl
  · refine (I.hok b u e).stay (fun c v hc q => k c v ?_ q) (fun c q => q) fun c xs q => q
    rcases hc with z | z
    · rw [z]; exact ntr b u e
    · exact ntr c _ z
end
/-- pairs: the turn's number and an item of the list at a -/
def IteL (K : PySem.W.Frag) (a : Addr) : It :=
  ⟨fun i H => ∃ xs x, SqL K H a xs ∧ xs[i]? = some x, fun i H x H' => ∃ T y, x = .ref T ∧ H T = none ∧ H' = upd H T (.tup [.int i, y]) ∧ ∀ xs, SqL K H a xs → xs[i]? = some y, fun i H => ∃ xs, SqL K H a xs ∧ xs.length = i⟩
def IteS (z : Str) : It :=
  ⟨fun i _ => i < z.cps.size, fun i H x H' => ∃ T y, x = .ref T ∧ H T = none ∧ H' = upd H T (.tup [.int i, y]) ∧ ∃ c, z.cps[i]? = some c ∧ y = .str ⟨#[c]⟩, fun i _ => z.cps.size = i⟩
section
variable {P : Program} {w : World} {K : PySem.W.Frag}
/-- the turn of an enumerate, over what its inner iterator draws -/
theorem turn_enum {J : It} {e it : Addr} (ne : e ≠ it) {inner : Nat → Heap → Prop} {elts : List Expr} {kk : Nat} {pos : Pos}
    (hin : ∀ i h, inner i h → ∃ o, h.get? it = some o ∧ ∀ v, o.data ≠ .cell v) (hkeep : ∀ i h h', inner i h → (∀ o, h.get? it = some o → h'.get? it = some o) → inner i h')
    (hgo : ∀ (X : Cx), X.prog = P → X.w = w → X.K = K → X.calm = true → ∀ (i : Nat) (pins : List (Addr × Obj)) (s : Shared) (σ : St) (H : Hp), Inv X pins σ H s → J.go i H → ∃ (n : Nat) (fp : List Addr) (Pt : Nat → Array Value → Prop) (St : Nat → Heap → Prop) (Mid : Nat → Addr → Heap → Prop), WalksT P w X.A e fp [e, it] n Pt St Mid ∧ i < n ∧
      (∀ h', (∃ old, IsEnum h' e it i old) → inner i h' → (∀ b ob, b ≠ e → b ≠ it → s.heap.get? b = some ob → h'.get? b = some ob) → St i h') ∧ (∀ h', St (i + 1) h' → (∃ old, IsEnum h' e it ((i + 1 : Nat) : Int) old) ∧ inner (i + 1) h') ∧
      ∀ vals, Pt i vals → ∃ t u y, vals = #[.int i t, u] ∧ RelV y u ∧ ∀ T, H T = none → J.yld i H (.ref T) (upd H T (.tup [.int i, y])))
    (hstop : ∀ (X : Cx), X.prog = P → X.w = w → X.K = K → X.calm = true → ∀ (i : Nat) (pins : List (Addr × Obj)) (s : Shared) (σ : St) (H : Hp), Inv X pins σ H s → J.stop i H → (∃ old, IsEnum s.heap e it i old) → inner i s.heap → ∃ (n : Nat) (fp : List Addr) (Pt : Nat → Array Value → Prop) (St : Nat → Heap → Prop) (Mid : Nat → Addr → Heap → Prop), WalksT P w X.A e fp [e, it] n Pt St Mid ∧ St n s.heap) :
    Turn P w K (.Tuple elts kk pos) J [e, it] e (fun i h => (∃ old, IsEnum h e it i old) ∧ inner i h) where
  mem := by simp
  obj := fun i h st b hb => by
    obtain ⟨⟨old, he⟩, hi⟩ := st
    rcases List.mem_cons.mp hb with rfl | hb
    · exact ⟨_, he, fun v z => by cases z⟩
    · rw [List.mem_singleton.mp hb]
      exact hin i h hi
  keep := fun i h h' st k => by
    obtain ⟨⟨old, he⟩, hi⟩ := st
    exact ⟨⟨old, k e (by simp) _ he⟩, hkeep i h h' hi fun o q => k it (by simp) o q⟩
  item := by
    intro X hP hw hK hc i pins s σ H E I hf st hg
    obtain ⟨n, fp, Pt, St, Mid, W, hn, h1, h2, h3⟩ := hgo X hP hw hK hc i pins s σ H I hg
    subst hP hw hK
    have st1 := h1 s.heap st.1 st.2 fun b ob _ _ q => q
    refine W.item i s _ E hn st1 fun T vals h' tk hp hT isT mid kp => ⟨.ref T, rfl, ?_⟩
    obtain ⟨t, u, y, rfl, ry, yl⟩ := h3 vals hp
    refine W.go elts kk pos i T { s with heap := h', toks := tk } _ E mid fun h'' st'' kp2 => ?_
    obtain ⟨e2, i2⟩ := h2 h'' st''
    have nT : H T = none := I.hok.fresh hT
    have kk2 : ∀ b ob, b ∉ [e, it] → s.heap.get? b = some ob → h''.get? b = some ob := fun b ob nb q => kp2 b ob nb (kp b ob nb q)
    have isT2 : h''.IsTuple T #[.int i t, u] := by
      obtain ⟨o, q1, q2, q3⟩ := isT
      exact ⟨o, kp2 T o (W.apart i T h' mid) q1, q2, q3⟩
    have I1 : Inv X pins σ (upd H T (.tup [.int i, y])) { s with heap := h'', toks := tk } := I.turnedT hf kk2 hT ⟨(by show 2 ≤ sizeLine; decide), [.int i t, u], .cons ⟨_, rfl⟩ (.cons ry .nil), isT2⟩
    refine ⟨.ref T, _, I1, rfl, yl T nT, ⟨e2, i2⟩, fun b hb => ?_⟩
    have : b ≠ T := fun z => W.apart i T h' mid (z ▸ hb)
    rw [upd_ne this]
    exact (hf b hb).1
  done := by
    intro X hP hw hK hc i pins s σ H E I hf st hg
    obtain ⟨n, fp, Pt, St, Mid, W, st1⟩ := hstop X hP hw hK hc i pins s σ H I hg st.1 st.2
    subst hP hw hK
    exact W.done s _ E st1 fun h' tk kp => ⟨rfl, I.turnedN hf kp⟩
  self := fun A i s Q E st h => by
    obtain ⟨⟨old, he⟩, _⟩ := st
    exact wpAny_pyIter_enum he h
end

theorem turn_enumL {P : Program} {w : World} {K : PySem.W.Frag} {elts : List Expr} {kk : Nat} {pos : Pos} (a e it : Addr) (ne : e ≠ it) (nae : a ≠ e) (nai : a ≠ it) :
    Turn P w K (.Tuple elts kk pos) (IteL K a) [e, it] e (fun i h => (∃ old, IsEnum h e it i old) ∧ h.IsListIter it a i) := by
  refine turn_enum ne (fun i h st => ?_) (fun i h h' st k => st.at k) ?_ ?_
  · obtain ⟨o, q, c, d⟩ := st
    exact ⟨o, q, fun v z => by rw [d] at z; cases z⟩
  · intro X hP hw hK hc i pins s σ H I hg
    subst hP hw hK
    obtain ⟨xs, x, hq, hx⟩ := hg
    obtain ⟨its, rv, p, hz⟩ := I.list hq
    obtain ⟨u, hu, ru⟩ := rv.get hx
    have hl := p.isList
    refine ⟨_, _, _, _, _, WalksT.enumerate (I.ok.hd hc) e it a ne nae nai its.toArray, ?_, fun h' g1 g2 g3 => ⟨g1, g2, hl.at fun o q => g3 a o nae nai q⟩, fun h' st => ⟨st.1, st.2.1⟩, fun vals hv => ?_⟩
    · have := (List.getElem?_eq_some_iff.mp hu).1
      simpa using this
    · obtain ⟨t, x', hx', rfl⟩ := hv
      have hx' : its[i]? = some x' := by simpa using hx'
      rw [hu] at hx'
      obtain rfl := Option.some.inj hx'
      exact ⟨t, u, x, rfl, ru, fun T hT => ⟨T, x, rfl, hT, rfl, fun ys hy => by rw [I.list_inj hy hq]; exact hx⟩⟩
  · intro X hP hw hK hc i pins s σ H I hg he hi
    subst hP hw hK
    obtain ⟨xs, hq, hx⟩ := hg
    obtain ⟨its, rv, p, hz⟩ := I.list hq
    have e1 : i = its.toArray.size := by rw [List.size_toArray, ← rv.length, hx]
    refine ⟨_, _, _, _, _, WalksT.enumerate (I.ok.hd hc) e it a ne nae nai its.toArray, ?_, ?_, p.isList⟩
    · rw [← e1]; exact he
    · rw [← e1]; exact hi
theorem turn_enumS {P : Program} {w : World} {K : PySem.W.Frag} {elts : List Expr} {kk : Nat} {pos : Pos} (z : Str) (t : Tok) (e it : Addr) (ne : e ≠ it) {St : Nat → Heap → Prop}
    (D : ∀ A' : Around, A'.handled = none → Draws P w A' it [it] z.cps.size (SignAt z) St) (hobj : ∀ i h, St i h → ∃ o, h.get? it = some o ∧ ∀ v, o.data ≠ .cell v) :
    Turn P w K (.Tuple elts kk pos) (IteS z) [e, it] e (fun i h => (∃ old, IsEnum h e it i old) ∧ St i h) := by
  have side : e ∉ [it] := fun m => ne (List.mem_singleton.mp m)
  refine turn_enum ne hobj (fun i h h' st k => (D callerA rfl).frame i h h' st fun b hb o q => by rw [List.mem_singleton.mp hb] at q ⊢; exact k o q) ?_ ?_
  · intro X hP hw hK hc i pins s σ H I hg
    subst hP hw hK
    refine ⟨_, _, _, _, _, WalksT.enumerateD (D X.A.in1 (I.ok.hd hc)) e ne side (by simp), hg, fun h' g1 g2 g3 => ⟨g1, g2⟩, fun h' st => st, fun vals hv => ?_⟩
    obtain ⟨t, x', ⟨c, u, hc', rfl⟩, rfl⟩ := hv
    exact ⟨t, _, .str ⟨#[c]⟩, rfl, ⟨_, rfl⟩, fun T hT => ⟨T, _, rfl, hT, rfl, c, hc', rfl⟩⟩
  · intro X hP hw hK hc i pins s σ H I hg he hi
    subst hP hw hK
    have e1 : z.cps.size = i := hg
    refine ⟨_, _, _, _, _, WalksT.enumerateD (D X.A.in1 (I.ok.hd hc)) e ne side (by simp), ?_, ?_⟩
    · rw [e1]; exact he
    · rw [e1]; exact hi
/-- for i, x in enumerate(e): a list; a text -/
def iEnumL (K : PySem.W.Frag) (tl : TE) : TI := fun σ H R => tl σ H fun x H1 => ∃ a, x = .ref a ∧ (∃ xs, SqL K H1 a xs) ∧ R (IteL K a) H1
def iEnumS (tl : TE) : TI := fun σ H R => tl σ H fun x H1 => ∃ z, x = .str z ∧ R (IteS z) H1
section
variable {X : Cx} {elts : List Expr} {kk : Nat} {tpos p pos : Pos} {a : Expr} {tl : TE}
theorem qi_enumL (hm : X.mg "enumerate" = none) (hl : QE X a tl) (hg : Gl X "enumerate" := by rfl) (hs : starEach [a] X.env = [(false, eval a X.env)] := by rfl) : QI X (.Tuple elts kk tpos) (.Call (.Name "enumerate" p) [a] [] pos) (iEnumL X.K tl) := by
  refine ⟨fun pins s σ H R I h => ?_⟩
  refine Call_ (ld_blt I hg hm boot_enumerate (PyProof.Rows.callWith_type1 ?_ hs rfl))
  rw [hs]
  refine Calls.spliced_cons (thn (hl.h pins s σ H _ I h) fun v s1 ⟨x, H1, I1, r1, q1⟩ => Calls.spliced_nil ?_)
  obtain ⟨ad, rfl, ⟨xs, hq⟩, q⟩ := q1
  cases r1
  obtain ⟨its, rv, pl, hz⟩ := I1.list hq
  have lt : ad < s1.heap.objs.size := by
    obtain ⟨o, ho, _⟩ := pl.isList
    exact Heap.lt_size ho
  refine call_enumerate_list pl.isList fun h' he hit hsz hk => ?_
  refine wpAny_pyIter_enum (s := { s1 with heap := h' }) he ?_
  refine ⟨s1.heap.objs.size + 1, [s1.heap.objs.size + 1, s1.heap.objs.size], _, IteL X.K ad, H1, rfl, I1.kept (t' := s1.toks) hk, turn_enumL ad _ _ (Nat.succ_ne_self _) (Nat.ne_of_lt (Nat.lt_succ_of_lt lt)) (Nat.ne_of_lt lt), ⟨⟨_, he⟩, hit⟩, fun b hb => ?_, q⟩
  have e : s1.heap.objs.size ≤ b := by
    rcases List.mem_cons.mp hb with z | z
    · rw [z]; exact Nat.le_succ _
    · rw [List.mem_singleton.mp z]; exact Nat.le_refl _
  exact I1.fpOk e (I1.hok.fresh e)
theorem qi_enumS (hm : X.mg "enumerate" = none) (hl : QE X a tl) (hg : Gl X "enumerate" := by rfl) (hs : starEach [a] X.env = [(false, eval a X.env)] := by rfl) : QI X (.Tuple elts kk tpos) (.Call (.Name "enumerate" p) [a] [] pos) (iEnumS tl) := by
  refine ⟨fun pins s σ H R I h => ?_⟩
  refine Call_ (ld_blt I hg hm boot_enumerate (PyProof.Rows.callWith_type1 ?_ hs rfl))
  rw [hs]
  refine Calls.spliced_cons (thn (hl.h pins s σ H _ I h) fun v s1 ⟨x, H1, I1, r1, q1⟩ => Calls.spliced_nil ?_)
  obtain ⟨z, rfl, q⟩ := q1
  obtain ⟨t, rfl⟩ := r1
  refine call_enumerate_str fun h' he hit hsz hk => ?_
  refine wpAny_pyIter_enum (s := { s1 with heap := h' }) he ?_
  have fin : ∀ b ∈ [s1.heap.objs.size + 1, s1.heap.objs.size], FpOk X pins H1 b := fun b hb => by
    have e : s1.heap.objs.size ≤ b := by
      rcases List.mem_cons.mp hb with z | z
      · rw [z]; exact Nat.le_succ _
      · rw [List.mem_singleton.mp z]; exact Nat.le_refl _
    exact I1.fpOk e (I1.hok.fresh e)
  cases ha : z.cps.all (· < 128)
  · have hit' : h'.IsStrIter s1.heap.objs.size "str_iterator" z t 0 := by simpa [strIterType, ha] using hit
    exact ⟨_, _, _, IteS z, H1, rfl, I1.kept (t' := s1.toks) hk, turn_enumS z t _ s1.heap.objs.size (Nat.succ_ne_self _) (fun A' hA => Draws.strWide hA _ z t) (fun i h st => by obtain ⟨o, q1, q2, q3⟩ := st; exact ⟨o, q1, fun v y => by rw [q3] at y; cases y⟩), ⟨⟨_, he⟩, hit'⟩, fin, q⟩
  · have hit' : h'.IsStrIter s1.heap.objs.size "str_ascii_iterator" z t 0 := by simpa [strIterType, ha] using hit
    exact ⟨_, _, _, IteS z, H1, rfl, I1.kept (t' := s1.toks) hk, turn_enumS z t _ s1.heap.objs.size (Nat.succ_ne_self _) (fun A' hA => Draws.strAscii hA _ z t) (fun i h st => by obtain ⟨o, q1, q2, q3⟩ := st; exact ⟨o, q1, fun v y => by rw [q3] at y; cases y⟩), ⟨⟨_, he⟩, hit'⟩, fin, q⟩
end
/-- a loop over pairs of a number and an item -/
structure GoesE (J : It) (n : Nat) (Ok : Hp → Prop) (Y : Nat → Hp → V → Prop) : Prop where
  go : ∀ i H, Ok H → i < n → J.go i H
  yld : ∀ i H x H', Ok H → i < n → J.yld i H x H' → ∃ T y, x = .ref T ∧ H T = none ∧ H' = upd H T (.tup [.int i, y]) ∧ Y i H y
  stop : ∀ H, Ok H → J.stop n H
theorem goes_enumL {K : PySem.W.Frag} {a : Addr} {xs : List V} : GoesE (IteL K a) xs.length (fun H => SqL K H a xs) (fun i _ y => xs[i]? = some y) where
  go := fun i H h hi => ⟨xs, xs[i], h, by simp [hi]⟩
  yld := fun i H x H' h hi y => by
    obtain ⟨T, y, e1, e2, e3, e4⟩ := y
    exact ⟨T, y, e1, e2, e3, e4 xs h⟩
  stop := fun H h => ⟨xs, h, rfl⟩
theorem goes_enumS {z : Str} : GoesE (IteS z) z.cps.size (fun _ => True) (fun i _ y => ∃ c, z.cps[i]? = some c ∧ y = .str ⟨#[c]⟩) where
  go := fun i H _ hi => hi
  yld := fun i H x H' _ hi y => y
  stop := fun H _ => rfl
theorem for_enum {J : It} {n : Nat} {Ok : Hp → Prop} {Y : Nat → Hp → V → Prop} (G : GoesE J n Ok Y) {g : TG} {tb : TS} {D : Ends} {σ : St} {H : Hp} (Pv : Nat → St → Hp → Prop) (h0 : Pv 0 σ H) (hl : ∀ i σ H, i ≤ n → Pv i σ H → Ok H)
    (hs : ∀ i y T σ H, i < n → Y i H y → H T = none → Pv i σ H → g (.ref T) σ (upd H T (.tup [.int i, y])) fun σ2 H2 => tb { D with nx := Pv (i + 1), ct := Pv (i + 1), bk := D.nx } σ2 H2) (hd : ∀ σ H, Pv n σ H → D.nx σ H) :
    ∃ W : Nat → Nat → St → Hp → Prop, (∃ m, W 0 m σ H) ∧ ∀ i m σ H, W i m σ H →
      (J.stop i H ∧ D.nx σ H) ∨ (J.go i H ∧ ∃ N : St → Hp → Prop, (∀ σ' H', N σ' H' → ∃ m', m' < m ∧ W (i + 1) m' σ' H') ∧ ∀ x H', J.yld i H x H' → g x σ H' fun σ2 H2 => tb { D with nx := N, ct := N, bk := D.nx } σ2 H2) := by
  refine ⟨fun i m σ H => m = n - i ∧ i ≤ n ∧ Pv i σ H, ⟨n, by simp, Nat.zero_le _, h0⟩, ?_⟩
  rintro i m σ H ⟨rfl, hi, p⟩
  have q := hl i σ H hi p
  by_cases hlt : i < n
  · refine .inr ⟨G.go i H q hlt, Pv (i + 1), fun σ' H' p' => ⟨n - (i + 1), by omega, rfl, hlt, p'⟩, fun x H' y => ?_⟩
    obtain ⟨T, y', rfl, e2, rfl, e4⟩ := G.yld i H x H' q hlt y
    exact hs i y' T σ H hlt e4 e2 p
  · have e : i = n := by omega
    subst e
    exact .inl ⟨G.stop H q, hd σ H p⟩
end L2

set_option linter.all false
set_option maxRecDepth 100000
set_option maxHeartbeats 400000
namespace L2
open PySem PySem.Spec PyProof.Rows
/-! ### xs.count(x), xs.index(x): flat items -/
section
variable {X : Cx}
end
end L2

set_option linter.all false
set_option maxRecDepth 100000
set_option maxHeartbeats 400000
namespace L2
open PySem PySem.Spec PyProof.Rows
variable {X : Cx}
end L2

set_option linter.all false
set_option maxRecDepth 100000
set_option maxHeartbeats 400000
namespace L2
open PySem PySem.Spec PyProof.Rows
/-! ### exceptions of own classes: on their way out, caught -/
section
variable {P : Program} {w : World} {K : PySem.W.Frag} {mg : Str → Option Value} {base : Heap} {N : List Str} {qual : Str} {scope : Scope} {f : Addr} {cd : Value} {A : Around} {outer : List Env} {s0 : Shared} {H0 : Hp} {E : XK}
variable {pins : List (Addr × Obj)} {σ : St} {H1 H' : Hp} {s1 s' : Shared} {B h'' : Heap} {x C t : Addr}
end
/-! ### defs that raise -/
section
variable {P : Program} {w : World} {K : PySem.W.Frag} {mg : Str → Option Value} {base : Heap} {x : Str} {st : Stmt} {N ps : List Str} {k j : Nat} {sp : Sp}
end
section
variable {X : Cx} {x : Str} {ps : List Str} {sp : Sp} {k : Nat} {e : Expr} {es : List Expr} {t : TA} {p pos : Pos} {E : XK}
end
/-! ### raise C(..) -/
section
variable {P : Program} {w : World} {K : PySem.W.Frag} {mg : Str → Option Value} {base : Heap} {N : List Str} {qual : Str} {scope : Scope} {f : Addr} {cd : Value} {A : Around} {outer : List Env} {s0 : Shared} {H0 : Hp} {E : XK}
end
end L2

set_option linter.all false
set_option maxRecDepth 100000
set_option maxHeartbeats 400000
namespace L2
open PySem PySem.Spec PyProof.Rows
/-! the rules with K named: their readings do not hold the whole context -/
section
variable (K : PySem.W.Frag) {X : Cx}
end
end L2

set_option linter.all false
set_option maxRecDepth 100000
set_option maxHeartbeats 400000
namespace L2
open PySem PySem.Spec PyProof.Rows
/-! ### try, except: what may raise, and what is wanted then -/
section
variable {X : Cx} {x : Str} {ps : List Str} {sp : Sp} {k : Nat} {e : Expr} {es : List Expr} {t : TA} {p pos : Pos}
/-! statements -/
variable {st : Stmt} {rs : List Stmt} {tx : TX} {ty tz : TY}
end
/-! ### the except clause -/
section
variable {X : Cx} {pins : List (Addr × Obj)} {σ : St} {H1 H' : Hp} {s1 s' : Shared} {B h2 : Heap} {x C t : Addr}
end
section
variable {X : Cx} {pins : List (Addr × Obj)} {σ : St} {H : Hp} {s : Shared}
end
section
variable {X : Cx} {body suite : List Stmt} {b0 : Stmt} {c n : Str} {cv : Value} {tb : TY} {ts : TS} {np hp pos : Pos}
end
end L2

set_option linter.all false
set_option maxRecDepth 100000
set_option maxHeartbeats 400000
namespace L2
open PySem PySem.Spec PyProof.Rows
/-! ### isinstance of a caught exception, where it is True -/
section
variable {X : Cx}
end
end L2

set_option linter.all false
set_option maxRecDepth 100000
set_option maxHeartbeats 400000
namespace L2
open PySem PySem.Spec PyProof.Rows
end L2

set_option linter.all false
set_option maxRecDepth 100000
set_option maxHeartbeats 400000
namespace L2
open PySem PySem.Spec PyProof.Rows
/-! ### rules whose readings are short: no K in them, the ends of a loop's body as letters -/
def rIxL0 : R2 := fun x y H Q => ∃ p xs i v, x = .ref p ∧ y = .int i ∧ H p = some (.lst xs) ∧ atI xs i = some v ∧ Q v H
def rIxT0 : R2 := fun x y H Q => ∃ p xs i v, x = .ref p ∧ y = .int i ∧ H p = some (.tup xs) ∧ atI xs i = some v ∧ Q v H
def rLen0 : List V → Hp → VK → Prop := fun xs H Q => ∃ p ys, xs = [.ref p] ∧ H p = some (.lst ys) ∧ Q (.int ys.length) H
/-- o.append(e) -/
def tApp (to te : TE) : TE := fun σ H Q => to σ H fun x H1 => ∃ l xs, x = .ref l ∧ H1 l = some (.lst xs) ∧ te σ H1 fun y H2 => ∃ z ys, [y] = [z] ∧ H2 l = some (.lst ys) ∧ ys.length < sizeLine ∧ Q .non (upd H2 l (.lst (ys ++ [z])))
section
variable {X : Cx}
theorem ix_list0 : IxR X rIxL0 := by
  intro value slice pins s σ H x y v u Q I rx ry h
  obtain ⟨p, xs, i, z, e1, e2, e3, e4, q⟩ := h
  exact ix_list value slice pins s σ H x y v u Q I rx ry ⟨p, xs, i, z, e1, e2, SqL.of e3, e4, q⟩
theorem ix_tup0 : IxR X rIxT0 := by
  intro value slice pins s σ H x y v u Q I rx ry h
  obtain ⟨p, xs, i, z, e1, e2, e3, e4, q⟩ := h
  exact ix_tup value slice pins s σ H x y v u Q I rx ry ⟨p, xs, i, z, e1, e2, SqT.of e3, e4, q⟩
theorem call_len0 : CallR X (.builtin "len") rLen0 := by
  intro pins s σ H xs us Q I r h
  obtain ⟨p, ys, e1, e2, q⟩ := h
  exact call_len_seq pins s σ H xs us Q I r ⟨p, ys, e1, .inl (SqL.of e2), q⟩
theorem qe_app {o e : Expr} {to te : TE} {apos cpos : Pos} (ho : QE X o to) (he : QE X e te)
    (hbase : attributeBase o "append" X.env (eval o X.env) = eval o X.env := by rfl)
    (hfew : ((backTo cpos (starEach [e] X.env)).all (fun x => !x.1) && (backToKw cpos (keywordEach [] X.env)).all (fun x => x.1.isSome)
      && decide ([e].length + ([] : List Keyword).length + (if ([] : List Keyword).isEmpty then 0 else 1) < 30)) = true := by rfl)
    (hline : (apos.endLine == cpos.line) = true := by rfl) (hs : starEach [e] X.env = (false, eval e X.env) :: starEach [] X.env := by rfl) (hplain : (backTo cpos (starEach [] X.env)).any (·.1) = false := by rfl) :
    QE X (.Call (.Attribute o "append" apos) [e] [] cpos) (tApp to te) := by
  refine ⟨fun pins s σ H Q I h => ?_⟩
  refine wpAny_Call_method_late hbase hfew hline rfl (thn (ho.h pins s σ H _ I h) fun v s1 ⟨x, H1, I1, r1, l, xs, ex, hl, q1⟩ => ?_)
  subst ex
  obtain ⟨h1, h2⟩ := tyV_is (T := "list") I1 r1 (.inl ⟨rfl, xs, SqL.of hl⟩)
  refine ⟨"list", _, PySem.F.plainAttrs_list, PySem.F.slot_list_append, PySem.F.type_list_append, h1, h2, ?_⟩
  have hA := (qa_cons he qa_nil hs).h cpos pins s1 σ H1 (fun vs H2 => ∃ y ys, vs = [y] ∧ H2 l = some (.lst ys) ∧ ys.length < sizeLine ∧ Q .non (upd H2 l (.lst (ys ++ [y])))) I1 q1
  rw [hs] at hA ⊢
  refine Calls.callWith_builtin (by show (false || (backTo cpos (starEach [] X.env)).any (·.1)) = false; rw [hplain] <;> rfl) (Calls.evalArgs_plain ?_)
  exact thn hA fun us s2 ⟨vs, H2, I2, r2, y, ys, e1, e2, e3, q2⟩ => mt_append pins s2 σ H2 (.ref l) vs v us Q I2 r1 r2 ⟨l, ys, y, rfl, e1, e2, e3, q2⟩
end
/-! loops -/
theorem for_goesO {J : It} {n : Nat} {Ok : Hp → Prop} {Y : Nat → Hp → V → Prop} (G : Goes J n Ok Y) {g : TG} {tb : TS} {D : Ends} {σ : St} {H : Hp} (Pv : Nat → St → Hp → Prop) (h0 : Pv 0 σ H) (hl : ∀ i σ H, i ≤ n → Pv i σ H → Ok H)
    (hs : ∀ (Pw : Nat → St → Hp → Prop) (Rt : VK) (Bk : St → Hp → Prop), (∀ j σ H, Pv j σ H → Pw j σ H) → (∀ v H, D.rt v H → Rt v H) → ∀ i x σ H, i < n → Y i H x → Pv i σ H → g x σ H fun σ2 H2 => tb ⟨Pw (i + 1), Rt, Bk, Pw (i + 1)⟩ σ2 H2) (hd : ∀ σ H, Pv n σ H → D.nx σ H) :
    ∃ W : Nat → Nat → St → Hp → Prop, (∃ m, W 0 m σ H) ∧ ∀ i m σ H, W i m σ H →
      (J.stop i H ∧ D.nx σ H) ∨ (J.go i H ∧ ∃ N : St → Hp → Prop, (∀ σ' H', N σ' H' → ∃ m', m' < m ∧ W (i + 1) m' σ' H') ∧ ∀ x H', J.yld i H x H' → g x σ H' fun σ2 H2 => tb { D with nx := N, ct := N, bk := D.nx } σ2 H2) :=
  for_goes G Pv h0 hl (hs Pv D.rt D.nx (fun _ _ _ z => z) fun _ _ z => z) hd
theorem while_wO {c : TT} {tb : TS} {D : Ends} {σ : St} {H : Hp} (Pv : St → Hp → Prop) (μ : St → Hp → Nat) (h0 : Pv σ H)
    (hs : ∀ (De : St → Hp → Prop) (Rt : VK), (∀ σ H, D.nx σ H → De σ H) → (∀ v H, D.rt v H → Rt v H) → ∀ σ0 H0, Pv σ0 H0 → ∀ Nx : St → Hp → Prop, (∀ σ' H', Pv σ' H' → μ σ' H' < μ σ0 H0 → Nx σ' H') →
      c σ0 H0 fun b H1 => if b = true then ∃ N : St → Hp → Prop, (∀ σ' H', N σ' H' → Nx σ' H') ∧ tb ⟨N, Rt, De, N⟩ σ0 H1 else De σ0 H1) : tWhile c tb D σ H := by
  refine while_w Pv μ h0 fun σ0 H0 p => ?_
  have z := hs D.nx D.rt (fun _ _ z => z) (fun _ _ z => z) σ0 H0 p (fun σ' H' => ∃ m', m' < μ σ0 H0 ∧ m' = μ σ' H' ∧ Pv σ' H') fun σ' H' pv lt => ⟨_, lt, rfl, pv⟩
  exact z
end L2

set_option linter.all false
set_option maxRecDepth 100000
set_option maxHeartbeats 400000
namespace L2
open PySem PySem.Spec PyProof.Rows
section
variable {X : Cx}
end
end L2

set_option linter.all false
set_option maxRecDepth 100000
set_option maxHeartbeats 400000
namespace L2
open PySem PySem.Spec PyProof.Rows
/-! ### a class whose __init__ may raise; a sign times an int -/
section
variable {X : Cx} {k : Nat} {f C : Addr} {fd : FuncData} {ps : List Str} {sp : Sp} {x : Str} {p pos : Pos} {e : Expr} {es : List Expr} {t : TA}
end
end L2
namespace L2
open PySem PySem.Spec PyProof.Rows
end L2

set_option linter.all false
set_option maxRecDepth 100000
set_option maxHeartbeats 400000
namespace L2
open PySem PySem.Spec PyProof.Rows
/-! ### methods that may raise; a clause without a name; index of data -/
section
variable {P : Program} {w : World} {K : PySem.W.Frag} {mg : Str → Option Value} {base : Heap} {m qual : Str} {st : Stmt} {N ps : List Str} {k j : Nat} {sp : Sp} {C f : Addr} {fd : FuncData}
end
section
variable {X : Cx} {k : Nat} {C : Addr} {ps : List Str} {sp : Sp} {E : XK} {m : Str} {pos apos : Pos} {e o : Expr} {es : List Expr} {ta : TE} {t : TA}
end
section
variable {X : Cx} {body suite : List Stmt} {b0 : Stmt} {c : Str} {cv : Value} {tb : TY} {ts : TS} {np hp pos : Pos}
end
section
variable {X : Cx}
end
end L2

set_option linter.all false
set_option maxRecDepth 100000
set_option maxHeartbeats 400000
namespace L2
open PySem PySem.Spec PyProof.Rows
/-! lists of a known length -/
theorem us1 {P : List Value → Prop} (h : ∀ a, P [a]) : ∀ us : List Value, us.length = 1 → P us
  | [a], _ => h a
theorem us2 {P : List Value → Prop} (h : ∀ a b, P [a, b]) : ∀ us : List Value, us.length = 2 → P us
  | [a, b], _ => h a b
theorem us3 {P : List Value → Prop} (h : ∀ a b c, P [a, b, c]) : ∀ us : List Value, us.length = 3 → P us
  | [a, b, c], _ => h a b c
theorem us4 {P : List Value → Prop} (h : ∀ a b c d, P [a, b, c, d]) : ∀ us : List Value, us.length = 4 → P us
  | [a, b, c, d], _ => h a b c d
end L2
namespace L2
theorem le_w {n w : Nat} (e : n = w) (h : w ≤ 9) : n ≤ 1000 := by omega
theorem le1k {n m : Nat} (h : n ≤ m) (hm : m ≤ 1000) : n ≤ 1000 := Nat.le_trans h hm
theorem lt_eq {n h r : Nat} (e : n = h) (hr : r < h) : r < n := e ▸ hr
theorem rngL (n : Nat) : -(2 ^ 62) ≤ (n : Int) := by omega
theorem rngH {n : Nat} (h : n ≤ 9) : (n : Int) < 2 ^ 62 := by omega
end L2

set_option linter.all false
set_option maxRecDepth 100000
set_option maxHeartbeats 400000
namespace L2
open PySem PySem.Spec PyProof.Rows
/-! ### a choice as an expression; a clause with a name whose suite goes on -/
section
variable {X : Cx} {c a b : Expr} {pos : Pos} {tc : TT} {ta tb : TE}
end
section
variable {X : Cx} {pins : List (Addr × Obj)} {σ : St} {H : Hp} {s : Shared}
end
section
variable {X : Cx} {body suite : List Stmt} {b0 : Stmt} {c n : Str} {cv : Value} {tb : TY} {ts : TS} {np hp pos : Pos}
end
end L2

set_option linter.all false
set_option maxRecDepth 100000
set_option maxHeartbeats 400000
namespace L2
open PySem PySem.Spec PyProof.Rows Builtin Builtin.ObjectAttr Builtin.Getset_descriptor
/-! ### isinstance of a caught exception, either way -/
section
variable {prog : Program} {w : World} {A : Around} {E : Value → Shared → Prop} {K : PySem.W.Frag} {x C : Addr} {o : Obj} {h : Heap} {g : Array GenState} {d : Drawn} {t : Nat} {os : OsState}
end
section
variable {X : Cx}
end
end L2

set_option linter.all false
set_option maxRecDepth 100000
set_option maxHeartbeats 400000
namespace L2
open PySem PySem.Spec PyProof.Rows
/-! ### a def that is called from an except suite -/
section
variable {P : Program} {w : World} {K : PySem.W.Frag} {mg : Str → Option Value} {base : Heap} {N ps : List Str} {qual : Str} {scope : Scope} {f : Addr} {cd : Value} {A : Around} {outer : List Env} {s s1 : Shared} {H : Hp} {us : List Value} {vs : List V}
end
section
variable {P : Program} {w : World} {K : PySem.W.Frag} {mg : Str → Option Value} {base : Heap} {x : Str} {st : Stmt} {N ps : List Str} {k : Nat} {sp : Sp}
end
section
variable {X : Cx} {x : Str} {ps : List Str} {sp : Sp} {k : Nat} {e : Expr} {es : List Expr} {t : TA} {p pos : Pos}
end
end L2

set_option linter.all false
namespace Sh
/-- a place -/
abbrev Pl := Int × Int
/-- near one another -/
def Nb (p q : Pl) : Prop :=
  (q.1 = p.1 - 1 ∧ q.2 = p.2) ∨ (q.1 = p.1 - 1 ∧ q.2 = p.2 + 1) ∨ (q.1 = p.1 ∧ q.2 = p.2 + 1) ∨ (q.1 = p.1 + 1 ∧ q.2 = p.2) ∨ (q.1 = p.1 + 1 ∧ q.2 = p.2 - 1) ∨ (q.1 = p.1 ∧ q.2 = p.2 - 1)
/-- what is reached over S from src -/
inductive Rch (S src : Pl → Prop) : Pl → Prop
  | base {p} : S p → src p → Rch S src p
  | step {p q} : Rch S src p → Nb p q → S q → Rch S src q
theorem Rch.on {S src : Pl → Prop} {p : Pl} (h : Rch S src p) : S p := by cases h <;> assumption
/-- each next one near the one ahead -/
def Chn : List Pl → Prop
  | u :: v :: t => Nb u v ∧ Chn (v :: t)
  | _ => True
end Sh

set_option linter.all false
namespace Sh
def inB (H W : Int) (p : Pl) : Prop := 0 ≤ p.1 ∧ p.1 < H ∧ 0 ≤ p.2 ∧ p.2 < W
section
variable {H W : Int} {f : Pl → Bool}
end
/-- different numbers below m are at most m -/
theorem nodup_lt : ∀ (m : Nat) (l : List Nat), l.Nodup → (∀ x ∈ l, x < m) → l.length ≤ m
  | 0, l, _, h => by
    cases l with
    | nil => exact Nat.le_refl _
    | cons a t => exact absurd (h a List.mem_cons_self) (Nat.not_lt_zero _)
  | m + 1, l, nd, h => by
    have hl : (l.erase m).length ≤ m := nodup_lt m (l.erase m) (nd.erase m) (fun x hx => by
      have h1 := (List.Nodup.mem_erase_iff nd).mp hx
      have h2 := h x h1.2
      have h3 := h1.1
      omega)
    have := List.length_erase (a := m) (l := l)
    split at this <;> omega
theorem Rch.mono {S S' src : Pl → Prop} (hs : ∀ p, S p → S' p) {p : Pl} (h : Rch S src p) : Rch S' src p := by
  induction h with
  | base a b => exact .base (hs _ a) b
  | step _ n a ih => exact .step ih n (hs _ a)
section
variable {H W : Int} {f : Pl → Bool}
end
end Sh

set_option linter.all false
namespace Sh
/-- the six places near p, in their order -/
def nbs (p : Pl) : List Pl := [(p.1 - 1, p.2), (p.1 - 1, p.2 + 1), (p.1, p.2 + 1), (p.1 + 1, p.2), (p.1 + 1, p.2 - 1), (p.1, p.2 - 1)]
theorem mem_nbs {p q : Pl} : q ∈ nbs p ↔ Nb p q := by
  obtain ⟨q1, q2⟩ := q
  unfold nbs Nb
  simp only [List.mem_cons, List.not_mem_nil, or_false, Prod.mk.injEq]
theorem nbs_len (p : Pl) : (nbs p).length = 6 := rfl
/-- where nothing is left to be looked at, the cells seen are those reached -/
theorem flood_done {S src : Pl → Prop} {seen : List Pl} (h1 : ∀ p ∈ seen, Rch S src p) (h2 : ∀ p, S p → src p → p ∈ seen) (h3 : ∀ p ∈ seen, ∀ q, Nb p q → S q → q ∈ seen) (p : Pl) : Rch S src p ↔ p ∈ seen := by
  refine ⟨fun h => ?_, h1 p⟩
  induction h with
  | base a b => exact h2 _ a b
  | step _ n a ih => exact h3 _ ih _ n a
/-- different cells of a board are at most 81 -/
theorem seen_short {H W : Int} (h9 : H ≤ 9) (w9 : W ≤ 9) {seen : List Pl} (nd : seen.Nodup) (hb : ∀ p ∈ seen, inB H W p) : seen.length ≤ 81 := by
  have e : (seen.map fun p : Pl => (p.1 * 9 + p.2).toNat).length ≤ 81 := nodup_lt _ _ (by
    refine List.Pairwise.map _ (R := fun a b => a ≠ b ∧ a ∈ seen ∧ b ∈ seen) ?_ ?_
    · intro a b hab q
      have b1 := hb a hab.2.1
      have b2 := hb b hab.2.2
      unfold inB at b1 b2
      exact hab.1 (Prod.ext (by omega) (by omega))
    · exact List.Pairwise.imp_of_mem (fun ha hb hne => ⟨hne, ha, hb⟩) nd) (fun x hx => by
      obtain ⟨y, hy, rfl⟩ := List.mem_map.mp hx
      have := hb y hy
      unfold inB at this
      omega)
  simpa using e
/-- the rows of a board as lists of codes -/
abbrev Rws := List (List Nat)
def at2 (rows : Rws) (p : Pl) : Option Nat := if 0 ≤ p.1 ∧ 0 ≤ p.2 then (rows[p.1.toNat]?).bind fun r => r[p.2.toNat]? else none
structure Rect (rows : Rws) (H W : Nat) : Prop where
  len : rows.length = H
  wid : ∀ r ∈ rows, r.length = W
  h1 : 1 ≤ H
  h9 : H ≤ 9
  w1 : 1 ≤ W
  w9 : W ≤ 9
  sg : ∀ r ∈ rows, ∀ c ∈ r, c = 110 ∨ c = 119 ∨ c = 46
theorem Rect.at {rows : Rws} {H W : Nat} (R : Rect rows H W) {p : Pl} (b : inB H W p) : ∃ c, at2 rows p = some c ∧ (c = 110 ∨ c = 119 ∨ c = 46) := by
  obtain ⟨b1, b2, b3, b4⟩ := b
  have hr : p.1.toNat < rows.length := by rw [R.len]; omega
  have hm : rows[p.1.toNat] ∈ rows := List.getElem_mem hr
  have hc : p.2.toNat < rows[p.1.toNat].length := by rw [R.wid _ hm]; omega
  refine ⟨rows[p.1.toNat][p.2.toNat], ?_, R.sg _ hm _ (List.getElem_mem hc)⟩
  unfold at2
  rw [if_pos ⟨b1, b3⟩, List.getElem?_eq_getElem hr]
  show rows[p.1.toNat][p.2.toNat]? = _
  rw [List.getElem?_eq_getElem hc]
theorem Rect.inB {rows : Rws} {H W : Nat} (R : Rect rows H W) {p : Pl} {c : Nat} (h : at2 rows p = some c) : Sh.inB H W p := by
  unfold at2 at h
  by_cases b : 0 ≤ p.1 ∧ 0 ≤ p.2
  · rw [if_pos b] at h
    cases e : rows[p.1.toNat]? with
    | none => rw [e] at h; cases h
    | some r =>
      rw [e] at h
      have h' : r[p.2.toNat]? = some c := h
      obtain ⟨l1, e1⟩ := List.getElem?_eq_some_iff.mp e
      obtain ⟨l2, e2⟩ := List.getElem?_eq_some_iff.mp h'
      have hm : r ∈ rows := e1 ▸ List.getElem_mem l1
      rw [R.wid r hm] at l2
      rw [R.len] at l1
      refine ⟨b.1, ?_, b.2, ?_⟩ <;> omega
  · rw [if_neg b] at h; cases h
/-- the stones of a hand -/
def Stn (rows : Rws) (h : Nat) (p : Pl) : Prop := at2 rows p = some h
/-- its first shore, its other one -/
def src (h : Nat) (p : Pl) : Prop := if h = 119 then p.2 = 0 else p.1 = 0
def goal (H W : Nat) (h : Nat) (p : Pl) : Prop := if h = 119 then p.2 = W - 1 else p.1 = (H : Int) - 1
def Jnd (rows : Rws) (H W : Nat) (h : Nat) : Prop := ∃ p, Rch (Stn rows h) (src h) p ∧ goal H W h p
end Sh

set_option linter.all false
namespace Sh
/-- the other hand -/
def oth (h : Nat) : Nat := if h = 110 then 119 else if h = 119 then 110 else h
theorem jnd_mono {rows rows' : Rws} {H W h : Nat} (e : ∀ p : Pl, at2 rows p = some h → at2 rows' p = some h) (j : Jnd rows H W h) : Jnd rows' H W h := by
  obtain ⟨p, hp, g⟩ := j
  exact ⟨p, hp.mono e, g⟩
end Sh

set_option linter.all false
namespace Sh
instance (H W h : Nat) (p : Pl) : Decidable (goal H W h p) := by unfold goal; exact inferInstance
/-- cells reached, each with the one that it was reached from -/
structure Tr (S src : Pl → Prop) (tr : List (Pl × Option Pl)) : Prop where
  nd : (tr.map (·.1)).Nodup
  ok : ∀ (i : Nat) (p : Pl) (o : Option Pl), tr[i]? = some (p, o) → S p ∧ (o = none → src p) ∧ ∀ q, o = some q → Nb q p ∧ ∃ j, j < i ∧ (tr.map (·.1))[j]? = some q
section
variable {S src : Pl → Prop} {tr : List (Pl × Option Pl)}
theorem Tr.at (T : Tr S src tr) {p : Pl} (h : p ∈ tr.map (·.1)) : ∃ (i : Nat) (o : Option Pl), tr[i]? = some (p, o) := by
  obtain ⟨⟨q, o⟩, hq, rfl⟩ := List.mem_map.mp h
  obtain ⟨i, hi⟩ := List.mem_iff_getElem?.mp hq
  exact ⟨i, o, hi⟩
theorem Tr.rch (T : Tr S src tr) : ∀ (i : Nat) (p : Pl) (o : Option Pl), tr[i]? = some (p, o) → Rch S src p := by
  intro i
  induction i using Nat.strongRecOn with
  | _ i ih =>
    intro p o h
    obtain ⟨h1, h2, h3⟩ := T.ok i p o h
    cases o with
    | none => exact .base h1 (h2 rfl)
    | some q =>
      obtain ⟨n, j, hj, hq⟩ := h3 q rfl
      rw [List.getElem?_map] at hq
      cases e : tr[j]? with
      | none => rw [e] at hq; cases hq
      | some x =>
        rw [e] at hq
        obtain ⟨q', o'⟩ := x
        have eq : q' = q := Option.some.inj hq
        subst eq
        exact .step (ih j hj _ o' e) n h1
theorem Tr.snoc (T : Tr S src tr) {p : Pl} {o : Option Pl} (hp : p ∉ tr.map (·.1)) (hs : S p) (h0 : o = none → src p) (h1 : ∀ q, o = some q → Nb q p ∧ q ∈ tr.map (·.1)) : Tr S src (tr ++ [(p, o)]) := by
  refine ⟨?_, fun i p' o' h => ?_⟩
  · rw [List.map_append]
    refine List.nodup_append.mpr ⟨T.nd, by simp, fun a ha b hb => ?_⟩
    have : b = p := by simpa using hb
    subst this
    exact fun e => hp (e ▸ ha)
  · by_cases hi : i < tr.length
    · rw [List.getElem?_append_left hi] at h
      obtain ⟨g1, g2, g3⟩ := T.ok i p' o' h
      refine ⟨g1, g2, fun q hq => ?_⟩
      obtain ⟨n, j, hj, e⟩ := g3 q hq
      refine ⟨n, j, hj, ?_⟩
      rw [List.map_append, List.getElem?_append_left (by rw [List.length_map]; omega)]
      exact e
    · rw [List.getElem?_append_right (by omega)] at h
      have e0 : i - tr.length = 0 := by
        cases e : i - tr.length with
        | zero => rfl
        | succ n => rw [e] at h; simp at h
      rw [e0] at h
      simp at h
      obtain ⟨rfl, rfl⟩ := h
      refine ⟨hs, h0, fun q hq => ?_⟩
      obtain ⟨n, hm⟩ := h1 q hq
      obtain ⟨j, hj⟩ := List.mem_iff_getElem?.mp hm
      have lj : j < (tr.map (·.1)).length := (List.getElem?_eq_some_iff.mp hj).1
      refine ⟨n, j, by rw [List.length_map] at lj; omega, ?_⟩
      rw [List.map_append, List.getElem?_append_left lj]
      exact hj
/-- the way back from p: what is walked so far (the newest cell first), and the cell to come -/
structure Wy (src : Pl → Prop) (tr : List (Pl × Option Pl)) (p : Pl) (o : Option Pl) (ps : List Pl) : Prop where
  mem : ∀ a ∈ ps, a ∈ tr.map (·.1)
  dec : ps.Pairwise fun a b => (tr.map (·.1)).idxOf a < (tr.map (·.1)).idxOf b
  chn : Chn ps
  nx : ∀ q, o = some q → q ∈ tr.map (·.1) ∧ (∀ a ∈ ps, (tr.map (·.1)).idxOf q < (tr.map (·.1)).idxOf a) ∧ ∀ a, ps.head? = some a → Nb q a
  fin : o = none → ∃ a, ps.head? = some a ∧ src a
  las : (ps = [] ∧ o = some p) ∨ ps.getLast? = some p
theorem Wy.start {p : Pl} (hp : p ∈ tr.map (·.1)) : Wy src tr p (some p) [] :=
  { mem := fun _ h => nomatch h
    dec := .nil
    chn := trivial
    nx := fun q e => by cases e; exact ⟨hp, (fun _ h => nomatch h), fun a h => by cases h⟩
    fin := fun e => nomatch e
    las := .inl ⟨rfl, rfl⟩ }
theorem idx_at {l : List Pl} (nd : l.Nodup) {i : Nat} {p : Pl} (h : l[i]? = some p) : l.idxOf p = i := by
  obtain ⟨hi, e⟩ := List.getElem?_eq_some_iff.mp h
  rw [← e]
  exact List.Nodup.idxOf_getElem nd i hi
theorem Wy.step (T : Tr S src tr) {p q : Pl} {o : Option Pl} {ps : List Pl} {i : Nat} (w : Wy src tr p (some q) ps) (h : tr[i]? = some (q, o)) : Wy src tr p o (q :: ps) ∧ ∀ r, o = some r → (tr.map (·.1)).idxOf r < (tr.map (·.1)).idxOf q := by
  obtain ⟨g1, g2, g3⟩ := T.ok i q o h
  obtain ⟨n1, n2, n3⟩ := w.nx q rfl
  have hq : (tr.map (·.1)).idxOf q = i := idx_at T.nd (by rw [List.getElem?_map, h]; rfl)
  have low : ∀ r, o = some r → (tr.map (·.1)).idxOf r < (tr.map (·.1)).idxOf q := fun r hr => by
    obtain ⟨n, j, hj, e⟩ := g3 r hr
    rw [hq, idx_at T.nd e]
    exact hj
  refine ⟨⟨fun a ha => ?_, List.pairwise_cons.mpr ⟨n2, w.dec⟩, ?_, fun r hr => ⟨?_, fun a ha => ?_, fun a ha => ?_⟩, fun e => ⟨q, rfl, g2 e⟩, .inr ?_⟩, low⟩
  · rcases List.mem_cons.mp ha with rfl | ha
    · exact n1
    · exact w.mem a ha
  · cases ps with
    | nil => trivial
    | cons a t => exact ⟨n3 a rfl, w.chn⟩
  · obtain ⟨n, j, hj, e⟩ := g3 r hr
    exact List.mem_of_getElem? e
  · rcases List.mem_cons.mp ha with rfl | ha
    · exact low r hr
    · exact Nat.lt_trans (low r hr) (n2 a ha)
  · have : q = a := Option.some.inj ha
    subst this
    exact (g3 r hr).1
  · rcases w.las with ⟨rfl, e⟩ | e
    · obtain rfl := Option.some.inj e
      rfl
    · cases ps with
      | nil => cases e
      | cons a t => rw [List.getLast?_cons_cons]; exact e
/-- a road to p -/
structure Rod (S src : Pl → Prop) (p : Pl) (ps : List Pl) : Prop where
  nd : ps.Nodup
  on : ∀ a ∈ ps, S a
  chn : Chn ps
  fst : ∃ a, ps.head? = some a ∧ src a
  lst : ps.getLast? = some p
theorem Wy.road (T : Tr S src tr) {p : Pl} {ps : List Pl} (w : Wy src tr p none ps) : Rod S src p ps := by
  refine ⟨w.dec.imp fun {a b} h e => by subst e; exact Nat.lt_irrefl _ h, fun a ha => ?_, w.chn, w.fin rfl, ?_⟩
  · obtain ⟨i, o, h⟩ := T.at (w.mem a ha)
    exact (T.ok i a o h).1
  · rcases w.las with ⟨_, e⟩ | e
    · cases e
    · exact e
end
end Sh

set_option linter.all false
set_option maxRecDepth 100000
set_option maxHeartbeats 400000
namespace Sw
open PySem L2 Sh
/-- no name of the text hides these built-ins -/
structure Bt (mg : Str → Option Value) : Prop where
  len : mg "len" = none
  range : mg "range" = none
  list : mg "list" = none
  int : mg "int" = none
  isinst : mg "isinstance" = none
  bool : mg "bool" = none
  tuple : mg "tuple" = none
  str : mg "str" = none
  set : mg "set" = none
  enum : mg "enumerate" = none
  rev : mg "reversed" = none
/-- what isinstance asks of built-in types -/
structure Kt (K : PySem.W.Frag) : Prop where
  ib : PySem.W.kitOne K (.type "int") (.type "bool") = some false
theorem n_eq : ("n" : Str) = ⟨#[110]⟩ := by decide +kernel
theorem w_eq : ("w" : Str) = ⟨#[119]⟩ := by decide +kernel
theorem d_eq : ("." : Str) = ⟨#[46]⟩ := by decide +kernel
/-- the rows' codes -/
abbrev rws (rows : List Str) : Rws := rows.map fun x => x.cps.toList
/-- a place as a tuple of the heap -/
def TupAt (H : Hp) (a : Addr) (p : Pl) : Prop := H a = some (.tup [.int p.1, .int p.2])
/-- a list of places -/
def ListPl (H : Hp) (l : Addr) (ps : List Pl) : Prop := ∃ as : List Addr, H l = some (.lst (as.map V.ref)) ∧ Paired (TupAt H) as ps
theorem paired_same {H H' : Hp} (s : Same H H') {as : List Addr} {ps : List Pl} (h : Paired (TupAt H) as ps) : Paired (TupAt H') as ps := Paired.mapP h fun a p z => s _ _ z
theorem paired_get {α β : Type} {F : α → β → Prop} : ∀ {as : List α} {bs : List β} {i : Nat} {b : β}, Paired F as bs → bs[i]? = some b → ∃ a, as[i]? = some a ∧ F a b
  | _, _, _, _, .nil, e => by simp at e
  | _, _, 0, _, .cons r _, e => by simp at e; subst e; exact ⟨_, rfl, r⟩
  | _, _, i + 1, b, .cons _ t, e => by
    obtain ⟨a, h1, h2⟩ := paired_get (i := i) (b := b) t (by simpa using e)
    exact ⟨a, by simpa using h1, h2⟩
theorem paired_get' {α β : Type} {F : α → β → Prop} : ∀ {as : List α} {bs : List β} {i : Nat} {a : α}, Paired F as bs → as[i]? = some a → ∃ b, bs[i]? = some b ∧ F a b
  | _, _, _, _, .nil, e => by simp at e
  | _, _, 0, _, .cons r _, e => by simp at e; subst e; exact ⟨_, rfl, r⟩
  | _, _, i + 1, a, .cons _ t, e => by
    obtain ⟨b, h1, h2⟩ := paired_get' (i := i) (a := a) t (by simpa using e)
    exact ⟨b, by simpa using h1, h2⟩
/-- a board: its attributes in the order in which __init__ stores them -/
def bfl (a : Addr) (h w : Int) : List (Str × V) := putF "width" (.int w) (putF "height" (.int h) (putF "rows" (.ref a) []))
theorem bfl_rows (a : Addr) (h w : Int) : (bfl a h w).lookup ("rows" : Str) = some (.ref a) := by
  unfold bfl
  rw [lookup_putF, if_neg (by decide +kernel), lookup_putF, if_neg (by decide +kernel), lookup_putF, if_pos rfl]
theorem bfl_height (a : Addr) (h w : Int) : (bfl a h w).lookup ("height" : Str) = some (.int h) := by
  unfold bfl
  rw [lookup_putF, if_neg (by decide +kernel), lookup_putF, if_pos rfl]
theorem bfl_width (a : Addr) (h w : Int) : (bfl a h w).lookup ("width" : Str) = some (.int w) := by
  unfold bfl
  rw [lookup_putF, if_pos rfl]
structure BoardAt (C : Addr) (H : Hp) (b : Addr) (rows : List Str) (h w : Nat) : Prop where
  ob : ∃ dx a, H b = some (.ins C dx (bfl a h w)) ∧ H a = some (.lst (rows.map V.str))
  rect : Rect (rws rows) h w
theorem BoardAt.same {C : Addr} {H H' : Hp} {b : Addr} {rows : List Str} {h w : Nat} (B : BoardAt C H b rows h w) (s : Same H H') : BoardAt C H' b rows h w :=
  ⟨let ⟨dx, a, h1, h2⟩ := B.ob; ⟨dx, a, s _ _ h1, s _ _ h2⟩, B.rect⟩
/-- the class Board -/
structure BoardC (K : PySem.W.Frag) (C : Addr) : Prop where
  cl : Cls K C
  nR : NoAttr K C "rows"
  nH : NoAttr K C "height"
  nW : NoAttr K C "width"
theorem le_line {n : Nat} (h : n ≤ 1000) : n ≤ sizeLine := Nat.le_of_lt (small1000 h)
theorem bl_eq {Q : VK} {H : Hp} {a b : Bool} (h : Q (.bl a) H) (e : a = b) : Q (.bl b) H := e ▸ h
theorem atI_of {α : Type} {xs : List α} {i : Int} {v : α} (h0 : 0 ≤ i) (h : xs[i.toNat]? = some v) : atI xs i = some v := by
  have e : i = ((i.toNat : Nat) : Int) := by omega
  rw [e]
  exact atI_nat h
/-- the sign of a cell on the board -/
theorem cell_in {rows : List Str} {h w : Nat} (R : Rect (rws rows) h w) {r c : Int} (b : inB h w (r, c)) :
    ∃ (row : Str) (ch : Nat), rows[r.toNat]? = some row ∧ row.cps.toList[c.toNat]? = some ch ∧ at2 (rws rows) (r, c) = some ch ∧ row.length = w := by
  obtain ⟨ch, e, _⟩ := R.at b
  have e0 := e
  unfold at2 at e
  rw [if_pos ⟨b.1, b.2.2.1⟩] at e
  simp only [List.getElem?_map] at e
  cases e1 : rows[r.toNat]? with
  | none => rw [e1] at e; cases e
  | some row =>
    rw [e1] at e
    refine ⟨row, ch, rfl, e, e0, ?_⟩
    have := R.wid row.cps.toList (List.mem_map.mpr ⟨row, List.mem_of_getElem? e1, rfl⟩)
    simpa [Str.length] using this
theorem str1_iff {a b : Nat} : (V.str ⟨#[a]⟩ = V.str ⟨#[b]⟩) ↔ a = b := by
  constructor
  · intro h
    injection h with h
    injection h with h
    simpa using h
  · intro h; rw [h]
/-- a list of places, as data -/
theorem rds_place {K : PySem.W.Frag} {H : Hp} {a : Addr} {p : Pl} (h : TupAt H a p) : Rds K H (.ref a) (pairD p) := .tup (SqT.of h) (.cons (.int _) (.cons (.int _) .nil))
theorem rds_paired {K : PySem.W.Frag} {H : Hp} : ∀ {as : List Addr} {ps : List Pl}, Paired (TupAt H) as ps → RdsAll K H (as.map V.ref) (ps.map pairD)
  | _, _, .nil => .nil
  | _, _, .cons r t => .cons (rds_place r) (rds_paired t)
theorem ListPl.rds {K : PySem.W.Frag} {H : Hp} {l : Addr} {ps : List Pl} (h : ListPl H l ps) : Rds K H (.ref l) (.list (ps.map pairD)) := by
  obtain ⟨as, h1, h2⟩ := h
  exact .lst (SqL.of h1) (rds_paired h2)
theorem eqv_lists (ps qs : List Pl) : PyData.eqv (.list (ps.map pairD)) (.list (qs.map pairD)) = decide (ps = qs) := by
  rw [← eqv_pairs ps qs]
  simp only [PyData.eqv]
theorem ListPl.same {H H' : Hp} {l : Addr} {ps : List Pl} (h : ListPl H l ps) (s : Same H H') : ListPl H' l ps := by
  obtain ⟨as, h1, h2⟩ := h
  exact ⟨as, s _ _ h1, paired_same s h2⟩
/-- EXCHANGED -/
def xkv : List (Key × V) := [(.inr "n", .str "w"), (.inr "w", .str "n"), (.inr ".", .str ".")]
theorem xkv_at {c : Nat} (h : c = 110 ∨ c = 119 ∨ c = 46) : valV xkv (.inr ⟨#[c]⟩) = some (.str ⟨#[oth c]⟩) := by
  rcases h with rfl | rfl | rfl <;> decide +kernel
theorem xkv_mk {P : Program} {w : World} {K : PySem.W.Frag} {d : Addr} {t1 u1 t2 u2 t3 u3 : Tok} {n : Nat}
    (hl : K.lookup d = some ⟨.type "dict", none, .dict #[⟨PyData.keyHash w.params "n", .str "n" t1, .str "w" u1⟩, ⟨PyData.keyHash w.params "w", .str "w" t2, .str "n" u2⟩, ⟨PyData.keyHash w.params ".", .str "." t3, .str "." u3⟩] n, #[]⟩)
    (hd : (d == sysModules) = false) : KDic P w K d xkv := by
  refine ⟨hd, fun h kin => ⟨[(.inr "n", .str "w" u1), (.inr "w", .str "n" u2), (.inr ".", .str "." u3)], .cons ⟨rfl, _, rfl⟩ (.cons ⟨rfl, _, rfl⟩ (.cons ⟨rfl, _, rfl⟩ .nil)), _, _, _, kin d _ hl, ⟨rfl, rfl, rfl⟩, rfl, ?_, ?_, ?_⟩⟩
  · intro e he
    have he : e ∈ [(⟨PyData.keyHash w.params "n", .str "n" t1, .str "w" u1⟩ : DictEntry), ⟨PyData.keyHash w.params "w", .str "w" t2, .str "n" u2⟩, ⟨PyData.keyHash w.params ".", .str "." t3, .str "." u3⟩] := by simpa using he
    rcases List.mem_cons.mp he with rfl | he
    · exact ⟨.inr "n", mixKind_str P w _ _, rfl⟩
    · rcases List.mem_cons.mp he with rfl | he
      · exact ⟨.inr "w", mixKind_str P w _ _, rfl⟩
      · rcases List.mem_cons.mp he with rfl | he
        · exact ⟨.inr ".", mixKind_str P w _ _, rfl⟩
        · cases he
  · exact .cons (mixKind_str P w _ _) rfl (.cons (mixKind_str P w _ _) rfl (.cons (mixKind_str P w _ _) rfl .nil))
  · show ([.inr "n", .inr "w", .inr "."] : List Key).Nodup
    decide +kernel
end Sw

set_option linter.all false
set_option maxRecDepth 100000
set_option maxHeartbeats 400000
namespace Sw
open PySem L2 Sh
/-! ### a dict of places: what each was reached from -/
abbrev pk (p : Pl) : List Key := [.inl p.1, .inl p.2]
theorem pk_inj {p q : Pl} (h : pk p = pk q) : p = q := by
  obtain ⟨a, b⟩ := p
  obtain ⟨c, d⟩ := q
  injection h with h1 h2
  injection h2 with h3 _
  injection h1 with h1
  injection h3 with h3
  subst h1 h3
  rfl
theorem tup_pk {H : Hp} {a : Addr} {p : Pl} (h : TupAt H a p) : H a = some (.tup ((pk p).map kV)) := h
def OV (H : Hp) (v : V) : Option Pl → Prop
  | none => v = .non
  | some q => ∃ t, v = .ref t ∧ TupAt H t q
theorem OV.imp {H H' : Hp} {v : V} {o : Option Pl} (h : OV H v o) (k : ∀ a p, TupAt H a p → TupAt H' a p) : OV H' v o := by
  cases o with
  | none => exact h
  | some q =>
    obtain ⟨t, e, z⟩ := h
    exact ⟨t, e, k _ _ z⟩
def DTr (H : Hp) (kvs : List (List Key × V)) (tr : List (Pl × Option Pl)) : Prop := Paired (fun (kv : List Key × V) (e : Pl × Option Pl) => kv.1 = pk e.1 ∧ OV H kv.2 e.2) kvs tr
theorem DTr.imp {H H' : Hp} {kvs : List (List Key × V)} {tr : List (Pl × Option Pl)} (h : DTr H kvs tr) (k : ∀ a p, TupAt H a p → TupAt H' a p) : DTr H' kvs tr := Paired.mapP h fun _ _ z => ⟨z.1, z.2.imp k⟩
theorem DTr.len {H : Hp} {kvs : List (List Key × V)} {tr : List (Pl × Option Pl)} (h : DTr H kvs tr) : kvs.length = tr.length := Paired.length h
theorem DTr.snoc {H : Hp} {kvs : List (List Key × V)} {tr : List (Pl × Option Pl)} (h : DTr H kvs tr) {p : Pl} {v : V} {o : Option Pl} (z : OV H v o) : DTr H (kvs ++ [(pk p, v)]) (tr ++ [(p, o)]) := Paired.snoc h ⟨rfl, z⟩
theorem dtr_none {H : Hp} {p : Pl} : ∀ {kvs : List (List Key × V)} {tr : List (Pl × Option Pl)}, DTr H kvs tr → p ∉ tr.map (·.1) → valV kvs (pk p) = none
  | _, _, .nil, _ => rfl
  | kv :: kvs, e :: tr, .cons r t, h => by
    rw [valV_neg (fun z => h (by rw [r.1] at z; rw [← pk_inj z]; exact List.mem_cons_self))]
    exact dtr_none t fun z => h (List.mem_cons_of_mem _ z)
theorem dtr_some {H : Hp} {p : Pl} {o : Option Pl} : ∀ {kvs : List (List Key × V)} {tr : List (Pl × Option Pl)} {i : Nat}, DTr H kvs tr → (tr.map (·.1)).Nodup → tr[i]? = some (p, o) → ∃ v, valV kvs (pk p) = some v ∧ OV H v o
  | _, _, i, .nil, _, h => by simp at h
  | kv :: kvs, e :: tr, 0, .cons r t, _, h => by
    have h : e = (p, o) := by simpa using h
    subst h
    exact ⟨kv.2, valV_pos r.1, r.2⟩
  | kv :: kvs, e :: tr, i + 1, .cons r t, nd, h => by
    have h : tr[i]? = some (p, o) := by simpa using h
    rw [List.map_cons] at nd
    obtain ⟨n1, n2⟩ := List.nodup_cons.mp nd
    rw [valV_neg (fun z => n1 (by rw [r.1] at z; rw [pk_inj z]; exact List.mem_map.mpr ⟨_, List.mem_of_getElem? h, rfl⟩))]
    exact dtr_some t n2 h
theorem dtr_is {H : Hp} {p : Pl} {kvs : List (List Key × V)} {tr : List (Pl × Option Pl)} (d : DTr H kvs tr) (nd : (tr.map (·.1)).Nodup) : (valV kvs (pk p)).isSome = decide (p ∈ tr.map (·.1)) := by
  by_cases h : p ∈ tr.map (·.1)
  · obtain ⟨⟨q, o⟩, hq, rfl⟩ := List.mem_map.mp h
    obtain ⟨i, hi⟩ := List.mem_iff_getElem?.mp hq
    obtain ⟨v, e, _⟩ := dtr_some d nd hi
    rw [e, decide_eq_true h]
    rfl
  · rw [dtr_none d h, decide_eq_false h]
    rfl
end Sw

set_option linter.all false
set_option maxRecDepth 100000
set_option maxHeartbeats 400000
namespace Sw
open PySem L2 Sh
/-- the cells of the first shore, in order -/
def shore (h w hd : Nat) : List Pl := if hd = 119 then (List.range h).map fun (r : Nat) => ((r : Int), (0 : Int)) else (List.range w).map fun (c : Nat) => ((0 : Int), (c : Int))
/-- .. those with a stone of the hand -/
def shoreS (rows : List Str) (h w hd : Nat) : List Pl := (shore h w hd).filter fun p => decide (at2 (rws rows) p = some hd)
theorem shore_nd (h w hd : Nat) : (shore h w hd).Nodup := by
  unfold shore
  split
  · exact List.Pairwise.map _ (fun a b (n : a ≠ b) e => n (by injection e with e1 e2; omega)) List.nodup_range
  · exact List.Pairwise.map _ (fun a b (n : a ≠ b) e => n (by injection e with e1 e2; omega)) List.nodup_range
theorem shore_src {h w hd : Nat} {p : Pl} (m : p ∈ shore h w hd) : src hd p := by
  unfold shore at m
  unfold src
  split at m
  · rename_i z
    obtain ⟨r, _, rfl⟩ := List.mem_map.mp m
    rw [if_pos z]
  · rename_i z
    obtain ⟨r, _, rfl⟩ := List.mem_map.mp m
    rw [if_neg z]
theorem mem_shore {h w hd : Nat} {p : Pl} (s : src hd p) (b : inB h w p) : p ∈ shore h w hd := by
  obtain ⟨p1, p2⟩ := p
  obtain ⟨b1, b2, b3, b4⟩ := b
  unfold src at s
  unfold shore
  split at s
  · rename_i z
    rw [if_pos z]
    refine List.mem_map.mpr ⟨p1.toNat, List.mem_range.mpr (by simp only at b2; omega), ?_⟩
    simp only at b1 s ⊢
    rw [s, Int.toNat_of_nonneg b1]
  · rename_i z
    rw [if_neg z]
    refine List.mem_map.mpr ⟨p2.toNat, List.mem_range.mpr (by simp only at b4; omega), ?_⟩
    simp only at b3 s ⊢
    rw [s, Int.toNat_of_nonneg b3]
theorem shore_len {h w hd : Nat} (h9 : h ≤ 9) (w9 : w ≤ 9) : (shore h w hd).length ≤ 9 := by
  unfold shore
  split <;> simp <;> omega
/-- the state of the search -/
structure RI (H0 H : Hp) (l d : Addr) (ps : List Pl) (kvs : List (List Key × V)) (tr : List (Pl × Option Pl)) : Prop where
  nl : H0 l = none
  nd : H0 d = none
  sm : Same H0 H
  wl : ListPl H l ps
  dd : H d = some (.dT kvs)
  dt : DTr H kvs tr
section
variable {H0 H : Hp} {l d : Addr} {ps : List Pl} {kvs : List (List Key × V)} {tr : List (Pl × Option Pl)}
theorem RI.same (R : RI H0 H l d ps kvs tr) {H' : Hp} (s : Same H H') : RI H0 H' l d ps kvs tr :=
  ⟨R.nl, R.nd, R.sm.trans s, R.wl.same s, s _ _ R.dd, R.dt.imp fun a p z => s _ _ z⟩
theorem RI.put (R : RI H0 H l d ps kvs tr) {p : Pl} {v : V} {o : Option Pl} (hp : p ∉ tr.map (·.1)) (hv : OV H v o) : RI H0 (upd H d (.dT (putK kvs (pk p) v))) l d ps (kvs ++ [(pk p, v)]) (tr ++ [(p, o)]) := by
  have e := dtr_none R.dt hp
  have kt : ∀ a q, TupAt H a q → TupAt (upd H d (.dT (putK kvs (pk p) v))) a q := fun a q z => by
    have z' : H a = some _ := z
    show upd H d _ a = _
    rw [upd_ne (ne_of z' R.dd (fun y => nomatch y))]
    exact z'
  obtain ⟨as, h1, h2⟩ := R.wl
  refine ⟨R.nl, R.nd, fun b u z => ?_, ⟨as, ?_, Paired.mapP h2 fun a q z => kt a q z⟩, by rw [upd_same, putK_new v e], DTr.snoc (R.dt.imp kt) (hv.imp kt)⟩
  · rw [upd_ne (ne_of_none z R.nd)]
    exact R.sm _ _ z
  · rw [upd_ne (ne_of h1 R.dd (fun y => nomatch y))]
    exact h1
theorem RI.app (R : RI H0 H l d ps kvs tr) {p : Pl} {t : Addr} (ht : TupAt H t p) {xs : List V} (hx : H l = some (.lst xs)) : RI H0 (upd H l (.lst (xs ++ [.ref t]))) l d (ps ++ [p]) kvs tr := by
  have kt : ∀ a q, TupAt H a q → TupAt (upd H l (.lst (xs ++ [.ref t]))) a q := fun a q z => by
    have z' : H a = some _ := z
    show upd H l _ a = _
    rw [upd_ne (ne_of z' hx (fun y => nomatch y))]
    exact z'
  obtain ⟨as, h1, h2⟩ := R.wl
  rw [h1] at hx
  have hx : as.map V.ref = xs := by injection hx with hx; injection hx
  refine ⟨R.nl, R.nd, fun b u z => ?_, ⟨as ++ [t], ?_, Paired.snoc (Paired.mapP h2 fun a q z => kt a q z) (kt _ _ ht)⟩, ?_, R.dt.imp kt⟩
  · rw [upd_ne (ne_of_none z R.nl)]
    exact R.sm _ _ z
  · rw [upd_same, List.map_append, hx]
    rfl
  · rw [upd_ne (ne_of R.dd h1 (fun y => nomatch y))]
    exact R.dd
end
/-- what reached tells -/
structure Rchd (rows : List Str) (h w hd : Nat) (tr : List (Pl × Option Pl)) : Prop where
  ok : Tr (Stn (rws rows) hd) (src hd) tr
  all : ∀ p, Rch (Stn (rws rows) hd) (src hd) p → p ∈ tr.map (·.1)
theorem Rchd.len {rows : List Str} {h w hd : Nat} (R : Rect (rws rows) h w) {tr : List (Pl × Option Pl)} (T : Tr (Stn (rws rows) hd) (src hd) tr) : tr.length ≤ 81 := by
  have := seen_short (H := h) (W := w) (by have := R.h9; omega) (by have := R.w9; omega) T.nd fun p hp => by
    obtain ⟨i, o, e⟩ := T.at hp
    exact R.inB (T.ok i p o e).1
  simpa using this
/-- a measure: how far the int in slot i is below n -/
def muI (n i : Nat) (σ : St) (_ : Hp) : Nat := match σ[i]? with
  | some (some (.int k)) => n - k.toNat
  | _ => 0
end Sw

set_option linter.all false
set_option maxRecDepth 100000
set_option maxHeartbeats 400000
namespace Sw
open PySem L2 Sh
/-! ### rows as lists of signs -/
theorem rect_set {rr : Rws} {h w : Nat} (R : Rect rr h w) {r c hd : Nat} {cs : List Nat} (hr : rr[r]? = some cs) (hh : hd = 110 ∨ hd = 119 ∨ hd = 46) : Rect (rr.set r (cs.set c hd)) h w := by
  have hm := List.mem_of_getElem? hr
  refine ⟨by rw [List.length_set]; exact R.len, fun x hx => ?_, R.h1, R.h9, R.w1, R.w9, fun x hx y hy => ?_⟩
  · rcases List.mem_or_eq_of_mem_set hx with z | z
    · exact R.wid x z
    · rw [z, List.length_set]; exact R.wid cs hm
  · rcases List.mem_or_eq_of_mem_set hx with z | z
    · exact R.sg x z y hy
    · rw [z] at hy
      rcases List.mem_or_eq_of_mem_set hy with u | u
      · exact R.sg cs hm y u
      · rw [u]; exact hh
/-- a board's rows: their sizes, their signs; full: none is empty -/
structure RowsOk (rows : List Str) (h w : Nat) (full : Bool) : Prop where
  rect : Rect (rws rows) h w
  full : full = true → ∀ r ∈ rws rows, ∀ c ∈ r, c ≠ 46
end Sw

set_option linter.all false
set_option maxRecDepth 100000
set_option maxHeartbeats 400000
namespace Sw
open PySem L2 Sh
/-! ### a flood: the cells seen (a dict's keys), the cells left (a list) -/
section
variable {H0 H : Hp} {l d : Addr} {ps ls : List Pl} {kvs : List (List Key × V)}
theorem dk_is {p : Pl} (h : kvs.map (·.1) = ps.map pk) : (valV kvs (pk p)).isSome = decide (p ∈ ps) := by
  rw [← valV_any]
  have e : (kvs.any fun kv => decide (kv.1 = pk p)) = (kvs.map (·.1)).any fun k => decide (k = pk p) := by rw [List.any_map]; rfl
  rw [e, h, List.any_map]
  by_cases m : p ∈ ps
  · rw [decide_eq_true m]
    exact List.any_eq_true.mpr ⟨p, m, decide_eq_true rfl⟩
  · rw [decide_eq_false m]
    refine List.any_eq_false.mpr fun q hq z => m ?_
    have z : pk q = pk p := of_decide_eq_true z
    rw [← pk_inj z]
    exact hq
end
/-- the six steps, in the order of nbs -/
def dirs : List Pl := [(-1, 0), (-1, 1), (0, 1), (1, 0), (1, -1), (0, -1)]
theorem nbs_dirs (p : Pl) : nbs p = dirs.map fun d => (p.1 + d.1, p.2 + d.2) := by
  obtain ⟨a, b⟩ := p
  simp [nbs, dirs, Int.sub_eq_add_neg]
theorem side_is {hd : Nat} : decide (V.str ⟨#[hd]⟩ = V.str "w") = decide (hd = 119) := by
  rw [decide_eq_decide, w_eq, str1_iff]
end Sw
namespace Sw
open PySem L2 Sh
theorem strOk_row {x : Str} (h : ∀ c ∈ x.cps.toList, c = 110 ∨ c = 119 ∨ c = 46) (hl : x.length ≤ 9) : PySem.PyData.strOk x = true := by
  unfold PySem.PyData.strOk
  rw [Array.all_eq_true']
  intro c hc
  have := h c (by simpa using hc)
  exact decide_eq_true (by omega)
theorem shaped_rows {rows : List Str} {h w : Nat} (R : Rect (rws rows) h w) : SeqAt.shaped (.list (rows.map PyData.str)) = true := by
  refine shaped_strs fun x hx => strOk_row (fun c hc => R.sg x.cps.toList (List.mem_map.mpr ⟨x, hx, rfl⟩) c hc) ?_
  have := R.wid x.cps.toList (List.mem_map.mpr ⟨x, hx, rfl⟩)
  have w9 := R.w9
  have : x.length = w := by simpa [Str.length] using this
  omega
theorem eqv_rows (xs ys : List Str) : PyData.eqv (.list (xs.map PyData.str)) (.list (ys.map PyData.str)) = decide (xs = ys) := by
  rw [← eqv_strs xs ys]
  simp only [PyData.eqv]
end Sw

set_option linter.all false
set_option maxRecDepth 100000
set_option maxHeartbeats 400000
namespace Sw
open PySem L2 Sh
/-! ### a stone laid; a board turned over; boards that agree -/
def layd (rr : Rws) (r c hd : Nat) : Rws := rr.set r ((rr.getD r []).set c hd)
theorem layd_rect {rr : Rws} {h w : Nat} (R : Rect rr h w) {r c hd : Nat} (hr : r < h) (hh : hd = 110 ∨ hd = 119 ∨ hd = 46) : Rect (layd rr r c hd) h w := by
  have hl : r < rr.length := by rw [R.len]; exact hr
  have e : rr[r]? = some (rr.getD r []) := by rw [List.getD_eq_getElem?_getD, List.getElem?_eq_getElem hl]; rfl
  exact rect_set R e hh
theorem at2_nat {rr : Rws} (r c : Nat) : at2 rr ((r : Int), (c : Int)) = (rr[r]?).bind fun x => x[c]? := by
  unfold at2
  rw [if_pos ⟨by omega, by omega⟩]
  simp
theorem at2_layd {rr : Rws} {h w : Nat} (R : Rect rr h w) {r c hd : Nat} (hr : r < h) (hc : c < w) (q : Pl) : at2 (layd rr r c hd) q = if q = ((r : Int), (c : Int)) then some hd else at2 rr q := by
  have hl : r < rr.length := by rw [R.len]; exact hr
  have e : rr[r]? = some rr[r] := List.getElem?_eq_getElem hl
  have eg : rr.getD r [] = rr[r] := by rw [List.getD_eq_getElem?_getD, e]; rfl
  have wl : rr[r].length = w := R.wid _ (List.getElem_mem hl)
  by_cases b : 0 ≤ q.1 ∧ 0 ≤ q.2
  · obtain ⟨a, ha⟩ := Int.eq_ofNat_of_zero_le b.1
    obtain ⟨d, hd'⟩ := Int.eq_ofNat_of_zero_le b.2
    have eq : q = ((a : Int), (d : Int)) := Prod.ext ha hd'
    subst eq
    rw [at2_nat, at2_nat]
    unfold layd
    by_cases ea : a = r
    · subst ea
      rw [List.getElem?_set_self hl, eg, e]
      show ((rr[a].set c hd)[d]?) = _
      by_cases ed : d = c
      · subst ed
        rw [List.getElem?_set_self (by rw [wl]; exact hc), if_pos rfl]
      · rw [List.getElem?_set_ne (fun z => ed z.symm), if_neg (fun z => ed (by injection z with _ z; omega))]
        rfl
    · rw [List.getElem?_set_ne (fun z => ea z.symm), if_neg (fun z => ea (by injection z with z _; omega))]
  · have n : ¬ q = ((r : Int), (c : Int)) := fun z => b (by rw [z]; exact ⟨by simp only; omega, by simp only; omega⟩)
    rw [if_neg n]
    unfold at2
    rw [if_neg b, if_neg b]
theorem rect_ext {rr rr' : Rws} {h w : Nat} (R : Rect rr h w) (R' : Rect rr' h w) (e : ∀ p ch, at2 rr p = some ch → at2 rr' p = some ch) : rr' = rr := by
  refine List.ext_getElem (by rw [R.len, R'.len]) fun i h1 h2 => ?_
  have w1 : rr'[i].length = w := R'.wid _ (List.getElem_mem h1)
  have w2 : rr[i].length = w := R.wid _ (List.getElem_mem h2)
  refine List.ext_getElem (by rw [w1, w2]) fun j h3 h4 => ?_
  have a1 : at2 rr ((i : Int), (j : Int)) = some rr[i][j] := by
    rw [at2_nat, List.getElem?_eq_getElem h2]
    show rr[i][j]? = _
    rw [List.getElem?_eq_getElem h4]
  have a2 := e _ _ a1
  rw [at2_nat, List.getElem?_eq_getElem h1] at a2
  have a2 : rr'[i][j]? = some rr[i][j] := a2
  rw [List.getElem?_eq_getElem h3] at a2
  exact Option.some.inj a2
theorem Rect.sg2 {rr : Rws} {h w : Nat} (R : Rect rr h w) {p : Pl} {ch : Nat} (e : at2 rr p = some ch) : ch = 110 ∨ ch = 119 ∨ ch = 46 := by
  obtain ⟨c, e1, e2⟩ := R.at (R.inB e)
  rw [e] at e1
  rw [Option.some.inj e1]
  exact e2
theorem line_codes {x : Str} {c hd : Nat} (hc : c < x.cps.toList.length) : ((⟨(x.cps.toList.take c).toArray⟩ : Str) ++ (⟨#[hd]⟩ : Str) ++ (⟨(x.cps.toList.drop (c + 1)).toArray⟩ : Str)).cps.toList = x.cps.toList.set c hd := by
  show (((x.cps.toList.take c).toArray ++ #[hd]) ++ (x.cps.toList.drop (c + 1)).toArray).toList = _
  rw [List.set_eq_take_append_cons_drop, if_pos hc]
  simp
theorem map_set_codes (rows : List Str) (r : Nat) (x : Str) : rws (rows.set r x) = (rws rows).set r x.cps.toList := by
  unfold rws
  rw [List.map_set]
end Sw

set_option linter.all false
set_option maxRecDepth 100000
set_option maxHeartbeats 400000
namespace Sw
open PySem L2 Sh
/-! ### the empty cells, in order; who can win -/
def rowc (w : Nat) (r : Nat) : List Pl := (List.range w).map fun (c : Nat) => ((r : Int), (c : Int))
def cells (h w : Nat) : List Pl := (List.range h).flatMap (rowc w)
def isE (rr : Rws) (p : Pl) : Bool := decide (at2 rr p = some 46)
def emp (h w : Nat) (rr : Rws) : List Pl := (cells h w).filter (isE rr)
theorem mem_cells {h w : Nat} {p : Pl} : p ∈ cells h w ↔ inB h w p := by
  unfold cells rowc inB
  rw [List.mem_flatMap]
  constructor
  · rintro ⟨r, hr, hp⟩
    obtain ⟨c, hc, rfl⟩ := List.mem_map.mp hp
    have := List.mem_range.mp hr
    have := List.mem_range.mp hc
    exact ⟨by simp only; omega, by simp only; omega, by simp only; omega, by simp only; omega⟩
  · rintro ⟨b1, b2, b3, b4⟩
    refine ⟨p.1.toNat, List.mem_range.mpr (by omega), List.mem_map.mpr ⟨p.2.toNat, List.mem_range.mpr (by omega), ?_⟩⟩
    exact Prod.ext (Int.toNat_of_nonneg b1) (Int.toNat_of_nonneg b3)
theorem cells_nd (h w : Nat) : (cells h w).Nodup := by
  unfold cells
  induction h with
  | zero => exact .nil
  | succ n ih =>
    rw [List.range_succ, List.flatMap_append]
    refine List.nodup_append.mpr ⟨ih, ?_, fun a ha b hb e => ?_⟩
    · rw [List.flatMap_cons, List.flatMap_nil, List.append_nil]
      exact List.Pairwise.map _ (fun a b (n : a ≠ b) e => n (by injection e with e1 e2; omega)) List.nodup_range
    · subst e
      obtain ⟨r, hr, hp⟩ := List.mem_flatMap.mp ha
      obtain ⟨c, _, rfl⟩ := List.mem_map.mp hp
      rw [List.flatMap_cons, List.flatMap_nil, List.append_nil] at hb
      obtain ⟨c', _, e⟩ := List.mem_map.mp hb
      have := List.mem_range.mp hr
      injection e with e1 e2
      omega
theorem mem_emp {h w : Nat} {rr : Rws} (R : Rect rr h w) {p : Pl} : p ∈ emp h w rr ↔ at2 rr p = some 46 := by
  unfold emp isE
  rw [List.mem_filter, mem_cells, decide_eq_true_iff]
  exact ⟨fun z => z.2, fun z => ⟨R.inB z, z⟩⟩
theorem emp_nd (h w : Nat) (rr : Rws) : (emp h w rr).Nodup := (cells_nd h w).filter _
def lyp (rr : Rws) (p : Pl) (hd : Nat) : Rws := layd rr p.1.toNat p.2.toNat hd
theorem lyp_rect {rr : Rws} {h w : Nat} (R : Rect rr h w) {p : Pl} (b : inB h w p) {hd : Nat} (hh : hd = 110 ∨ hd = 119 ∨ hd = 46) : Rect (lyp rr p hd) h w := layd_rect R (by have := b.1; have := b.2.1; omega) hh
theorem at2_lyp {rr : Rws} {h w : Nat} (R : Rect rr h w) {p : Pl} (b : inB h w p) {hd : Nat} (q : Pl) : at2 (lyp rr p hd) q = if q = p then some hd else at2 rr q := by
  unfold lyp
  obtain ⟨b1, b2, b3, b4⟩ := b
  rw [at2_layd R (by omega) (by omega), Int.toNat_of_nonneg b1, Int.toNat_of_nonneg b3]
theorem emp_lyp {rr : Rws} {h w : Nat} (R : Rect rr h w) {p : Pl} (e : at2 rr p = some 46) {hd : Nat} (hh : hd ≠ 46) : (emp h w (lyp rr p hd)).length + 1 = (emp h w rr).length := by
  have b := R.inB e
  have eq : emp h w (lyp rr p hd) = (emp h w rr).erase p := by
    rw [(emp_nd h w rr).erase_eq_filter]
    unfold emp
    rw [List.filter_filter]
    refine List.filter_congr fun q hq => ?_
    unfold isE
    rw [at2_lyp R b]
    by_cases z : q = p
    · subst z
      rw [if_pos rfl]
      simp [hh]
    · rw [if_neg z]
      simp [z]
  rw [eq, List.length_erase_of_mem ((mem_emp R).mpr e)]
  have := List.length_pos_of_mem ((mem_emp R).mpr e)
  omega
/-- whether the hand that is to lay can win, n cells empty -/
def Wins (h w : Nat) : Nat → Rws → Nat → Prop
  | 0, _, _ => False
  | n + 1, rr, hd => ∃ p ∈ emp h w rr, Jnd (lyp rr p hd) h w hd ∨ ¬ Wins h w n (lyp rr p hd) (oth hd)
def WinBy (h w n : Nat) (rr : Rws) (hd : Nat) (p : Pl) : Prop := Jnd (lyp rr p hd) h w hd ∨ ¬ Wins h w n (lyp rr p hd) (oth hd)
theorem wins_succ {h w n : Nat} {rr : Rws} {hd : Nat} : Wins h w (n + 1) rr hd ↔ ∃ p ∈ emp h w rr, WinBy h w n rr hd p := Iff.rfl
theorem oth_hd {hd : Nat} (h : hd = 110 ∨ hd = 119) : oth hd = 110 ∨ oth hd = 119 := by rcases h with rfl | rfl; exact .inr rfl; exact .inl rfl
/-- taking a stone away joins nobody -/
theorem jnd_less {rr : Rws} {h w : Nat} (R : Rect rr h w) {p : Pl} (b : inB h w p) {hd : Nat} (hh : hd = 110 ∨ hd = 119) (j : Jnd (lyp rr p 46) h w hd) : Jnd rr h w hd := by
  refine jnd_mono (fun q e => ?_) j
  rw [at2_lyp R b] at e
  split at e
  · have := Option.some.inj e
    omega
  · exact e
theorem lyp_nat {rr : Rws} (r c hd : Nat) : lyp rr ((r : Int), (c : Int)) hd = layd rr r c hd := by
  unfold lyp
  simp
end Sw

set_option linter.all false
set_option maxRecDepth 100000
set_option maxHeartbeats 400000
namespace Sw
open PySem L2 Sh
theorem paired_app {α β : Type} {F : α → β → Prop} {as bs : List α} {xs ys : List β} (h1 : Paired F as xs) (h2 : Paired F bs ys) : Paired F (as ++ bs) (xs ++ ys) := by
  induction h1 with
  | nil => exact h2
  | cons r _ ih => exact .cons r ih
/-- all stays but d and l -/
def Kp (d l : Addr) (H H' : Hp) : Prop := ∀ b o, b ≠ d → b ≠ l → H b = some o → H' b = some o
theorem Kp.refl {d l : Addr} {H : Hp} : Kp d l H H := fun _ _ _ _ z => z
theorem Kp.trans {d l : Addr} {H H1 H2 : Hp} (k : Kp d l H H1) (k' : Kp d l H1 H2) : Kp d l H H2 := fun b o n1 n2 z => k' b o n1 n2 (k b o n1 n2 z)
theorem Kp.of {d l : Addr} {H H' : Hp} (s : Same H H') : Kp d l H H' := fun _ _ _ _ z => s _ _ z
theorem Kp.l {d l : Addr} {H : Hp} {o : HO} : Kp d l H (upd H l o) := fun b _ _ n z => by rw [upd_ne n]; exact z
theorem Kp.d {d l : Addr} {H : Hp} {o : HO} : Kp d l H (upd H d o) := fun b _ n _ z => by rw [upd_ne n]; exact z
/-- a way: a list of places -/
structure WayAt (H0 : Hp) (l : Addr) (H : Hp) (a : Addr) (ps : List Pl) : Prop where
  ne : a ≠ l
  nw : H0 a = none
  at' : ListPl H a ps
theorem ListPl.keep {H H' : Hp} {a : Addr} {ps : List Pl} (L : ListPl H a ps) {d l : Addr} {x y : HO} (hd : H d = some x) (nx : ∀ ys, x ≠ .lst ys) (nx' : ∀ ys, x ≠ .tup ys) (hl : H l = some y) (ny : ∀ ys, y ≠ .tup ys) (ne : a ≠ l) (k : Kp d l H H') : ListPl H' a ps := by
  obtain ⟨as, h1, h2⟩ := L
  refine ⟨as, k _ _ (ne_of h1 hd (fun z => nx _ z.symm)) ne h1, Paired.mapP h2 fun b p z => ?_⟩
  have z' : H b = some _ := z
  exact k _ _ (ne_of z' hd (fun y => nx' _ y.symm)) (ne_of z' hl (fun y => ny _ y.symm)) z'
structure WI (H0 H : Hp) (d l : Addr) (ps : List Pl) (ws : List (List Pl)) (kvs : List (List Key × V)) : Prop where
  nl : H0 l = none
  nd : H0 d = none
  sm : Same H0 H
  wl : ∃ as : List Addr, H l = some (.lst (as.map V.ref)) ∧ Paired (WayAt H0 l H) as ws
  dd : H d = some (.dT kvs)
  dk : kvs.map (·.1) = ps.map pk
section
variable {H0 H : Hp} {l d : Addr} {ps : List Pl} {ws : List (List Pl)} {kvs : List (List Key × V)}
theorem WI.same (R : WI H0 H d l ps ws kvs) {H' : Hp} (s : Same H H') : WI H0 H' d l ps ws kvs := by
  obtain ⟨as, h1, h2⟩ := R.wl
  exact ⟨R.nl, R.nd, R.sm.trans s, ⟨as, s _ _ h1, Paired.mapP h2 fun a p z => ⟨z.ne, z.nw, z.at'.same s⟩⟩, s _ _ R.dd, R.dk⟩
theorem WI.none (R : WI H0 H d l ps ws kvs) {p : Pl} (m : p ∉ ps) : valV kvs (pk p) = none := by
  have := dk_is (p := p) R.dk
  rw [decide_eq_false m] at this
  cases e : valV kvs (pk p) with
  | none => rfl
  | some v => rw [e] at this; cases this
theorem WI.put (R : WI H0 H d l ps ws kvs) {p : Pl} (v : V) (m : p ∉ ps) : WI H0 (upd H d (.dT (putK kvs (pk p) v))) d l (ps ++ [p]) ws (kvs ++ [(pk p, v)]) := by
  have e := R.none m
  obtain ⟨as, h1, h2⟩ := R.wl
  refine ⟨R.nl, R.nd, fun b u z => ?_, ⟨as, ?_, Paired.mapP h2 fun a q z => ⟨z.ne, z.nw, z.at'.keep R.dd (fun _ y => nomatch y) (fun _ y => nomatch y) h1 (fun _ y => nomatch y) z.ne Kp.d⟩⟩, by rw [upd_same, putK_new v e], by rw [List.map_append, R.dk, List.map_append]; rfl⟩
  · rw [upd_ne (ne_of_none z R.nd)]
    exact R.sm _ _ z
  · rw [upd_ne (ne_of h1 R.dd (fun y => nomatch y))]
    exact h1
theorem WI.app (R : WI H0 H d l ps ws kvs) {t : Addr} {way : List Pl} (ht : WayAt H0 l H t way) {xs : List V} (hx : H l = some (.lst xs)) : WI H0 (upd H l (.lst (xs ++ [.ref t]))) d l ps (ws ++ [way]) kvs := by
  obtain ⟨as, h1, h2⟩ := R.wl
  have hx' : as.map V.ref = xs := by rw [h1] at hx; injection hx with hx; injection hx
  subst hx'
  have kt : ∀ a q, WayAt H0 l H a q → WayAt H0 l (upd H l (.lst (as.map V.ref ++ [.ref t]))) a q := fun a q z => ⟨z.ne, z.nw, z.at'.keep R.dd (fun _ y => nomatch y) (fun _ y => nomatch y) h1 (fun _ y => nomatch y) z.ne Kp.l⟩
  refine ⟨R.nl, R.nd, fun b u z => ?_, ⟨as ++ [t], by rw [upd_same, List.map_append]; rfl, Paired.snoc (Paired.mapP h2 kt) (kt _ _ ht)⟩, ?_, R.dk⟩
  · rw [upd_ne (ne_of_none z R.nl)]
    exact R.sm _ _ z
  · rw [upd_ne (ne_of R.dd h1 (fun y => nomatch y))]
    exact R.dd
theorem WI.len (R : WI H0 H d l ps ws kvs) : kvs.length = ps.length := by have := congrArg List.length R.dk; simpa using this
end
/-- the ways found so far, and where each ends -/
structure Wys (rr : Rws) (h w hd : Nat) (ps : List Pl) (ws : List (List Pl)) : Prop where
  nd : ps.Nodup
  rc : ∀ p ∈ ps, Rch (Stn rr hd) (src hd) p
  en : ws.length = ps.length
  wy : ∀ (i : Nat) (way : List Pl), ws[i]? = some way → ∃ pre p, way = pre ++ [p] ∧ ps[i]? = some p ∧ pre.length ≤ i ∧ ∀ q ∈ way, at2 rr q = some hd
theorem Wys.snoc {rr : Rws} {h w hd : Nat} {ps : List Pl} {ws : List (List Pl)} (Y : Wys rr h w hd ps ws) {p : Pl} {pre : List Pl} (m : p ∉ ps) (r : Rch (Stn rr hd) (src hd) p) (hl : pre.length ≤ ws.length) (hp : ∀ q ∈ pre ++ [p], at2 rr q = some hd) : Wys rr h w hd (ps ++ [p]) (ws ++ [pre ++ [p]]) := by
  refine ⟨List.nodup_append.mpr ⟨Y.nd, by simp, fun u hu u' hu' z => ?_⟩, fun q hq => ?_, by simp [Y.en], fun i way e => ?_⟩
  · have e' : u' = p := by simpa using hu'
    subst e' z
    exact m hu
  · rcases List.mem_append.mp hq with z | z
    · exact Y.rc q z
    · rw [List.mem_singleton.mp z]
      exact r
  · by_cases hi : i < ws.length
    · rw [List.getElem?_append_left hi] at e
      obtain ⟨pr, p', e1, e2, e3, e4⟩ := Y.wy i way e
      refine ⟨pr, p', e1, ?_, e3, e4⟩
      rw [List.getElem?_append_left (by rw [← Y.en]; exact hi)]
      exact e2
    · rw [List.getElem?_append_right (by omega)] at e
      have e0 : i - ws.length = 0 := by
        cases z : i - ws.length with
        | zero => rfl
        | succ n => rw [z] at e; simp at e
      rw [e0] at e
      have e : pre ++ [p] = way := by simpa using e
      subst e
      have ei : i = ps.length := by rw [← Y.en]; omega
      exact ⟨pre, p, rfl, by rw [ei]; simp, by omega, hp⟩
theorem Wys.len {rr : Rws} {h w hd : Nat} (R : Rect rr h w) {ps : List Pl} {ws : List (List Pl)} (Y : Wys rr h w hd ps ws) : ps.length ≤ 81 :=
  seen_short (H := h) (W := w) (by have := R.h9; omega) (by have := R.w9; omega) Y.nd fun p hp => R.inB (Y.rc p hp).on
theorem goal_iff' {h w hd : Nat} {p : Pl} : V.int (if hd = 119 then p.2 else p.1) = V.int ((if hd = 119 then (w : Int) else (h : Int)) - 1) ↔ goal h w hd p := by
  unfold goal
  by_cases e : hd = 119
  · rw [if_pos e, if_pos e, if_pos e]
    exact ⟨fun z => by injection z, fun z => by rw [z]⟩
  · rw [if_neg e, if_neg e, if_neg e]
    exact ⟨fun z => by injection z, fun z => by rw [z]⟩
end Sw

set_option linter.all false
set_option maxRecDepth 100000
set_option maxHeartbeats 400000
namespace Sw
open PySem L2 Sh
/-! ### games: a record of stones, and the boards behind each count of them -/
section
variable {G C : Addr} {H H' : Hp} {g lc lp : Addr} {h w : Nat} {ps : List Pl}
end
end Sw

set_option linter.all false
set_option maxRecDepth 100000
set_option maxHeartbeats 400000
namespace Sw
open PySem L2 Sh
/-! ### the walk -/
section
variable {H W : Int} {f : Pl → Bool}
end
end Sw

set_option linter.all false
set_option maxRecDepth 100000
set_option maxHeartbeats 400000
namespace L2
open PySem PySem.Spec PyProof.Rows
/-! ### rules for places: short readings -/
section
variable {X : Cx} {e : Expr} {t t' : TE} {tt tt' : TT}
theorem QE.by (h : QE X e t) (w : ∀ σ H Q, t' σ H Q → t σ H Q) : QE X e t' := ⟨fun pins s σ H Q I q => h.h pins s σ H Q I (w σ H Q q)⟩
/-- cell[0], cell[1] -/
def tP0 (j : Nat) : TE := fun σ H Q => ∃ t p q, σ[j]? = some (some (.ref t)) ∧ H t = some (.tup [.int p, .int q]) ∧ Q (.int p) H
def tP1 (j : Nat) : TE := fun σ H Q => ∃ t p q, σ[j]? = some (some (.ref t)) ∧ H t = some (.tup [.int p, .int q]) ∧ Q (.int q) H
theorem qe_p0 (j : Nat) {i : Expr} (h : QE X e (tVar j)) (hi : QE X i (tC (.int 0))) {pos : Pos} (hs : PlainIx i := by exact fun _ _ => rfl) : QE X (.Subscript e i pos) (tP0 j) :=
  (qe_ix ix_tup0 h hi hs).by fun _ _ _ ⟨t, p, _, e1, e2, q⟩ => ⟨.ref t, e1, t, _, 0, .int p, rfl, rfl, e2, rfl, q⟩
theorem qe_p1 (j : Nat) {i : Expr} (h : QE X e (tVar j)) (hi : QE X i (tC (.int 1))) {pos : Pos} (hs : PlainIx i := by exact fun _ _ => rfl) : QE X (.Subscript e i pos) (tP1 j) :=
  (qe_ix ix_tup0 h hi hs).by fun _ _ _ ⟨t, _, c, e1, e2, q⟩ => ⟨.ref t, e1, t, _, 1, .int c, rfl, rfl, e2, rfl, q⟩
end
end L2
namespace Sw
open PySem L2 Sh
section
variable {X : Cx}
end
end Sw

set_option linter.all false
set_option maxRecDepth 100000
set_option maxHeartbeats 400000
namespace Sw
open PySem L2 Sh
def top (i : Nat) : Stmt := PySem.Challenge.pw_shoreways_k14_replies.main.body.getD i (.Pass ⟨0, 0, 0, 0⟩)
abbrev s_check_row : Stmt := top 12
abbrev s_check_rows : Stmt := top 13
abbrev s_Board_init : Stmt := inClass (top 14) 0
abbrev s_near : Stmt := top 15
abbrev s_has_cell : Stmt := top 16
abbrev s_check_cell : Stmt := top 17
abbrev s_laid : Stmt := top 18
abbrev s_other_hand : Stmt := top 19
abbrev s_empty : Stmt := top 20
abbrev s_first_shore : Stmt := top 22
abbrev s_on_other_shore : Stmt := top 23
abbrev s_holds : Stmt := top 24
abbrev s_reached : Stmt := top 25
abbrev s_way_to : Stmt := top 26
abbrev s_road : Stmt := top 27
abbrev s_joined : Stmt := top 28
abbrev s_joined_hand : Stmt := top 29
abbrev s_check_end : Stmt := top 32
abbrev s_wins_by : Stmt := top 33
abbrev s_has_reply : Stmt := top 34
abbrev s_can_win : Stmt := top 35
abbrev s_replies : Stmt := top 36
abbrev s_l_cell_at : Stmt := top 38
abbrev s_l_mix : Stmt := top 39
abbrev s_l_whole : Stmt := top 40
abbrev s_l_told : Stmt := top 41
abbrev s_l_rows_by : Stmt := top 42
abbrev s_l_size_by : Stmt := top 43
abbrev s_l_long_way : Stmt := top 44
abbrev s_l_road : Stmt := top 45
abbrev s_l_put : Stmt := top 46
abbrev s_l_free : Stmt := top 47
abbrev s_l_open_by : Stmt := top 48
abbrev s_l_wins : Stmt := top 49
abbrev s_l_places : Stmt := top 50
abbrev s_l_due : Stmt := top 51
abbrev s_law : Stmt := top 52
end Sw

set_option linter.all false
set_option maxRecDepth 100000
set_option maxHeartbeats 400000
namespace Sw
open PySem L2 Sh
section
variable {P : Program} {w : World} {K : PySem.W.Frag} {mg : Str → Option Value} {base : Heap}
theorem sc_l_cell_at : FnScope ["script", "k"] ["script", "k"] (defScope s_l_cell_at) := ⟨rfl, rfl, rfl, by decide +kernel, rfl, by decide +kernel, by decide +kernel⟩
def sp_l_cell_at (K : PySem.W.Frag) : Sp := fun vs H Q _ => ∃ (a : Addr) (ns : List Int) (k : Int), vs = [.ref a, .int k] ∧ SqL K H a (ns.map V.int) ∧ 0 ≤ k ∧ Q (.int (ns.getD k.toNat 0)) H
theorem ok_l_cell_at (B : Bt mg) (F : Fn K mg "_law_cell_at" s_l_cell_at) : Def P w K mg base 1 "_law_cell_at" ["script", "k"] (sp_l_cell_at K) := by
  refine Def.by F sc_l_cell_at (fun _ _ _ _ _ _ => us2 fun _ _ => rfl) (fun vs H Q E h => ?_) (fun f cdv A outer s H vs Q E hr h => ?_)
  · obtain ⟨a, ns, k, rfl, _⟩ := h
    rfl
  obtain ⟨a, ns, k, rfl, hS, h0, q⟩ := h
  refine ⟨_, qss_cons (qs_if (qt_cmp op_lt (qv 1) (qe_callB call_len_seq B.len PySem.boot_len (qa_cons (qv 0) qa_nil))) (qss_one (qs_ret (qe_ix ix_list (qv 0) (qv 1)))) qss_nil) (qss_one (qs_ret qe_int)), ?_⟩
  refine ⟨_, rfl, _, rfl, a, _, rfl, .inl hS, _, _, rfl, rfl, _, rfl, ?_⟩
  refine ite2 (fun c => ?_) (fun c => ?_)
  · have c := of_decide_eq_true c
    rw [List.length_map] at c
    have hk : k.toNat < ns.length := by omega
    refine ⟨_, rfl, _, rfl, a, _, k, .int ns[k.toNat], rfl, rfl, hS, atI_of h0 (by rw [List.getElem?_map, List.getElem?_eq_getElem hk]; rfl), ?_⟩
    have e : ns.getD k.toNat 0 = ns[k.toNat] := by rw [List.getD_eq_getElem?_getD, List.getElem?_eq_getElem hk]; rfl
    rw [← e]
    exact q
  · have c := of_decide_eq_false (Bool.eq_false_iff.mpr c)
    rw [List.length_map] at c
    have e : ns.getD k.toNat 0 = 0 := by rw [List.getD_eq_getElem?_getD, List.getElem?_eq_none (by omega)]; rfl
    rw [e] at q
    exact q
end
end Sw

set_option linter.all false
set_option maxRecDepth 100000
set_option maxHeartbeats 400000
namespace Sw
open PySem L2 Sh
section
variable {P : Program} {w : World} {K : PySem.W.Frag} {mg : Str → Option Value} {base : Heap}
theorem sc_l_mix : FnScope ["cell", "k", "many", "some", "number"] ["cell", "k", "many"] (defScope s_l_mix) := ⟨rfl, rfl, rfl, by decide +kernel, rfl, by decide +kernel, by decide +kernel⟩
/-- a number below many -/
def sp_l_mix : Sp := fun vs H Q _ => ∃ (cell k many : Int), vs = [.int cell, .int k, .int many] ∧ 0 ≤ k ∧ k ≤ 1000000 ∧ 0 < many ∧ ∀ (z : Int) (H' : Hp), 0 ≤ z → z < many → Same H H' → Q (.int z) H'
def some13 : List Int := [48271, 69621, 16807, 39373, 30269, 40014, 40692, 50021, 61687, 71993, 83869, 95561, 30307]
theorem some13_small : ∀ v ∈ some13, 0 ≤ v ∧ v ≤ 100000 := by decide
theorem pick13 (k : Int) : ∃ v : Int, atI (some13.map V.int) (k % 13) = some (.int v) ∧ 0 ≤ v ∧ v ≤ 100000 := by
  have hk : (k % 13).toNat < some13.length := by
    show (k % 13).toNat < 13
    omega
  refine ⟨some13[(k % 13).toNat], ?_, some13_small _ (List.getElem_mem hk)⟩
  refine atI_of (by first | exact Int.natCast_nonneg _ | assumption | omega) ?_
  rw [List.getElem?_map, List.getElem?_eq_getElem hk]
  rfl
theorem ok_l_mix (F : Fn K mg "_law_mix" s_l_mix) : Def P w K mg base 1 "_law_mix" ["cell", "k", "many"] sp_l_mix := by
  refine Def.by F sc_l_mix (fun _ _ _ _ _ _ => us3 fun _ _ _ => rfl) (fun vs H Q E h => ?_) (fun f cdv A outer s H vs Q E hr h => ?_)
  · obtain ⟨cell, k, many, rfl, _⟩ := h
    rfl
  obtain ⟨cell, k, many, rfl, h0, h1, hm, q⟩ := h
  refine ⟨_, qss_cons (qs_set 3 sc_l_mix.nd (qe_lst (qa_cons qe_int (qa_cons qe_int (qa_cons qe_int (qa_cons qe_int (qa_cons qe_int (qa_cons qe_int (qa_cons qe_int (qa_cons qe_int (qa_cons qe_int (qa_cons qe_int (qa_cons qe_int (qa_cons qe_int (qa_cons qe_int qa_nil)))))))))))))))
    (qss_cons (qs_set 4 sc_l_mix.nd (qe_op op_mul (qe_op op_add (qe_op op_mod (qv 0) qe_int) qe_int) (qe_ix ix_list (qv 3) (qe_op op_mod (qv 1) qe_int))))
    (qss_cons (qs_set 4 sc_l_mix.nd (qe_op op_add (qe_op op_mul (qv 4) (qe_op op_add (qe_op op_mul qe_int (qe_op op_fdiv (qv 1) qe_int)) qe_int)) (qe_op op_mul qe_int (qv 1))))
    (qss_one (qs_ret (qe_op op_mod (qe_op op_fdiv (qe_op op_mod (qv 4) qe_int) qe_int) (qv 2)))))), ?_⟩
  refine ⟨(by show 13 ≤ sizeLine; decide), fun p hp => ?_⟩
  obtain ⟨v, hv, v0, v1⟩ := pick13 k
  refine ⟨_, rfl, _, _, rfl, rfl, (by show (0 : Int) < 2147483647; decide), _, _, rfl, rfl, _, rfl, _, rfl, _, _, rfl, rfl, (by show (0 : Int) < 13; decide), p, _, _, _, rfl, rfl, SqL.of upd_same, hv, _, _, rfl, rfl, .inr ⟨by omega, by omega⟩, ?_⟩
  refine ⟨_, rfl, _, rfl, _, _, rfl, rfl, ⟨by decide, by decide⟩, _, _, rfl, rfl, .inl ⟨by decide, by decide⟩, _, _, rfl, rfl, _, _, rfl, rfl, .inr ⟨by omega, by omega⟩, _, rfl, _, _, rfl, rfl, .inl ⟨by decide, by decide⟩, _, _, rfl, rfl, ?_⟩
  refine ⟨_, rfl, _, _, rfl, rfl, (by show (0 : Int) < 1000000007; decide), _, _, rfl, rfl, ⟨by decide, by decide⟩, _, rfl, _, _, rfl, rfl, hm, ?_⟩
  exact q _ _ (Int.emod_nonneg _ (by omega)) (Int.emod_lt_of_pos _ hm) (same_upd hp)
end
end Sw

set_option linter.all false
set_option maxRecDepth 100000
set_option maxHeartbeats 400000
namespace Sw
open PySem L2 Sh
section
variable {P : Program} {w : World} {K : PySem.W.Frag} {mg : Str → Option Value} {base : Heap}
theorem sc_l_size_by : FnScope ["script", "most"] ["script", "most"] (defScope s_l_size_by) := ⟨rfl, rfl, rfl, by decide +kernel, rfl, by decide +kernel, by decide +kernel⟩
def sp_l_size_by (K : PySem.W.Frag) : Sp := fun vs H Q _ => ∃ (a : Addr) (ns : List Int) (m : Int), vs = [.ref a, .int m] ∧ SqL K H a (ns.map V.int) ∧ 1 ≤ m ∧ ∀ (t : Addr) (h w : Nat) (H' : Hp), 1 ≤ h → (h : Int) ≤ m → 1 ≤ w → (w : Int) ≤ m → Same H H' → H' t = some (.tup [.int h, .int w]) → Q (.ref t) H'
theorem ok_l_size_by (D1 : Def P w K mg base 1 "_law_cell_at" ["script", "k"] (sp_l_cell_at K)) (F : Fn K mg "_law_size_by" s_l_size_by) : Def P w K mg base 2 "_law_size_by" ["script", "most"] (sp_l_size_by K) := by
  refine Def.by F sc_l_size_by (fun _ _ _ _ _ _ => us2 fun _ _ => rfl) (fun vs H Q E h => ?_) (fun f cdv A outer s H vs Q E hr h => ?_)
  · obtain ⟨a, ns, m, rfl, _⟩ := h
    rfl
  obtain ⟨a, ns, m, rfl, hS, hm, q⟩ := h
  refine ⟨_, qss_one (qs_ret (qe_tup (qa_cons (qe_op op_add qe_int (qe_op op_mod (qe_callD D1 hr (qa_cons (qv 0) (qa_cons qe_int qa_nil))) (qv 1))) (qa_cons (qe_op op_add qe_int (qe_op op_mod (qe_callD D1 hr (qa_cons (qv 0) (qa_cons qe_int qa_nil))) (qv 1))) qa_nil)))), ?_⟩
  refine ⟨_, rfl, a, ns, 0, rfl, hS, Int.le_refl _, _, rfl, _, _, rfl, rfl, hm, _, _, rfl, rfl, ?_⟩
  refine ⟨_, rfl, a, ns, 1, rfl, hS, by decide, _, rfl, _, _, rfl, rfl, hm, _, _, rfl, rfl, (by show 2 ≤ sizeLine; decide), fun t ht => ?_⟩
  have p0 := Int.emod_nonneg (ns.getD (0 : Int).toNat 0) (show m ≠ 0 by omega)
  have l0 := Int.emod_lt_of_pos (ns.getD (0 : Int).toNat 0) (show 0 < m by omega)
  have p1 := Int.emod_nonneg (ns.getD (1 : Int).toNat 0) (show m ≠ 0 by omega)
  have l1 := Int.emod_lt_of_pos (ns.getD (1 : Int).toNat 0) (show 0 < m by omega)
  refine q t (1 + ns.getD (0 : Int).toNat 0 % m).toNat (1 + ns.getD (1 : Int).toNat 0 % m).toNat _ (by omega) (by omega) (by omega) (by omega) (same_upd ht) ?_
  have e0 : (((1 + ns.getD (0 : Int).toNat 0 % m).toNat : Nat) : Int) = 1 + ns.getD (0 : Int).toNat 0 % m := by omega
  have e1 : (((1 + ns.getD (1 : Int).toNat 0 % m).toNat : Nat) : Int) = 1 + ns.getD (1 : Int).toNat 0 % m := by omega
  rw [upd_same, e0, e1]
end
end Sw

set_option linter.all false
set_option maxRecDepth 100000
set_option maxHeartbeats 400000
namespace Sw
open PySem L2 Sh
section
variable {P : Program} {w : World} {K : PySem.W.Frag} {mg : Str → Option Value} {base : Heap}
theorem sc_l_rows_by : FnScope ["script", "height", "width", "full", "rows", "r", "cell", "row", "c", "kind"] ["script", "height", "width", "full"] (defScope s_l_rows_by) := ⟨rfl, rfl, rfl, by decide +kernel, rfl, by decide +kernel, by decide +kernel⟩
theorem sign5 (k : Int) (h0 : 0 ≤ k) (h5 : k < 5) : ∃ c : Nat, atI ([.str "n", .str "w", .str "n", .str "w", .str "."] : List V) k = some (.str ⟨#[c]⟩) ∧ (c = 110 ∨ c = 119 ∨ c = 46) ∧ (k < 4 → c ≠ 46) := by
  have e : k = 0 ∨ k = 1 ∨ k = 2 ∨ k = 3 ∨ k = 4 := by omega
  rcases e with e | e | e | e | e <;> subst e
  · exact ⟨110, atI_nat (j := 0) (by rw [← n_eq]; rfl), .inl rfl, fun _ => by decide⟩
  · exact ⟨119, atI_nat (j := 1) (by rw [← w_eq]; rfl), .inr (.inl rfl), fun _ => by decide⟩
  · exact ⟨110, atI_nat (j := 2) (by rw [← n_eq]; rfl), .inl rfl, fun _ => by decide⟩
  · exact ⟨119, atI_nat (j := 3) (by rw [← w_eq]; rfl), .inr (.inl rfl), fun _ => by decide⟩
  · exact ⟨46, atI_nat (j := 4) (by rw [← d_eq]; rfl), .inr (.inr rfl), fun z => absurd z (by decide)⟩
theorem two54 (b : Bool) : atI ([.int 5, .int 4] : List V) (if b then 1 else 0) = some (.int (if b then 4 else 5)) := by
  cases b
  · exact atI_nat (j := 0) rfl
  · exact atI_nat (j := 1) rfl
def sp_l_rows_by (K : PySem.W.Frag) : Sp := fun vs H Q _ => ∃ (a : Addr) (ns : List Int) (h w : Nat) (full : Bool), vs = [.ref a, .int h, .int w, .bl full] ∧ SqL K H a (ns.map V.int) ∧ 1 ≤ h ∧ h ≤ 9 ∧ 1 ≤ w ∧ w ≤ 9 ∧
  ∀ (l : Addr) (rows : List Str) (H' : Hp), Same H H' → H l = none → H' l = some (.lst (rows.map V.str)) → RowsOk rows h w full → Q (.ref l) H'
/-- a row as it grows -/
structure RowUp (x : Str) (n : Nat) (full : Bool) : Prop where
  len : x.cps.toList.length = n
  sg : ∀ c ∈ x.cps.toList, c = 110 ∨ c = 119 ∨ c = 46
  full : full = true → ∀ c ∈ x.cps.toList, c ≠ 46
theorem RowUp.more {x : Str} {n : Nat} {full : Bool} (r : RowUp x n full) {c : Nat} (h1 : c = 110 ∨ c = 119 ∨ c = 46) (h2 : full = true → c ≠ 46) : RowUp (x ++ ⟨#[c]⟩) (n + 1) full := by
  have e : (x ++ (⟨#[c]⟩ : Str)).cps.toList = x.cps.toList ++ [c] := by
    show (x.cps ++ #[c]).toList = _
    simp
  refine ⟨by rw [e, List.length_append, r.len]; rfl, fun d hd => ?_, fun hf d hd => ?_⟩
  · rw [e] at hd
    rcases List.mem_append.mp hd with z | z
    · exact r.sg d z
    · rw [List.mem_singleton.mp z]; exact h1
  · rw [e] at hd
    rcases List.mem_append.mp hd with z | z
    · exact r.full hf d z
    · rw [List.mem_singleton.mp z]; exact h2 hf
theorem ok_l_rows_by (B : Bt mg) (D1 : Def P w K mg base 1 "_law_cell_at" ["script", "k"] (sp_l_cell_at K)) (D2 : Def P w K mg base 1 "_law_mix" ["cell", "k", "many"] sp_l_mix) (F : Fn K mg "_law_rows_by" s_l_rows_by) : Def P w K mg base 2 "_law_rows_by" ["script", "height", "width", "full"] (sp_l_rows_by K) := by
  refine Def.by F sc_l_rows_by (fun _ _ _ _ _ _ => us4 fun _ _ _ _ => rfl) (fun vs H Q E h => ?_) (fun f cdv A outer s H vs Q E hr h => ?_)
  · obtain ⟨a, ns, h, w, full, rfl, _⟩ := h
    rfl
  obtain ⟨a, ns, h, w, full, rfl, hS, h1, h9, w1, w9, q⟩ := h
  refine ⟨_, qss_cons (qs_set 4 sc_l_rows_by.nd (qe_lst qa_nil))
    (qss_cons (qs_for (qi_range1 B.range (qa_cons (qv 1) qa_nil)) (qg_name 5 sc_l_rows_by.nd)
      (qss_cons (qs_set 6 sc_l_rows_by.nd (qe_callD D1 hr (qa_cons (qv 0) (qa_cons (qe_op op_add qe_int (qv 5)) qa_nil))))
      (qss_cons (qs_set 7 sc_l_rows_by.nd qe_str)
      (qss_cons (qs_for (qi_range1 B.range (qa_cons (qv 2) qa_nil)) (qg_name 8 sc_l_rows_by.nd)
        (qss_cons (qs_set 9 sc_l_rows_by.nd (qe_callD D2 hr (qa_cons (qv 6) (qa_cons (qe_op op_add (qe_op op_mul qe_int (qv 5)) (qv 8)) (qa_cons (qe_ix ix_list0 (qe_lst (qa_cons qe_int (qa_cons qe_int qa_nil))) (qe_callTy call_int1 B.int PyProof.Rows.boot_int (qa_cons (qv 3) qa_nil))) qa_nil)))))
        (qss_one (qs_set 7 sc_l_rows_by.nd (qe_op op_add_str (qv 7) (qe_ix ix_list0 (qe_lst (qa_cons qe_str (qa_cons qe_str (qa_cons qe_str (qa_cons qe_str (qa_cons qe_str qa_nil)))))) (qv 9)))))))
      (qss_one (qs_expr (qe_app (qv 4) (qv 7))))))))
    (qss_one (qs_ret (qv 4)))), ?_⟩
  refine ⟨(by show 0 ≤ sizeLine; decide), fun l hl => ?_⟩
  refine ⟨_, rfl, (h : Int), rfl, (by first | exact rngL _ | omega), (by first | exact rngH (by assumption) | omega), ?_⟩
  refine for_goesO (n := h) (by rw [Int.toNat_natCast]; exact goes_range) (fun i σ H' => ∃ (rows : List Str) (v5 v6 v7 v8 v9 : Option V), σ = [some (.ref a), some (.int h), some (.int w), some (.bl full), some (.ref l), v5, v6, v7, v8, v9] ∧ Same H H' ∧ H' l = some (.lst (rows.map V.str)) ∧ rows.length = i ∧ ∀ x ∈ rows, RowUp x w full)
    ⟨[], none, none, none, none, none, rfl, same_upd hl, upd_same, rfl, fun _ z => nomatch z⟩ (fun _ _ _ _ _ => trivial) ?_ ?_
  · rintro Pw Rt Bk hw hrt i x σ H1 hi hy ⟨rows, v5, v6, v7, v8, v9, rfl, sm, hl1, hn, hr1⟩
    subst hy
    have hSl : SqL K H1 a (ns.map V.int) := sm.seq hS
    refine ⟨_, rfl, _, rfl, _, _, rfl, rfl, a, ns, _, rfl, hSl, by omega, ?_⟩
    refine ⟨_, rfl, (w : Int), rfl, (by first | exact rngL _ | omega), (by first | exact rngH (by assumption) | omega), ?_⟩
    refine for_goesO (n := w) (by rw [Int.toNat_natCast]; exact goes_range) (fun j σ H' => ∃ (x : Str) (v8 v9 : Option V) (ce : Int), σ = [some (.ref a), some (.int h), some (.int w), some (.bl full), some (.ref l), some (.int (0 + (i : Nat))), some (.int ce), some (.str x), v8, v9] ∧ Same H1 H' ∧ RowUp x j full)
      ⟨_, _, _, _, rfl, Same.refl _, ⟨rfl, (fun _ z => nomatch z), fun _ _ z => nomatch z⟩⟩ (fun _ _ _ _ _ => trivial) ?_ ?_
    · rintro Pw2 Rt2 Bk2 hw2 hrt2 j y σ H2 hj hy ⟨x, v8, v9, ce, rfl, sm2, ru⟩
      subst hy
      refine ⟨_, rfl, _, rfl, _, _, rfl, rfl, .inl ⟨by decide, by decide⟩, _, rfl, _, _, rfl, rfl, (by show 2 ≤ sizeLine; decide), fun p hp => ?_⟩
      refine ⟨_, rfl, .inr ⟨_, rfl, p, _, _, _, rfl, rfl, upd_same, two54 full, ce, _, _, rfl, by omega, by omega, (by cases full <;> decide), fun z H3 z0 z1 sm3 => ?_⟩⟩
      have z5 : z < 5 := by cases full <;> simp at z1 <;> omega
      obtain ⟨c, e1, e2, e3⟩ := sign5 z z0 z5
      refine ⟨_, rfl, (by show 5 ≤ sizeLine; decide), fun p2 hp2 => ?_⟩
      have xl := ru.len
      refine ⟨_, rfl, p2, _, z, _, rfl, rfl, upd_same, e1, _, _, rfl, rfl, ?_, ?_⟩
      · have : x.length = j := by rw [← xl]; simp [Str.length]
        show x.length + 1 ≤ sizeLine
        exact le_line (by first | exact le_w (by assumption) (by assumption) | exact le1k (by assumption) (by decide) | omega)
      · refine hw2 _ _ _ ⟨_, _, _, _, rfl, (sm2.upd hp).trans (sm3.upd hp2), ru.more e2 fun hf => e3 ?_⟩
        rw [hf] at z1
        exact z1
    · rintro σ H2 ⟨x, v8, v9, ce, rfl, sm2, ru⟩
      have hl2 := sm2 _ _ hl1
      refine ⟨_, rfl, l, _, rfl, hl2, _, rfl, _, _, rfl, hl2, by rw [List.length_map]; exact small1000 (by first | exact lt1k (by assumption) (by decide) | omega), ?_⟩
      refine hw _ _ _ ⟨rows ++ [x], _, _, _, _, _, rfl, fun b o e => ?_, by rw [upd_same, List.map_append]; rfl, by rw [List.length_append, hn]; rfl, fun y hy => ?_⟩
      · rw [upd_ne (ne_of_none e hl)]
        exact sm2 _ _ (sm _ _ e)
      · rcases List.mem_append.mp hy with z | z
        · exact hr1 y z
        · rw [List.mem_singleton.mp z]; exact ru
  · rintro σ H1 ⟨rows, v5, v6, v7, v8, v9, rfl, sm, hl1, hn, hr1⟩
    refine ⟨_, rfl, q l rows H1 sm hl hl1 ⟨⟨by rw [List.length_map]; exact hn, fun r hr => ?_, h1, h9, w1, w9, fun r hr c hc => ?_⟩, fun hf r hr c hc => ?_⟩⟩
    · obtain ⟨x, hx, rfl⟩ := List.mem_map.mp hr
      exact (hr1 x hx).len
    · obtain ⟨x, hx, rfl⟩ := List.mem_map.mp hr
      exact (hr1 x hx).sg c hc
    · obtain ⟨x, hx, rfl⟩ := List.mem_map.mp hr
      exact (hr1 x hx).full hf c hc
end
end Sw

set_option linter.all false
set_option maxRecDepth 100000
set_option maxHeartbeats 400000
namespace Sw
open PySem L2 Sh
section
variable {P : Program} {w : World} {K : PySem.W.Frag} {mg : Str → Option Value} {base : Heap}
theorem sc_check_row : FnScope ["row", "width", "mark"] ["row", "width"] (defScope s_check_row) := ⟨rfl, rfl, rfl, by decide +kernel, rfl, by decide +kernel, by decide +kernel⟩
def sp_check_row : Sp := fun vs H Q _ => ∃ row : Str, vs = [.str row, .int row.length] ∧ 1 ≤ row.length ∧ row.length ≤ 9 ∧ (∀ c ∈ row.cps.toList, c = 110 ∨ c = 119 ∨ c = 46) ∧ Q .non H
theorem ok_check_row {dX : Addr} {tM : Tok} (B : Bt mg) (hM : mg "MOST" = some (.int 9 tM)) (hX : mg "EXCHANGED" = some (.ref dX)) (X : KDic P w K dX xkv) (F : Fn K mg "check_row" s_check_row) : Def P w K mg base 1 "check_row" ["row", "width"] sp_check_row := by
  refine Def.by F sc_check_row (fun _ _ _ _ _ _ => us2 fun _ _ => rfl) (fun vs H Q E h => ?_) (fun f cdv A outer s H vs Q E hr h => ?_)
  · obtain ⟨row, rfl, _⟩ := h
    rfl
  obtain ⟨row, rfl, h1, h9, sg, q⟩ := h
  have hz : row.length ≤ sizeLine := le_line (by first | exact le_w (by assumption) (by assumption) | exact le1k (by assumption) (by decide) | omega)
  refine ⟨_, qss_cons (qs_if (qt_not (qt_chain op_le op_le qe_int (qe_callB call_len_str B.len PySem.boot_len (qa_cons (qv 0) qa_nil)) (qe_glob (v := .int 9) hM ⟨_, rfl⟩))) qss_never qss_nil)
    (qss_cons (qs_if (qt_cmp op_ne (qe_callB call_len_str B.len PySem.boot_len (qa_cons (qv 0) qa_nil)) (qv 1)) qss_never qss_nil)
    (qss_one (qs_for (qi_str (qv 0)) (qg_name 2 sc_check_row.nd)
      (qss_one (qs_if (qt_cmp (op_notInK X) (qv 2) (qe_glob (v := .ref dX) hX rfl)) qss_never qss_nil))))), ?_⟩
  refine ⟨_, rfl, row, rfl, hz, _, _, rfl, rfl, _, rfl, iteTb (decide_eq_true (by omega)) ?_⟩
  refine ⟨_, _, rfl, rfl, _, rfl, iteFb (by rw [decide_eq_true (by omega)]; rfl) ?_⟩
  refine ⟨_, rfl, row, rfl, hz, _, rfl, rfl, _, rfl, iteFb (by simp) ?_⟩
  refine ⟨_, rfl, row, rfl, ?_⟩
  refine for_goesO goes_str (fun i σ H' => ∃ v, σ = [some (.str row), some (.int row.length), v] ∧ H' = H) ⟨_, rfl, rfl⟩ (fun _ _ _ _ _ => trivial) ?_ ?_
  · rintro Pw Rt Bk hw hrt i x σ H' hi ⟨c, hc, rfl⟩ ⟨v, rfl, rfl⟩
    have hm : c ∈ row.cps.toList := by
      rw [← Array.getElem?_toList] at hc
      exact List.mem_of_getElem? hc
    refine ⟨_, rfl, .inr ⟨#[c]⟩, rfl, rfl, _, rfl, iteFb (by rw [xkv_at (sg c hm)]; rfl) ?_⟩
    exact hw _ _ _ ⟨_, rfl, rfl⟩
  · rintro σ H' ⟨v, rfl, rfl⟩
    exact q
end
end Sw

set_option linter.all false
set_option maxRecDepth 100000
set_option maxHeartbeats 400000
namespace Sw
open PySem L2 Sh
section
variable {P : Program} {w : World} {K : PySem.W.Frag} {mg : Str → Option Value} {base : Heap}
theorem sc_check_rows : FnScope ["rows", "row"] ["rows"] (defScope s_check_rows) := ⟨rfl, rfl, rfl, by decide +kernel, rfl, by decide +kernel, by decide +kernel⟩
def sp_check_rows (K : PySem.W.Frag) : Sp := fun vs H Q _ => ∃ (a : Addr) (rows : List Str) (h w : Nat), vs = [.ref a] ∧ SqL K H a (rows.map V.str) ∧ Rect (rws rows) h w ∧ Q .non H
theorem row_len {rows : List Str} {h w : Nat} (R : Rect (rws rows) h w) {x : Str} (hx : x ∈ rows) : x.length = w := by
  have := R.wid x.cps.toList (List.mem_map.mpr ⟨x, hx, rfl⟩)
  simpa [Str.length] using this
theorem ok_check_rows {tM : Tok} (B : Bt mg) (hM : mg "MOST" = some (.int 9 tM)) (D1 : Def P w K mg base 1 "check_row" ["row", "width"] sp_check_row) (F : Fn K mg "check_rows" s_check_rows) : Def P w K mg base 2 "check_rows" ["rows"] (sp_check_rows K) := by
  refine Def.by F sc_check_rows (fun _ _ _ _ _ _ => us1 fun _ => rfl) (fun vs H Q E h => ?_) (fun f cdv A outer s H vs Q E hr h => ?_)
  · obtain ⟨a, rows, h, w, rfl, _⟩ := h
    rfl
  obtain ⟨a, rows, h, w, rfl, hS, R, q⟩ := h
  have hlen : rows.length = h := by have := R.len; rwa [List.length_map] at this
  have h1 := R.h1
  have h9 := R.h9
  have w1 := R.w1
  have w9 := R.w9
  obtain ⟨r0, hr0⟩ : ∃ r0, rows[0]? = some r0 := ⟨rows[0], List.getElem?_eq_getElem (by first | exact lt_eq (by assumption) (by assumption) | assumption | omega)⟩
  have l0 : r0.length = w := row_len R (List.mem_of_getElem? hr0)
  refine ⟨_, qss_cons (qs_if (qt_not (qt_chain op_le op_le qe_int (qe_callB call_len_seq B.len PySem.boot_len (qa_cons (qv 0) qa_nil)) (qe_glob (v := .int 9) hM ⟨_, rfl⟩))) qss_never qss_nil)
    (qss_one (qs_for (qi_list (qv 0)) (qg_name 1 sc_check_rows.nd)
      (qss_one (qs_expr (qe_callD D1 hr (qa_cons (qv 1) (qa_cons (qe_callB call_len_str B.len PySem.boot_len (qa_cons (qe_ix ix_list (qv 0) qe_int) qa_nil)) qa_nil))))))), ?_⟩
  refine ⟨_, rfl, a, _, rfl, .inl hS, _, _, rfl, rfl, _, rfl, iteTb (decide_eq_true (by rw [List.length_map]; omega)) ?_⟩
  refine ⟨_, _, rfl, rfl, _, rfl, iteFb (by rw [decide_eq_true (by rw [List.length_map]; omega)]; rfl) ?_⟩
  refine ⟨_, rfl, a, rfl, ⟨_, hS⟩, ?_⟩
  refine for_goesO goes_list (fun i σ H' => ∃ v, σ = [some (.ref a), v] ∧ H' = H) ⟨_, rfl, rfl⟩ (fun i σ H' _ z => by obtain ⟨_, _, rfl⟩ := z; exact hS) ?_ ?_
  · rintro Pw Rt Bk hw hrt i x σ H' hi hy ⟨v, rfl, rfl⟩
    rw [List.getElem?_map] at hy
    cases e : rows[i]? with
    | none => rw [e] at hy; cases hy
    | some row =>
      rw [e] at hy
      obtain rfl := Option.some.inj hy
      have hm := List.mem_of_getElem? e
      have lr : row.length = w := row_len R hm
      refine ⟨_, rfl, _, rfl, a, _, 0, .str r0, rfl, rfl, hS, atI_of (by decide) (by rw [List.getElem?_map]; simp only [Int.toNat_zero]; rw [hr0]; rfl), r0, rfl, le_line (by first | exact le_w (by assumption) (by assumption) | exact le1k (by assumption) (by decide) | omega), row, by rw [l0, lr]; rfl, by omega, by omega, fun c hc => R.sg _ (List.mem_map.mpr ⟨row, hm, rfl⟩) c hc, ?_⟩
      exact hw _ _ _ ⟨_, rfl, rfl⟩
  · rintro σ H' ⟨v, rfl, rfl⟩
    exact q
end
end Sw

set_option linter.all false
set_option maxRecDepth 100000
set_option maxHeartbeats 400000
namespace Sw
open PySem L2 Sh
section
variable {P : Program} {w : World} {K : PySem.W.Frag} {mg : Str → Option Value} {base : Heap}
theorem sc_Board_init : FnScope ["self", "rows"] ["self", "rows"] (defScope s_Board_init) := ⟨rfl, rfl, rfl, by decide +kernel, rfl, by decide +kernel, by decide +kernel⟩
def sp_Board_init (K : PySem.W.Frag) (C : Addr) : Sp := fun vs H Q _ => ∃ (p dx a : Addr) (rows : List Str) (h w : Nat), vs = [.ref p, .ref a] ∧ H p = some (.ins C dx []) ∧ SqL K H a (rows.map V.str) ∧ Rect (rws rows) h w ∧
  ∀ H', BoardAt C H' p rows h w → (∀ b o, H b = some o → b ≠ p → H' b = some o) → Q .non H'
/-- the class Board as it is called -/
structure BrdMk (P : Program) (w : World) (K : PySem.W.Frag) (mg : Str → Option Value) (base : Heap) (k : Nat) (C : Addr) : Prop where
  mC : mg "Board" = some (.ref C)
  ex : ∃ fI fd, Mk K C fI ∧ Binds K fd ["self", "rows"] [] ∧ FnOk P w K mg base CX0 k fI fd ["self", "rows"] (sp_Board_init K C)
theorem BrdMk.up {j k : Nat} {C : Addr} (M : BrdMk P w K mg base j C) (h : j ≤ k) : BrdMk P w K mg base k C :=
  ⟨M.mC, let ⟨fI, fd, a, b, c⟩ := M.ex; ⟨fI, fd, a, b, c.mono h⟩⟩
theorem ok_Board_init {C fI : Addr} {fd : FuncData} (B : Bt mg) (T : BoardC K C) (mC : mg "Board" = some (.ref C)) (M : Mk K C fI) (D1 : Def P w K mg base 2 "check_rows" ["rows"] (sp_check_rows K)) (F : Fun K "__init__" "Board.__init__" s_Board_init fI fd) : BrdMk P w K mg base 3 C := by
  refine ⟨mC, fI, fd, M, F.binds (ps := ["self", "rows"]) (fun _ _ _ _ _ _ => us2 fun _ _ => rfl), ?_⟩
  refine Law.by F sc_Board_init (fun vs H Q E h => ?_) (fun cdv A outer s H vs Q E hr h => ?_)
  · obtain ⟨p, dx, a, rows, h, w, rfl, _⟩ := h
    rfl
  obtain ⟨p, dx, a, rows, h, w, rfl, hp, hS, R, q⟩ := h
  have hlen : rows.length = h := by have := R.len; rwa [List.length_map] at this
  have h1 := R.h1
  have h9 := R.h9
  have w1 := R.w1
  have w9 := R.w9
  obtain ⟨r0, hr0⟩ : ∃ r0, rows[0]? = some r0 := ⟨rows[0], List.getElem?_eq_getElem (by first | exact lt_eq (by assumption) (by assumption) | assumption | omega)⟩
  have l0 : r0.length = w := row_len R (List.mem_of_getElem? hr0)
  refine ⟨_, qss_cons (qs_expr (qe_callD D1 hr (qa_cons (qv 1) qa_nil)))
    (qss_cons (qs_fld (qv 0) (qe_callTy call_list_of B.list PyProof.Rows.boot_list (qa_cons (qv 1) qa_nil)))
    (qss_cons (qs_fld (qv 0) (qe_callB call_len_seq B.len PySem.boot_len (qa_cons (qv 1) qa_nil)))
    (qss_one (qs_fld (qv 0) (qe_callB call_len_str B.len PySem.boot_len (qa_cons (qe_ix ix_list (qv 1) qe_int) qa_nil)))))), ?_⟩
  refine ⟨_, rfl, a, rows, h, w, rfl, hS, R, ?_⟩
  refine ⟨_, rfl, a, _, rfl, .inl hS, fun l hl => ?_⟩
  have npl : p ≠ l := ne_of_none hp hl
  refine ⟨_, rfl, p, C, dx, [], rfl, (by rw [upd_ne npl]; exact hp), T.cl, T.nR, (by show 0 < 1000; decide), ?_⟩
  have hS2 : ∀ fs, SqL K (upd (upd H l (.lst (rows.map V.str))) p (.ins C dx fs)) a (rows.map V.str) := fun fs => by
    rcases hS with z | z
    · refine .inl ?_
      rcases z with z | ⟨o, z⟩
      · refine .inl ?_
        rw [upd_ne (ne_of z hp (fun y => nomatch y)), upd_ne (ne_of_none z hl)]
        exact z
      · refine .inr ⟨o, ?_⟩
        rw [upd_ne (ne_of z hp (fun y => nomatch y)), upd_ne (ne_of_none z hl)]
        exact z
    · exact .inr z
  refine ⟨_, rfl, a, _, rfl, .inl (hS2 _), _, rfl, p, C, dx, _, rfl, upd_same, T.cl, T.nH, (by show 1 < 1000; decide), ?_⟩
  rw [upd_upd]
  refine ⟨_, rfl, a, _, 0, .str r0, rfl, rfl, hS2 _, atI_of (by decide) (by rw [List.getElem?_map]; simp only [Int.toNat_zero]; rw [hr0]; rfl), r0, rfl, le_line (by first | exact le_w (by assumption) (by assumption) | exact le1k (by assumption) (by decide) | omega), _, rfl, p, C, dx, _, rfl, upd_same, T.cl, T.nW, ?_, ?_⟩
  · have e : putF "height" (V.int (List.map V.str rows).length) (putF "rows" (V.ref l) []) = ([("rows", V.ref l), ("height", V.int (List.map V.str rows).length)] : List (Str × V)) := by
      show (if ("rows" : Str) = "height" then _ else _) = _
      rw [if_neg (by decide +kernel)]
      rfl
    rw [e]
    show 2 < 1000
    decide
  · rw [upd_upd]
    refine q _ ⟨⟨dx, l, ?_, ?_⟩, R⟩ fun b o e nb => ?_
    · rw [upd_same, List.length_map, hlen, l0]
      rfl
    · rw [upd_ne npl.symm, upd_same]
    · rw [upd_ne nb, upd_ne (ne_of_none e hl)]
      exact e
/-- Board(e) -/
theorem qe_board {X : Cx} {k : Nat} {C : Addr} {e : Expr} {t : TA} {p pos : Pos} (M : BrdMk X.prog X.w X.K X.mg X.base k C) (hr : Room (k + 1) X.A) (ha : QA X [e] t) (hg : Gl X "Board" := by rfl)
    (he : starEach [e] X.env = [(false, eval e X.env)] := by rfl) : QE X (.Call (.Name "Board" p) [e] [] pos) (tMake C (sp_Board_init X.K C) [] E0 t) := by
  obtain ⟨fI, fd, a, b, c⟩ := M.ex
  exact ⟨pe_make a c hr hg M.mC b .nil pass0 ha.h (he := he) (hpl := rfl)⟩
/-- what stood ahead of the new board stands -/
theorem brd_same {C : Addr} {H H' : Hp} {x dx : Addr} (nx : H x = none) (ndx : H dx = none) (kp : ∀ b o, upd (upd H dx (.own x)) x (.ins C dx []) b = some o → b ≠ x → H' b = some o) : Same H H' := fun b o e => by
  refine kp b o ?_ (ne_of_none e nx)
  rw [upd_ne (ne_of_none e nx), upd_ne (ne_of_none e ndx)]
  exact e
end
end Sw

set_option linter.all false
set_option maxRecDepth 100000
set_option maxHeartbeats 400000
namespace Sw
open PySem L2 Sh
section
variable {P : Program} {w : World} {K : PySem.W.Frag} {mg : Str → Option Value} {base : Heap}
theorem sc_near : FnScope ["r", "c"] ["r", "c"] (defScope s_near) := ⟨rfl, rfl, rfl, by decide +kernel, rfl, by decide +kernel, by decide +kernel⟩
def sp_near : Sp := fun vs H Q _ => ∃ r c : Int, vs = [.int r, .int c] ∧ ∀ l H', Same H H' → H l = none → ListPl H' l (nbs (r, c)) → Q (.ref l) H'
theorem ok_near (F : Fn K mg "near" s_near) : Def P w K mg base 1 "near" ["r", "c"] sp_near := by
  refine Def.by F sc_near (fun _ _ _ _ _ _ => us2 fun _ _ => rfl) (fun vs H Q E h => ?_) (fun f cdv A outer s H vs Q E hr h => ?_)
  · obtain ⟨r, c, rfl, _⟩ := h
    rfl
  obtain ⟨r, c, rfl, q⟩ := h
  have t2 : 2 ≤ sizeLine := by decide
  refine ⟨_, qss_one (qs_ret (qe_lst (qa_cons (qe_tup (qa_cons (qe_op op_sub (qv 0) qe_int) (qa_cons (qv 1) qa_nil)))
    (qa_cons (qe_tup (qa_cons (qe_op op_sub (qv 0) qe_int) (qa_cons (qe_op op_add (qv 1) qe_int) qa_nil)))
    (qa_cons (qe_tup (qa_cons (qv 0) (qa_cons (qe_op op_add (qv 1) qe_int) qa_nil)))
    (qa_cons (qe_tup (qa_cons (qe_op op_add (qv 0) qe_int) (qa_cons (qv 1) qa_nil)))
    (qa_cons (qe_tup (qa_cons (qe_op op_add (qv 0) qe_int) (qa_cons (qe_op op_sub (qv 1) qe_int) qa_nil)))
    (qa_cons (qe_tup (qa_cons (qv 0) (qa_cons (qe_op op_sub (qv 1) qe_int) qa_nil))) qa_nil)))))))), ?_⟩
  refine ⟨_, rfl, _, _, rfl, rfl, _, rfl, t2, fun p1 h1 => ?_⟩
  refine ⟨_, rfl, _, _, rfl, rfl, _, rfl, _, _, rfl, rfl, t2, fun p2 h2 => ?_⟩
  refine ⟨_, rfl, _, rfl, _, _, rfl, rfl, t2, fun p3 h3 => ?_⟩
  refine ⟨_, rfl, _, _, rfl, rfl, _, rfl, t2, fun p4 h4 => ?_⟩
  refine ⟨_, rfl, _, _, rfl, rfl, _, rfl, _, _, rfl, rfl, t2, fun p5 h5 => ?_⟩
  refine ⟨_, rfl, _, rfl, _, _, rfl, rfl, t2, fun p6 h6 => ?_⟩
  refine ⟨(by show 6 ≤ sizeLine; decide), fun l hl => ?_⟩
  have g6 := same_upd (o := .lst [.ref p1, .ref p2, .ref p3, .ref p4, .ref p5, .ref p6]) hl
  have g5 := (same_upd h6).trans g6
  have g4 := (same_upd h5).trans g5
  have g3 := (same_upd h4).trans g4
  have g2 := (same_upd h3).trans g3
  have g1 := (same_upd h2).trans g2
  have g0 := (same_upd h1).trans g1
  refine q l _ g0 (((((((same_upd h1).trans (same_upd h2)).trans (same_upd h3)).trans (same_upd h4)).trans (same_upd h5)).trans (same_upd h6)).free hl) ⟨[p1, p2, p3, p4, p5, p6], upd_same, ?_⟩
  exact .cons (g1 _ _ upd_same) (.cons (g2 _ _ upd_same) (.cons (g3 _ _ upd_same) (.cons (g4 _ _ upd_same) (.cons (g5 _ _ upd_same) (.cons (g6 _ _ upd_same) .nil)))))
end
end Sw

set_option linter.all false
set_option maxRecDepth 100000
set_option maxHeartbeats 400000
namespace Sw
open PySem L2 Sh
section
variable {P : Program} {w : World} {K : PySem.W.Frag} {mg : Str → Option Value} {base : Heap}
theorem sc_has_cell : FnScope ["board", "r", "c"] ["board", "r", "c"] (defScope s_has_cell) := ⟨rfl, rfl, rfl, by decide +kernel, rfl, by decide +kernel, by decide +kernel⟩
def sp_has_cell (C : Addr) : Sp := fun vs H Q _ => ∃ (b : Addr) (rows : List Str) (h w : Nat) (r c : Int), vs = [.ref b, .int r, .int c] ∧ BoardAt C H b rows h w ∧ Q (.bl (decide (0 ≤ r ∧ r < h ∧ 0 ≤ c ∧ c < w))) H
theorem ok_has_cell {C : Addr} (T : BoardC K C) (F : Fn K mg "has_cell" s_has_cell) : Def P w K mg base 1 "has_cell" ["board", "r", "c"] (sp_has_cell C) := by
  refine Def.by F sc_has_cell (fun _ _ _ _ _ _ => us3 fun _ _ _ => rfl) (fun vs H Q E h => ?_) (fun f cdv A outer s H vs Q E hr h => ?_)
  · obtain ⟨b, rows, h, w, r, c, rfl, _⟩ := h
    rfl
  obtain ⟨b, rows, h, w, r, c, rfl, B, q⟩ := h
  obtain ⟨dx, a, hb, ha⟩ := B.ob
  refine ⟨_, qss_one (qs_ret (qe_and (qe_chain op_le op_lt qe_int (qv 1) (qe_fld (qv 0))) (qe_one (qe_chain op_le op_lt qe_int (qv 2) (qe_fld (qv 0)))))), ?_⟩
  refine ⟨_, rfl, _, _, rfl, rfl, _, rfl, ?_⟩
  refine ite2 (fun c1 => ?_) (fun c1 => ?_)
  · have c1 := of_decide_eq_true c1
    refine ⟨_, rfl, b, C, dx, _, _, rfl, hb, T.cl, T.nH, bfl_height _ _ _, _, _, rfl, rfl, _, rfl, ?_⟩
    refine ite2 (fun c2 => ?_) (fun c2 => ?_)
    · have c2 := of_decide_eq_true c2
      refine ⟨_, rfl, _, _, rfl, rfl, _, rfl, ?_⟩
      refine ite2 (fun c3 => ?_) (fun c3 => ?_)
      · have c3 := of_decide_eq_true c3
        refine ⟨_, rfl, b, C, dx, _, _, rfl, hb, T.cl, T.nW, bfl_width _ _ _, _, _, rfl, rfl, ?_⟩
        refine bl_eq q ?_
        rw [decide_eq_decide]
        constructor
        · intro z; exact z.2.2.2
        · intro z; exact ⟨c1, c2, c3, z⟩
      · have c3 := of_decide_eq_false (Bool.eq_false_iff.mpr c3)
        exact bl_eq q (decide_eq_false fun z => c3 z.2.2.1)
    · have c2 := of_decide_eq_false (Bool.eq_false_iff.mpr c2)
      exact bl_eq q (decide_eq_false fun z => c2 z.2.1)
  · have c1 := of_decide_eq_false (Bool.eq_false_iff.mpr c1)
    exact ⟨_, rfl, iteF (bl_eq q (decide_eq_false fun z => c1 z.1))⟩
end
end Sw

set_option linter.all false
set_option maxRecDepth 100000
set_option maxHeartbeats 400000
namespace Sw
open PySem L2 Sh
section
variable {P : Program} {w : World} {K : PySem.W.Frag} {mg : Str → Option Value} {base : Heap}
theorem sc_holds : FnScope ["board", "hand", "r", "c"] ["board", "hand", "r", "c"] (defScope s_holds) := ⟨rfl, rfl, rfl, by decide +kernel, rfl, by decide +kernel, by decide +kernel⟩
def sp_holds (C : Addr) : Sp := fun vs H Q _ => ∃ (b : Addr) (rows : List Str) (h w : Nat) (hd : Nat) (r c : Int), vs = [.ref b, .str ⟨#[hd]⟩, .int r, .int c] ∧ BoardAt C H b rows h w ∧ Q (.bl (decide (at2 (rws rows) (r, c) = some hd))) H
theorem ok_holds {C : Addr} (T : BoardC K C) (D1 : Def P w K mg base 1 "has_cell" ["board", "r", "c"] (sp_has_cell C)) (F : Fn K mg "holds" s_holds) : Def P w K mg base 2 "holds" ["board", "hand", "r", "c"] (sp_holds C) := by
  refine Def.by F sc_holds (fun _ _ _ _ _ _ => us4 fun _ _ _ _ => rfl) (fun vs H Q E h => ?_) (fun f cdv A outer s H vs Q E hr h => ?_)
  · obtain ⟨b, rows, h, w, hd, r, c, rfl, _⟩ := h
    rfl
  obtain ⟨b, rows, h, w, hd, r, c, rfl, B, q⟩ := h
  obtain ⟨dx, a, hb, ha⟩ := B.ob
  refine ⟨_, qss_one (qs_ret (qe_and (qe_callD D1 hr (qa_cons (qv 0) (qa_cons (qv 2) (qa_cons (qv 3) qa_nil))))
    (qe_one (qe_cmp op_eq (qe_ix ix_str (qe_ix ix_list (qe_fld (qv 0)) (qv 2)) (qv 3)) (qv 1))))), ?_⟩
  refine ⟨_, rfl, _, rfl, _, rfl, b, rows, h, w, r, c, rfl, B, _, rfl, ?_⟩
  refine ite2 (fun c1 => ?_) (fun c1 => ?_)
  · have c1 := of_decide_eq_true c1
    obtain ⟨row, ch, e1, e2, e3, e4⟩ := cell_in B.rect (r := r) (c := c) c1
    have w9 := B.rect.w9
    refine ⟨_, rfl, b, C, dx, _, _, rfl, hb, T.cl, T.nR, bfl_rows _ _ _, _, rfl, a, _, r, .str row, rfl, rfl, SqL.of ha, atI_of c1.1 (by rw [List.getElem?_map, e1]; rfl), _, rfl, row, c, ch, rfl, rfl, le_line (by first | exact le_w (by assumption) (by assumption) | exact le1k (by assumption) (by decide) | omega), atI_of c1.2.2.1 e2, _, rfl, rfl, ?_⟩
    refine bl_eq q ?_
    rw [decide_eq_decide, e3, str1_iff]
    constructor
    · intro z; exact Option.some.inj z
    · intro z; rw [z]
  · have c1 := of_decide_eq_false (Bool.eq_false_iff.mpr c1)
    refine bl_eq q (decide_eq_false fun z => c1 ?_)
    exact B.rect.inB z
end
end Sw

set_option linter.all false
set_option maxRecDepth 100000
set_option maxHeartbeats 400000
namespace Sw
open PySem L2 Sh
section
variable {P : Program} {w : World} {K : PySem.W.Frag} {mg : Str → Option Value} {base : Heap}
theorem sc_first_shore : FnScope ["board", "hand"] ["board", "hand"] (defScope s_first_shore) := ⟨rfl, rfl, rfl, by decide +kernel, rfl, by decide +kernel, by decide +kernel⟩
def sp_first_shore (C : Addr) : Sp := fun vs H Q _ => ∃ (b : Addr) (rows : List Str) (h w : Nat) (hd : Nat), vs = [.ref b, .str ⟨#[hd]⟩] ∧ (hd = 110 ∨ hd = 119) ∧ BoardAt C H b rows h w ∧ ∀ l H', Same H H' → ListPl H' l (shore h w hd) → Q (.ref l) H'
theorem ok_first_shore {C : Addr} (B : Bt mg) (T : BoardC K C) (hN : mg "NORTH" = some (.str "n" 0) ∨ ∃ t, mg "NORTH" = some (.str "n" t)) (F : Fn K mg "first_shore" s_first_shore) : Def P w K mg base 1 "first_shore" ["board", "hand"] (sp_first_shore C) := by
  obtain ⟨tN, hN⟩ : ∃ t, mg "NORTH" = some (.str "n" t) := hN.elim (fun z => ⟨0, z⟩) id
  refine Def.by F sc_first_shore (fun _ _ _ _ _ _ => us2 fun _ _ => rfl) (fun vs H Q E h => ?_) (fun f cdv A outer s H vs Q E hr h => ?_)
  · obtain ⟨b, rows, h, w, hd, rfl, _⟩ := h
    rfl
  obtain ⟨b, rows, h, w, hd, rfl, hh, Bd, q⟩ := h
  obtain ⟨dx, a, hb, ha⟩ := Bd.ob
  have h9 := Bd.rect.h9
  have w9 := Bd.rect.w9
  refine ⟨_, qss_cons (qs_if (qt_cmp op_eq (qv 1) (qe_glob (v := .str "n") hN ⟨_, rfl⟩))
      (qss_one (qs_ret (qe_lcomp ["c"] [] [] (qi_range1 B.range (qa_cons (qe_fld (qv 0)) qa_nil)) (fun _ _ _ _ => qg_name 0 (by show List.Nodup ([("c" : Str)] ++ []); decide +kernel)) (fun _ _ _ _ => qts_nil) (fun _ _ _ _ => qe_tup (qa_cons qe_int (qa_cons (qv 0) qa_nil)))))) qss_nil)
    (qss_one (qs_ret (qe_lcomp ["r"] [] [] (qi_range1 B.range (qa_cons (qe_fld (qv 0)) qa_nil)) (fun _ _ _ _ => qg_name 0 (by show List.Nodup ([("r" : Str)] ++ []); decide +kernel)) (fun _ _ _ _ => qts_nil) (fun _ _ _ _ => qe_tup (qa_cons (qv 0) (qa_cons qe_int qa_nil)))))), ?_⟩
  refine ⟨_, rfl, rfl, _, rfl, ?_⟩
  have t2 : 2 ≤ sizeLine := by decide
  refine ite2 (fun c1 => ?_) (fun c1 => ?_)
  · have e1 : hd = 110 := by
      have z := of_decide_eq_true c1
      rw [n_eq, str1_iff] at z
      exact z
    refine ⟨_, rfl, b, C, dx, _, _, rfl, hb, T.cl, T.nW, bfl_width _ _ _, (w : Int), rfl, (by first | exact rngL _ | omega), (by first | exact rngH (by assumption) | omega), fun p hp => ?_⟩
    refine comp_goes (n := w) (by rw [Int.toNat_natCast]; exact goes_range) (fun i ys σ H' => (∃ v, σ = [v]) ∧ Same H H' ∧ H' p = some (.lst ys) ∧ ∃ as : List Addr, ys = as.map V.ref ∧ Paired (TupAt H') as ((List.range i).map fun (c : Nat) => ((0 : Int), (c : Int))))
      ⟨⟨_, rfl⟩, same_upd hp, upd_same, [], rfl, .nil⟩ (fun i ys σ H' _ z => ⟨trivial, z.2.2.1⟩) ?_ ?_
    · rintro i x ys σ H' hi hy ⟨⟨v, rfl⟩, sm, hp', as, rfl, pr⟩
      subst hy
      refine ⟨_, rfl, t2, fun t ht => ?_⟩
      have ne : p ≠ t := ne_of_none hp' ht
      have len : as.length = i := by rw [Paired.length pr, List.length_map, List.length_range]
      refine ⟨by rw [upd_ne ne]; exact hp', by rw [List.length_map]; exact small1000 (by first | exact lt1k (by assumption) (by decide) | omega), cnx hi ⟨⟨_, rfl⟩, ?_, upd_same, as ++ [t], by rw [List.map_append]; rfl, ?_⟩⟩
      · intro b' o e
        rw [upd_ne (ne_of_none e hp)]
        exact (sm.upd ht) b' o e
      · rw [List.range_succ, List.map_append]
        refine Paired.snoc (Paired.mapP pr fun a' p' z => ?_) ?_
        · have z' : H' a' = some _ := z
          show upd (upd H' t _) p _ a' = _
          rw [upd_ne (ne_of z' hp' (fun q => nomatch q)), upd_ne (ne_of_none z' ht)]
          exact z'
        · show upd (upd H' t _) p _ t = _
          rw [upd_ne ne.symm, upd_same]
          simp
    · rintro ys σ H' ⟨_, sm, hp', as, rfl, pr⟩
      refine q p H' sm ⟨as, hp', ?_⟩
      unfold shore
      rw [if_neg (by omega)]
      exact pr
  · have e1 : hd = 119 := by
      have z : ¬ (V.str ⟨#[hd]⟩ = V.str "n") := of_decide_eq_false (Bool.eq_false_iff.mpr c1)
      rw [n_eq, str1_iff] at z
      omega
    refine ⟨_, rfl, b, C, dx, _, _, rfl, hb, T.cl, T.nH, bfl_height _ _ _, (h : Int), rfl, (by first | exact rngL _ | omega), (by first | exact rngH (by assumption) | omega), fun p hp => ?_⟩
    refine comp_goes (n := h) (by rw [Int.toNat_natCast]; exact goes_range) (fun i ys σ H' => (∃ v, σ = [v]) ∧ Same H H' ∧ H' p = some (.lst ys) ∧ ∃ as : List Addr, ys = as.map V.ref ∧ Paired (TupAt H') as ((List.range i).map fun (r : Nat) => ((r : Int), (0 : Int))))
      ⟨⟨_, rfl⟩, same_upd hp, upd_same, [], rfl, .nil⟩ (fun i ys σ H' _ z => ⟨trivial, z.2.2.1⟩) ?_ ?_
    · rintro i x ys σ H' hi hy ⟨⟨v, rfl⟩, sm, hp', as, rfl, pr⟩
      subst hy
      refine ⟨_, rfl, t2, fun t ht => ?_⟩
      have ne : p ≠ t := ne_of_none hp' ht
      have len : as.length = i := by rw [Paired.length pr, List.length_map, List.length_range]
      refine ⟨by rw [upd_ne ne]; exact hp', by rw [List.length_map]; exact small1000 (by first | exact lt1k (by assumption) (by decide) | omega), cnx hi ⟨⟨_, rfl⟩, ?_, upd_same, as ++ [t], by rw [List.map_append]; rfl, ?_⟩⟩
      · intro b' o e
        rw [upd_ne (ne_of_none e hp)]
        exact (sm.upd ht) b' o e
      · rw [List.range_succ, List.map_append]
        refine Paired.snoc (Paired.mapP pr fun a' p' z => ?_) ?_
        · have z' : H' a' = some _ := z
          show upd (upd H' t _) p _ a' = _
          rw [upd_ne (ne_of z' hp' (fun q => nomatch q)), upd_ne (ne_of_none z' ht)]
          exact z'
        · show upd (upd H' t _) p _ t = _
          rw [upd_ne ne.symm, upd_same]
          simp
    · rintro ys σ H' ⟨_, sm, hp', as, rfl, pr⟩
      refine q p H' sm ⟨as, hp', ?_⟩
      unfold shore
      rw [if_pos e1]
      exact pr
end
end Sw

set_option linter.all false
set_option maxRecDepth 100000
set_option maxHeartbeats 400000
namespace Sw
open PySem L2 Sh
section
variable {P : Program} {w : World} {K : PySem.W.Frag} {mg : Str → Option Value} {base : Heap}
theorem sc_on_other_shore : FnScope ["board", "hand", "cell"] ["board", "hand", "cell"] (defScope s_on_other_shore) := ⟨rfl, rfl, rfl, by decide +kernel, rfl, by decide +kernel, by decide +kernel⟩
def sp_on_other_shore (C : Addr) : Sp := fun vs H Q _ => ∃ (b t : Addr) (rows : List Str) (h w : Nat) (hd : Nat) (p : Pl), vs = [.ref b, .str ⟨#[hd]⟩, .ref t] ∧ (hd = 110 ∨ hd = 119) ∧ BoardAt C H b rows h w ∧ TupAt H t p ∧ Q (.bl (decide (goal h w hd p))) H
theorem ok_on_other_shore {C : Addr} {tN : Tok} (T : BoardC K C) (hN : mg "NORTH" = some (.str "n" tN)) (F : Fn K mg "on_other_shore" s_on_other_shore) : Def P w K mg base 1 "on_other_shore" ["board", "hand", "cell"] (sp_on_other_shore C) := by
  refine Def.by F sc_on_other_shore (fun _ _ _ _ _ _ => us3 fun _ _ _ => rfl) (fun vs H Q E h => ?_) (fun f cdv A outer s H vs Q E hr h => ?_)
  · obtain ⟨b, t, rows, h, w, hd, p, rfl, _⟩ := h
    rfl
  obtain ⟨b, t, rows, h, w, hd, p, rfl, hh, Bd, ht, q⟩ := h
  obtain ⟨dx, a, hb, ha⟩ := Bd.ob
  have ht : H t = some (.tup [.int p.1, .int p.2]) := ht
  refine ⟨_, qss_cons (qs_if (qt_cmp op_eq (qv 1) (qe_glob (v := .str "n") hN ⟨_, rfl⟩)) (qss_one (qs_ret (qe_cmp op_eq (qe_ix ix_tup (qv 2) qe_int) (qe_op op_sub (qe_fld (qv 0)) qe_int)))) qss_nil)
    (qss_one (qs_ret (qe_cmp op_eq (qe_ix ix_tup (qv 2) qe_int) (qe_op op_sub (qe_fld (qv 0)) qe_int)))), ?_⟩
  refine ⟨_, rfl, rfl, _, rfl, ?_⟩
  refine ite2 (fun c1 => ?_) (fun c1 => ?_)
  · have e1 : hd = 110 := by
      have z := of_decide_eq_true c1
      rw [n_eq, str1_iff] at z
      exact z
    refine ⟨_, rfl, t, _, 0, .int p.1, rfl, rfl, SqT.of ht, rfl, _, rfl, b, C, dx, _, _, rfl, hb, T.cl, T.nH, bfl_height _ _ _, _, _, rfl, rfl, rfl, ?_⟩
    refine bl_eq q ?_
    rw [decide_eq_decide, e1]
    show p.1 = (h : Int) - 1 ↔ V.int p.1 = V.int ((h : Int) - 1)
    exact ⟨fun z => by rw [z], fun z => by injection z⟩
  · have e1 : hd = 119 := by
      have z : ¬ (V.str ⟨#[hd]⟩ = V.str "n") := of_decide_eq_false (Bool.eq_false_iff.mpr c1)
      rw [n_eq, str1_iff] at z
      omega
    refine ⟨_, rfl, t, _, 1, .int p.2, rfl, rfl, SqT.of ht, rfl, _, rfl, b, C, dx, _, _, rfl, hb, T.cl, T.nW, bfl_width _ _ _, _, _, rfl, rfl, rfl, ?_⟩
    refine bl_eq q ?_
    rw [decide_eq_decide, e1]
    show p.2 = (w : Int) - 1 ↔ V.int p.2 = V.int ((w : Int) - 1)
    exact ⟨fun z => by rw [z], fun z => by injection z⟩
end
end Sw

set_option linter.all false
set_option maxRecDepth 100000
set_option maxHeartbeats 400000
namespace Sw
open PySem L2 Sh
section
variable {P : Program} {w : World} {K : PySem.W.Frag} {mg : Str → Option Value} {base : Heap}
theorem sc_reached : FnScope ["board", "hand", "cell", "waiting", "ahead", "k", "place"] ["board", "hand"] (defScope s_reached) := ⟨rfl, rfl, rfl, by decide +kernel, rfl, by decide +kernel, by decide +kernel⟩
def sp_reached (C : Addr) : Sp := fun vs H Q _ => ∃ (b : Addr) (rows : List Str) (h w : Nat) (hd : Nat), vs = [.ref b, .str ⟨#[hd]⟩] ∧ (hd = 110 ∨ hd = 119) ∧ BoardAt C H b rows h w ∧
  ∀ d kvs tr H', Same H H' → H d = none → H' d = some (.dT kvs) → DTr H' kvs tr → Rchd rows h w hd tr → Q (.ref d) H'
theorem ok_reached {C : Addr} (B : Bt mg) (D1 : Def P w K mg base 1 "first_shore" ["board", "hand"] (sp_first_shore C)) (D2 : Def P w K mg base 2 "holds" ["board", "hand", "r", "c"] (sp_holds C)) (D3 : Def P w K mg base 1 "near" ["r", "c"] sp_near) (F : Fn K mg "reached" s_reached) : Def P w K mg base 3 "reached" ["board", "hand"] (sp_reached C) := by
  refine Def.by F sc_reached (fun _ _ _ _ _ _ => us2 fun _ _ => rfl) (fun vs H Q E h => ?_) (fun f cdv A outer s H vs Q E hr h => ?_)
  · obtain ⟨b, rows, h, w, hd, rfl, _⟩ := h
    rfl
  obtain ⟨b, rows, h, w, hd, rfl, hh, Bd, q⟩ := h
  have R := Bd.rect
  have D1 := D1.up (k := 2) (by decide)
  have D3 := D3.up (k := 2) (by decide)
  have hu := hu_of hr
  have h9 := R.h9
  have w9 := R.w9
  refine ⟨_, qss_cons (qs_setcomp 3 ["cell"] ["board", "hand"] [0, 1] sc_reached.nd (qi_list (qe_callD D1 hr (qa_cons (qv 0) (qa_cons (qv 1) qa_nil)))) (fun _ _ _ _ => qg_name 0 (by show List.Nodup ([("cell" : Str)] ++ [("board" : Str), "hand"]); decide +kernel))
      (fun _ _ _ _ => qts_one (qt_val (qe_callD D2 hr (qa_cons (qv 1) (qa_cons (qv 2) (qa_cons (qe_p0 0 (qv 0) qe_int) (qa_cons (qe_p1 0 (qv 0) qe_int) qa_nil))))))) (fun _ _ _ _ => qv 0))
    (qss_cons (qs_set 4 sc_reached.nd qe_dnewT)
    (qss_cons (qs_for (qi_list (qv 3)) (qg_name 2 sc_reached.nd) (qss_one (qs_dput hu (qv 4) (qv 2) qe_non)))
    (qss_cons (qs_set 5 sc_reached.nd qe_int)
    (qss_cons (qs_while (qt_cmp op_lt (qv 5) (qe_callB call_len0 B.len PySem.boot_len (qa_cons (qv 3) qa_nil)))
      (qss_cons (qs_set 2 sc_reached.nd (qe_ix ix_list0 (qv 3) (qv 5)))
      (qss_cons (qs_aug 5 sc_reached.nd ip_add qe_int)
      (qss_one (qs_for (qi_list (qe_callD D3 hr (qa_cons (qe_p0 2 (qv 2) qe_int) (qa_cons (qe_p1 2 (qv 2) qe_int) qa_nil)))) (qg_name 6 sc_reached.nd)
        (qss_one (qs_if (qt_w (qw_and (qt_dnotin hu (qv 6) (qv 4)) (qw_and1 (qt_val (qe_callD D2 hr (qa_cons (qv 0) (qa_cons (qv 1) (qa_cons (qe_p0 6 (qv 6) qe_int) (qa_cons (qe_p1 6 (qv 6) qe_int) qa_nil)))))))))
          (qss_cons (qs_dput hu (qv 4) (qv 6) (qv 2)) (qss_one (qs_expr (qe_app (qv 3) (qv 6))))) qss_nil)))))))
    (qss_one (qs_ret (qv 4))))))), ?_⟩
  refine ⟨_, rfl, _, rfl, b, rows, h, w, hd, rfl, hh, Bd, fun l0 H1 s1 L0 => ?_⟩
  obtain ⟨as, a1, a2⟩ := id L0
  refine ⟨l0, rfl, ⟨_, SqL.of a1⟩, fun l hl => ?_⟩
  have nl : H l = none := s1.free hl
  refine comp_goes goes_list (fun i ys σ H' => (∃ v, σ = [v, some (.ref b), some (.str ⟨#[hd]⟩)]) ∧ Same H1 H' ∧ H' l = some (.lst ys) ∧ ∃ bs : List Addr, ys = bs.map V.ref ∧ Paired (TupAt H') bs (((shore h w hd).take i).filter fun p => decide (at2 (rws rows) p = some hd)))
    ⟨⟨_, rfl⟩, same_upd hl, upd_same, [], rfl, .nil⟩ (fun i ys σ H' _ z => ⟨SqL.of (z.2.1 _ _ a1), z.2.2.1⟩) ?_ ?_
  · rintro i x ys σ H2 hi hy ⟨⟨v, rfl⟩, sm, hl2, bs, rfl, pr⟩
    rw [List.getElem?_map] at hy
    cases e : as[i]? with
    | none => rw [e] at hy; cases hy
    | some a =>
      rw [e] at hy
      obtain rfl := Option.some.inj hy
      obtain ⟨p, e2, hp⟩ := paired_get' a2 e
      have hp : H2 a = some (.tup [.int p.1, .int p.2]) := sm _ _ hp
      have tk : (shore h w hd).take (i + 1) = (shore h w hd).take i ++ [p] := by rw [List.take_succ, e2]; rfl
      refine ⟨_, rfl, _, rfl, a, p.1, p.2, rfl, hp, a, p.1, p.2, rfl, hp, b, rows, h, w, hd, p.1, p.2, rfl, Bd.same (s1.trans sm), _, rfl, ?_⟩
      refine ite2 (fun c1 => ?_) (fun c1 => ?_)
      · have lb : bs.length ≤ 9 := by
          rw [Paired.length pr]
          exact Nat.le_trans (List.length_filter_le _ _) (Nat.le_trans (by rw [List.length_take]; omega) (shore_len (hd := hd) h9 w9))
        refine ⟨_, rfl, hl2, by rw [List.length_map]; exact small1000 (by first | exact lt1k (by assumption) (by decide) | omega), cnx hi ⟨⟨_, rfl⟩, fun b' o z => ?_, upd_same, bs ++ [a], by rw [List.map_append]; rfl, ?_⟩⟩
        · rw [upd_ne (ne_of_none z hl)]
          exact sm _ _ z
        · rw [tk, List.filter_append, List.filter_cons, if_pos c1]
          refine Paired.snoc (Paired.mapP pr fun a' p' z => ?_) ?_
          · have z' : H2 a' = some _ := z
            show upd H2 l _ a' = _
            rw [upd_ne (ne_of z' hl2 (fun q => nomatch q))]
            exact z'
          · show upd H2 l _ a = _
            rw [upd_ne (ne_of hp hl2 (fun q => nomatch q))]
            exact hp
      · refine cnx hi ⟨⟨_, rfl⟩, sm, hl2, bs, rfl, ?_⟩
        rw [tk, List.filter_append, List.filter_cons, if_neg c1, List.filter_nil, List.append_nil]
        exact pr
  · rintro ys σ H2 ⟨_, sm, hl2, bs, rfl, pr⟩
    have asl : as.length = (shore h w hd).length := Paired.length a2
    rw [List.length_map, asl, List.take_length] at pr
    intro d hd0
    have s2 : Same H H2 := s1.trans sm
    have R0 : RI H (upd H2 d (.dT [])) l d (shoreS rows h w hd) [] [] :=
      ⟨nl, s2.free hd0, s2.upd hd0, ⟨bs, (by rw [upd_ne (ne_of_none hl2 hd0)]; exact hl2), Paired.mapP pr fun a p z => (by show upd H2 d _ a = _; rw [upd_ne (ne_of_none (show H2 a = some _ from z) hd0)]; exact z)⟩, upd_same, .nil⟩
    have hs : ∀ p ∈ shoreS rows h w hd, Stn (rws rows) hd p ∧ src hd p := fun p hp => by
      obtain ⟨g1, g2⟩ := List.mem_filter.mp hp
      have g2 : at2 (rws rows) p = some hd := of_decide_eq_true g2
      exact ⟨g2, shore_src g1⟩
    have ns : (shoreS rows h w hd).Nodup := (shore_nd h w hd).filter _
    have ls : (shoreS rows h w hd).length ≤ 9 := Nat.le_trans (List.length_filter_le _ _) (shore_len h9 w9)
    refine ⟨_, rfl, l, rfl, ⟨_, SqL.of (show upd H2 d (.dT []) l = some (.lst (bs.map V.ref)) by rw [upd_ne (ne_of_none hl2 hd0)]; exact hl2)⟩, ?_⟩
    have bl : bs.length = (shoreS rows h w hd).length := Paired.length pr
    refine for_goesO goes_list (fun i σ H' => ∃ v kvs, σ = [some (.ref b), some (.str ⟨#[hd]⟩), v, some (.ref l), some (.ref d), none, none] ∧ RI H H' l d (shoreS rows h w hd) kvs (((shoreS rows h w hd).take i).map fun p => (p, none)) ∧ H' l = some (.lst (bs.map V.ref)))
      ⟨_, _, rfl, R0, by rw [upd_ne (ne_of_none hl2 hd0)]; exact hl2⟩ (fun i σ H' _ z => by obtain ⟨_, _, _, _, z⟩ := z; exact SqL.of z) ?_ ?_
    · rintro Pw Rt Bk hw hrt i x σ H3 hi hy ⟨v, kvs, rfl, R3, l3⟩
      obtain ⟨as3, b1, b2⟩ := id R3.wl
      have es : as3 = bs := by
        rw [l3] at b1
        have b1 : bs.map V.ref = as3.map V.ref := by injection b1 with b1; injection b1
        have inj : ∀ {u v : List Addr}, u.map V.ref = v.map V.ref → u = v := by
          intro u
          induction u with
          | nil => intro v e; cases v with | nil => rfl | cons _ _ => cases e
          | cons a r ih =>
            intro v e
            cases v with
            | nil => cases e
            | cons a' r' =>
              injection e with e1 e2
              injection e1 with e1
              rw [e1, ih e2]
        exact (inj b1).symm
      subst es
      rw [List.getElem?_map] at hy
      cases e : as3[i]? with
      | none => rw [e] at hy; cases hy
      | some a =>
        rw [e] at hy
        obtain rfl := Option.some.inj hy
        obtain ⟨p, e2, hp⟩ := paired_get' b2 e
        have tk : (shoreS rows h w hd).take (i + 1) = (shoreS rows h w hd).take i ++ [p] := by rw [List.take_succ, e2]; rfl
        have np : p ∉ (((shoreS rows h w hd).take i).map fun p => (p, (none : Option Pl))).map (·.1) := by
          rw [List.map_map]
          intro m
          obtain ⟨p', m1, m2⟩ := List.mem_map.mp m
          have m2 : p' = p := m2
          subst m2
          have nd := ns
          rw [← List.take_append_drop (i + 1) (shoreS rows h w hd), tk] at nd
          have := (List.nodup_append.mp (List.nodup_append.mp nd).1).2.2 p' m1 p' (by simp)
          exact this rfl
        have lk : kvs.length ≤ 9 := by
          rw [R3.dt.len, List.length_map, List.length_take]
          omega
        refine ⟨_, rfl, _, rfl, d, _, rfl, DPut.t R3.dd (tup_pk hp) (small1000 (by first | exact lt1k (by assumption) (by decide) | omega)), hw _ _ _ ⟨_, kvs ++ [(pk p, .non)], rfl, ?_, ?_⟩⟩
        · rw [tk, List.map_append]
          exact R3.put np (by rfl)
        · rw [upd_ne (ne_of l3 R3.dd (fun y => nomatch y))]
          exact l3
    · rintro σ H3 ⟨v, kvs, rfl, R3, l3⟩
      rw [List.length_map, bl, List.take_length] at R3
      have T3 : Tr (Stn (rws rows) hd) (src hd) ((shoreS rows h w hd).map fun p => (p, none)) := by
        refine ⟨by rw [List.map_map]; simpa [Function.comp_def] using ns, fun i p o e => ?_⟩
        rw [List.getElem?_map] at e
        cases e1 : (shoreS rows h w hd)[i]? with
        | none => rw [e1] at e; cases e
        | some p' =>
          rw [e1] at e
          have e : (p', none) = (p, o) := Option.some.inj e
          injection e with e2 e3
          subst e2 e3
          obtain ⟨g1, g2⟩ := hs p' (List.mem_of_getElem? e1)
          exact ⟨g1, fun _ => g2, fun q z => nomatch z⟩
      -- while k < len(waiting)
      refine while_wO (fun σ H' => ∃ v5 v6 kvs tr k, σ = [some (.ref b), some (.str ⟨#[hd]⟩), v5, some (.ref l), some (.ref d), some (.int (k : Nat)), v6] ∧ RI H H' l d (tr.map (·.1)) kvs tr ∧ Tr (Stn (rws rows) hd) (src hd) tr ∧ k ≤ tr.length ∧
          (∀ p ∈ shoreS rows h w hd, p ∈ tr.map (·.1)) ∧ ∀ p ∈ (tr.map (·.1)).take k, ∀ q, Nb p q → Stn (rws rows) hd q → q ∈ tr.map (·.1))
        (muI 81 5)
        ⟨_, _, kvs, _, 0, rfl, (by rw [List.map_map]; simpa [Function.comp_def] using R3), T3, Nat.zero_le _, (by rw [List.map_map]; simp [Function.comp_def]), by simp⟩ ?_
      rintro De Rt hde hrt σ H4 ⟨v5, v6, kvs, tr, k, rfl, R4, T4, hk, sh4, cl4⟩ Nx hnx
      obtain ⟨ws, w1, w2⟩ := id R4.wl
      have wl : ws.length = tr.length := by rw [Paired.length w2, List.length_map]
      have l81 := Rchd.len R T4
      refine ⟨_, rfl, _, rfl, l, _, rfl, w1, _, _, rfl, rfl, _, rfl, ?_⟩
      refine ite2 (fun c1 => ?_) (fun c1 => ?_)
      · have c1 := of_decide_eq_true c1
        rw [List.length_map, wl] at c1
        have kl : k < tr.length := by omega
        refine ⟨Nx, fun _ _ z => z, ?_⟩
        obtain ⟨⟨c, oc⟩, hc⟩ : ∃ e, tr[k]? = some e := ⟨tr[k], List.getElem?_eq_getElem kl⟩
        have hcm : (tr.map (·.1))[k]? = some c := by rw [List.getElem?_map, hc]; rfl
        obtain ⟨t, e1, ht⟩ := paired_get w2 hcm
        have ht : H4 t = some (.tup [.int c.1, .int c.2]) := ht
        refine ⟨_, rfl, _, rfl, l, _, k, .ref t, rfl, rfl, w1, atI_of (by first | exact Int.natCast_nonneg _ | assumption | omega) (by rw [Int.toNat_natCast, List.getElem?_map, e1]; rfl), ?_⟩
        refine ⟨_, rfl, _, _, rfl, rfl, ?_⟩
        refine ⟨t, c.1, c.2, rfl, ht, t, c.1, c.2, rfl, ht, c.1, c.2, rfl, fun l5 H5 s5 n5 L5 => ?_⟩
        obtain ⟨ns5, m1, m2⟩ := id L5
        refine ⟨l5, rfl, ⟨_, SqL.of m1⟩, ?_⟩
        have l5l : l5 ≠ l := fun z => by
          have z1 : H4 l = none := z ▸ n5
          rw [w1] at z1
          cases z1
        have l5d : l5 ≠ d := fun z => by
          have z1 : H4 d = none := z ▸ n5
          rw [R4.dd] at z1
          cases z1
        refine for_goesO goes_list (fun i σ H' => ∃ v6 kvs' more, σ = [some (.ref b), some (.str ⟨#[hd]⟩), some (.ref t), some (.ref l), some (.ref d), some (.int ((k : Int) + 1)), v6] ∧ RI H H' l d ((tr ++ more).map (·.1)) kvs' (tr ++ more) ∧ Tr (Stn (rws rows) hd) (src hd) (tr ++ more) ∧
            H' l5 = some (.lst (ns5.map V.ref)) ∧ Paired (TupAt H') ns5 (nbs c) ∧ H' t = some (.tup [.int c.1, .int c.2]) ∧ ∀ p ∈ (nbs c).take i, Stn (rws rows) hd p → p ∈ (tr ++ more).map (·.1))
          ⟨_, kvs, [], rfl, by rw [List.append_nil]; exact R4.same s5, by rw [List.append_nil]; exact T4, m1, m2, s5 _ _ ht, by simp⟩ (fun i σ H' _ z => by obtain ⟨_, _, _, _, _, _, z, _⟩ := z; exact SqL.of z) ?_ ?_
        · rintro Pw Rt' Bk hw hrt' i x σ H6 hi hy ⟨v6', kvs', more, rfl, R6, T6, k5, kp, kt, done⟩
          rw [List.getElem?_map] at hy
          cases e : ns5[i]? with
          | none => rw [e] at hy; cases hy
          | some a =>
            rw [e] at hy
            obtain rfl := Option.some.inj hy
            obtain ⟨p, e2, hp⟩ := paired_get' kp e
            have hp' : H6 a = some (.tup [.int p.1, .int p.2]) := hp
            have pc : Nb c p := mem_nbs.mp (List.mem_of_getElem? e2)
            have tk : (nbs c).take (i + 1) = (nbs c).take i ++ [p] := by rw [List.take_succ, e2]; rfl
            refine ⟨_, rfl, _, rfl, d, _, rfl, DGet.t R6.dd (tup_pk hp), _, rfl, ?_⟩
            rw [dtr_is R6.dt T6.nd]
            by_cases hm : p ∈ (tr ++ more).map (·.1)
            · rw [decide_eq_true hm]
              refine iteF ?_
              refine iteF ?_
              refine hw _ _ _ ⟨_, kvs', more, rfl, R6, T6, k5, kp, kt, fun p' hp' st => ?_⟩
              rw [tk] at hp'
              rcases List.mem_append.mp hp' with z | z
              · exact done p' z st
              · rw [List.mem_singleton.mp z]; exact hm
            · rw [decide_eq_false hm]
              refine iteT ?_
              refine ⟨_, rfl, _, rfl, a, p.1, p.2, rfl, hp', a, p.1, p.2, rfl, hp', b, rows, h, w, hd, p.1, p.2, rfl, Bd.same R6.sm, _, rfl, ?_⟩
              refine ite2 (fun c2 => ?_) (fun c2 => ?_)
              · have c2 : at2 (rws rows) p = some hd := of_decide_eq_true c2
                have l6 := Rchd.len R T6
                refine ⟨_, rfl, _, rfl, _, rfl, d, _, rfl, DPut.t R6.dd (tup_pk hp) (small1000 (by rw [R6.dt.len]; omega)), ?_⟩
                have T7 : Tr (Stn (rws rows) hd) (src hd) (tr ++ (more ++ [(p, some c)])) := by
                  rw [← List.append_assoc]
                  refine T6.snoc hm c2 (fun z => nomatch z) fun q hq => ?_
                  obtain rfl := Option.some.inj hq
                  refine ⟨pc, ?_⟩
                  rw [List.map_append]
                  exact List.mem_append_left _ (List.mem_of_getElem? hcm)
                have R7 := R6.put (v := .ref t) (o := some c) hm ⟨t, rfl, kt⟩
                have kd : ∀ a' o', H6 a' = some o' → (∀ kv, o' ≠ .dT kv) → upd H6 d (.dT (putK kvs' (pk p) (.ref t))) a' = some o' := fun a' o' z nz => by
                  rw [upd_ne (ne_of z R6.dd (fun y => nz _ y))]
                  exact z
                obtain ⟨ws7, y1, y2⟩ := id R7.wl
                have wl7 : ws7.length = (tr ++ more).length := by rw [Paired.length y2, List.length_map]
                have a7 : TupAt (upd H6 d (.dT (putK kvs' (pk p) (.ref t)))) a p := kd _ _ hp' fun kv z => nomatch z
                refine ⟨_, rfl, l, _, rfl, y1, _, rfl, _, _, rfl, y1, by rw [List.length_map, wl7]; exact small1000 (by first | exact lt1k (by assumption) (by decide) | omega), ?_⟩
                have R8 := R7.app a7 y1
                have kl8 : ∀ a' o', upd H6 d (.dT (putK kvs' (pk p) (.ref t))) a' = some o' → a' ≠ l → upd (upd H6 d (.dT (putK kvs' (pk p) (.ref t)))) l (.lst (ws7.map V.ref ++ [.ref a])) a' = some o' := fun a' o' z nz => by
                  rw [upd_ne nz]
                  exact z
                refine hw _ _ _ ⟨_, kvs' ++ [(pk p, .ref t)], more ++ [(p, some c)], rfl, ?_, T7, kl8 _ _ (kd _ _ k5 fun kv z => nomatch z) l5l, Paired.mapP kp fun a' p' z => ?_, kl8 _ _ (kd _ _ kt fun kv z => nomatch z) (ne_of (kd _ _ kt fun kv z => nomatch z) y1 (fun z => nomatch z)), fun p' hp' st => ?_⟩
                · rw [← List.append_assoc]
                  have e9 : ((tr ++ more) ++ [(p, some c)]).map (·.1) = (tr ++ more).map (·.1) ++ [p] := by rw [List.map_append]; rfl
                  rw [e9]
                  exact R8
                · have z' : H6 a' = some _ := z
                  exact kl8 _ _ (kd _ _ z' fun kv y => nomatch y) (ne_of (kd _ _ z' fun kv y => nomatch y) y1 (fun y => nomatch y))
                · rw [← List.append_assoc, List.map_append]
                  rw [tk] at hp'
                  rcases List.mem_append.mp hp' with z | z
                  · exact List.mem_append_left _ (done p' z st)
                  · rw [List.mem_singleton.mp z]
                    exact List.mem_append_right _ (by simp)
              · have c2 : ¬ at2 (rws rows) p = some hd := of_decide_eq_false (Bool.eq_false_iff.mpr c2)
                refine hw _ _ _ ⟨_, kvs', more, rfl, R6, T6, k5, kp, kt, fun p' hp' st => ?_⟩
                rw [tk] at hp'
                rcases List.mem_append.mp hp' with z | z
                · exact done p' z st
                · rw [List.mem_singleton.mp z] at st; exact absurd st c2
        · rintro σ H6 ⟨v6', kvs', more, rfl, R6, T6, k5, kp, kt, done⟩
          have l5n : ns5.length = 6 := Paired.length m2
          rw [List.length_map, l5n] at done
          refine hnx _ _ ⟨_, _, kvs', tr ++ more, k + 1, rfl, R6, T6, by rw [List.length_append]; omega, fun p hp => by rw [List.map_append]; exact List.mem_append_left _ (sh4 p hp), fun p hp q nq sq => ?_⟩ ?_
          · have tk1 : ((tr ++ more).map (·.1)).take (k + 1) = (tr.map (·.1)).take k ++ [c] := by
              rw [List.map_append, List.take_append_of_le_length (by rw [List.length_map]; omega), List.take_succ, hcm]
              rfl
            rw [tk1] at hp
            rcases List.mem_append.mp hp with z | z
            · rw [List.map_append]
              exact List.mem_append_left _ (cl4 p z q nq sq)
            · rw [List.mem_singleton.mp z] at nq
              exact done q (by have : q ∈ nbs c := mem_nbs.mpr nq; rwa [List.take_of_length_le (by rw [nbs_len]; exact Nat.le_refl 6)]) sq
          · show 81 - ((k : Int) + 1).toNat < 81 - ((k : Int)).toNat
            omega
      · have c1 := of_decide_eq_false (Bool.eq_false_iff.mpr c1)
        rw [List.length_map, wl] at c1
        have kl : k = tr.length := by omega
        rw [kl, List.take_of_length_le (by rw [List.length_map]; exact Nat.le_refl _)] at cl4
        refine hde _ _ ⟨_, rfl, q d kvs tr H4 R4.sm R4.nd R4.dd R4.dt ⟨T4, fun p hp => ?_⟩⟩
        refine (flood_done (S := Stn (rws rows) hd) (src := src hd) (seen := tr.map (·.1)) (fun p hp => ?_) (fun p s1 s2 => sh4 p (List.mem_filter.mpr ⟨mem_shore s2 (R.inB s1), decide_eq_true s1⟩)) (fun p hp q nq sq => cl4 p hp q nq sq) p).mp hp
        obtain ⟨i, o, e⟩ := T4.at hp
        exact T4.rch i p o e
end
end Sw

set_option linter.all false
set_option maxRecDepth 100000
set_option maxHeartbeats 400000
namespace Sw
open PySem L2 Sh
section
variable {P : Program} {w : World} {K : PySem.W.Frag} {mg : Str → Option Value} {base : Heap}
theorem sc_way_to : FnScope ["cell", "ahead", "way"] ["cell", "ahead"] (defScope s_way_to) := ⟨rfl, rfl, rfl, by decide +kernel, rfl, by decide +kernel, by decide +kernel⟩
def sp_way_to : Sp := fun vs H Q _ => ∃ (t d : Addr) (p : Pl) (kvs : List (List Key × V)) (tr : List (Pl × Option Pl)) (S src : Pl → Prop), vs = [.ref t, .ref d] ∧ TupAt H t p ∧ Rd H d (.dT kvs) ∧ DTr H kvs tr ∧ Tr S src tr ∧ p ∈ tr.map (·.1) ∧ tr.length ≤ 81 ∧
  ∀ l ps H', Same H H' → H l = none → ListPl H' l ps → Rod S src p ps → ps.length ≤ 81 → Q (.ref l) H'
/-- how far back it is from here -/
def muW (tr : List (Pl × Option Pl)) (σ : St) (H : Hp) : Nat :=
  match σ[0]? with
  | some (some (V.ref t)) =>
    match H t with
    | some (HO.tup [V.int r, V.int c]) => (tr.map (·.1)).idxOf (r, c) + 1
    | _ => 0
  | _ => 0
theorem muW_ref {tr : List (Pl × Option Pl)} {σ : St} {H : Hp} {t : Addr} {c : Pl} (h : H t = some (.tup [.int c.1, .int c.2])) : muW tr (some (.ref t) :: σ) H = (tr.map (·.1)).idxOf c + 1 := by
  unfold muW
  simp only [List.getElem?_cons_zero, h]
theorem muW_non {tr : List (Pl × Option Pl)} {σ : St} {H : Hp} : muW tr (some .non :: σ) H = 0 := by
  unfold muW
  simp only [List.getElem?_cons_zero]
theorem paired_rev {α β : Type} {F : α → β → Prop} : ∀ {as : List α} {bs : List β}, Paired F as bs → Paired F as.reverse bs.reverse
  | _, _, .nil => .nil
  | _, _, .cons r t => by
    rw [List.reverse_cons, List.reverse_cons]
    exact Paired.snoc (paired_rev t) r
theorem rd_t {H : Hp} {a b : Addr} {kvs : List (List Key × V)} {k : List Key} (e : Rd H a (.dT kvs)) (eb : H b = some (.tup (k.map kV))) : DGet H a (.ref b) (valV kvs k) := .inr ⟨kvs, k, b, e, rfl, eb, rfl⟩
theorem ok_way_to (B : Bt mg) (F : Fn K mg "way_to" s_way_to) : Def P w K mg base 1 "way_to" ["cell", "ahead"] sp_way_to := by
  refine Def.by F sc_way_to (fun _ _ _ _ _ _ => us2 fun _ _ => rfl) (fun vs H Q E h => ?_) (fun f cdv A outer s H vs Q E hr h => ?_)
  · obtain ⟨t, d, p, kvs, tr, S, src, rfl, _⟩ := h
    rfl
  obtain ⟨t, d, p, kvs, tr, S, src, rfl, ht, hd, dt, T, hp, l81, q⟩ := h
  have hu := hu_of hr
  refine ⟨_, qss_cons (qs_set 2 sc_way_to.nd (qe_lst qa_nil))
    (qss_cons (qs_while (qt_cmp op_notN (qv 0) qe_non)
      (qss_cons (qs_expr (qe_app (qv 2) (qv 0)))
      (qss_one (qs_set 0 sc_way_to.nd (qe_dget hu (qv 1) (qv 0))))))
    (qss_one (qs_ret (qe_listrev B.list B.rev (qv 2))))), ?_⟩
  refine ⟨(by show 0 ≤ sizeLine; decide), fun l hl => ?_⟩
  refine while_w (fun σ H' => ∃ v o ps as, σ = [some v, some (.ref d), some (.ref l)] ∧ OV H' v o ∧ Same H H' ∧ H' l = some (.lst (as.map V.ref)) ∧ Paired (TupAt H') as ps.reverse ∧ Wy src tr p o ps) (muW tr)
    ⟨.ref t, some p, [], [], rfl, ⟨t, rfl, by show upd H l _ t = _; rw [upd_ne (ne_of_none (show H t = some _ from ht) hl)]; exact ht⟩, same_upd hl, upd_same, .nil, Wy.start hp⟩ ?_
  rintro σ H1 ⟨v, o, ps, as, rfl, ov, sm, l1, pr, wy⟩
  refine ⟨_, rfl, rfl, _, rfl, ?_⟩
  cases o with
  | none =>
    have ov : v = .non := ov
    subst ov
    refine iteF ?_
    refine ⟨_, rfl, l, _, rfl, SqL.of l1, fun l2 hl2 => ?_⟩
    have s2 : Same H1 (upd H1 l2 (.lst (as.map V.ref).reverse)) := same_upd hl2
    have rd := wy.road T
    have nd := rd.nd
    have plen : ps.length ≤ 81 := by
      have := List.Nodup.length_le_of_subset (l₁ := ps) (l₂ := tr.map (·.1)) nd fun a ha => wy.mem a ha
      rw [List.length_map] at this
      omega
    refine q l2 ps _ (sm.trans s2) (sm.free hl2) ⟨as.reverse, by rw [upd_same, List.map_reverse], ?_⟩ rd plen
    have := paired_rev pr
    rw [List.reverse_reverse] at this
    exact Paired.mapP this fun a p z => s2 _ _ z
  | some c =>
    obtain ⟨tc, rfl, htc⟩ := ov
    have htc : H1 tc = some (.tup [.int c.1, .int c.2]) := htc
    refine iteT ?_
    refine wnx ?_
    have pm : ∀ a ∈ ps, a ∈ tr.map (·.1) := wy.mem
    have plen : ps.length ≤ 81 := by
      have := List.Nodup.length_le_of_subset (l₁ := ps) (l₂ := tr.map (fun x => x.1)) (wy.dec.imp fun {a b} h e => by subst e; exact Nat.lt_irrefl _ h) fun a ha => pm a ha
      rw [List.length_map] at this
      omega
    have alen : as.length = ps.length := by rw [Paired.length pr, List.length_reverse]
    refine ⟨_, rfl, l, _, rfl, l1, _, rfl, _, _, rfl, l1, by rw [List.length_map]; exact small1000 (by first | exact lt1k (by assumption) (by decide) | omega), ?_⟩
    have kt : ∀ a o', H1 a = some o' → (∀ xs, o' ≠ .lst xs) → upd H1 l (.lst (as.map V.ref ++ [.ref tc])) a = some o' := fun a o' z nz => by
      rw [upd_ne (ne_of z l1 (fun y => nz _ y))]
      exact z
    obtain ⟨i, o, hi⟩ := T.at (wy.nx c rfl).1
    have dt1 : DTr (upd H1 l (.lst (as.map V.ref ++ [.ref tc]))) kvs tr := dt.imp fun a q z => kt _ _ (sm _ _ z) fun xs y => nomatch y
    obtain ⟨v', ev, ov'⟩ := dtr_some dt1 T.nd hi
    have rd1 : Rd (upd H1 l (.lst (as.map V.ref ++ [.ref tc]))) d (.dT kvs) := by
      rcases hd with z | ⟨ob, z⟩
      · exact .inl (kt _ _ (sm _ _ z) fun xs y => nomatch y)
      · exact .inr ⟨ob, kt _ _ (sm _ _ z) fun xs y => nomatch y⟩
    have tc1 := kt _ _ htc fun xs y => nomatch y
    refine ⟨_, rfl, _, rfl, d, v', rfl, ?_, ?_⟩
    · rw [← ev]
      exact rd_t rd1 (tup_pk tc1)
    · obtain ⟨wy2, low⟩ := wy.step T hi
      refine ⟨⟨v', o, c :: ps, as ++ [tc], rfl, ov', fun b o' z => ?_, by rw [upd_same, List.map_append]; rfl, ?_, wy2⟩, ?_⟩
      · rw [upd_ne (ne_of_none z hl)]
        exact sm _ _ z
      · rw [List.reverse_cons]
        exact Paired.snoc (Paired.mapP pr fun a q z => kt _ _ (show H1 a = some _ from z) fun xs y => nomatch y) tc1
      · rw [muW_ref htc]
        cases o with
        | none =>
          have ov' : v' = .non := ov'
          subst ov'
          show muW tr (some .non :: _) _ < _
          rw [muW_non]
          exact Nat.succ_pos _
        | some r =>
          obtain ⟨tr', rfl, htr⟩ := ov'
          have := low r rfl
          show muW tr (some (.ref tr') :: _) _ < _
          rw [muW_ref htr]
          omega
end
end Sw

set_option linter.all false
set_option maxRecDepth 100000
set_option maxHeartbeats 400000
namespace Sw
open PySem L2 Sh
section
variable {P : Program} {w : World} {K : PySem.W.Frag} {mg : Str → Option Value} {base : Heap}
theorem sc_road : FnScope ["board", "hand", "ahead", "cell"] ["board", "hand"] (defScope s_road) := ⟨rfl, rfl, rfl, by decide +kernel, rfl, by decide +kernel, by decide +kernel⟩
/-- a road of the hand, from its first shore to its other one -/
structure IsRoad (rows : List Str) (h w hd : Nat) (ps : List Pl) : Prop where
  ex : ∃ p, Rod (Stn (rws rows) hd) (Sh.src hd) p ps ∧ goal h w hd p
  len : ps.length ≤ 81
def sp_road (C : Addr) : Sp := fun vs H Q _ => ∃ (b : Addr) (rows : List Str) (h w : Nat) (hd : Nat), vs = [.ref b, .str ⟨#[hd]⟩] ∧ (hd = 110 ∨ hd = 119) ∧ BoardAt C H b rows h w ∧
  (∀ H', Same H H' → ¬ Jnd (rws rows) h w hd → Q .non H') ∧ ∀ l ps H', Same H H' → H l = none → ListPl H' l ps → Jnd (rws rows) h w hd → IsRoad rows h w hd ps → Q (.ref l) H'
theorem ok_road {C : Addr} (D1 : Def P w K mg base 3 "reached" ["board", "hand"] (sp_reached C)) (D2 : Def P w K mg base 1 "on_other_shore" ["board", "hand", "cell"] (sp_on_other_shore C)) (D3 : Def P w K mg base 1 "way_to" ["cell", "ahead"] sp_way_to) (F : Fn K mg "road" s_road) : Def P w K mg base 4 "road" ["board", "hand"] (sp_road C) := by
  refine Def.by F sc_road (fun _ _ _ _ _ _ => us2 fun _ _ => rfl) (fun vs H Q E h => ?_) (fun f cdv A outer s H vs Q E hr h => ?_)
  · obtain ⟨b, rows, h, w, hd, rfl, _⟩ := h
    rfl
  obtain ⟨b, rows, h, w, hd, rfl, hh, Bd, qn, qr⟩ := h
  have R := Bd.rect
  have D2 := D2.up (k := 3) (by decide)
  have D3 := D3.up (k := 3) (by decide)
  refine ⟨_, qss_cons (qs_set 2 sc_road.nd (qe_callD D1 hr (qa_cons (qv 0) (qa_cons (qv 1) qa_nil))))
    (qss_cons (qs_for (qi_dict (qv 2)) (qg_name 3 sc_road.nd)
      (qss_one (qs_if (qt_val (qe_callD D2 hr (qa_cons (qv 0) (qa_cons (qv 1) (qa_cons (qv 3) qa_nil))))) (qss_one (qs_ret (qe_callD D3 hr (qa_cons (qv 3) (qa_cons (qv 2) qa_nil))))) qss_nil)))
    (qss_one (qs_ret qe_non))), ?_⟩
  refine ⟨_, rfl, _, rfl, b, rows, h, w, hd, rfl, hh, Bd, fun d kvs tr H1 s1 nd hd1 dt RC => ?_⟩
  have l81 := Rchd.len R RC.ok
  refine ⟨_, rfl, d, kvs, rfl, hd1, fun ob => ?_⟩
  have kt : ∀ a o, H1 a = some o → (∀ x, o ≠ .dT x) → upd H1 d (.frz ob (.dT kvs)) a = some o := fun a o z nz => by
    rw [upd_ne (ne_of z hd1 (fun y => nz _ y))]
    exact z
  have s2 : Same H (upd H1 d (.frz ob (.dT kvs))) := fun a o z => by
    rw [upd_ne (ne_of_none z nd)]
    exact s1 _ _ z
  have dt2 : DTr (upd H1 d (.frz ob (.dT kvs))) kvs tr := dt.imp fun a p z => kt _ _ (show H1 a = some _ from z) fun x y => nomatch y
  have fz : upd H1 d (.frz ob (.dT kvs)) d = some (.frz ob (.dT kvs)) := upd_same
  refine for_goes goes_dict (fun i σ H' => ∃ v, σ = [some (.ref b), some (.str ⟨#[hd]⟩), some (.ref d), v] ∧ H' = upd H1 d (.frz ob (.dT kvs)) ∧ ∀ p ∈ (tr.map (·.1)).take i, ¬ goal h w hd p) ⟨_, rfl, rfl, by simp⟩ (fun i σ H' _ z => by obtain ⟨_, _, rfl, _⟩ := z; exact fz) ?_ ?_
  · rintro i x σ H' hi ⟨k, v0, a, hk, rfl, ha⟩ ⟨v, rfl, rfl, no⟩
    obtain ⟨⟨p, o⟩, e2, r1, r2⟩ := paired_get' dt2 hk
    have r1 : k = pk p := r1
    subst r1
    have hp : TupAt (upd H1 d (.frz ob (.dT kvs))) a p := ha
    have pm : p ∈ tr.map (·.1) := List.mem_map.mpr ⟨_, List.mem_of_getElem? e2, rfl⟩
    refine ⟨_, rfl, _, rfl, _, rfl, b, a, rows, h, w, hd, p, rfl, hh, Bd.same s2, hp, _, rfl, ?_⟩
    refine ite2 (fun c1 => ?_) (fun c1 => ?_)
    · have c1 := of_decide_eq_true c1
      refine ⟨_, rfl, _, rfl, a, d, p, kvs, tr, _, _, rfl, hp, .inr ⟨ob, fz⟩, dt2, RC.ok, pm, l81, fun l ps H3 s3 n3 L3 rd pl => ?_⟩
      obtain ⟨j, o', ej⟩ := RC.ok.at pm
      exact qr l ps H3 (s2.trans s3) (s2.free n3) L3 ⟨p, RC.ok.rch j p o' ej, c1⟩ ⟨⟨p, rd, c1⟩, pl⟩
    · have c1 := of_decide_eq_false (Bool.eq_false_iff.mpr c1)
      refine ⟨_, rfl, rfl, fun p' hp' => ?_⟩
      have hpi : (tr.map (·.1))[i]? = some p := by rw [List.getElem?_map, e2]; rfl
      rw [List.take_succ, hpi] at hp'
      rcases List.mem_append.mp hp' with z | z
      · exact no p' z
      · have : p' = p := by simpa using z
        rw [this]
        exact c1
  · rintro σ H' ⟨v, rfl, rfl, no⟩
    refine qn _ s2 fun ⟨p, hp, g⟩ => ?_
    have lk : kvs.length = (tr.map (·.1)).length := by rw [dt.len, List.length_map]
    rw [lk, List.take_length] at no
    exact no p (RC.all p hp) g
end
end Sw

set_option linter.all false
set_option maxRecDepth 100000
set_option maxHeartbeats 400000
namespace Sw
open PySem L2 Sh
section
variable {P : Program} {w : World} {K : PySem.W.Frag} {mg : Str → Option Value} {base : Heap}
theorem sc_joined : FnScope ["board", "hand"] ["board", "hand"] (defScope s_joined) := ⟨rfl, rfl, rfl, by decide +kernel, rfl, by decide +kernel, by decide +kernel⟩
def sp_joined (C : Addr) : Sp := fun vs H Q _ => ∃ (b : Addr) (rows : List Str) (h w : Nat) (hd : Nat), vs = [.ref b, .str ⟨#[hd]⟩] ∧ (hd = 110 ∨ hd = 119) ∧ BoardAt C H b rows h w ∧
  ∀ (z : Bool) H', Same H H' → (z = true ↔ Jnd (rws rows) h w hd) → Q (.bl z) H'
theorem ok_joined {C : Addr} (D1 : Def P w K mg base 4 "road" ["board", "hand"] (sp_road C)) (F : Fn K mg "joined" s_joined) : Def P w K mg base 5 "joined" ["board", "hand"] (sp_joined C) := by
  refine Def.by F sc_joined (fun _ _ _ _ _ _ => us2 fun _ _ => rfl) (fun vs H Q E h => ?_) (fun f cdv A outer s H vs Q E hr h => ?_)
  · obtain ⟨b, rows, h, w, hd, rfl, _⟩ := h
    rfl
  obtain ⟨b, rows, h, w, hd, rfl, hh, Bd, q⟩ := h
  refine ⟨_, qss_one (qs_ret (qe_cmp op_notN (qe_callD D1 hr (qa_cons (qv 0) (qa_cons (qv 1) qa_nil))) qe_non)), ?_⟩
  refine ⟨_, rfl, _, rfl, b, rows, h, w, hd, rfl, hh, Bd, fun H' s1 n => ⟨rfl, ?_⟩, fun l ps H' s1 _ L j rd => ⟨rfl, ?_⟩⟩
  · exact q false H' s1 ⟨(fun z => nomatch z), fun z => absurd z n⟩
  · exact q true H' s1 ⟨fun _ => j, fun _ => rfl⟩
end
end Sw

set_option linter.all false
set_option maxRecDepth 100000
set_option maxHeartbeats 400000
namespace Sw
open PySem L2 Sh
section
variable {P : Program} {w : World} {K : PySem.W.Frag} {mg : Str → Option Value} {base : Heap}
theorem sc_l_told : FnScope ["found", "due"] ["found", "due"] (defScope s_l_told) := ⟨rfl, rfl, rfl, by decide +kernel, rfl, by decide +kernel, by decide +kernel⟩
def sp_l_told : Sp := fun vs H Q _ => ∃ a b : Bool, vs = [.bl a, .bl b] ∧ Q (.bl (decide (V.bl a = V.bl b))) H
theorem ok_l_told (B : Bt mg) (F : Fn K mg "_law_told" s_l_told) : Def P w K mg base 1 "_law_told" ["found", "due"] sp_l_told := by
  refine Def.by F sc_l_told (fun _ _ _ _ _ _ => us2 fun _ _ => rfl) (fun vs H Q E h => ?_) (fun f cdv A outer s H vs Q E hr h => ?_)
  · obtain ⟨a, b, rfl, _⟩ := h
    rfl
  obtain ⟨a, b, rfl, q⟩ := h
  refine ⟨_, qss_one (qs_ret (qe_and (qe_callB (call_isT (T := "bool")) B.isinst PyProof.Rows.boot_isinstance (qa_cons (qv 0) (qa_cons (qe_bltn (v := .ty "bool") B.bool PyProof.Rows.boot_bool rfl) qa_nil))) (qe_one (qe_cmp op_eq (qv 0) (qv 1))))), ?_⟩
  exact ⟨_, rfl, .bl a, _, true, rfl, .bl a, rfl, _, rfl, iteT ⟨_, rfl, _, rfl, rfl, q⟩⟩
end
end Sw

set_option linter.all false
set_option maxRecDepth 100000
set_option maxHeartbeats 400000
namespace Sw
open PySem L2 Sh
section
variable {P : Program} {w : World} {K : PySem.W.Frag} {mg : Str → Option Value} {base : Heap}
theorem sc_l_whole : FnScope ["found"] ["found"] (defScope s_l_whole) := ⟨rfl, rfl, rfl, by decide +kernel, rfl, by decide +kernel, by decide +kernel⟩
def sp_l_whole : Sp := fun vs H Q _ => ∃ i : Int, vs = [.int i] ∧ Q (.bl true) H
theorem ok_l_whole (B : Bt mg) (Z : Kt K) (F : Fn K mg "_law_whole" s_l_whole) : Def P w K mg base 1 "_law_whole" ["found"] sp_l_whole := by
  refine Def.by F sc_l_whole (fun _ _ _ _ _ _ => us1 fun _ => rfl) (fun vs H Q E h => ?_) (fun f cdv A outer s H vs Q E hr h => ?_)
  · obtain ⟨i, rfl, _⟩ := h
    rfl
  obtain ⟨i, rfl, q⟩ := h
  refine ⟨_, qss_one (qs_ret (qe_and (qe_callB (call_isT (T := "int")) B.isinst PyProof.Rows.boot_isinstance (qa_cons (qv 0) (qa_cons (qe_bltn (v := .ty "int") B.int PyProof.Rows.boot_int rfl) qa_nil)))
    (qe_one (qe_not (qe_callB (call_isT (T := "bool")) B.isinst PyProof.Rows.boot_isinstance (qa_cons (qv 0) (qa_cons (qe_bltn (v := .ty "bool") B.bool PyProof.Rows.boot_bool rfl) qa_nil))))))), ?_⟩
  refine ⟨_, rfl, .int i, _, true, rfl, .int i, rfl, _, rfl, iteT ?_⟩
  exact ⟨_, rfl, .int i, _, false, rfl, .int i, Z.ib, _, rfl, q⟩
end
end Sw

set_option linter.all false
set_option maxRecDepth 100000
set_option maxHeartbeats 400000
namespace Sw
open PySem L2 Sh
section
variable {P : Program} {w : World} {K : PySem.W.Frag} {mg : Str → Option Value} {base : Heap}
theorem sc_l_places : FnScope ["found", "many", "place"] ["found", "many"] (defScope s_l_places) := ⟨rfl, rfl, rfl, by decide +kernel, rfl, by decide +kernel, by decide +kernel⟩
def sp_l_places : Sp := fun vs H Q _ => ∃ (l : Addr) (ps : List Pl), vs = [.ref l, .int ps.length] ∧ ListPl H l ps ∧ Q (.bl true) H
theorem ok_l_places (B : Bt mg) (D1 : Def P w K mg base 1 "_law_whole" ["found"] sp_l_whole) (F : Fn K mg "_law_places" s_l_places) : Def P w K mg base 2 "_law_places" ["found", "many"] sp_l_places := by
  refine Def.by F sc_l_places (fun _ _ _ _ _ _ => us2 fun _ _ => rfl) (fun vs H Q E h => ?_) (fun f cdv A outer s H vs Q E hr h => ?_)
  · obtain ⟨l, ps, rfl, _⟩ := h
    rfl
  obtain ⟨l, ps, rfl, hL, q⟩ := h
  obtain ⟨as, h1, h2⟩ := hL
  have len : as.length = ps.length := Paired.length h2
  refine ⟨_, qss_cons (qs_if (qt_w (qw_or (qt_not (qt_val (qe_callB (call_isT (T := "list")) B.isinst PyProof.Rows.boot_isinstance (qa_cons (qv 0) (qa_cons (qe_bltn (v := .ty "list") B.list PyProof.Rows.boot_list rfl) qa_nil)))))
        (qw_or1 (qt_cmp op_ne (qe_callB call_len_seq B.len PySem.boot_len (qa_cons (qv 0) qa_nil)) (qv 1))))) (qss_one (qs_ret qe_bl)) qss_nil)
    (qss_cons (qs_for (qi_list (qv 0)) (qg_name 2 sc_l_places.nd)
      (qss_one (qs_if (qt_w (qw_or (qt_not (qt_val (qe_callB (call_isT (T := "tuple")) B.isinst PyProof.Rows.boot_isinstance (qa_cons (qv 2) (qa_cons (qe_bltn (v := .ty "tuple") B.tuple PyProof.Rows.boot_tuple rfl) qa_nil)))))
        (qw_or (qt_cmp op_ne (qe_callB call_len_seq B.len PySem.boot_len (qa_cons (qv 2) qa_nil)) qe_int)
        (qw_or (qt_not (qt_val (qe_callD D1 hr (qa_cons (qe_ix ix_tup0 (qv 2) qe_int) qa_nil))))
        (qw_or1 (qt_not (qt_val (qe_callD D1 hr (qa_cons (qe_ix ix_tup0 (qv 2) qe_int) qa_nil)))))))))
        (qss_one (qs_ret qe_bl)) qss_nil)))
    (qss_one (qs_ret qe_bl))), ?_⟩
  refine ⟨_, rfl, .ref l, _, true, rfl, .lst h1, rfl, _, rfl, iteF ?_⟩
  refine ⟨_, rfl, l, _, rfl, .inl (SqL.of h1), _, rfl, rfl, _, rfl, iteNS (by rw [List.length_map, len]) ?_⟩
  refine ⟨_, rfl, l, rfl, ⟨_, SqL.of h1⟩, ?_⟩
  refine for_goesO goes_list (fun i σ H' => ∃ v, σ = [some (.ref l), some (.int ps.length), v] ∧ H' = H) ⟨_, rfl, rfl⟩ (fun i σ H' _ z => by obtain ⟨_, _, rfl⟩ := z; exact SqL.of h1) ?_ ?_
  · rintro Pw Rt Bk hw hrt i x σ H' hi hy ⟨v, rfl, rfl⟩
    rw [List.getElem?_map] at hy
    cases e : as[i]? with
    | none => rw [e] at hy; cases hy
    | some a =>
      rw [e] at hy
      obtain rfl := Option.some.inj hy
      obtain ⟨p, e2, hp⟩ := paired_get' h2 e
      have hp : H' a = some (.tup [.int p.1, .int p.2]) := hp
      refine ⟨_, rfl, .ref a, _, true, rfl, .tup hp, rfl, _, rfl, iteF ?_⟩
      refine ⟨_, rfl, a, _, rfl, .inr (SqT.of hp), rfl, _, rfl, iteNS rfl ?_⟩
      refine ⟨_, rfl, a, _, 0, .int p.1, rfl, rfl, hp, rfl, _, rfl, _, rfl, iteF ?_⟩
      refine ⟨_, rfl, a, _, 1, .int p.2, rfl, rfl, hp, rfl, _, rfl, _, rfl, iteF ?_⟩
      exact hw _ _ _ ⟨_, rfl, rfl⟩
  · rintro σ H' ⟨v, rfl, rfl⟩
    exact q
end
end Sw

set_option linter.all false
set_option maxRecDepth 100000
set_option maxHeartbeats 400000
namespace Sw
open PySem L2 Sh
section
variable {P : Program} {w : World} {K : PySem.W.Frag} {mg : Str → Option Value} {base : Heap}
theorem sc_check_cell : FnScope ["board", "r", "c"] ["board", "r", "c"] (defScope s_check_cell) := ⟨rfl, rfl, rfl, by decide +kernel, rfl, by decide +kernel, by decide +kernel⟩
def sp_check_cell (C : Addr) : Sp := fun vs H Q _ => ∃ (b : Addr) (rows : List Str) (h w : Nat) (r c : Int), vs = [.ref b, .int r, .int c] ∧ BoardAt C H b rows h w ∧ inB h w (r, c) ∧ Q .non H
theorem ok_check_cell {C : Addr} (d_has_cell : Def P w K mg base 1 "has_cell" ["board", "r", "c"] (sp_has_cell C)) (F : Fn K mg "check_cell" s_check_cell) : Def P w K mg base 2 "check_cell" ["board", "r", "c"] (sp_check_cell C) := by
  refine Def.by F sc_check_cell (fun _ _ _ _ _ _ => us3 fun _ _ _ => rfl) (fun vs H Q E h => ?_) (fun f cdv A outer s H vs Q E hr h => ?_)
  · obtain ⟨b, rows, h, w, r, c, rfl, _⟩ := h
    rfl
  obtain ⟨b, rows, h, w, r, c, rfl, Bd, ib, q⟩ := h
  refine ⟨_, qss_one (qs_if (qt_not (qt_val (qe_callD d_has_cell hr (qa_cons (qv 0) (qa_cons (qv 1) (qa_cons (qv 2) qa_nil)))))) (qss_one qs_never) qss_nil), ?_⟩
  exact ⟨_, rfl, _, rfl, _, rfl, b, rows, h, w, r, c, rfl, Bd, _, rfl, iteFb (by rw [decide_eq_true (show 0 ≤ r ∧ r < h ∧ 0 ≤ c ∧ c < w from ib)]; rfl) q⟩
end
end Sw

set_option linter.all false
set_option maxRecDepth 100000
set_option maxHeartbeats 400000
namespace Sw
open PySem L2 Sh
section
variable {P : Program} {w : World} {K : PySem.W.Frag} {mg : Str → Option Value} {base : Heap}
theorem sc_laid : FnScope ["board", "r", "c", "hand", "rows"] ["board", "r", "c", "hand"] (defScope s_laid) := ⟨rfl, rfl, rfl, by decide +kernel, rfl, by decide +kernel, by decide +kernel⟩
def sp_laid (C : Addr) : Sp := fun vs H Q _ => ∃ (b : Addr) (rows : List Str) (h w : Nat) (r c : Nat) (hd : Nat), vs = [.ref b, .int r, .int c, .str ⟨#[hd]⟩] ∧ BoardAt C H b rows h w ∧ r < h ∧ c < w ∧ (hd = 110 ∨ hd = 119) ∧
  ∀ b' rows' H', Same H H' → H b' = none → BoardAt C H' b' rows' h w → rws rows' = layd (rws rows) r c hd → Q (.ref b') H'
theorem ok_laid {C : Addr} (B : Bt mg) (T : BoardC K C) (M : BrdMk P w K mg base 3 C) (d_check_cell : Def P w K mg base 2 "check_cell" ["board", "r", "c"] (sp_check_cell C)) (F : Fn K mg "laid" s_laid) : Def P w K mg base 5 "laid" ["board", "r", "c", "hand"] (sp_laid C) := by
  refine Def.by F sc_laid (fun _ _ _ _ _ _ => us4 fun _ _ _ _ => rfl) (fun vs H Q E h => ?_) (fun f cdv A outer s H vs Q E hr h => ?_)
  · obtain ⟨b, rows, h, w, r, c, hd, rfl, _⟩ := h
    rfl
  obtain ⟨b, rows, h, w, r, c, hd, rfl, Bd, hrh, hcw, hh, q⟩ := h
  have d_check_cell := d_check_cell.up (k := 4) (by decide)
  have R := Bd.rect
  have w9 := R.w9
  obtain ⟨dx, a, hb, ha⟩ := Bd.ob
  have hlen : rows.length = h := by have := R.len; rwa [List.length_map] at this
  obtain ⟨x, hx⟩ : ∃ x, rows[r]? = some x := ⟨rows[r]'(by first | exact lt_eq (by assumption) (by assumption) | assumption | omega), List.getElem?_eq_getElem (by first | exact lt_eq (by assumption) (by assumption) | assumption | omega)⟩
  have xl : x.cps.toList.length = w := R.wid _ (List.mem_map.mpr ⟨x, List.mem_of_getElem? hx, rfl⟩)
  have xl' : x.length = w := by simpa [Str.length] using xl
  refine ⟨_, qss_cons (qs_expr (qe_callD d_check_cell hr (qa_cons (qv 0) (qa_cons (qv 1) (qa_cons (qv 2) qa_nil)))))
    (qss_cons (qs_set 4 sc_laid.nd (qe_callTy call_list_of B.list PyProof.Rows.boot_list (qa_cons (qe_fld (qv 0)) qa_nil)))
    (qss_cons (qs_asg (qe_op op_add_str (qe_op op_add_str (qe_slice sl_str (qe_ix ix_list (qv 4) (qv 1)) qo_none (qo_some (qv 2))) (qv 3)) (qe_slice sl_str (qe_ix ix_list (qv 4) (qv 1)) (qo_some (qe_op op_add (qv 2) qe_int)) qo_none)) (qg_sub (qv 4) (qv 1) set_list))
    (qss_one (qs_ret (qe_board M hr (qa_cons (qv 4) qa_nil)))))), ?_⟩
  refine ⟨_, rfl, _, rfl, _, rfl, b, rows, h, w, r, c, rfl, Bd, ⟨by simp only; omega, by simp only; omega, by simp only; omega, by simp only; omega⟩, ?_⟩
  refine ⟨_, rfl, b, C, dx, _, _, rfl, hb, T.cl, T.nR, bfl_rows _ _ _, a, _, rfl, .inl (SqL.of ha), fun l hl => ?_⟩
  have at' : atI (rows.map V.str) (r : Int) = some (.str x) := atI_of (by first | exact Int.natCast_nonneg _ | assumption | omega) (by rw [Int.toNat_natCast, List.getElem?_map, hx]; rfl)
  have hl1 : upd H l (.lst (rows.map V.str)) l = some (.lst (rows.map V.str)) := upd_same
  have sl1 := Txt.slice_le x none (some (c : Int))
  have sl2 := Txt.slice_le x (some ((c : Int) + 1)) none
  have l1 : (Txt.slice x none (some (c : Int)) ++ (⟨#[hd]⟩ : Str)).length = (Txt.slice x none (some (c : Int))).length + 1 := by
    show ((Txt.slice x none (some (c : Int))).cps ++ #[hd]).size = _
    rw [Array.size_append]
    rfl
  refine ⟨_, rfl, _, rfl, l, _, r, .str x, rfl, rfl, SqL.of hl1, at', _, rfl, _, rfl, x, rfl, le_line (by first | exact le_w (by assumption) (by assumption) | exact le1k (by assumption) (by decide) | omega), _, rfl, _, _, rfl, rfl, le_line (by show (Txt.slice x none (some (c : Int))).length + 1 ≤ 1000; omega), ?_⟩
  refine ⟨_, rfl, _, rfl, l, _, r, .str x, rfl, rfl, SqL.of hl1, at', _, rfl, _, _, rfl, rfl, _, rfl, x, rfl, le_line (by first | exact le_w (by assumption) (by assumption) | exact le1k (by assumption) (by decide) | omega), _, _, rfl, rfl, le_line (by rw [l1]; show (Txt.slice x none (some (c : Int))).length + 1 + (Txt.slice x (some ((c : Int) + 1)) none).length ≤ 1000; omega), ?_⟩
  refine ⟨_, rfl, _, rfl, l, _, r, r, rfl, rfl, hl1, ?_, ?_⟩
  · rw [List.length_map, hlen]
    unfold ixN
    rw [if_pos (by omega), if_pos (by omega), Int.toNat_natCast]
  rw [slice_to (by omega), show (c : Int) + 1 = ((c + 1 : Nat) : Int) by omega, slice_from (by omega)]
  have lc := line_codes (x := x) (c := c) (hd := hd) (by omega)
  generalize ((⟨(x.cps.toList.take c).toArray⟩ : Str) ++ (⟨#[hd]⟩ : Str) ++ (⟨(x.cps.toList.drop (c + 1)).toArray⟩ : Str)) = y at lc ⊢
  have em : (rows.map V.str).set r (.str y) = (rows.set r y).map V.str := by rw [List.map_set]
  rw [em, upd_upd]
  have er : rws (rows.set r y) = layd (rws rows) r c hd := by
    rw [map_set_codes, lc]
    unfold layd
    congr 1
    rw [List.getD_eq_getElem?_getD, List.getElem?_map, hx]
    rfl
  have R' : Rect (rws (rows.set r y)) h w := by rw [er]; exact layd_rect R hrh (by omega)
  refine ⟨_, rfl, fun p dp np ndp nep => ⟨p, dp, l, rows.set r y, h, w, rfl, upd_same, SqL.of ?_, R', fun H2 Bd2 kp => ⟨rfl, ?_⟩⟩⟩
  · rw [upd_ne (ne_of_none upd_same np), upd_ne (ne_of_none upd_same ndp), upd_same]
  · have s2 := brd_same np ndp kp
    exact q p _ H2 ((same_upd hl).trans s2) ((same_upd hl).free np) Bd2 er
end
end Sw

set_option linter.all false
set_option maxRecDepth 100000
set_option maxHeartbeats 400000
namespace Sw
open PySem L2 Sh
section
variable {P : Program} {w : World} {K : PySem.W.Frag} {mg : Str → Option Value} {base : Heap}
theorem sc_empty : FnScope ["board", "found", "r", "row", "c", "mark"] ["board"] (defScope s_empty) := ⟨rfl, rfl, rfl, by decide +kernel, rfl, by decide +kernel, by decide +kernel⟩
def sp_empty (C : Addr) : Sp := fun vs H Q _ => ∃ (b : Addr) (rows : List Str) (h w : Nat), vs = [.ref b] ∧ BoardAt C H b rows h w ∧ ∀ l H', Same H H' → H l = none → ListPl H' l (emp h w (rws rows)) → Q (.ref l) H'
theorem ok_empty {C : Addr} {tE : Tok} (B : Bt mg) (T : BoardC K C) (hEMPTY : mg "EMPTY" = some (.str "." tE)) (F : Fn K mg "empty" s_empty) : Def P w K mg base 1 "empty" ["board"] (sp_empty C) := by
  refine Def.by F sc_empty (fun _ _ _ _ _ _ => us1 fun _ => rfl) (fun vs H Q E h => ?_) (fun f cdv A outer s H vs Q E hr h => ?_)
  · obtain ⟨b, rows, h, w, rfl, _⟩ := h
    rfl
  obtain ⟨b, rows, h, w, rfl, Bd, q⟩ := h
  have R := Bd.rect
  have h9 := R.h9
  have w9 := R.w9
  obtain ⟨dx, a, hb, ha⟩ := Bd.ob
  have t2 : 2 ≤ sizeLine := by decide
  have hlen : rows.length = h := by have := R.len; rwa [List.length_map] at this
  refine ⟨_, qss_cons (qs_set 1 sc_empty.nd (qe_lst qa_nil))
    (qss_cons (qs_for (qi_enumL B.enum (qe_fld (qv 0))) (qg_tup (qgs_cons (qg_name 2 sc_empty.nd) (qgs_cons (qg_name 3 sc_empty.nd) qgs_nil))) (qss_one (qs_for (qi_enumS B.enum (qv 3)) (qg_tup (qgs_cons (qg_name 4 sc_empty.nd) (qgs_cons (qg_name 5 sc_empty.nd) qgs_nil))) (qss_one (qs_if (qt_cmp op_eq (qv 5) (qe_glob (v := .str ".") hEMPTY ⟨_, rfl⟩)) (qss_one (qs_expr (qe_app (qv 1) (qe_tup (qa_cons (qv 2) (qa_cons (qv 4) qa_nil)))))) qss_nil)))))
    (qss_one (qs_ret (qv 1)))), ?_⟩
  refine ⟨(by show 0 ≤ sizeLine; decide), fun l hl => ?_⟩
  refine ⟨_, rfl, b, C, dx, _, _, rfl, (by rw [upd_ne (ne_of_none hb hl)]; exact hb), T.cl, T.nR, bfl_rows _ _ _, a, rfl, ⟨_, SqL.of (show upd H l (.lst []) a = some (.lst (rows.map V.str)) by rw [upd_ne (ne_of_none ha hl)]; exact ha)⟩, ?_⟩
  have lenB : ∀ k : Nat, k ≤ h → ∀ m, m ≤ w → (((List.range k).flatMap (rowc w)).filter (isE (rws rows)) ++ ((List.range m).map fun (c : Nat) => ((k : Int), (c : Int))).filter (isE (rws rows))).length ≤ 162 := fun k hk m hm => by
    rw [List.length_append]
    have e1 : (((List.range k).flatMap (rowc w)).filter (isE (rws rows))).length ≤ 81 := by
      refine Nat.le_trans (List.length_filter_le _ _) ?_
      have : ((List.range k).flatMap (rowc w)).length = k * w := by
        rw [List.length_flatMap]
        have : (List.map (fun a => (rowc w a).length) (List.range k)) = List.replicate k w := by
          refine List.ext_getElem (by simp) fun i h1 h2 => ?_
          simp [rowc]
        rw [this]
        simp
      rw [this]
      exact Nat.le_trans (Nat.mul_le_mul (Nat.le_trans hk h9) w9) (by decide)
    have e2 : (((List.range m).map fun (c : Nat) => ((k : Int), (c : Int))).filter (isE (rws rows))).length ≤ 9 := by
      refine Nat.le_trans (List.length_filter_le _ _) ?_
      rw [List.length_map, List.length_range]
      omega
    omega
  refine for_enum (n := (rows.map V.str).length) goes_enumL (fun i σ H' => ∃ (v2 v3 v4 v5 : Option V) (as : List Addr), σ = [some (.ref b), some (.ref l), v2, v3, v4, v5] ∧ Same H H' ∧ H' l = some (.lst (as.map V.ref)) ∧ Paired (TupAt H') as (((List.range i).flatMap (rowc w)).filter (isE (rws rows))))
    ⟨_, _, _, _, [], rfl, same_upd hl, upd_same, .nil⟩ (fun i σ H' _ z => by obtain ⟨_, _, _, _, _, _, z, _⟩ := z; exact SqL.of (z _ _ ha)) ?_ ?_
  · rintro i y T' σ H1 hi hy hT ⟨v2, v3, v4, v5, as, rfl, sm, l1, pr⟩
    rw [List.length_map, hlen] at hi
    rw [List.getElem?_map] at hy
    cases e : rows[i]? with
    | none => rw [e] at hy; cases hy
    | some row =>
      rw [e] at hy
      obtain rfl := Option.some.inj hy
      have rl : row.cps.size = w := by
        have := R.wid row.cps.toList (List.mem_map.mpr ⟨row, List.mem_of_getElem? e, rfl⟩)
        simpa using this
      have sT := same_upd (o := .tup [.int i, .str row]) hT
      refine ⟨T', _, rfl, SqT.of upd_same, rfl, _, _, rfl, _, _, rfl, rfl, ?_⟩
      have l1' : upd H1 T' (.tup [.int i, .str row]) l = some (.lst (as.map V.ref)) := sT _ _ l1
      have pr' := Paired.mapP pr (G := TupAt (upd H1 T' (.tup [.int i, .str row]))) fun a' p' z => sT _ _ z
      have sm' := sm.trans sT
      generalize upd H1 T' (.tup [.int i, .str row]) = H2 at l1' pr' sm' ⊢
      refine ⟨_, rfl, row, rfl, ?_⟩
      refine for_enum (n := row.cps.size) goes_enumS (fun j σ H' => ∃ (v4 v5 : Option V) (as : List Addr), σ = [some (.ref b), some (.ref l), some (.int i), some (.str row), v4, v5] ∧ Same H H' ∧ H' l = some (.lst (as.map V.ref)) ∧ Paired (TupAt H') as (((List.range i).flatMap (rowc w)).filter (isE (rws rows)) ++ ((List.range j).map fun (c : Nat) => ((i : Int), (c : Int))).filter (isE (rws rows))))
        ⟨_, _, as, rfl, sm', l1', by simpa using pr'⟩ (fun _ _ _ _ _ => trivial) ?_ ?_
      · rintro j y T2 σ H3 hj ⟨ch, hch, rfl⟩ hT2 ⟨v4, v5, as3, rfl, sm3, l3, pr3⟩
        rw [rl] at hj
        have sT2 := same_upd (o := .tup [.int j, .str ⟨#[ch]⟩]) hT2
        refine ⟨T2, _, rfl, SqT.of upd_same, rfl, _, _, rfl, _, _, rfl, rfl, ?_⟩
        have l3' : upd H3 T2 (.tup [.int j, .str ⟨#[ch]⟩]) l = some (.lst (as3.map V.ref)) := sT2 _ _ l3
        have pr3' := Paired.mapP pr3 (G := TupAt (upd H3 T2 (.tup [.int j, .str ⟨#[ch]⟩]))) fun a' p' z => sT2 _ _ z
        have sm3' := sm3.trans sT2
        generalize upd H3 T2 (.tup [.int j, .str ⟨#[ch]⟩]) = H4 at l3' pr3' sm3' ⊢
        have ac : at2 (rws rows) ((i : Int), (j : Int)) = some ch := by
          rw [at2_nat, List.getElem?_map, e]
          show row.cps.toList[j]? = _
          rw [Array.getElem?_toList]
          exact hch
        have tk : (((List.range (j + 1)).map fun (c : Nat) => ((i : Int), (c : Int))).filter (isE (rws rows))) = ((List.range j).map fun (c : Nat) => ((i : Int), (c : Int))).filter (isE (rws rows)) ++ (if ch = 46 then [((i : Int), (j : Int))] else []) := by
          rw [List.range_succ, List.map_append, List.filter_append]
          congr 1
          show List.filter (isE (rws rows)) [((i : Int), (j : Int))] = _
          rw [List.filter_cons]
          unfold isE
          rw [ac]
          by_cases z : ch = 46
          · rw [if_pos z, if_pos (decide_eq_true (by rw [z]))]; rfl
          · rw [if_neg z, if_neg (by rw [decide_eq_true_iff]; intro y; exact z (Option.some.inj y))]; rfl
        refine ⟨_, rfl, rfl, _, rfl, ?_⟩
        refine ite2 (fun g => ?_) (fun g => ?_)
        · have g : ch = 46 := by
            have z := of_decide_eq_true g
            rw [d_eq, str1_iff] at z
            exact z
          have ln := lenB i (by omega) j (by omega)
          rw [← Paired.length pr3'] at ln
          refine ⟨_, rfl, l, _, rfl, l3', _, rfl, _, rfl, t2, fun t ht => ?_⟩
          have l4 : upd H4 t (.tup [.int i, .int j]) l = some (.lst (as3.map V.ref)) := by rw [upd_ne (ne_of_none l3' ht)]; exact l3'
          refine ⟨_, _, rfl, l4, by rw [List.length_map]; exact small1000 (by first | exact lt1k (by assumption) (by decide) | omega), _, _, as3 ++ [t], rfl, fun b' o z => ?_, by rw [upd_same, List.map_append]; rfl, ?_⟩
          · rw [upd_ne (ne_of_none z hl)]
            exact (sm3'.upd ht) _ _ z
          · rw [tk, if_pos g, ← List.append_assoc]
            refine Paired.snoc (Paired.mapP pr3' fun a' p' z => ?_) ?_
            · have z' : H4 a' = some _ := z
              show upd (upd H4 t _) l _ a' = _
              rw [upd_ne (ne_of z' l3' (fun y => nomatch y)), upd_ne (ne_of_none z' ht)]
              exact z'
            · show upd (upd H4 t _) l _ t = _
              rw [upd_ne (ne_of_none l3' ht).symm, upd_same]
        · have g : ¬ ch = 46 := fun z => g (decide_eq_true (by rw [d_eq, z]))
          refine ⟨_, _, as3, rfl, sm3', l3', ?_⟩
          rw [tk, if_neg g, List.append_nil]
          exact pr3'
      · rintro σ H3 ⟨v4, v5, as3, rfl, sm3, l3, pr3⟩
        refine ⟨_, _, _, _, as3, rfl, sm3, l3, ?_⟩
        rw [rl] at pr3
        rw [List.range_succ, List.flatMap_append, List.filter_append, List.flatMap_cons, List.flatMap_nil, List.append_nil]
        exact pr3
  · rintro σ H1 ⟨v2, v3, v4, v5, as, rfl, sm, l1, pr⟩
    rw [List.length_map, hlen] at pr
    exact ⟨_, rfl, q l H1 sm hl ⟨as, l1, pr⟩⟩
end
end Sw

set_option linter.all false
set_option maxRecDepth 100000
set_option maxHeartbeats 400000
namespace Sw
open PySem L2 Sh
section
variable {P : Program} {w : World} {K : PySem.W.Frag} {mg : Str → Option Value} {base : Heap}
theorem sc_other_hand : FnScope ["hand"] ["hand"] (defScope s_other_hand) := ⟨rfl, rfl, rfl, by decide +kernel, rfl, by decide +kernel, by decide +kernel⟩
def sp_other_hand : Sp := fun vs H Q _ => ∃ hd : Nat, vs = [.str ⟨#[hd]⟩] ∧ (hd = 110 ∨ hd = 119) ∧ Q (.str ⟨#[oth hd]⟩) H
theorem ok_other_hand {dX : Addr} (hX : mg "EXCHANGED" = some (.ref dX)) (X : KDic P w K dX xkv) (F : Fn K mg "other_hand" s_other_hand) : Def P w K mg base 1 "other_hand" ["hand"] sp_other_hand := by
  refine Def.by F sc_other_hand (fun _ _ _ _ _ _ => us1 fun _ => rfl) (fun vs H Q E h => ?_) (fun f cdv A outer s H vs Q E hr h => ?_)
  · obtain ⟨hd, rfl, _⟩ := h
    rfl
  obtain ⟨hd, rfl, hh, q⟩ := h
  refine ⟨_, qss_one (qs_ret (ix_dictK X (qe_glob (v := .ref dX) hX rfl) (qv 0))), ?_⟩
  exact ⟨_, rfl, .inr ⟨#[hd]⟩, _, rfl, rfl, xkv_at (by omega), q⟩
end
end Sw

set_option linter.all false
set_option maxRecDepth 100000
set_option maxHeartbeats 400000
namespace Sw
open PySem L2 Sh
section
variable {P : Program} {w : World} {K : PySem.W.Frag} {mg : Str → Option Value} {base : Heap}
theorem sc_joined_hand : FnScope ["board"] ["board"] (defScope s_joined_hand) := ⟨rfl, rfl, rfl, by decide +kernel, rfl, by decide +kernel, by decide +kernel⟩
def sp_joined_hand (C : Addr) : Sp := fun vs H Q _ => ∃ (b : Addr) (rows : List Str) (h w : Nat), vs = [.ref b] ∧ BoardAt C H b rows h w ∧
  (∀ hd H', Same H H' → (hd = 110 ∨ hd = 119) → Jnd (rws rows) h w hd → Q (.str ⟨#[hd]⟩) H') ∧ ∀ H', Same H H' → ¬ Jnd (rws rows) h w 110 → ¬ Jnd (rws rows) h w 119 → Q .non H'
theorem ok_joined_hand {C : Addr} {tN tW : Tok} (hNORTH : mg "NORTH" = some (.str "n" tN)) (hWEST : mg "WEST" = some (.str "w" tW)) (d_joined : Def P w K mg base 5 "joined" ["board", "hand"] (sp_joined C)) (F : Fn K mg "joined_hand" s_joined_hand) : Def P w K mg base 6 "joined_hand" ["board"] (sp_joined_hand C) := by
  refine Def.by F sc_joined_hand (fun _ _ _ _ _ _ => us1 fun _ => rfl) (fun vs H Q E h => ?_) (fun f cdv A outer s H vs Q E hr h => ?_)
  · obtain ⟨b, rows, h, w, rfl, _⟩ := h
    rfl
  obtain ⟨b, rows, h, w, rfl, Bd, qj, qn⟩ := h
  refine ⟨_, qss_cons (qs_if (qt_val (qe_callD d_joined hr (qa_cons (qv 0) (qa_cons (qe_glob (v := .str "n") hNORTH ⟨_, rfl⟩) qa_nil)))) (qss_one (qs_ret (qe_glob (v := .str "n") hNORTH ⟨_, rfl⟩))) qss_nil)
    (qss_cons (qs_if (qt_val (qe_callD d_joined hr (qa_cons (qv 0) (qa_cons (qe_glob (v := .str "w") hWEST ⟨_, rfl⟩) qa_nil)))) (qss_one (qs_ret (qe_glob (v := .str "w") hWEST ⟨_, rfl⟩))) qss_nil)
    (qss_one (qs_ret qe_non))), ?_⟩
  rw [n_eq, w_eq]
  refine ⟨_, rfl, b, rows, h, w, 110, rfl, .inl rfl, Bd, fun z H1 s1 e1 => ⟨_, rfl, ?_⟩⟩
  cases z with
  | true => exact iteT (qj 110 H1 s1 (.inl rfl) (e1.mp rfl))
  | false =>
    refine iteF ⟨_, rfl, b, rows, h, w, 119, rfl, .inr rfl, Bd.same s1, fun z2 H2 s2 e2 => ⟨_, rfl, ?_⟩⟩
    cases z2 with
    | true => exact iteT (qj 119 H2 (s1.trans s2) (.inr rfl) (e2.mp rfl))
    | false => exact iteF (qn H2 (s1.trans s2) (fun j => nomatch e1.mpr j) (fun j => nomatch e2.mpr j))
end
end Sw

set_option linter.all false
set_option maxRecDepth 100000
set_option maxHeartbeats 400000
namespace Sw
open PySem L2 Sh
section
variable {P : Program} {w : World} {K : PySem.W.Frag} {mg : Str → Option Value} {base : Heap}
theorem sc_check_end : FnScope ["board"] ["board"] (defScope s_check_end) := ⟨rfl, rfl, rfl, by decide +kernel, rfl, by decide +kernel, by decide +kernel⟩
/-- nobody is joined -/
def Nobody (rr : Rws) (h w : Nat) : Prop := ¬ Jnd rr h w 110 ∧ ¬ Jnd rr h w 119
def sp_check_end (C : Addr) : Sp := fun vs H Q _ => ∃ (b : Addr) (rows : List Str) (h w : Nat), vs = [.ref b] ∧ BoardAt C H b rows h w ∧ Nobody (rws rows) h w ∧ (emp h w (rws rows)).length ≤ 6 ∧ ∀ H', Same H H' → Q .non H'
theorem ok_check_end {C : Addr} {tM : Tok} (B : Bt mg) (hMOST_EMPTY : mg "MOST_EMPTY" = some (.int 6 tM)) (d_joined_hand : Def P w K mg base 6 "joined_hand" ["board"] (sp_joined_hand C)) (d_empty : Def P w K mg base 1 "empty" ["board"] (sp_empty C)) (F : Fn K mg "check_end" s_check_end) : Def P w K mg base 7 "check_end" ["board"] (sp_check_end C) := by
  refine Def.by F sc_check_end (fun _ _ _ _ _ _ => us1 fun _ => rfl) (fun vs H Q E h => ?_) (fun f cdv A outer s H vs Q E hr h => ?_)
  · obtain ⟨b, rows, h, w, rfl, _⟩ := h
    rfl
  obtain ⟨b, rows, h, w, rfl, Bd, nb, le, q⟩ := h
  have d_empty := d_empty.up (k := 6) (by decide)
  refine ⟨_, qss_cons (qs_if (qt_cmp op_notN (qe_callD d_joined_hand hr (qa_cons (qv 0) qa_nil)) qe_non) (qss_one qs_never) qss_nil)
    (qss_one (qs_if (qt_cmp op_gt (qe_callB call_len0 B.len PySem.boot_len (qa_cons (qe_callD d_empty hr (qa_cons (qv 0) qa_nil)) qa_nil)) (qe_glob (v := .int 6) hMOST_EMPTY ⟨_, rfl⟩)) (qss_one qs_never) qss_nil)), ?_⟩
  refine ⟨_, rfl, b, rows, h, w, rfl, Bd, fun hd H1 s1 hh j => ?_, fun H1 s1 _ _ => ⟨rfl, _, rfl, iteFb (by simp) ?_⟩⟩
  · exfalso
    rcases hh with rfl | rfl
    · exact nb.1 j
    · exact nb.2 j
  refine ⟨_, rfl, b, rows, h, w, rfl, Bd.same s1, fun l H2 s2 n2 L2 => ?_⟩
  obtain ⟨as, l1, l2⟩ := L2
  have ll := Paired.length l2
  refine ⟨l, _, rfl, l1, _, _, rfl, rfl, _, rfl, iteFb (decide_eq_false ?_) (q H2 (s1.trans s2))⟩
  rw [List.length_map]
  omega
end
end Sw

set_option linter.all false
set_option maxRecDepth 100000
set_option maxHeartbeats 400000
namespace Sw
open PySem L2 Sh
section
variable {P : Program} {w : World} {K : PySem.W.Frag} {mg : Str → Option Value} {base : Heap}
theorem sc_wins_by : FnScope ["board", "hand", "cell", "after"] ["board", "hand", "cell"] (defScope s_wins_by) := ⟨rfl, rfl, rfl, by decide +kernel, rfl, by decide +kernel, by decide +kernel⟩
theorem sc_has_reply : FnScope ["board", "hand", "cell"] ["board", "hand"] (defScope s_has_reply) := ⟨rfl, rfl, rfl, by decide +kernel, rfl, by decide +kernel, by decide +kernel⟩
/-- n cells are empty -/
def sp_wins_by (C : Addr) (n : Nat) : Sp := fun vs H Q _ => ∃ (b t : Addr) (rows : List Str) (h w hd : Nat) (p : Pl), vs = [.ref b, .str ⟨#[hd]⟩, .ref t] ∧ (hd = 110 ∨ hd = 119) ∧ BoardAt C H b rows h w ∧ TupAt H t p ∧ p ∈ emp h w (rws rows) ∧ (emp h w (rws rows)).length = n ∧
  ∀ (z : Bool) H', Same H H' → (z = true ↔ WinBy h w (n - 1) (rws rows) hd p) → Q (.bl z) H'
def sp_has_reply (C : Addr) (n : Nat) : Sp := fun vs H Q _ => ∃ (b : Addr) (rows : List Str) (h w hd : Nat), vs = [.ref b, .str ⟨#[hd]⟩] ∧ (hd = 110 ∨ hd = 119) ∧ BoardAt C H b rows h w ∧ (emp h w (rws rows)).length = n ∧
  ∀ (z : Bool) H', Same H H' → (z = true ↔ Wins h w n (rws rows) hd) → Q (.bl z) H'
theorem wins_by0 {C : Addr} (F : Fn K mg "wins_by" s_wins_by) : Def P w K mg base 7 "wins_by" ["board", "hand", "cell"] (sp_wins_by C 0) := by
  refine Def.by F sc_wins_by (fun _ _ _ _ _ _ => us3 fun _ _ _ => rfl) (fun vs H Q E h => ?_) (fun f cdv A outer s H vs Q E hr h => ?_)
  · obtain ⟨b, t, rows, h, w, hd, p, rfl, _⟩ := h
    rfl
  · exfalso
    obtain ⟨b, t, rows, h, w, hd, p, rfl, _, _, _, m, e, _⟩ := h
    rw [List.eq_nil_of_length_eq_zero e] at m
    cases m
theorem wins_byS {C : Addr} {n k : Nat} (hk : 5 ≤ k) (d_laid : Def P w K mg base 5 "laid" ["board", "r", "c", "hand"] (sp_laid C)) (d_joined : Def P w K mg base 5 "joined" ["board", "hand"] (sp_joined C)) (d_other_hand : Def P w K mg base 1 "other_hand" ["hand"] sp_other_hand) (F : Fn K mg "wins_by" s_wins_by)
    (d_has_reply : Def P w K mg base k "has_reply" ["board", "hand"] (sp_has_reply C n)) : Def P w K mg base (k + 1) "wins_by" ["board", "hand", "cell"] (sp_wins_by C (n + 1)) := by
  refine Def.by F sc_wins_by (fun _ _ _ _ _ _ => us3 fun _ _ _ => rfl) (fun vs H Q E h => ?_) (fun f cdv A outer s H vs Q E hr h => ?_)
  · obtain ⟨b, t, rows, h, w, hd, p, rfl, _⟩ := h
    rfl
  obtain ⟨b, t, rows, h, w, hd, p, rfl, hh, Bd, hT, hm, hn, q⟩ := h
  have d_laid := d_laid.up hk
  have d_joined := d_joined.up hk
  have d_other_hand := d_other_hand.up (k := k) (by omega)
  have R := Bd.rect
  have e46 := (mem_emp R).mp hm
  obtain ⟨b1, b2, b3, b4⟩ := R.inB e46
  obtain ⟨r, hr'⟩ := Int.eq_ofNat_of_zero_le b1
  obtain ⟨c, hc'⟩ := Int.eq_ofNat_of_zero_le b3
  obtain ⟨p1, p2⟩ := p
  simp only at hr' hc' b2 b4
  subst hr' hc'
  refine ⟨_, qss_cons (qs_set 3 sc_wins_by.nd (qe_callD d_laid hr (qa_cons (qv 0) (qa_cons (qe_p0 2 (qv 2) qe_int) (qa_cons (qe_p1 2 (qv 2) qe_int) (qa_cons (qv 1) qa_nil))))))
    (qss_one (qs_ret (qe_or (qe_callD d_joined hr (qa_cons (qv 3) (qa_cons (qv 1) qa_nil))) (qe_one (qe_not (qe_callD d_has_reply hr (qa_cons (qv 3) (qa_cons (qe_callD d_other_hand hr (qa_cons (qv 1) qa_nil)) qa_nil)))))))), ?_⟩
  refine ⟨_, rfl, t, (r : Int), (c : Int), rfl, hT, t, (r : Int), (c : Int), rfl, hT, _, rfl, b, rows, h, w, r, c, hd, rfl, Bd, by omega, by omega, hh, fun b' rows' H1 s1 _ Bd1 er => ?_⟩
  rw [← lyp_nat] at er
  have en : (emp h w (rws rows')).length = n := by
    have := emp_lyp R e46 (hd := hd) (by omega)
    rw [er]
    omega
  refine ⟨_, rfl, _, rfl, b', rows', h, w, hd, rfl, hh, Bd1, fun z H2 s2 e2 => ⟨z, rfl, ?_⟩⟩
  rw [er] at e2
  cases z with
  | true => exact iteT (q true H2 (s1.trans s2) ⟨fun _ => .inl (e2.mp rfl), fun _ => rfl⟩)
  | false =>
    refine iteF ⟨_, rfl, _, rfl, hd, rfl, hh, b', rows', h, w, oth hd, rfl, oth_hd hh, Bd1.same s2, en, fun z H3 s3 e3 => ⟨z, rfl, ?_⟩⟩
    refine q (!z) H3 (s1.trans (s2.trans s3)) ?_
    rw [er] at e3
    unfold WinBy
    show _ ↔ Jnd _ h w hd ∨ ¬ Wins h w n _ _
    cases z with
    | true => exact ⟨(fun y => nomatch y), fun y => y.elim (fun j => nomatch e2.mpr j) fun y => absurd (e3.mp rfl) y⟩
    | false => exact ⟨fun _ => .inr (fun y => nomatch e3.mpr y), fun _ => rfl⟩
theorem has_replyN {C : Addr} {n k : Nat} (hk : 1 ≤ k) (d_empty : Def P w K mg base 1 "empty" ["board"] (sp_empty C)) (F : Fn K mg "has_reply" s_has_reply) (d_wins_by : Def P w K mg base k "wins_by" ["board", "hand", "cell"] (sp_wins_by C n)) :
    Def P w K mg base (k + 1) "has_reply" ["board", "hand"] (sp_has_reply C n) := by
  refine Def.by F sc_has_reply (fun _ _ _ _ _ _ => us2 fun _ _ => rfl) (fun vs H Q E h => ?_) (fun f cdv A outer s H vs Q E hr h => ?_)
  · obtain ⟨b, rows, h, w, hd, rfl, _⟩ := h
    rfl
  obtain ⟨b, rows, h, w, hd, rfl, hh, Bd, hn, q⟩ := h
  have d_empty := d_empty.up hk
  refine ⟨_, qss_cons (qs_for (qi_list (qe_callD d_empty hr (qa_cons (qv 0) qa_nil))) (qg_name 2 sc_has_reply.nd) (qss_one (qs_if (qt_val (qe_callD d_wins_by hr (qa_cons (qv 0) (qa_cons (qv 1) (qa_cons (qv 2) qa_nil))))) (qss_one (qs_ret qe_bl)) qss_nil)))
    (qss_one (qs_ret qe_bl)), ?_⟩
  refine ⟨_, rfl, b, rows, h, w, rfl, Bd, fun l H1 s1 _ LP => ?_⟩
  obtain ⟨as, l1, l2⟩ := LP
  refine ⟨l, rfl, ⟨_, SqL.of l1⟩, ?_⟩
  refine for_goesO goes_list (fun i σ H' => ∃ v2, σ = [some (.ref b), some (.str ⟨#[hd]⟩), v2] ∧ Same H1 H' ∧ ∀ p ∈ (emp h w (rws rows)).take i, ¬ WinBy h w (n - 1) (rws rows) hd p) ⟨_, rfl, fun _ _ z => z, by simp⟩ (fun i σ H' _ z => by obtain ⟨_, _, z, _⟩ := z; exact SqL.of (z _ _ l1)) ?_ ?_
  · rintro Pw Rt Bk hw hrt i y σ H2 hi hy ⟨v2, rfl, s2, no⟩
    rw [List.getElem?_map] at hy
    cases e : as[i]? with
    | none => rw [e] at hy; cases hy
    | some t =>
      rw [e] at hy
      obtain rfl := Option.some.inj hy
      obtain ⟨p, e2, hp⟩ := paired_get' l2 e
      have pm := List.mem_of_getElem? e2
      refine ⟨_, rfl, _, rfl, _, rfl, b, t, rows, h, w, hd, p, rfl, hh, Bd.same (s1.trans s2), s2 _ _ hp, pm, hn, fun z H3 s3 e3 => ⟨z, rfl, ?_⟩⟩
      have np : 0 < n := by rw [← hn]; exact List.length_pos_of_mem pm
      obtain ⟨m, rfl⟩ : ∃ m, n = m + 1 := ⟨n - 1, by omega⟩
      cases z with
      | true => exact iteT (hrt _ _ (q true H3 (s1.trans (s2.trans s3)) ⟨fun _ => wins_succ.mpr ⟨p, pm, e3.mp rfl⟩, fun _ => rfl⟩))
      | false =>
        refine iteF (hw _ _ _ ⟨_, rfl, s2.trans s3, fun p' hp' => ?_⟩)
        rw [List.take_succ, e2] at hp'
        rcases List.mem_append.mp hp' with y | y
        · exact no p' y
        · have : p' = p := by simpa using y
          rw [this]
          exact fun y => nomatch e3.mpr y
  · rintro σ H2 ⟨v2, rfl, s2, no⟩
    refine q false H2 (s1.trans s2) ⟨(fun y => nomatch y), fun y => ?_⟩
    exfalso
    rw [List.length_map, Paired.length l2, List.take_length] at no
    cases n with
    | zero => exact y
    | succ m =>
      obtain ⟨p, pm, wb⟩ := wins_succ.mp y
      exact no p pm wb
theorem ok_wins_by {C : Addr} (d_laid : Def P w K mg base 5 "laid" ["board", "r", "c", "hand"] (sp_laid C)) (d_joined : Def P w K mg base 5 "joined" ["board", "hand"] (sp_joined C)) (d_other_hand : Def P w K mg base 1 "other_hand" ["hand"] sp_other_hand) (d_empty : Def P w K mg base 1 "empty" ["board"] (sp_empty C)) (F1 : Fn K mg "wins_by" s_wins_by) (F2 : Fn K mg "has_reply" s_has_reply) :
    ∀ n, Def P w K mg base (7 + 2 * n) "wins_by" ["board", "hand", "cell"] (sp_wins_by C n)
  | 0 => wins_by0 F1
  | n + 1 => (wins_byS (k := 8 + 2 * n) (by omega) d_laid d_joined d_other_hand F1 ((has_replyN (by omega) d_empty F2 (ok_wins_by d_laid d_joined d_other_hand d_empty F1 F2 n)).up (by omega))).up (by omega)
theorem ok_has_reply {C : Addr} (d_empty : Def P w K mg base 1 "empty" ["board"] (sp_empty C)) (F2 : Fn K mg "has_reply" s_has_reply) (d_wins_by : ∀ n, Def P w K mg base (7 + 2 * n) "wins_by" ["board", "hand", "cell"] (sp_wins_by C n)) (n : Nat) : Def P w K mg base (8 + 2 * n) "has_reply" ["board", "hand"] (sp_has_reply C n) :=
  (has_replyN (by omega) d_empty F2 (d_wins_by n)).up (by omega)
end
end Sw

set_option linter.all false
set_option maxRecDepth 100000
set_option maxHeartbeats 400000
namespace Sw
open PySem L2 Sh
section
variable {P : Program} {w : World} {K : PySem.W.Frag} {mg : Str → Option Value} {base : Heap}
theorem sc_can_win : FnScope ["board", "hand"] ["board", "hand"] (defScope s_can_win) := ⟨rfl, rfl, rfl, by decide +kernel, rfl, by decide +kernel, by decide +kernel⟩
def sp_can_win (C : Addr) : Sp := fun vs H Q _ => ∃ (b : Addr) (rows : List Str) (h w hd : Nat), vs = [.ref b, .str ⟨#[hd]⟩] ∧ (hd = 110 ∨ hd = 119) ∧ BoardAt C H b rows h w ∧ Nobody (rws rows) h w ∧ (emp h w (rws rows)).length ≤ 6 ∧
  ∀ (z : Bool) H', Same H H' → (z = true ↔ Wins h w (emp h w (rws rows)).length (rws rows) hd) → Q (.bl z) H'
theorem ok_can_win {C : Addr} (d_check_end : Def P w K mg base 7 "check_end" ["board"] (sp_check_end C)) (d_has_reply : ∀ n, Def P w K mg base (8 + 2 * n) "has_reply" ["board", "hand"] (sp_has_reply C n)) (F : Fn K mg "can_win" s_can_win) : Def P w K mg base 21 "can_win" ["board", "hand"] (sp_can_win C) := by
  refine Def.by F sc_can_win (fun _ _ _ _ _ _ => us2 fun _ _ => rfl) (fun vs H Q E h => ?_) (fun f cdv A outer s H vs Q E hr h => ?_)
  · obtain ⟨b, rows, h, w, hd, rfl, _⟩ := h
    rfl
  obtain ⟨b, rows, h, w, hd, rfl, hh, Bd, nb, le, q⟩ := h
  have d_check_end := d_check_end.up (k := 20) (by decide)
  have d_has_reply := (d_has_reply (emp h w (rws rows)).length).up (k := 20) (by omega)
  refine ⟨_, qss_cons (qs_expr (qe_callD d_check_end hr (qa_cons (qv 0) qa_nil)))
    (qss_one (qs_ret (qe_callD d_has_reply hr (qa_cons (qv 0) (qa_cons (qv 1) qa_nil))))), ?_⟩
  exact ⟨_, rfl, b, rows, h, w, rfl, Bd, nb, le, fun H1 s1 => ⟨_, rfl, _, rfl, b, rows, h, w, hd, rfl, hh, Bd.same s1, rfl, fun z H2 s2 e => q z H2 (s1.trans s2) e⟩⟩
end
end Sw

set_option linter.all false
set_option maxRecDepth 100000
set_option maxHeartbeats 400000
namespace Sw
open PySem L2 Sh
section
variable {P : Program} {w : World} {K : PySem.W.Frag} {mg : Str → Option Value} {base : Heap}
theorem sc_replies : FnScope ["board", "hand"] ["board", "hand"] (defScope s_replies) := ⟨rfl, rfl, rfl, by decide +kernel, rfl, by decide +kernel, by decide +kernel⟩
noncomputable def wby (h w n : Nat) (rr : Rws) (hd : Nat) (p : Pl) : Bool := @decide (WinBy h w n rr hd p) (Classical.propDecidable _)
theorem wby_iff {h w n : Nat} {rr : Rws} {hd : Nat} {p : Pl} : wby h w n rr hd p = true ↔ WinBy h w n rr hd p := by
  unfold wby
  exact @decide_eq_true_iff _ (Classical.propDecidable _)
/-- the cells by which the hand wins, in order; n cells are empty behind its stone -/
noncomputable def repl (h w n : Nat) (rr : Rws) (hd : Nat) : List Pl := (emp h w rr).filter (wby h w n rr hd)
def sp_replies (C : Addr) : Sp := fun vs H Q _ => ∃ (b : Addr) (rows : List Str) (h w hd : Nat), vs = [.ref b, .str ⟨#[hd]⟩] ∧ (hd = 110 ∨ hd = 119) ∧ BoardAt C H b rows h w ∧ Nobody (rws rows) h w ∧ (emp h w (rws rows)).length ≤ 6 ∧
  ∀ l H', Same H H' → H l = none → ListPl H' l (repl h w ((emp h w (rws rows)).length - 1) (rws rows) hd) → Q (.ref l) H'
theorem ok_replies {C : Addr} (d_check_end : Def P w K mg base 7 "check_end" ["board"] (sp_check_end C)) (d_empty : Def P w K mg base 1 "empty" ["board"] (sp_empty C)) (d_wins_by : ∀ n, Def P w K mg base (7 + 2 * n) "wins_by" ["board", "hand", "cell"] (sp_wins_by C n)) (F : Fn K mg "replies" s_replies) : Def P w K mg base 21 "replies" ["board", "hand"] (sp_replies C) := by
  refine Def.by F sc_replies (fun _ _ _ _ _ _ => us2 fun _ _ => rfl) (fun vs H Q E h => ?_) (fun f cdv A outer s H vs Q E hr h => ?_)
  · obtain ⟨b, rows, h, w, hd, rfl, _⟩ := h
    rfl
  obtain ⟨b, rows, h, w, hd, rfl, hh, Bd, nb, le, q⟩ := h
  have d_check_end := d_check_end.up (k := 20) (by decide)
  have d_empty := d_empty.up (k := 20) (by decide)
  have d_wins_by := (d_wins_by (emp h w (rws rows)).length).up (k := 20) (by omega)
  refine ⟨_, qss_cons (qs_expr (qe_callD d_check_end hr (qa_cons (qv 0) qa_nil)))
    (qss_one (qs_ret (qe_lcomp ["cell"] ["board", "hand"] [0, 1] (qi_list (qe_callD d_empty hr (qa_cons (qv 0) qa_nil))) (fun _ _ _ _ => qg_name 0 (by show List.Nodup ([("cell" : Str)] ++ [("board" : Str), ("hand" : Str)]); decide +kernel)) (fun _ _ _ _ => qts_one (qt_val (qe_callD d_wins_by hr (qa_cons (qv 1) (qa_cons (qv 2) (qa_cons (qv 0) qa_nil)))))) (fun _ _ _ _ => qv 0)))), ?_⟩
  refine ⟨_, rfl, b, rows, h, w, rfl, Bd, nb, le, fun H1 s1 => ?_⟩
  refine ⟨_, rfl, b, rows, h, w, rfl, Bd.same s1, fun l0 H2 s2 _ LP => ?_⟩
  obtain ⟨as, a1, a2⟩ := LP
  refine ⟨l0, rfl, ⟨_, SqL.of a1⟩, fun l hl => ?_⟩
  refine comp_goes goes_list (fun i ys σ H' => (∃ v, σ = [v, some (.ref b), some (.str ⟨#[hd]⟩)]) ∧ Same H2 H' ∧ H' l = some (.lst ys) ∧ ∃ bs : List Addr, ys = bs.map V.ref ∧ Paired (TupAt H') bs (((emp h w (rws rows)).take i).filter (wby h w ((emp h w (rws rows)).length - 1) (rws rows) hd)))
    ⟨⟨_, rfl⟩, same_upd hl, upd_same, [], rfl, .nil⟩ (fun i ys σ H' _ z => ⟨SqL.of (z.2.1 _ _ a1), z.2.2.1⟩) ?_ ?_
  · rintro i x ys σ H3 hi hy ⟨⟨v, rfl⟩, sm, hl3, bs, rfl, pr⟩
    rw [List.getElem?_map] at hy
    cases e : as[i]? with
    | none => rw [e] at hy; cases hy
    | some t =>
      rw [e] at hy
      obtain rfl := Option.some.inj hy
      obtain ⟨p, e2, hp⟩ := paired_get' a2 e
      have pm := List.mem_of_getElem? e2
      have hp3 : H3 t = some (.tup [.int p.1, .int p.2]) := sm _ _ hp
      have tk : (emp h w (rws rows)).take (i + 1) = (emp h w (rws rows)).take i ++ [p] := by rw [List.take_succ, e2]; rfl
      refine ⟨_, rfl, _, rfl, _, rfl, b, t, rows, h, w, hd, p, rfl, hh, Bd.same (s1.trans (s2.trans sm)), hp3, pm, rfl, fun z H4 s4 e4 => ⟨z, rfl, ?_⟩⟩
      have hl4 := s4 _ _ hl3
      have hp4 := s4 _ _ hp3
      cases z with
      | true =>
        have lb : bs.length ≤ 6 := by
          rw [Paired.length pr]
          exact Nat.le_trans (List.length_filter_le _ _) (Nat.le_trans (by rw [List.length_take]; omega) le)
        refine iteT ⟨_, rfl, hl4, by rw [List.length_map]; exact small1000 (by first | exact lt1k (by assumption) (by decide) | omega), cnx hi ⟨⟨_, rfl⟩, fun b' o z => ?_, upd_same, bs ++ [t], by rw [List.map_append]; rfl, ?_⟩⟩
        · rw [upd_ne (ne_of_none z hl)]
          exact s4 _ _ (sm _ _ z)
        · rw [tk, List.filter_append, List.filter_cons, if_pos (wby_iff.mpr (e4.mp rfl))]
          refine Paired.snoc (Paired.mapP pr fun a' p' z => ?_) ?_
          · have z' : H4 a' = some _ := s4 _ _ z
            show upd H4 l _ a' = _
            rw [upd_ne (ne_of z' hl4 (fun q => nomatch q))]
            exact z'
          · show upd H4 l _ t = _
            rw [upd_ne (ne_of hp4 hl4 (fun q => nomatch q))]
            exact hp4
      | false =>
        refine iteF (cnx hi ⟨⟨_, rfl⟩, sm.trans s4, hl4, bs, rfl, ?_⟩)
        rw [tk, List.filter_append, List.filter_cons, if_neg (fun y => nomatch e4.mpr (wby_iff.mp y)), List.filter_nil, List.append_nil]
        exact paired_same s4 pr
  · rintro ys σ H3 ⟨_, sm, hl3, bs, rfl, pr⟩
    rw [List.length_map, Paired.length a2, List.take_length] at pr
    have s13 := s1.trans s2
    exact q l H3 (s13.trans sm) (s13.free hl) ⟨bs, hl3, pr⟩
end
end Sw

set_option linter.all false
set_option maxRecDepth 100000
set_option maxHeartbeats 400000
namespace Sw
open PySem L2 Sh
section
variable {P : Program} {w : World} {K : PySem.W.Frag} {mg : Str → Option Value} {base : Heap}
theorem sc_l_put : FnScope ["rows", "cell", "letter", "r", "c", "line"] ["rows", "cell", "letter"] (defScope s_l_put) := ⟨rfl, rfl, rfl, by decide +kernel, rfl, by decide +kernel, by decide +kernel⟩
theorem cut_to (xs : List V) {r : Nat} (h : r ≤ xs.length) : cutV xs none (some (r : Int)) = xs.take r := by
  have e0 : HT.sIx xs.length 0 none = 0 := by simp [HT.sIx]
  have e1 : HT.sIx xs.length xs.length (some (r : Int)) = r := by
    simp only [HT.sIx]
    split <;> omega
  unfold cutV
  rw [e0, e1, List.drop_zero, Nat.sub_zero]
theorem cut_from (xs : List V) {r : Nat} (h : r ≤ xs.length) : cutV xs (some (r : Int)) none = xs.drop r := by
  have e0 : HT.sIx xs.length xs.length none = xs.length := by simp [HT.sIx]
  have e1 : HT.sIx xs.length 0 (some (r : Int)) = r := by
    simp only [HT.sIx]
    split <;> omega
  unfold cutV
  rw [e0, e1]
  exact List.take_of_length_le (by rw [List.length_drop]; exact Nat.le_refl _)
theorem othS {hd : Nat} (hh : hd = 110 ∨ hd = 119) : atI ([.str "n", .str "w"] : List V) (if decide (V.str ⟨#[hd]⟩ = V.str "n") = true then 1 else 0) = some (.str ⟨#[oth hd]⟩) := by
  rw [n_eq, w_eq]
  rcases hh with rfl | rfl
  · rw [decide_eq_true rfl]; rfl
  · rw [decide_eq_false (fun z => absurd (str1_iff.mp z) (by decide))]; rfl
def sp_l_put : Sp := fun vs H Q _ => ∃ (a t : Addr) (rows : List Str) (h w hd : Nat) (p : Pl), vs = [.ref a, .ref t, .str ⟨#[hd]⟩] ∧ H a = some (.lst (rows.map V.str)) ∧ Rect (rws rows) h w ∧ TupAt H t p ∧ inB h w p ∧ (hd = 110 ∨ hd = 119 ∨ hd = 46) ∧
  ∀ (l : Addr) (rows' : List Str) (H' : Hp), Same H H' → H l = none → H' l = some (.lst (rows'.map V.str)) → rws rows' = lyp (rws rows) p hd → Rect (rws rows') h w → Q (.ref l) H'
theorem ok_l_put (F : Fn K mg "_law_put" s_l_put) : Def P w K mg base 1 "_law_put" ["rows", "cell", "letter"] sp_l_put := by
  refine Def.by F sc_l_put (fun _ _ _ _ _ _ => us3 fun _ _ _ => rfl) (fun vs H Q E h => ?_) (fun f cdv A outer s H vs Q E hr h => ?_)
  · obtain ⟨a, t, rows, h, w, hd, p, rfl, _⟩ := h
    rfl
  obtain ⟨a, t, rows, h, w, hd, p, rfl, ha, R, hT, ib, hh, q⟩ := h
  have w9 := R.w9
  have h9 := R.h9
  have hlen : rows.length = h := by have := R.len; rwa [List.length_map] at this
  have Rl := lyp_rect R ib hh
  obtain ⟨b1, b2, b3, b4⟩ := ib
  obtain ⟨r, hr'⟩ := Int.eq_ofNat_of_zero_le b1
  obtain ⟨c, hc'⟩ := Int.eq_ofNat_of_zero_le b3
  obtain ⟨p1, p2⟩ := p
  simp only at hr' hc' b2 b4
  subst hr' hc'
  obtain ⟨x, hx⟩ : ∃ x, rows[r]? = some x := ⟨rows[r]'(by first | exact lt_eq (by assumption) (by assumption) | assumption | omega), List.getElem?_eq_getElem (by first | exact lt_eq (by assumption) (by assumption) | assumption | omega)⟩
  have xl : x.cps.toList.length = w := R.wid _ (List.mem_map.mpr ⟨x, List.mem_of_getElem? hx, rfl⟩)
  have xl' : x.length = w := by simpa [Str.length] using xl
  refine ⟨_, qss_cons (qs_asg (qv 1) (qg_tup (qgs_cons (qg_name 3 sc_l_put.nd) (qgs_cons (qg_name 4 sc_l_put.nd) qgs_nil))))
    (qss_cons (qs_set 5 sc_l_put.nd (qe_op op_add_str (qe_op op_add_str (qe_slice sl_str (qe_ix ix_list (qv 0) (qv 3)) qo_none (qo_some (qv 4))) (qv 2)) (qe_slice sl_str (qe_ix ix_list (qv 0) (qv 3)) (qo_some (qe_op op_add (qv 4) qe_int)) qo_none)))
    (qss_one (qs_ret (qe_op op_cat (qe_op op_cat (qe_slice sl_list (qv 0) qo_none (qo_some (qv 3))) (qe_lst (qa_cons (qv 5) qa_nil))) (qe_slice sl_list (qv 0) (qo_some (qe_op op_add (qv 3) qe_int)) qo_none))))), ?_⟩
  have at' : atI (rows.map V.str) (r : Int) = some (.str x) := atI_of (by first | exact Int.natCast_nonneg _ | assumption | omega) (by rw [Int.toNat_natCast, List.getElem?_map, hx]; rfl)
  have sl1 := Txt.slice_le x none (some (c : Int))
  have sl2 := Txt.slice_le x (some ((c : Int) + 1)) none
  have l1 : (Txt.slice x none (some (c : Int)) ++ (⟨#[hd]⟩ : Str)).length = (Txt.slice x none (some (c : Int))).length + 1 := by
    show ((Txt.slice x none (some (c : Int))).cps ++ #[hd]).size = _
    rw [Array.size_append]
    rfl
  refine ⟨_, rfl, t, _, rfl, SqT.of hT, rfl, _, _, rfl, _, _, rfl, rfl, ?_⟩
  refine ⟨_, rfl, _, rfl, a, _, r, .str x, rfl, rfl, SqL.of ha, at', _, rfl, _, rfl, x, rfl, le_line (by first | exact le_w (by assumption) (by assumption) | exact le1k (by assumption) (by decide) | omega), _, rfl, _, _, rfl, rfl, le_line (by show (Txt.slice x none (some (c : Int))).length + 1 ≤ 1000; omega), ?_⟩
  refine ⟨_, rfl, _, rfl, a, _, r, .str x, rfl, rfl, SqL.of ha, at', _, rfl, _, _, rfl, rfl, _, rfl, x, rfl, le_line (by first | exact le_w (by assumption) (by assumption) | exact le1k (by assumption) (by decide) | omega), _, _, rfl, rfl, le_line (by rw [l1]; show (Txt.slice x none (some (c : Int))).length + 1 + (Txt.slice x (some ((c : Int) + 1)) none).length ≤ 1000; omega), ?_⟩
  rw [slice_to (by omega), show (c : Int) + 1 = ((c + 1 : Nat) : Int) by omega, slice_from (by omega)]
  have lc := line_codes (x := x) (c := c) (hd := hd) (by omega)
  generalize ((⟨(x.cps.toList.take c).toArray⟩ : Str) ++ (⟨#[hd]⟩ : Str) ++ (⟨(x.cps.toList.drop (c + 1)).toArray⟩ : Str)) = y at lc ⊢
  have ml : (rows.map V.str).length = h := by rw [List.length_map, hlen]
  refine ⟨_, rfl, _, rfl, _, rfl, a, _, rfl, SqL.of ha, fun q1 hq1 => ?_⟩
  rw [cut_to _ (by omega)]
  refine ⟨_, rfl, (by show 1 ≤ sizeLine; decide), fun q2 hq2 => ?_⟩
  have s1 := same_upd (o := .lst ((rows.map V.str).take r)) hq1
  have s2 := same_upd (o := .lst [.str y]) hq2
  refine ⟨q1, q2, _, _, rfl, rfl, s2 _ _ upd_same, upd_same, le_line (by rw [List.length_take]; show _ + 1 ≤ 1000; omega), fun q3 hq3 => ?_⟩
  have s3 := same_upd (o := .lst ((rows.map V.str).take r ++ [.str y])) hq3
  have s13 := s1.trans (s2.trans s3)
  refine ⟨_, rfl, _, rfl, _, _, rfl, rfl, _, rfl, a, _, rfl, SqL.of (s13 _ _ ha), fun q4 hq4 => ?_⟩
  rw [show (r : Int) + 1 = ((r + 1 : Nat) : Int) by omega, cut_from _ (by omega)]
  have s4 := same_upd (o := .lst ((rows.map V.str).drop (r + 1))) hq4
  refine ⟨q3, q4, _, _, rfl, rfl, s4 _ _ upd_same, upd_same, le_line (by rw [List.length_append, List.length_take, List.length_drop]; show _ + 1 + _ ≤ 1000; omega), fun q5 hq5 => ?_⟩
  have s14 := s13.trans s4
  have em : (rows.map V.str).take r ++ [.str y] ++ (rows.map V.str).drop (r + 1) = (rows.set r y).map V.str := by
    rw [List.map_set, List.set_eq_take_append_cons_drop, if_pos (by omega)]
    simp
  rw [em]
  have er : rws (rows.set r y) = lyp (rws rows) ((r : Int), (c : Int)) hd := by
    rw [lyp_nat, map_set_codes, lc]
    unfold layd
    congr 1
    rw [List.getD_eq_getElem?_getD, List.getElem?_map, hx]
    rfl
  exact q q5 (rows.set r y) _ (s14.upd hq5) (s14.free hq5) upd_same er (by rw [er]; exact Rl)
end
end Sw

set_option linter.all false
set_option maxRecDepth 100000
set_option maxHeartbeats 400000
namespace Sw
open PySem L2 Sh
section
variable {P : Program} {w : World} {K : PySem.W.Frag} {mg : Str → Option Value} {base : Heap}
theorem sc_l_free : FnScope ["rows", "found", "r"] ["rows"] (defScope s_l_free) := ⟨rfl, rfl, rfl, by decide +kernel, rfl, by decide +kernel, by decide +kernel⟩
def sp_l_free : Sp := fun vs H Q _ => ∃ (a : Addr) (rows : List Str) (h w : Nat), vs = [.ref a] ∧ H a = some (.lst (rows.map V.str)) ∧ Rect (rws rows) h w ∧
  ∀ l H', Same H H' → H l = none → ListPl H' l (emp h w (rws rows)) → Q (.ref l) H'
theorem emp_take (h w : Nat) (rr : Rws) (k : Nat) (hk : k ≤ 9) (w9 : w ≤ 9) : (((List.range k).flatMap (rowc w)).filter (isE rr)).length ≤ 81 := by
  refine Nat.le_trans (List.length_filter_le _ _) ?_
  have : ((List.range k).flatMap (rowc w)).length = k * w := by
    rw [List.length_flatMap]
    have : (List.map (fun a => (rowc w a).length) (List.range k)) = List.replicate k w := by
      refine List.ext_getElem (by simp) fun i h1 h2 => ?_
      simp [rowc]
    rw [this]
    simp
  rw [this]
  exact Nat.le_trans (Nat.mul_le_mul hk w9) (by decide)
theorem ok_l_free (B : Bt mg) (F : Fn K mg "_law_free" s_l_free) : Def P w K mg base 1 "_law_free" ["rows"] sp_l_free := by
  refine Def.by F sc_l_free (fun _ _ _ _ _ _ => us1 fun _ => rfl) (fun vs H Q E h => ?_) (fun f cdv A outer s H vs Q E hr h => ?_)
  · obtain ⟨a, rows, h, w, rfl, _⟩ := h
    rfl
  obtain ⟨a, rows, h, w, rfl, ha, R, q⟩ := h
  have h9 := R.h9
  have w9 := R.w9
  have t2 : 2 ≤ sizeLine := by decide
  have hlen : rows.length = h := by have := R.len; rwa [List.length_map] at this
  refine ⟨_, qss_cons (qs_set 1 sc_l_free.nd (qe_lst qa_nil))
    (qss_cons (qs_for (qi_range1 B.range (qa_cons (qe_callB call_len0 B.len PySem.boot_len (qa_cons (qv 0) qa_nil)) qa_nil)) (qg_name 2 sc_l_free.nd) (qss_one (qs_set 1 sc_l_free.nd (qe_op op_cat (qv 1) (qe_lcomp ["c"] ["rows", "r"] [0, 2] (qi_range1 B.range (qa_cons (qe_callB call_len_str B.len PySem.boot_len (qa_cons (qe_ix ix_list0 (qv 0) (qv 2)) qa_nil)) qa_nil)) (fun _ _ _ _ => qg_name 0 (by show List.Nodup ([("c" : Str)] ++ [("rows" : Str), ("r" : Str)]); decide +kernel)) (fun _ _ _ _ => qts_one (qt_cmp op_eq (qe_ix ix_str (qe_ix ix_list0 (qv 1) (qv 2)) (qv 0)) qe_str)) (fun _ _ _ _ => qe_tup (qa_cons (qv 2) (qa_cons (qv 0) qa_nil))))))))
    (qss_one (qs_ret (qv 1)))), ?_⟩
  refine ⟨(by show 0 ≤ sizeLine; decide), fun l0 hl0 => ?_⟩
  have s0 := same_upd (o := .lst []) hl0
  have ml : (rows.map V.str).length = h := by rw [List.length_map, hlen]
  refine ⟨_, rfl, a, _, rfl, (s0 _ _ ha), _, rfl, (by first | exact rngL _ | omega), (by first | exact rngH (by assumption) | omega), ?_⟩
  rw [ml, Int.toNat_natCast]
  refine for_goesO goes_range (fun i σ H' => ∃ (v2 : Option V) (l : Addr) (as : List Addr), σ = [some (.ref a), some (.ref l), v2] ∧ Same H H' ∧ H l = none ∧ H' l = some (.lst (as.map V.ref)) ∧ Paired (TupAt H') as (((List.range i).flatMap (rowc w)).filter (isE (rws rows))))
    ⟨_, l0, [], rfl, s0, hl0, upd_same, .nil⟩ (fun _ _ _ _ _ => trivial) ?_ ?_
  · rintro Pw Rt Bk hw hrt i x σ H1 hi hy ⟨v2, l, as, rfl, s1, nl, hl, pr⟩
    subst hy
    obtain ⟨row, hrow⟩ : ∃ row, rows[i]? = some row := ⟨rows[i]'(by first | exact lt_eq (by assumption) (by assumption) | assumption | omega), List.getElem?_eq_getElem (by first | exact lt_eq (by assumption) (by assumption) | assumption | omega)⟩
    have rl : row.length = w := by
      have := R.wid row.cps.toList (List.mem_map.mpr ⟨row, List.mem_of_getElem? hrow, rfl⟩)
      simpa [Str.length] using this
    have rl' : row.cps.toList.length = w := by simpa [Str.length] using rl
    have at' : atI (rows.map V.str) (0 + (i : Int)) = some (.str row) := by rw [Int.zero_add]; exact atI_of (by first | exact Int.natCast_nonneg _ | assumption | omega) (by rw [Int.toNat_natCast, List.getElem?_map, hrow]; rfl)
    refine ⟨_, rfl, _, rfl, _, rfl, a, _, _, .str row, rfl, rfl, (s1 _ _ ha), at', row, rfl, le_line (by first | exact le_w (by assumption) (by assumption) | exact le1k (by assumption) (by decide) | omega), _, rfl, (by first | exact rngL _ | omega), (by first | exact rngH (by assumption) | omega), fun m hm => ?_⟩
    rw [rl, Int.toNat_natCast]
    refine comp_goes goes_range (fun j ys σ H' => (∃ v, σ = [v, some (.ref a), some (.int (0 + (i : Int)))]) ∧ Same H1 H' ∧ H' m = some (.lst ys) ∧ ∃ bs : List Addr, ys = bs.map V.ref ∧ Paired (TupAt H') bs (((List.range j).map fun (c : Nat) => ((i : Int), (c : Int))).filter (isE (rws rows))))
      ⟨⟨_, rfl⟩, same_upd hm, upd_same, [], rfl, .nil⟩ (fun j ys σ H' _ z => ⟨trivial, z.2.2.1⟩) ?_ ?_
    · rintro j x ys σ H2 hj hy ⟨⟨v, rfl⟩, sm, hm2, bs, rfl, pr2⟩
      subst hy
      obtain ⟨ch, hch⟩ : ∃ ch, row.cps.toList[j]? = some ch := ⟨row.cps.toList[j]'(by first | exact lt_eq (by assumption) (by assumption) | assumption | omega), List.getElem?_eq_getElem (by first | exact lt_eq (by assumption) (by assumption) | assumption | omega)⟩
      have ac : at2 (rws rows) ((i : Int), (j : Int)) = some ch := by
        rw [at2_nat, List.getElem?_map, hrow]
        exact hch
      have tk : (((List.range (j + 1)).map fun (c : Nat) => ((i : Int), (c : Int))).filter (isE (rws rows))) = ((List.range j).map fun (c : Nat) => ((i : Int), (c : Int))).filter (isE (rws rows)) ++ (if ch = 46 then [((i : Int), (j : Int))] else []) := by
        rw [List.range_succ, List.map_append, List.filter_append]
        congr 1
        show List.filter (isE (rws rows)) [((i : Int), (j : Int))] = _
        rw [List.filter_cons]
        unfold isE
        rw [ac]
        by_cases z : ch = 46
        · rw [if_pos z, if_pos (decide_eq_true (by rw [z]))]; rfl
        · rw [if_neg z, if_neg (by rw [decide_eq_true_iff]; intro y; exact z (Option.some.inj y))]; rfl
      refine ⟨_, rfl, _, rfl, a, _, _, .str row, rfl, rfl, (sm _ _ (s1 _ _ ha)), at', _, rfl, row, _, ch, rfl, rfl, le_line (by first | exact le_w (by assumption) (by assumption) | exact le1k (by assumption) (by decide) | omega), (by rw [Int.zero_add]; exact atI_of (by first | exact Int.natCast_nonneg _ | assumption | omega) (by rw [Int.toNat_natCast]; exact hch)), rfl, _, rfl, ?_⟩
      refine ite2 (fun g => ?_) (fun g => ?_)
      · have g : ch = 46 := by
          have z := of_decide_eq_true g
          rw [d_eq, str1_iff] at z
          exact z
        have lb : bs.length ≤ 9 := by
          rw [Paired.length pr2]
          refine Nat.le_trans (List.length_filter_le _ _) ?_
          rw [List.length_map, List.length_range]
          omega
        refine ⟨_, rfl, _, rfl, t2, fun t ht => ?_⟩
        refine ⟨by rw [upd_ne (ne_of_none hm2 ht)]; exact hm2, by rw [List.length_map]; exact small1000 (by first | exact lt1k (by assumption) (by decide) | omega), cnx hj ⟨⟨_, rfl⟩, fun b' o z => ?_, upd_same, bs ++ [t], by rw [List.map_append]; rfl, ?_⟩⟩
        · rw [upd_ne (ne_of_none z hm)]
          exact (sm.upd ht) _ _ z
        · rw [tk, if_pos g]
          refine Paired.snoc (Paired.mapP pr2 fun a' p' z => ?_) ?_
          · have z' : H2 a' = some _ := z
            show upd (upd H2 t _) m _ a' = _
            rw [upd_ne (ne_of z' hm2 (fun y => nomatch y)), upd_ne (ne_of_none z' ht)]
            exact z'
          · show upd (upd H2 t _) m _ t = _
            rw [upd_ne (ne_of_none hm2 ht).symm, upd_same, Int.zero_add, Int.zero_add]
      · have g : ¬ ch = 46 := fun z => g (decide_eq_true (by rw [d_eq, z]))
        refine cnx hj ⟨⟨_, rfl⟩, sm, hm2, bs, rfl, ?_⟩
        rw [tk, if_neg g, List.append_nil]
        exact pr2
    · rintro ys σ H2 ⟨_, sm, hm2, bs, rfl, pr2⟩
      have e1 : ((List.range (i + 1)).flatMap (rowc w)).filter (isE (rws rows)) = ((List.range i).flatMap (rowc w)).filter (isE (rws rows)) ++ ((List.range w).map fun (c : Nat) => ((i : Int), (c : Int))).filter (isE (rws rows)) := by
        rw [List.range_succ, List.flatMap_append, List.filter_append, List.flatMap_cons, List.flatMap_nil, List.append_nil]
        rfl
      have a1 := emp_take h w (rws rows) (i + 1) (by omega) w9
      rw [e1, List.length_append] at a1
      refine ⟨l, m, _, _, rfl, rfl, sm _ _ hl, hm2, ?_, fun l' hl' => ?_⟩
      · rw [List.length_map, List.length_map, Paired.length pr, Paired.length pr2]
        exact le_line (by first | exact le_w (by assumption) (by assumption) | exact le1k (by assumption) (by decide) | omega)
      · refine hw _ _ _ ⟨_, l', as ++ bs, rfl, (s1.trans sm).upd hl', (s1.trans sm).free hl', by rw [upd_same, List.map_append], ?_⟩
        rw [e1]
        exact paired_same (same_upd hl') (paired_app (paired_same sm pr) pr2)
  · rintro σ H1 ⟨v2, l, as, rfl, s1, nl, hl, pr⟩
    exact ⟨_, rfl, q l H1 s1 nl ⟨as, hl, pr⟩⟩
end
end Sw

set_option linter.all false
set_option maxRecDepth 100000
set_option maxHeartbeats 400000
namespace Sw
open PySem L2 Sh
section
variable {P : Program} {w : World} {K : PySem.W.Frag} {mg : Str → Option Value} {base : Heap}
theorem sc_l_road : FnScope ["rows", "hand", "side", "height", "width", "ways", "seen", "k", "cell", "at", "here", "dr", "dc", "inside"] ["rows", "hand"] (defScope s_l_road) := ⟨rfl, rfl, rfl, by decide +kernel, rfl, by decide +kernel, by decide +kernel⟩
def sp_l_road : Sp := fun vs H Q _ => ∃ (a : Addr) (rows : List Str) (h w : Nat) (hd : Nat), vs = [.ref a, .str ⟨#[hd]⟩] ∧ (hd = 110 ∨ hd = 119) ∧ H a = some (.lst (rows.map V.str)) ∧ Rect (rws rows) h w ∧
  (∀ H', Same H H' → ¬ Jnd (rws rows) h w hd → Q .non H') ∧ ∀ l ps H', Same H H' → H l = none → ListPl H' l ps → Jnd (rws rows) h w hd → ps ≠ [] → ps.length ≤ 81 → (∀ p ∈ ps, at2 (rws rows) p = some hd) → Q (.ref l) H'
theorem pickR (sb : Bool) (a b : Addr) : atI [V.ref a, V.ref b] (if sb = true then 1 else 0) = some (.ref (if sb = true then b else a)) := by cases sb <;> rfl
theorem pickN (sb : Bool) (a b : Int) : atI [V.int a, V.int b] (if sb = true then 1 else 0) = some (.int (if sb = true then b else a)) := by cases sb <;> rfl
theorem shore_at {h w hd : Nat} {k : Nat} (hk : k < (if hd = 119 then h else w)) : (shore h w hd)[k]? = some (if hd = 119 then ((k : Int), (0 : Int)) else ((0 : Int), (k : Int))) := by
  unfold shore
  by_cases e : hd = 119
  · rw [if_pos e] at hk
    rw [if_pos e, if_pos e, List.getElem?_map, List.getElem?_range hk]
    rfl
  · rw [if_neg e] at hk
    rw [if_neg e, if_neg e, List.getElem?_map, List.getElem?_range hk]
    rfl
theorem shore_ln {h w hd : Nat} : (shore h w hd).length = (if hd = 119 then h else w) := by
  unfold shore
  split <;> simp
theorem shore_in {h w hd : Nat} (h1 : 1 ≤ h) (w1 : 1 ≤ w) {p : Pl} (m : p ∈ shore h w hd) : inB h w p := by
  unfold shore at m
  split at m
  · obtain ⟨r, hr, rfl⟩ := List.mem_map.mp m
    have := List.mem_range.mp hr
    exact ⟨by simp only; omega, by simp only; omega, by simp only; omega, by simp only; omega⟩
  · obtain ⟨r, hr, rfl⟩ := List.mem_map.mp m
    have := List.mem_range.mp hr
    exact ⟨by simp only; omega, by simp only; omega, by simp only; omega, by simp only; omega⟩
theorem ok_l_road (B : Bt mg) (F : Fn K mg "_law_road" s_l_road) : Def P w K mg base 1 "_law_road" ["rows", "hand"] sp_l_road := by
  refine Def.by F sc_l_road (fun _ _ _ _ _ _ => us2 fun _ _ => rfl) (fun vs H Q E h => ?_) (fun f cdv A outer s H vs Q E hr h => ?_)
  · obtain ⟨a, rows, h, w, hd, rfl, _⟩ := h
    rfl
  obtain ⟨a, rows, h, w, hd, rfl, hh, ha, R, qn, qy⟩ := h
  have hu := hu_of hr
  have h1 := R.h1
  have h9 := R.h9
  have w1 := R.w1
  have w9 := R.w9
  have hlen : rows.length = h := by have := R.len; rwa [List.length_map] at this
  obtain ⟨r0, hr0⟩ : ∃ r0, rows[0]? = some r0 := ⟨rows[0], List.getElem?_eq_getElem (by first | exact lt_eq (by assumption) (by assumption) | assumption | omega)⟩
  have l0 : r0.length = w := by
    have := R.wid r0.cps.toList (List.mem_map.mpr ⟨r0, List.mem_of_getElem? hr0, rfl⟩)
    simpa [Str.length] using this
  have t2 : 2 ≤ sizeLine := by decide
  have at0 : atI (rows.map V.str) 0 = some (.str r0) := atI_of (by decide) (by rw [List.getElem?_map]; simp only [Int.toNat_zero]; rw [hr0]; rfl)
  refine ⟨_, qss_cons (qs_set 2 sc_l_road.nd (qe_callTy call_int1 B.int PyProof.Rows.boot_int (qa_cons (qe_cmp op_eq (qv 1) qe_str) qa_nil)))
    (qss_cons (qs_par 3 4 sc_l_road.nd (qa_cons (qe_callB call_len0 B.len PySem.boot_len (qa_cons (qv 0) qa_nil)) (qa_cons (qe_callB call_len_str B.len PySem.boot_len (qa_cons (qe_ix ix_list0 (qv 0) qe_int) qa_nil)) qa_nil)))
    (qss_cons (qs_set 5 sc_l_road.nd (qe_lst qa_nil))
    (qss_cons (qs_set 6 sc_l_road.nd qe_dnewT)
    (qss_cons (qs_for (qi_range1 B.range (qa_cons (qe_ix ix_list0 (qe_lst (qa_cons (qv 4) (qa_cons (qv 3) qa_nil))) (qv 2)) qa_nil)) (qg_name 7 sc_l_road.nd) (qss_cons (qs_set 8 sc_l_road.nd (qe_ix ix_list0 (qe_lst (qa_cons (qe_tup (qa_cons qe_int (qa_cons (qv 7) qa_nil))) (qa_cons (qe_tup (qa_cons (qv 7) (qa_cons qe_int qa_nil))) qa_nil))) (qv 2)))
    (qss_one (qs_if (qt_cmp op_eq (qe_ix ix_str (qe_ix ix_list0 (qv 0) (qe_ix ix_tup0 (qv 8) qe_int)) (qe_ix ix_tup0 (qv 8) qe_int)) (qv 1)) (qss_cons (qs_expr (qe_app (qv 5) (qe_lst (qa_cons (qv 8) qa_nil))))
    (qss_one (qs_dput hu (qv 6) (qv 8) qe_bl))) qss_nil))))
    (qss_cons (qs_set 9 sc_l_road.nd qe_int)
    (qss_cons (qs_while (qt_cmp op_lt (qv 9) (qe_callB call_len0 B.len PySem.boot_len (qa_cons (qv 5) qa_nil))) (qss_cons (qs_set 10 sc_l_road.nd (qe_ix ix_list0 (qe_ix ix_list0 (qv 5) (qv 9)) (qe_un un_neg qe_int)))
    (qss_cons (qs_if (qt_cmp op_eq (qe_ix ix_tup0 (qv 10) (qv 2)) (qe_op op_sub (qe_ix ix_list0 (qe_lst (qa_cons (qv 3) (qa_cons (qv 4) qa_nil))) (qv 2)) qe_int)) (qss_one (qs_ret (qe_ix ix_list0 (qv 5) (qv 9)))) qss_nil)
    (qss_cons (qs_for (qi_list (qe_lst (qa_cons (qe_tup (qa_cons (qe_un un_neg qe_int) (qa_cons qe_int qa_nil))) (qa_cons (qe_tup (qa_cons (qe_un un_neg qe_int) (qa_cons qe_int qa_nil))) (qa_cons (qe_tup (qa_cons qe_int (qa_cons qe_int qa_nil))) (qa_cons (qe_tup (qa_cons qe_int (qa_cons qe_int qa_nil))) (qa_cons (qe_tup (qa_cons qe_int (qa_cons (qe_un un_neg qe_int) qa_nil))) (qa_cons (qe_tup (qa_cons qe_int (qa_cons (qe_un un_neg qe_int) qa_nil))) qa_nil)))))))) (qg_tup (qgs_cons (qg_name 11 sc_l_road.nd) (qgs_cons (qg_name 12 sc_l_road.nd) qgs_nil))) (qss_cons (qs_set 8 sc_l_road.nd (qe_tup (qa_cons (qe_op op_add (qe_ix ix_tup0 (qv 10) qe_int) (qv 11)) (qa_cons (qe_op op_add (qe_ix ix_tup0 (qv 10) qe_int) (qv 12)) qa_nil))))
    (qss_cons (qs_set 13 sc_l_road.nd (qe_and (qe_chain op_le op_lt qe_int (qe_ix ix_tup0 (qv 8) qe_int) (qv 3)) (qe_one (qe_chain op_le op_lt qe_int (qe_ix ix_tup0 (qv 8) qe_int) (qv 4)))))
    (qss_one (qs_if (qt_w (qw_and (qt_val (qv 13)) (qw_and (qt_dnotin hu (qv 8) (qv 6)) (qw_and1 (qt_cmp op_eq (qe_ix ix_str (qe_ix ix_list0 (qv 0) (qe_ix ix_tup0 (qv 8) qe_int)) (qe_ix ix_tup0 (qv 8) qe_int)) (qv 1)))))) (qss_cons (qs_dput hu (qv 6) (qv 8) qe_bl)
    (qss_one (qs_expr (qe_app (qv 5) (qe_op op_cat (qe_ix ix_list0 (qv 5) (qv 9)) (qe_lst (qa_cons (qv 8) qa_nil))))))) qss_nil)))))
    (qss_one (qs_set 9 sc_l_road.nd (qe_op op_add (qv 9) qe_int)))))))
    (qss_one (qs_ret qe_non)))))))), ?_⟩
  refine ⟨_, rfl, rfl, .inr ⟨decide (hd = 119), by rw [side_is], ?_⟩⟩
  have sbv : decide (hd = 119) = true ↔ hd = 119 := decide_eq_true_iff
  have sbe : ∀ {α : Type} (x y : α), (if decide (hd = 119) = true then x else y) = if hd = 119 then x else y := fun x y => by
    by_cases e : hd = 119
    · rw [if_pos (sbv.mpr e), if_pos e]
    · rw [if_neg (fun z => e (sbv.mp z)), if_neg e]
  generalize decide (hd = 119) = sb at sbv sbe ⊢
  refine ⟨_, rfl, a, _, rfl, ha, _, rfl, a, _, 0, .str r0, rfl, rfl, ha, at0, r0, rfl, le_line (by first | exact le_w (by assumption) (by assumption) | exact le1k (by assumption) (by decide) | omega), _, _, rfl, ?_⟩
  rw [List.length_map, hlen, l0]
  refine ⟨(by show 0 ≤ sizeLine; decide), fun l hl => ?_⟩
  intro d hd0
  have F0 : WI H (upd (upd H l (.lst [])) d (.dT [])) d l [] [] [] := by
    have e1 : H d = none := (same_upd hl).free hd0
    refine ⟨hl, e1, (same_upd hl).upd hd0, ⟨[], ?_, .nil⟩, upd_same, rfl⟩
    rw [upd_ne (ne_of_none upd_same hd0), upd_same]
    rfl
  generalize upd (upd H l (.lst [])) d (.dT []) = HB at F0 ⊢
  refine ⟨_, rfl, _, rfl, t2, fun q1 hq1 => ⟨_, rfl, q1, _, _, .int (if sb = true then (h : Int) else (w : Int)), rfl, rfl, upd_same, pickN sb _ _, _, rfl, ?_, ?_, ?_⟩⟩
  · show (-(2 : Int) ^ 62) ≤ if sb = true then (h : Int) else (w : Int)
    split <;> omega
  · show (if sb = true then (h : Int) else (w : Int)) < 2 ^ 62
    split <;> omega
  have F0 := F0.same (same_upd (o := .lst [.int w, .int h]) hq1)
  generalize upd HB q1 (.lst [.int w, .int h]) = HC at F0 ⊢
  have em : (if sb = true then (h : Int) else (w : Int)).toNat = (if hd = 119 then h else w) := by
    rw [sbe]
    split <;> simp
  rw [em]
  have snd : (shoreS rows h w hd).Nodup := (shore_nd h w hd).filter _
  refine for_goesO goes_range (fun i σ H' => ∃ (v7 v8 : Option V) (kvs : List (List Key × V)), σ = [some (.ref a), some (.str ⟨#[hd]⟩), some (.int (if sb = true then 1 else 0)), some (.int h), some (.int w), some (.ref l), some (.ref d), v7, v8, none, none, none, none, none] ∧
      WI H H' d l (((shore h w hd).take i).filter fun p => decide (at2 (rws rows) p = some hd)) ((((shore h w hd).take i).filter fun p => decide (at2 (rws rows) p = some hd)).map fun p => [p]) kvs)
    ⟨none, none, [], rfl, F0⟩ (fun _ _ _ _ _ => trivial) ?_ ?_
  · rintro Pw Rt Bk hw hrt i x σ H1 hi hy ⟨v7, v8, kvs, rfl, F1⟩
    subst hy
    have hsi := shore_at hi
    rw [← sbe] at hsi
    have pm : (if sb = true then ((i : Int), (0 : Int)) else ((0 : Int), (i : Int))) ∈ shore h w hd := List.mem_of_getElem? hsi
    have tk : ((shore h w hd).take (i + 1)) = (shore h w hd).take i ++ [if sb = true then ((i : Int), (0 : Int)) else ((0 : Int), (i : Int))] := by rw [List.take_succ, hsi]; rfl
    have ib := shore_in h1 w1 pm
    have np : (if sb = true then ((i : Int), (0 : Int)) else ((0 : Int), (i : Int))) ∉ ((shore h w hd).take i).filter fun p => decide (at2 (rws rows) p = some hd) := fun m => by
      have m1 := (List.mem_filter.mp m).1
      have nd := shore_nd h w hd
      rw [← List.take_append_drop (i + 1) (shore h w hd), tk] at nd
      exact (List.nodup_append.mp (List.nodup_append.mp nd).1).2.2 _ m1 _ (by simp) rfl
    refine ⟨_, rfl, t2, fun p1 hp1 => ⟨_, rfl, t2, fun p2 hp2 => ⟨t2, fun p3 hp3 => ⟨_, rfl, p3, _, _, _, rfl, rfl, upd_same, pickR sb _ _, ?_⟩⟩⟩⟩
    have g3 := same_upd (o := .lst [.ref p1, .ref p2]) hp3
    have g2 := (same_upd (o := .tup [.int (0 + (i : Int)), .int 0]) hp2).trans g3
    have g1 := (same_upd (o := .tup [.int 0, .int (0 + (i : Int))]) hp1).trans g2
    have e1 := g2 _ _ (upd_same (H := H1) (a := p1) (o := .tup [.int 0, .int (0 + (i : Int))]))
    have e2 := g3 _ _ (upd_same (a := p2) (o := .tup [.int (0 + (i : Int)), .int 0]))
    have F2 := F1.same g1
    have tp : TupAt (upd (upd (upd H1 p1 (.tup [.int 0, .int (0 + (i : Int))])) p2 (.tup [.int (0 + (i : Int)), .int 0])) p3 (.lst [.ref p1, .ref p2])) (if sb = true then p2 else p1) (if sb = true then ((i : Int), (0 : Int)) else ((0 : Int), (i : Int))) := by
      unfold TupAt
      cases sb
      · exact e1.trans (by rw [Int.zero_add]; rfl)
      · exact e2.trans (by rw [Int.zero_add]; rfl)
    generalize upd (upd (upd H1 p1 (.tup [.int 0, .int (0 + (i : Int))])) p2 (.tup [.int (0 + (i : Int)), .int 0])) p3 (.lst [.ref p1, .ref p2]) = H2 at F2 tp ⊢
    generalize (if sb = true then p2 else p1) = tc at tp ⊢
    generalize (if sb = true then ((i : Int), (0 : Int)) else ((0 : Int), (i : Int))) = c at tp ib np tk pm ⊢
    have tv : H2 tc = some (.tup [.int c.1, .int c.2]) := tp
    obtain ⟨row, ch, e1', e2', e3', e4'⟩ := cell_in R (r := c.1) (c := c.2) ib
    have hS2 : H2 a = some (.lst (rows.map V.str)) := F2.sm _ _ ha
    refine ⟨_, rfl, _, rfl, tc, _, 0, .int c.1, rfl, rfl, tv, rfl, a, _, _, .str row, rfl, rfl, hS2, atI_of ib.1 (by rw [List.getElem?_map, e1']; rfl), _, rfl, tc, _, 1, .int c.2, rfl, rfl, tv, rfl, row, _, ch, rfl, rfl, le_line (by first | exact le_w (by assumption) (by assumption) | exact le1k (by assumption) (by decide) | omega), atI_of ib.2.2.1 e2', _, rfl, rfl, _, rfl, ?_⟩
    refine ite2 (fun g => ?_) (fun g => ?_)
    · have g : ch = hd := str1_iff.mp (of_decide_eq_true g)
      subst g
      have fl : (((shore h w ch).take (i + 1)).filter fun p => decide (at2 (rws rows) p = some ch)) = (((shore h w ch).take i).filter fun p => decide (at2 (rws rows) p = some ch)) ++ [c] := by
        rw [tk, List.filter_append]
        congr 1
        rw [List.filter_cons, if_pos (decide_eq_true (show at2 (rws rows) c = some ch from e3'))]
        rfl
      have ln : (((shore h w ch).take i).filter fun p => decide (at2 (rws rows) p = some ch)).length ≤ 9 := by
        refine Nat.le_trans (List.length_filter_le _ _) ?_
        rw [List.length_take]
        have := shore_len (hd := ch) h9 w9
        omega
      generalize (((shore h w ch).take i).filter fun p => decide (at2 (rws rows) p = some ch)) = ps at F2 np ln fl
      obtain ⟨as, y1, y2⟩ := id F2.wl
      have al : as.length ≤ 9 := by rw [Paired.length y2, List.length_map]; exact ln
      refine ⟨_, rfl, l, _, rfl, y1, _, rfl, (by show 1 ≤ sizeLine; decide), fun n hn => ?_⟩
      have sn := same_upd (o := .lst [.ref tc]) hn
      have F3 := F2.same sn
      have y1' := sn _ _ y1
      have wn : WayAt H l (upd H2 n (.lst [.ref tc])) n [c] := ⟨(fun z => by rw [z, y1] at hn; cases hn), F2.sm.free hn, [tc], upd_same, .cons (sn _ _ tv) .nil⟩
      have tv3 := sn _ _ tv
      refine ⟨_, _, rfl, y1', by rw [List.length_map]; exact small1000 (by first | exact lt1k (by assumption) (by decide) | omega), ?_⟩
      have F4 := F3.app wn y1'
      have tv4 : TupAt (upd (upd H2 n (.lst [.ref tc])) l (.lst (as.map V.ref ++ [.ref n]))) tc c := by
        show upd _ l _ tc = _
        rw [upd_ne (ne_of tv3 y1' (fun y => nomatch y))]
        exact tv3
      generalize upd (upd H2 n (.lst [.ref tc])) l (.lst (as.map V.ref ++ [.ref n])) = H4 at F4 tv4 ⊢
      refine ⟨_, rfl, _, rfl, d, _, rfl, DPut.t F4.dd (tup_pk tv4) (small1000 (by rw [F4.len]; omega)), hw _ _ _ ?_⟩
      rw [fl]
      refine ⟨_, _, kvs ++ [(pk c, .bl true)], rfl, ?_⟩
      rw [List.map_append]
      exact F4.put (.bl true) np
    · have g : ¬ at2 (rws rows) c = some hd := fun z => by
        have z' : at2 (rws rows) (c.1, c.2) = some hd := z
        rw [e3'] at z'
        exact g (decide_eq_true (str1_iff.mpr (Option.some.inj z')))
      have fl : (((shore h w hd).take (i + 1)).filter fun p => decide (at2 (rws rows) p = some hd)) = (((shore h w hd).take i).filter fun p => decide (at2 (rws rows) p = some hd)) := by
        rw [tk, List.filter_append, List.filter_cons, if_neg (by rw [decide_eq_true_iff]; exact g), List.filter_nil, List.append_nil]
      refine hw _ _ _ ?_
      rw [fl]
      exact ⟨_, _, kvs, rfl, F2⟩
  · rintro σ H1 ⟨v7, v8, kvs, rfl, F1⟩
    have tl : (shore h w hd).take (if hd = 119 then h else w) = shore h w hd := List.take_of_length_le (by rw [shore_ln]; exact Nat.le_refl _)
    rw [tl] at F1
    have F1 : WI H H1 d l (shoreS rows h w hd) ((shoreS rows h w hd).map fun p => [p]) kvs := F1
    have st0 : ∀ p ∈ shoreS rows h w hd, Stn (rws rows) hd p ∧ src hd p := fun p hp => by
      obtain ⟨g1, g2⟩ := List.mem_filter.mp hp
      have g2 : at2 (rws rows) p = some hd := of_decide_eq_true g2
      exact ⟨g2, shore_src g1⟩
    have Y1 : Wys (rws rows) h w hd (shoreS rows h w hd) ((shoreS rows h w hd).map fun p => [p]) := by
      refine ⟨snd, fun p hp => .base (st0 p hp).1 (st0 p hp).2, by rw [List.length_map], fun i way e => ?_⟩
      rw [List.getElem?_map] at e
      cases e1 : (shoreS rows h w hd)[i]? with
      | none => rw [e1] at e; cases e
      | some p =>
        rw [e1] at e
        have e : [p] = way := Option.some.inj e
        subst e
        refine ⟨[], p, rfl, rfl, Nat.zero_le _, fun q hq => ?_⟩
        rw [List.mem_singleton.mp hq]
        exact (st0 p (List.mem_of_getElem? e1)).1
    have sh1 : ∀ p ∈ shoreS rows h w hd, p ∈ shoreS rows h w hd := fun p hp => hp
    generalize hps : shoreS rows h w hd = ps0 at F1 Y1
    rw [hps] at sh1
    refine while_wO (fun σ H' => ∃ (v7 v8 v10 v11 v12 v13 : Option V) (ps : List Pl) (ws : List (List Pl)) (kvs : List (List Key × V)) (k : Nat), σ = [some (.ref a), some (.str ⟨#[hd]⟩), some (.int (if sb = true then 1 else 0)), some (.int h), some (.int w), some (.ref l), some (.ref d), v7, v8, some (.int (k : Nat)), v10, v11, v12, v13] ∧
        WI H H' d l ps ws kvs ∧ Wys (rws rows) h w hd ps ws ∧ k ≤ ps.length ∧ (∀ p ∈ ps0, p ∈ ps) ∧ ∀ p ∈ ps.take k, ¬ goal h w hd p ∧ ∀ q, Nb p q → Stn (rws rows) hd q → q ∈ ps) (muI 81 9)
      ⟨_, _, _, _, _, _, ps0, _, kvs, 0, rfl, F1, Y1, Nat.zero_le _, sh1, by simp⟩ ?_
    clear Y1 F1 sh1
    rintro De Rt hde hrt σ H1 ⟨v7, v8, v10, v11, v12, v13, ps, ws, kvs, k, rfl, F1, Y1, hk, sh1, cl1⟩ Nx hnx
    obtain ⟨as, y1, y2⟩ := id F1.wl
    have l81 := Y1.len R
    have al : as.length = ps.length := by rw [Paired.length y2, Y1.en]
    refine ⟨_, rfl, _, rfl, l, _, rfl, y1, _, _, rfl, rfl, _, rfl, ?_⟩
    refine ite2 (fun c1 => ?_) (fun c1 => ?_)
    · have c1 := of_decide_eq_true c1
      rw [List.length_map, al] at c1
      have kl : k < ps.length := by omega
      refine ⟨Nx, fun _ _ z => z, ?_⟩
      obtain ⟨way, hway⟩ : ∃ way, ws[k]? = some way := ⟨ws[k]'(by rw [Y1.en]; exact kl), List.getElem?_eq_getElem _⟩
      obtain ⟨pre, c, rfl, hc, hpre, hst⟩ := Y1.wy k way hway
      obtain ⟨wa, ea, WA⟩ := paired_get y2 hway
      obtain ⟨ts, z1, z2⟩ := id WA.at'
      have atk : atI (as.map V.ref) (k : Int) = some (.ref wa) := atI_of (by first | exact Int.natCast_nonneg _ | assumption | omega) (by rw [Int.toNat_natCast, List.getElem?_map, ea]; rfl)
      obtain ⟨ts', t, rfl, ht⟩ : ∃ ts' t, ts = ts' ++ [t] ∧ TupAt H1 t c := by
        have hl' := Paired.length z2
        rw [List.length_append] at hl'
        obtain ⟨t, e, ht⟩ := paired_get (i := pre.length) (b := c) z2 (by simp)
        refine ⟨ts.take pre.length, t, ?_, ht⟩
        have e2 : ts.take (pre.length + 1) = ts := List.take_of_length_le (by rw [hl']; exact Nat.le_refl _)
        have e3 := List.take_succ (l := ts) (i := pre.length)
        rw [e, e2] at e3
        exact e3
      have tv : H1 t = some (.tup [.int c.1, .int c.2]) := ht
      have cst : Stn (rws rows) hd c := hst c (by simp)
      refine ⟨_, rfl, _, rfl, l, _, k, .ref wa, rfl, rfl, y1, atk, _, rfl, wa, _, -1, .ref t, rfl, rfl, z1, (by rw [List.map_append]; exact atI_last _ _), ?_⟩
      refine ⟨_, rfl, _, rfl, t, _, _, _, rfl, rfl, tv, pickN sb _ _, _, rfl, _, rfl, t2, fun q2 hq2 => ⟨_, rfl, q2, _, _, _, rfl, rfl, upd_same, pickN sb _ _, _, _, rfl, rfl, rfl, _, rfl, ?_⟩⟩
      have s2 := same_upd (o := .lst [.int h, .int w]) hq2
      have F2 := F1.same s2
      have y1' := s2 _ _ y1
      have WA' : WayAt H l (upd H1 q2 (.lst [.int h, .int w])) wa (pre ++ [c]) := ⟨WA.ne, WA.nw, WA.at'.same s2⟩
      have tv2 := s2 _ _ tv
      have z1' := s2 _ _ z1
      have z2' := paired_same s2 z2
      generalize upd H1 q2 (.lst [.int h, .int w]) = H2 at F2 y1' WA' tv2 z1' z2' ⊢
      refine ite2 (fun g => ?_) (fun g => ?_)
      · have g : V.int (if sb = true then c.2 else c.1) = V.int ((if sb = true then (w : Int) else (h : Int)) - 1) := of_decide_eq_true g
        rw [sbe, sbe] at g
        have g := goal_iff'.mp g
        refine ⟨_, rfl, _, rfl, l, _, k, .ref wa, rfl, rfl, y1', atk, ?_⟩
        refine hrt _ _ (qy wa (pre ++ [c]) H2 F2.sm WA.nw WA'.at' ⟨c, Y1.rc c (List.mem_of_getElem? hc), g⟩ (by simp) ?_ hst)
        rw [List.length_append]
        show pre.length + 1 ≤ 81
        omega
      · have ng : ¬ goal h w hd c := fun z => by
          have g' : ¬ V.int (if sb = true then c.2 else c.1) = V.int ((if sb = true then (w : Int) else (h : Int)) - 1) := of_decide_eq_false (Bool.eq_false_iff.mpr g)
          rw [sbe, sbe] at g'
          exact g' (goal_iff'.mpr z)
        refine ⟨_, rfl, t2, fun p1 hp1 => ⟨_, rfl, t2, fun p2 hp2 => ⟨t2, fun p3 hp3 => ⟨t2, fun p4 hp4 => ⟨_, rfl, t2, fun p5 hp5 => ⟨_, rfl, t2, fun p6 hp6 => ⟨(by show 6 ≤ sizeLine; decide), fun l6 hl6 => ?_⟩⟩⟩⟩⟩⟩⟩
        have k7 := same_upd (o := .lst [.ref p1, .ref p2, .ref p3, .ref p4, .ref p5, .ref p6]) hl6
        have k6 := (same_upd (o := .tup [.int 0, .int (-1)]) hp6).trans k7
        have k5 := (same_upd (o := .tup [.int 1, .int (-1)]) hp5).trans k6
        have k4 := (same_upd (o := .tup [.int 1, .int 0]) hp4).trans k5
        have k3 := (same_upd (o := .tup [.int 0, .int 1]) hp3).trans k4
        have k2 := (same_upd (o := .tup [.int (-1), .int 1]) hp2).trans k3
        have k1 := (same_upd (o := .tup [.int (-1), .int 0]) hp1).trans k2
        have hl6' : H2 l6 = none := by
          have f6 := (same_upd (o := .tup [.int 0, .int (-1)]) hp6).free hl6
          have f5 := (same_upd (o := .tup [.int 1, .int (-1)]) hp5).free f6
          have f4 := (same_upd (o := .tup [.int 1, .int 0]) hp4).free f5
          have f3 := (same_upd (o := .tup [.int 0, .int 1]) hp3).free f4
          have f2 := (same_upd (o := .tup [.int (-1), .int 1]) hp2).free f3
          exact (same_upd (o := .tup [.int (-1), .int 0]) hp1).free f2
        have six : Paired (TupAt (upd (upd (upd (upd (upd (upd (upd H2 p1 (.tup [.int (-1), .int 0])) p2 (.tup [.int (-1), .int 1])) p3 (.tup [.int 0, .int 1])) p4 (.tup [.int 1, .int 0])) p5 (.tup [.int 1, .int (-1)])) p6 (.tup [.int 0, .int (-1)])) l6 (.lst [.ref p1, .ref p2, .ref p3, .ref p4, .ref p5, .ref p6]))) [p1, p2, p3, p4, p5, p6] dirs :=
          .cons (k2 _ _ upd_same) (.cons (k3 _ _ upd_same) (.cons (k4 _ _ upd_same) (.cons (k5 _ _ upd_same) (.cons (k6 _ _ upd_same) (.cons (k7 _ _ upd_same) .nil)))))
        have F3 := F2.same k1
        have l6v := upd_same (H := upd (upd (upd (upd (upd (upd H2 p1 (.tup [.int (-1), .int 0])) p2 (.tup [.int (-1), .int 1])) p3 (.tup [.int 0, .int 1])) p4 (.tup [.int 1, .int 0])) p5 (.tup [.int 1, .int (-1)])) p6 (.tup [.int 0, .int (-1)])) (a := l6) (o := .lst ([p1, p2, p3, p4, p5, p6].map V.ref))
        have tv3 := k1 _ _ tv2
        have z13 := k1 _ _ z1'
        have z23 := paired_same k1 z2'
        clear k7 k6 k5 k4 k3 k2 k1
        refine ⟨l6, rfl, ⟨_, SqL.of l6v⟩, ?_⟩
        have l6d : l6 ≠ d := fun z => by rw [z, F2.dd] at hl6'; cases hl6'
        have l6l : l6 ≠ l := fun z => by rw [z, y1'] at hl6'; cases hl6'
        replace l6v : (upd (upd (upd (upd (upd (upd (upd H2 p1 (.tup [.int (-1), .int 0])) p2 (.tup [.int (-1), .int 1])) p3 (.tup [.int 0, .int 1])) p4 (.tup [.int 1, .int 0])) p5 (.tup [.int 1, .int (-1)])) p6 (.tup [.int 0, .int (-1)])) l6 (.lst [.ref p1, .ref p2, .ref p3, .ref p4, .ref p5, .ref p6])) l6 = some (.lst ([p1, p2, p3, p4, p5, p6].map V.ref)) := l6v
        generalize upd (upd (upd (upd (upd (upd (upd H2 p1 (.tup [.int (-1), .int 0])) p2 (.tup [.int (-1), .int 1])) p3 (.tup [.int 0, .int 1])) p4 (.tup [.int 1, .int 0])) p5 (.tup [.int 1, .int (-1)])) p6 (.tup [.int 0, .int (-1)])) l6 (.lst [.ref p1, .ref p2, .ref p3, .ref p4, .ref p5, .ref p6]) = H3 at F3 six l6v tv3 z13 z23 ⊢
        have td : ∀ {o : Addr} {p : Pl}, TupAt H3 o p → o ≠ d ∧ o ≠ l := fun {o p} z => by
          obtain ⟨bs, b1, _⟩ := F3.wl
          have z' : H3 o = some _ := z
          exact ⟨ne_of z' F3.dd (fun y => nomatch y), ne_of z' b1 (fun y => nomatch y)⟩
        have wad : wa ≠ d := ne_of z13 F3.dd (fun y => nomatch y)
        refine for_goesO goes_list (fun i σ H' => ∃ (v8 v11 v12 v13 : Option V) (ps' : List Pl) (ws' : List (List Pl)) (kvs' : List (List Key × V)), σ = [some (.ref a), some (.str ⟨#[hd]⟩), some (.int (if sb = true then 1 else 0)), some (.int h), some (.int w), some (.ref l), some (.ref d), v7, v8, some (.int (k : Nat)), some (.ref t), v11, v12, v13] ∧
            WI H H' d l ps' ws' kvs' ∧ Wys (rws rows) h w hd ps' ws' ∧ Kp d l H3 H' ∧ ps <+: ps' ∧ ws <+: ws' ∧ ∀ p ∈ (nbs c).take i, Stn (rws rows) hd p → p ∈ ps')
          ⟨_, _, _, _, ps, ws, kvs, rfl, F3, Y1, Kp.refl, List.prefix_refl _, List.prefix_refl _, by simp⟩ (fun i σ H' _ z => by obtain ⟨_, _, _, _, _, _, _, _, _, _, z, _⟩ := z; exact SqL.of (z _ _ l6d l6l l6v)) ?_ ?_
        · rintro Pw Rt' Bk hw hrt' i x σ H4 hi hy ⟨v8', v11', v12', v13', ps', ws', kvs', rfl, F4, Y4, K4, px, wx, dn4⟩
          have hi6 : i < 6 := hi
          obtain ⟨δ, hδ⟩ : ∃ δ, dirs[i]? = some δ := ⟨dirs[i]'(by show i < 6; exact hi6), List.getElem?_eq_getElem _⟩
          obtain ⟨t', e1, ht'⟩ := paired_get six hδ
          rw [List.getElem?_map, e1] at hy
          obtain rfl := Option.some.inj hy
          have ht' : H4 t' = some (.tup [.int δ.1, .int δ.2]) := K4 _ _ (td ht').1 (td ht').2 ht'
          have tv4 : H4 t = some (.tup [.int c.1, .int c.2]) := K4 _ _ (td tv3).1 (td tv3).2 tv3
          refine ⟨t', _, rfl, SqT.of ht', rfl, _, _, rfl, _, _, rfl, rfl, ?_⟩
          have nb : (nbs c)[i]? = some (c.1 + δ.1, c.2 + δ.2) := by rw [nbs_dirs, List.getElem?_map, hδ]; rfl
          have tk : (nbs c).take (i + 1) = (nbs c).take i ++ [(c.1 + δ.1, c.2 + δ.2)] := by rw [List.take_succ, nb]; rfl
          have nbc : Nb c (c.1 + δ.1, c.2 + δ.2) := mem_nbs.mp (List.mem_of_getElem? nb)
          refine ⟨_, rfl, t, _, 0, .int c.1, rfl, rfl, tv4, rfl, _, rfl, _, _, rfl, rfl, _, rfl, t, _, 1, .int c.2, rfl, rfl, tv4, rfl, _, rfl, _, _, rfl, rfl, t2, fun tc htc => ?_⟩
          have stc := same_upd (o := .tup [.int (c.1 + δ.1), .int (c.2 + δ.2)]) htc
          have F5 := F4.same stc
          have K5 : Kp d l H3 (upd H4 tc (.tup [.int (c.1 + δ.1), .int (c.2 + δ.2)])) := K4.trans (Kp.of stc)
          have T5 : TupAt (upd H4 tc (.tup [.int (c.1 + δ.1), .int (c.2 + δ.2)])) tc (c.1 + δ.1, c.2 + δ.2) := upd_same
          have T5v : upd H4 tc (.tup [.int (c.1 + δ.1), .int (c.2 + δ.2)]) tc = some (.tup [.int (c.1 + δ.1), .int (c.2 + δ.2)]) := upd_same
          generalize upd H4 tc (.tup [.int (c.1 + δ.1), .int (c.2 + δ.2)]) = H5 at F5 K5 T5 T5v ⊢
          have skip : ∀ (no : ¬ Stn (rws rows) hd (c.1 + δ.1, c.2 + δ.2) ∨ (c.1 + δ.1, c.2 + δ.2) ∈ ps'), ∀ p ∈ (nbs c).take (i + 1), Stn (rws rows) hd p → p ∈ ps' := fun no p hp st => by
            rw [tk] at hp
            rcases List.mem_append.mp hp with z | z
            · exact dn4 p z st
            · rw [List.mem_singleton.mp z] at st ⊢
              rcases no with no | no
              · exact absurd st no
              · exact no
          have offB : ¬ inB h w (c.1 + δ.1, c.2 + δ.2) → ¬ Stn (rws rows) hd (c.1 + δ.1, c.2 + δ.2) := fun n z => n (R.inB z)
          -- inside
          refine ⟨_, rfl, tc, _, 0, .int (c.1 + δ.1), rfl, rfl, T5v, rfl, _, _, rfl, rfl, _, rfl, ?_⟩
          refine ite2 (fun b1 => ?_) (fun b1 => ⟨_, rfl, iteF ⟨_, rfl, _, rfl, iteF (iteF (hw _ _ _ ⟨_, _, _, _, ps', ws', kvs', rfl, F5, Y4, K5, px, wx, skip (.inl (offB fun z => b1 (decide_eq_true z.1)))⟩))⟩⟩)
          refine ⟨_, rfl, _, _, rfl, rfl, _, rfl, ?_⟩
          refine ite2 (fun b2 => ?_) (fun b2 => ⟨_, rfl, _, rfl, iteF (iteF (hw _ _ _ ⟨_, _, _, _, ps', ws', kvs', rfl, F5, Y4, K5, px, wx, skip (.inl (offB fun z => b2 (decide_eq_true z.2.1)))⟩))⟩)
          refine ⟨_, rfl, tc, _, 1, .int (c.2 + δ.2), rfl, rfl, T5v, rfl, _, _, rfl, rfl, _, rfl, ?_⟩
          refine ite2 (fun b3 => ?_) (fun b3 => ⟨_, rfl, _, rfl, iteF (iteF (hw _ _ _ ⟨_, _, _, _, ps', ws', kvs', rfl, F5, Y4, K5, px, wx, skip (.inl (offB fun z => b3 (decide_eq_true z.2.2.1)))⟩))⟩)
          refine ⟨_, rfl, _, _, rfl, rfl, _, rfl, _, rfl, ?_⟩
          refine ite2 (fun b4 => ?_) (fun b4 => iteF (hw _ _ _ ⟨_, _, _, _, ps', ws', kvs', rfl, F5, Y4, K5, px, wx, skip (.inl (offB fun z => b4 (decide_eq_true z.2.2.2)))⟩))
          refine ⟨_, rfl, _, rfl, d, _, rfl, DGet.t F5.dd (tup_pk T5), _, rfl, ?_⟩
          rw [dk_is F5.dk]
          by_cases m : (c.1 + δ.1, c.2 + δ.2) ∈ ps'
          · rw [decide_eq_true m]
            exact iteF (iteF (hw _ _ _ ⟨_, _, _, _, ps', ws', kvs', rfl, F5, Y4, K5, px, wx, skip (.inr m)⟩))
          · rw [decide_eq_false m]
            refine iteT ?_
            have ib : inB h w (c.1 + δ.1, c.2 + δ.2) := ⟨of_decide_eq_true b1, of_decide_eq_true b2, of_decide_eq_true b3, of_decide_eq_true b4⟩
            obtain ⟨row, ch, e1', e2', e3', e4'⟩ := cell_in R ib
            have hS5 : H5 a = some (.lst (rows.map V.str)) := F5.sm _ _ ha
            refine ⟨_, rfl, _, rfl, tc, _, 0, .int (c.1 + δ.1), rfl, rfl, T5v, rfl, a, _, _, .str row, rfl, rfl, hS5, atI_of ib.1 (by rw [List.getElem?_map, e1']; rfl), _, rfl, tc, _, 1, .int (c.2 + δ.2), rfl, rfl, T5v, rfl, row, _, ch, rfl, rfl, le_line (by first | exact le_w (by assumption) (by assumption) | exact le1k (by assumption) (by decide) | omega), atI_of ib.2.2.1 e2', _, rfl, rfl, _, rfl, ?_⟩
            refine ite2 (fun g => ?_) (fun g => hw _ _ _ ⟨_, _, _, _, ps', ws', kvs', rfl, F5, Y4, K5, px, wx, skip (.inl fun z => g ?_)⟩)
            · have g : ch = hd := str1_iff.mp (of_decide_eq_true g)
              subst g
              have st : Stn (rws rows) ch (c.1 + δ.1, c.2 + δ.2) := e3'
              have Yn := Y4.snoc (pre := pre ++ [c]) m (.step (Y1.rc c (List.mem_of_getElem? hc)) nbc st) (by
                rw [List.length_append]
                have := List.IsPrefix.length_le wx
                rw [Y1.en] at this
                show pre.length + 1 ≤ _
                omega) (fun q hq => by
                rcases List.mem_append.mp hq with z | z
                · exact hst q z
                · rw [List.mem_singleton.mp z]; exact st)
              have ln := Yn.len R
              rw [List.length_append] at ln
              have ln' : ps'.length + 1 ≤ 81 := ln
              refine ⟨_, rfl, _, rfl, d, _, rfl, DPut.t F5.dd (tup_pk T5) (small1000 (by rw [F5.len]; omega)), ?_⟩
              have F6 := F5.put (.bl true) m
              have K6 : Kp d l H3 (upd H5 d (.dT (putK kvs' (pk (c.1 + δ.1, c.2 + δ.2)) (.bl true)))) := K5.trans Kp.d
              have T6 : upd H5 d (.dT (putK kvs' (pk (c.1 + δ.1, c.2 + δ.2)) (.bl true))) tc = some (.tup [.int (c.1 + δ.1), .int (c.2 + δ.2)]) := by
                rw [upd_ne (ne_of T5v F5.dd (fun y => nomatch y))]
                exact T5v
              generalize upd H5 d (.dT (putK kvs' (pk (c.1 + δ.1, c.2 + δ.2)) (.bl true))) = H6 at F6 K6 T6 ⊢
              obtain ⟨as6, u1, u2⟩ := id F6.wl
              have al6 : as6.length = ps'.length := by rw [Paired.length u2, Y4.en]
              have hw6 : ws'[k]? = some (pre ++ [c]) := by
                obtain ⟨r, rfl⟩ := wx
                rw [List.getElem?_append_left (by rw [Y1.en]; exact kl)]
                exact hway
              obtain ⟨wb, eb, WB⟩ := paired_get u2 hw6
              obtain ⟨bs, v1, v2⟩ := id WB.at'
              have bl : bs.length = pre.length + 1 := by have := Paired.length v2; rwa [List.length_append] at this
              refine ⟨_, rfl, l, _, rfl, u1, _, rfl, _, rfl, l, _, k, .ref wb, rfl, rfl, u1, atI_of (by first | exact Int.natCast_nonneg _ | assumption | omega) (by rw [Int.toNat_natCast, List.getElem?_map, eb]; rfl), _, rfl, (by show 1 ≤ sizeLine; decide), fun n1 hn1 => ?_⟩
              have sn1 := same_upd (o := .lst [.ref tc]) hn1
              refine ⟨wb, n1, _, _, rfl, rfl, sn1 _ _ v1, upd_same, le_line (by rw [List.length_map, bl]; show pre.length + 1 + 1 ≤ 1000; omega), fun n2 hn2 => ?_⟩
              have sn2 := same_upd (o := .lst (bs.map V.ref ++ [.ref tc])) hn2
              have s12 := sn1.trans sn2
              have F7 := F6.same s12
              have K7 : Kp d l H3 _ := K6.trans (Kp.of s12)
              have u1' := s12 _ _ u1
              have WN : WayAt H l (upd (upd H6 n1 (.lst [.ref tc])) n2 (.lst (bs.map V.ref ++ [.ref tc]))) n2 ((pre ++ [c]) ++ [(c.1 + δ.1, c.2 + δ.2)]) := by
                refine ⟨fun z => ?_, F6.sm.free (sn1.free hn2), bs ++ [tc], by rw [upd_same, List.map_append]; rfl, Paired.snoc (paired_same s12 v2) (s12 _ _ T6)⟩
                have z1 := sn1.free hn2
                rw [z, u1] at z1
                cases z1
              generalize upd (upd H6 n1 (.lst [.ref tc])) n2 (.lst (bs.map V.ref ++ [.ref tc])) = H7 at F7 K7 u1' WN ⊢
              refine ⟨_, _, rfl, u1', by rw [List.length_map]; exact small1000 (by first | exact lt1k (by assumption) (by decide) | omega), ?_⟩
              refine hw _ _ _ ⟨_, _, _, _, _, _, _, rfl, F7.app WN u1', Yn, K7.trans Kp.l, px.trans (List.prefix_append _ _), wx.trans (List.prefix_append _ _), fun p hp st' => ?_⟩
              rw [tk] at hp
              rcases List.mem_append.mp hp with z | z
              · exact List.mem_append_left _ (dn4 p z st')
              · exact List.mem_append_right _ z
            · have z : at2 (rws rows) (c.1 + δ.1, c.2 + δ.2) = some hd := z
              rw [e3'] at z
              exact decide_eq_true (str1_iff.mpr (Option.some.inj z))
        · rintro σ H4 ⟨v8', v11', v12', v13', ps', ws', kvs', rfl, F4, Y4, K4, px, wx, dn4⟩
          have pl := List.IsPrefix.length_le px
          refine ⟨_, rfl, _, _, rfl, rfl, hnx _ _ ⟨_, _, _, _, _, _, ps', ws', kvs', k + 1, rfl, F4, Y4, by omega, fun p hp => px.subset (sh1 p hp), fun p hp => ?_⟩ ?_⟩
          · have e1 : ps'.take (k + 1) = ps.take k ++ [c] := by
              obtain ⟨r, rfl⟩ := px
              rw [List.take_append_of_le_length (by omega), List.take_succ, hc]
              rfl
            rw [e1] at hp
            rcases List.mem_append.mp hp with z | z
            · exact ⟨(cl1 p z).1, fun q nq sq => px.subset ((cl1 p z).2 q nq sq)⟩
            · rw [List.mem_singleton.mp z]
              refine ⟨ng, fun q nq sq => dn4 q ?_ sq⟩
              show q ∈ (nbs c).take 6
              rw [List.take_of_length_le (by rw [nbs_len]; exact Nat.le_refl 6)]
              exact mem_nbs.mpr nq
          · show 81 - ((k : Int) + 1).toNat < 81 - ((k : Int)).toNat
            omega
    · have c1 := of_decide_eq_false (Bool.eq_false_iff.mpr c1)
      rw [List.length_map, al] at c1
      have kl : k = ps.length := by omega
      rw [kl, List.take_length] at cl1
      refine hde _ _ (qn H1 F1.sm fun ⟨p, hp, g⟩ => ?_)
      have pm := (flood_done (S := Stn (rws rows) hd) (src := src hd) (seen := ps) Y1.rc (fun p s1 s2 => sh1 p (by rw [← hps]; exact List.mem_filter.mpr ⟨mem_shore s2 (R.inB s1), decide_eq_true s1⟩)) (fun p hp q nq sq => (cl1 p hp).2 q nq sq) p).mp hp
      exact (cl1 p pm).1 g
end
end Sw

set_option linter.all false
set_option maxRecDepth 100000
set_option maxHeartbeats 400000
namespace Sw
open PySem L2 Sh
section
variable {P : Program} {w : World} {K : PySem.W.Frag} {mg : Str → Option Value} {base : Heap}
theorem sc_l_open_by : FnScope ["script", "most", "height", "width", "rows", "cell", "turn", "hand", "way", "more", "k", "place"] ["script", "most"] (defScope s_l_open_by) := ⟨rfl, rfl, rfl, by decide +kernel, rfl, by decide +kernel, by decide +kernel⟩
theorem emp_off {rr : Rws} {h w : Nat} (R : Rect rr h w) {p : Pl} {c : Nat} (e : at2 rr p = some c) (hc : c ≠ 46) : (emp h w (lyp rr p 46)).length = (emp h w rr).length + 1 := by
  have b := R.inB e
  have sg := Sw.Rect.sg2 R e
  have R' := lyp_rect R b (hd := 46) (by omega)
  have e' : at2 (lyp rr p 46) p = some 46 := by rw [at2_lyp R b, if_pos rfl]
  have k := emp_lyp R' e' hc
  have eq : lyp (lyp rr p 46) p c = rr := by
    refine rect_ext R (lyp_rect R' b sg) fun q ch eq => ?_
    rw [at2_lyp R' b]
    by_cases z : q = p
    · rw [if_pos z, ← eq, z, e]
    · rw [if_neg z, at2_lyp R b, if_neg z, eq]
  rw [eq] at k
  omega
theorem cells_len (h w : Nat) : (cells h w).length = h * w := by
  unfold cells
  rw [List.length_flatMap]
  have : (List.map (fun a => (rowc w a).length) (List.range h)) = List.replicate h w := by
    refine List.ext_getElem (by simp) fun i h1 h2 => ?_
    simp [rowc]
  rw [this]
  simp
theorem all_empty {rr : Rws} {h w : Nat} (R : Rect rr h w) (e : h * w ≤ (emp h w rr).length) : Nobody rr h w := by
  have le : (emp h w rr).length ≤ (cells h w).length := List.length_filter_le _ _
  have eq : ((cells h w).filter (isE rr)).length = (cells h w).length := Nat.le_antisymm le (by rw [cells_len]; exact e)
  have all := List.length_filter_eq_length_iff.mp eq
  have no : ∀ hd, (hd = 110 ∨ hd = 119) → ¬ Jnd rr h w hd := fun hd hh ⟨p, hp, _⟩ => by
    have st : at2 rr p = some hd := hp.on
    have z := all p (mem_cells.mpr (R.inB st))
    unfold isE at z
    have z := of_decide_eq_true z
    rw [st] at z
    have := Option.some.inj z
    omega
  exact ⟨no 110 (.inl rfl), no 119 (.inr rfl)⟩
theorem nobody_less {rr : Rws} {h w : Nat} (R : Rect rr h w) {p : Pl} (b : inB h w p) (n : Nobody rr h w) : Nobody (lyp rr p 46) h w := ⟨fun j => n.1 (jnd_less R b (.inl rfl) j), fun j => n.2 (jnd_less R b (.inr rfl) j)⟩
/-- t turns are done -/
def Opn (rr : Rws) (h w t : Nat) : Prop := Nobody rr h w ∨ t ≤ (emp h w rr).length
/-- .. and the first j hands of the next one -/
def OpnJ (rr : Rws) (h w t j : Nat) : Prop := if j = 0 then Opn rr h w t else if j = 1 then Nobody rr h w ∨ t + 1 ≤ (emp h w rr).length ∨ (¬ Jnd rr h w 110 ∧ t ≤ (emp h w rr).length) else Opn rr h w (t + 1)
def nw (j : Nat) : Nat := if j = 0 then 110 else 119
theorem opn_no {rr : Rws} {h w t j : Nat} (hj : j < 2) (o : OpnJ rr h w t j) (n : ¬ Jnd rr h w (nw j)) : OpnJ rr h w t (j + 1) := by
  have e : j = 0 ∨ j = 1 := by omega
  rcases e with rfl | rfl
  · have o : Opn rr h w t := o
    show Nobody rr h w ∨ t + 1 ≤ _ ∨ _
    exact o.elim .inl fun z => .inr (.inr ⟨n, z⟩)
  · have o : Nobody rr h w ∨ t + 1 ≤ _ ∨ _ := o
    show Opn rr h w (t + 1)
    rcases o with o | o | o
    · exact .inl o
    · exact .inr o
    · exact .inl ⟨o.1, n⟩
theorem opn_yes {rr rr' : Rws} {h w t j : Nat} (hj : j < 2) (o : OpnJ rr h w t j) (y : Jnd rr h w (nw j)) (e : (emp h w rr').length = (emp h w rr).length + 1) : OpnJ rr' h w t (j + 1) := by
  have z : j = 0 ∨ j = 1 := by omega
  rcases z with rfl | rfl
  · have o : Opn rr h w t := o
    show Nobody rr' h w ∨ t + 1 ≤ _ ∨ _
    rcases o with o | o
    · exact absurd y o.1
    · exact .inr (.inl (by omega))
  · have o : Nobody rr h w ∨ t + 1 ≤ _ ∨ _ := o
    show Opn rr' h w (t + 1)
    rcases o with o | o | o
    · exact absurd y o.2
    · exact .inr (by omega)
    · exact .inr (by omega)
def sp_l_open_by (K : PySem.W.Frag) : Sp := fun vs H Q _ => ∃ (a : Addr) (ns : List Int) (m : Nat), vs = [.ref a, .int m] ∧ SqL K H a (ns.map V.int) ∧ 1 ≤ m ∧ m ≤ 9 ∧
  ∀ (l : Addr) (rows : List Str) (h w : Nat) (H' : Hp), Same H H' → H l = none → H' l = some (.lst (rows.map V.str)) → Rect (rws rows) h w → h ≤ m → w ≤ m → Nobody (rws rows) h w → Q (.ref l) H'
theorem ok_l_open_by (B : Bt mg) (d_l_cell_at : Def P w K mg base 1 "_law_cell_at" ["script", "k"] (sp_l_cell_at K)) (d_l_mix : Def P w K mg base 1 "_law_mix" ["cell", "k", "many"] sp_l_mix) (d_l_size_by : Def P w K mg base 2 "_law_size_by" ["script", "most"] (sp_l_size_by K)) (d_l_rows_by : Def P w K mg base 2 "_law_rows_by" ["script", "height", "width", "full"] (sp_l_rows_by K))
    (d_l_put : Def P w K mg base 1 "_law_put" ["rows", "cell", "letter"] sp_l_put) (d_l_free : Def P w K mg base 1 "_law_free" ["rows"] sp_l_free) (d_l_road : Def P w K mg base 1 "_law_road" ["rows", "hand"] sp_l_road) (F : Fn K mg "_law_open_by" s_l_open_by) : Def P w K mg base 3 "_law_open_by" ["script", "most"] (sp_l_open_by K) := by
  refine Def.by F sc_l_open_by (fun _ _ _ _ _ _ => us2 fun _ _ => rfl) (fun vs H Q E h => ?_) (fun f cdv A outer s H vs Q E hr h => ?_)
  · obtain ⟨a, ns, m, rfl, _⟩ := h
    rfl
  obtain ⟨a, ns, m, rfl, hS, m1, m9, q⟩ := h
  have d_l_cell_at := d_l_cell_at.up (k := 2) (by decide)
  have d_l_mix := d_l_mix.up (k := 2) (by decide)
  have d_l_put := d_l_put.up (k := 2) (by decide)
  have d_l_free := d_l_free.up (k := 2) (by decide)
  have d_l_road := d_l_road.up (k := 2) (by decide)
  have t2 : 2 ≤ sizeLine := by decide
  refine ⟨_, qss_cons (qs_asg (qe_callD d_l_size_by hr (qa_cons (qv 0) (qa_cons (qv 1) qa_nil))) (qg_tup (qgs_cons (qg_name 2 sc_l_open_by.nd) (qgs_cons (qg_name 3 sc_l_open_by.nd) qgs_nil))))
    (qss_cons (qs_set 4 sc_l_open_by.nd (qe_callD d_l_rows_by hr (qa_cons (qv 0) (qa_cons (qv 2) (qa_cons (qv 3) (qa_cons qe_bl qa_nil))))))
    (qss_cons (qs_set 5 sc_l_open_by.nd (qe_callD d_l_cell_at hr (qa_cons (qv 0) (qa_cons qe_int qa_nil))))
    (qss_cons (qs_for (qi_range1 B.range (qa_cons (qe_op op_mul (qv 2) (qv 3)) qa_nil)) (qg_name 6 sc_l_open_by.nd) (qss_one (qs_for (qi_list (qe_lst (qa_cons qe_str (qa_cons qe_str qa_nil)))) (qg_name 7 sc_l_open_by.nd) (qss_cons (qs_set 8 sc_l_open_by.nd (qe_callD d_l_road hr (qa_cons (qv 4) (qa_cons (qv 7) qa_nil))))
    (qss_one (qs_if (qt_cmp op_notN (qv 8) qe_non) (qss_one (qs_set 4 sc_l_open_by.nd (qe_callD d_l_put hr (qa_cons (qv 4) (qa_cons (qe_ix ix_list0 (qv 8) (qe_callD d_l_mix hr (qa_cons (qv 5) (qa_cons (qv 6) (qa_cons (qe_callB call_len0 B.len PySem.boot_len (qa_cons (qv 8) qa_nil)) qa_nil))))) (qa_cons qe_str qa_nil)))))) qss_nil))))))
    (qss_cons (qs_set 9 sc_l_open_by.nd (qe_op op_mod (qe_callD d_l_cell_at hr (qa_cons (qv 0) (qa_cons qe_int qa_nil))) qe_int))
    (qss_cons (qs_for (qi_range1 B.range (qa_cons (qv 9) qa_nil)) (qg_name 10 sc_l_open_by.nd) (qss_one (qs_if (qt_cmp op_lt (qe_callB call_len0 B.len PySem.boot_len (qa_cons (qe_callD d_l_free hr (qa_cons (qv 4) qa_nil)) qa_nil)) qe_int) (qss_cons (qs_set 11 sc_l_open_by.nd (qe_tup (qa_cons (qe_callD d_l_mix hr (qa_cons (qv 5) (qa_cons (qe_op op_add qe_int (qv 10)) (qa_cons (qv 2) qa_nil)))) (qa_cons (qe_callD d_l_mix hr (qa_cons (qv 5) (qa_cons (qe_op op_add qe_int (qv 10)) (qa_cons (qv 3) qa_nil)))) qa_nil))))
    (qss_one (qs_set 4 sc_l_open_by.nd (qe_callD d_l_put hr (qa_cons (qv 4) (qa_cons (qv 11) (qa_cons qe_str qa_nil))))))) qss_nil)))
    (qss_one (qs_ret (qv 4)))))))), ?_⟩
  refine ⟨_, rfl, _, rfl, a, ns, (m : Int), rfl, hS, by omega, fun t0 h w H1 h1 hm w1 wm s1 ht0 => ?_⟩
  refine ⟨t0, _, rfl, SqT.of ht0, rfl, _, _, rfl, _, _, rfl, rfl, ?_⟩
  have h9 : h ≤ 9 := by omega
  have w9 : w ≤ 9 := by omega
  refine ⟨_, rfl, _, rfl, _, rfl, a, ns, h, w, true, rfl, s1.seq hS, h1, h9, w1, w9, fun l rows H2 s2 nl hl RO => ?_⟩
  have s12 := s1.trans s2
  refine ⟨_, rfl, a, ns, 12, rfl, s12.seq hS, by decide, ?_⟩
  have em : (h : Int) * (w : Int) = ((h * w : Nat) : Int) := (Int.natCast_mul h w).symm
  have hw81 : h * w ≤ 81 := Nat.le_trans (Nat.mul_le_mul h9 w9) (by decide)
  refine ⟨_, rfl, _, rfl, _, _, rfl, rfl, .inl ⟨by omega, by omega⟩, _, rfl, (by show -(2 ^ 62) ≤ (h : Int) * (w : Int); rw [em]; omega), (by show (h : Int) * (w : Int) < 2 ^ 62; rw [em]; omega), ?_⟩
  rw [em, Int.toNat_natCast]
  generalize ns.getD ((12 : Int).toNat) 0 = cell
  refine for_goesO goes_range (fun i σ H' => ∃ (v6 v7 v8 : Option V) (l : Addr) (rows : List Str), σ = [some (.ref a), some (.int m), some (.int h), some (.int w), some (.ref l), some (.int cell), v6, v7, v8, none, none, none] ∧ Same H H' ∧ H l = none ∧ H' l = some (.lst (rows.map V.str)) ∧ Rect (rws rows) h w ∧ Opn (rws rows) h w i)
    ⟨_, _, _, l, rows, rfl, s12, s1.free nl, hl, RO.rect, .inr (Nat.zero_le _)⟩ (fun _ _ _ _ _ => trivial) ?_ ?_
  · clear hl RO nl
    rintro Pw Rt Bk hw hrt i x σ H3 hi hy ⟨v6, v7, v8, l, rows, rfl, s3, nl, hl, R, op⟩
    subst hy
    refine ⟨t2, fun l7 hl7 => ⟨l7, rfl, ⟨_, SqL.of upd_same⟩, ?_⟩⟩
    have s7 := same_upd (o := .lst [.str "n", .str "w"]) hl7
    have e7 := upd_same (H := H3) (a := l7) (o := .lst [.str "n", .str "w"])
    have hl' := s7 _ _ hl
    generalize upd H3 l7 (.lst [.str "n", .str "w"]) = H4 at s7 e7 hl' ⊢
    refine for_goesO goes_list (fun j σ H' => ∃ (v7 v8 : Option V) (l : Addr) (rows : List Str), σ = [some (.ref a), some (.int m), some (.int h), some (.int w), some (.ref l), some (.int cell), some (.int (0 + (i : Int))), v7, v8, none, none, none] ∧ Same H4 H' ∧ H l = none ∧ H' l = some (.lst (rows.map V.str)) ∧ Rect (rws rows) h w ∧ OpnJ (rws rows) h w i j)
      ⟨_, _, l, rows, rfl, fun _ _ z => z, nl, hl', R, op⟩ (fun j σ H' _ z => by obtain ⟨_, _, _, _, _, z, _⟩ := z; exact SqL.of (z _ _ e7)) ?_ ?_
    · clear hl hl' R op nl
      rintro Pw' Rt' Bk' hw' hrt' j y σ H5 hj hy ⟨v7, v8, l, rows, rfl, s5, nl, hl, R, op⟩
      have hj : j < 2 := hj
      have yv : y = .str ⟨#[nw j]⟩ := by
        rw [n_eq, w_eq] at hy
        have z : j = 0 ∨ j = 1 := by omega
        rcases z with rfl | rfl
        · exact (Option.some.inj hy).symm
        · exact (Option.some.inj hy).symm
      subst yv
      have hnw : nw j = 110 ∨ nw j = 119 := by
        unfold nw
        split
        · exact .inl rfl
        · exact .inr rfl
      refine ⟨_, rfl, _, rfl, l, rows, h, w, nw j, rfl, hnw, hl, R, fun H6 s6 nj => ?_, fun lw ps H6 s6 nw' LP yj ne le st => ?_⟩
      · refine ⟨_, rfl, rfl, _, rfl, iteFb (by simp) (hw' _ _ _ ⟨_, _, l, rows, rfl, s5.trans s6, nl, s6 _ _ hl, R, opn_no hj op nj⟩)⟩
      · refine ⟨_, rfl, rfl, _, rfl, iteTb (by simp) ?_⟩
        obtain ⟨as, z1, z2⟩ := LP
        have al := Paired.length z2
        have pos : 0 < ps.length := List.length_pos_iff.mpr ne
        refine ⟨_, rfl, _, rfl, _, rfl, _, rfl, _, rfl, lw, _, rfl, z1, _, _, _, rfl, by omega, by omega, (by rw [List.length_map, al]; omega), fun k H7 k0 k1 s7' => ?_⟩
        rw [List.length_map, al] at k1
        obtain ⟨k, rfl⟩ := Int.eq_ofNat_of_zero_le k0
        obtain ⟨p, hp⟩ : ∃ p, ps[k]? = some p := ⟨ps[k]'(by first | exact lt_eq (by assumption) (by assumption) | assumption | omega), List.getElem?_eq_getElem (by first | exact lt_eq (by assumption) (by assumption) | assumption | omega)⟩
        obtain ⟨t, et, ht⟩ := paired_get z2 hp
        have sp := st p (List.mem_of_getElem? hp)
        refine ⟨lw, _, (k : Int), .ref t, rfl, rfl, (s7' _ _ z1), atI_of (by first | exact Int.natCast_nonneg _ | assumption | omega) (by rw [Int.toNat_natCast, List.getElem?_map, et]; rfl), ?_⟩
        rw [d_eq]
        refine ⟨l, t, rows, h, w, 46, p, rfl, s7' _ _ (s6 _ _ hl), R, s7' _ _ ht, R.inB sp, .inr (.inr rfl), fun l' rows' H8 s8 nl' hl8 er R8 => ?_⟩
        have s38 : Same H4 H8 := s5.trans (s6.trans (s7'.trans s8))
        refine hw' _ _ _ ⟨_, _, l', rows', rfl, s38, ?_, hl8, R8, opn_yes hj op yj ?_⟩
        · exact (s3.trans (s7.trans (s5.trans (s6.trans s7')))).free nl'
        · rw [er]
          exact emp_off R sp (by omega)
    · rintro σ H5 ⟨v7, v8, l, rows, rfl, s5, nl, hl, R, op⟩
      exact hw _ _ _ ⟨_, _, _, l, rows, rfl, s3.trans (s7.trans s5), nl, hl, R, op⟩
  · clear hl RO nl
    rintro σ H3 ⟨v6, v7, v8, l, rows, rfl, s3, nl, hl, R, op⟩
    have nb : Nobody (rws rows) h w := op.elim id fun z => all_empty R z
    refine ⟨_, rfl, a, ns, 13, rfl, s3.seq hS, by decide, _, _, rfl, rfl, (by show (0 : Int) < 3; decide), ?_⟩
    have m0 := Int.emod_nonneg (ns.getD ((13 : Int).toNat) 0) (show (3 : Int) ≠ 0 by decide)
    have m3 := Int.emod_lt_of_pos (ns.getD ((13 : Int).toNat) 0) (show (0 : Int) < 3 by decide)
    have e3 : (fun (i j : Int) => V.int (i % j)) (ns.getD ((13 : Int).toNat) 0) 3 = V.int (ns.getD ((13 : Int).toNat) 0 % 3) := rfl
    generalize ns.getD ((13 : Int).toNat) 0 % 3 = more at m0 m3 e3
    rw [e3]
    refine ⟨_, rfl, more, rfl, by omega, by omega, ?_⟩
    refine for_goesO goes_range (fun i σ H' => ∃ (v10 v11 : Option V) (l : Addr) (rows : List Str), σ = [some (.ref a), some (.int m), some (.int h), some (.int w), some (.ref l), some (.int cell), v6, v7, v8, some (.int more), v10, v11] ∧ Same H H' ∧ H l = none ∧ H' l = some (.lst (rows.map V.str)) ∧ Rect (rws rows) h w ∧ Nobody (rws rows) h w)
      ⟨_, _, l, rows, rfl, s3, nl, hl, R, nb⟩ (fun _ _ _ _ _ => trivial) ?_ ?_
    · clear hl R nb nl op s3
      rintro Pw Rt Bk hw hrt i y σ H4 hi hy ⟨v10, v11, l, rows, rfl, s4, nl, hl, R, nb⟩
      subst hy
      have hi : i < 3 := by omega
      refine ⟨_, rfl, l, rows, h, w, rfl, hl, R, fun lf H5 s5 nf LF => ?_⟩
      obtain ⟨as, z1, z2⟩ := LF
      refine ⟨lf, _, rfl, z1, _, _, rfl, rfl, _, rfl, ?_⟩
      refine ite2 (fun g => ?_) (fun g => hw _ _ _ ⟨_, _, l, rows, rfl, s4.trans s5, nl, s5 _ _ hl, R, nb⟩)
      refine ⟨_, rfl, _, rfl, _, _, rfl, rfl, _, rfl, _, _, (h : Int), rfl, by omega, by omega, by omega, fun r H6 r0 r1 s6 => ?_⟩
      refine ⟨_, rfl, _, rfl, _, _, rfl, rfl, _, rfl, _, _, (w : Int), rfl, by omega, by omega, by omega, fun c H7 c0 c1 s7 => ⟨t2, fun t ht => ?_⟩⟩
      have s8 := same_upd (o := .tup [.int r, .int c]) ht
      have ib : inB h w (r, c) := ⟨r0, r1, c0, c1⟩
      rw [d_eq]
      refine ⟨_, rfl, _, rfl, l, t, rows, h, w, 46, (r, c), rfl, s8 _ _ (s7 _ _ (s6 _ _ (s5 _ _ hl))), R, upd_same, ib, .inr (.inr rfl), fun l' rows' H9 s9 nl' hl9 er R9 => ?_⟩
      have s48 := s4.trans (s5.trans (s6.trans (s7.trans s8)))
      exact hw _ _ _ ⟨_, _, l', rows', rfl, s48.trans s9, s48.free nl', hl9, R9, by rw [er]; exact nobody_less R ib nb⟩
    · rintro σ H4 ⟨v10, v11, l, rows, rfl, s4, nl, hl, R, nb⟩
      exact ⟨_, rfl, q l rows h w H4 s4 nl hl R (by omega) (by omega) nb⟩
end
end Sw

set_option linter.all false
set_option maxRecDepth 100000
set_option maxHeartbeats 400000
namespace Sw
open PySem L2 Sh
section
variable {P : Program} {w : World} {K : PySem.W.Frag} {mg : Str → Option Value} {base : Heap}
theorem sc_l_wins : FnScope ["rows", "hand", "against", "cell", "behind"] ["rows", "hand"] (defScope s_l_wins) := ⟨rfl, rfl, rfl, by decide +kernel, rfl, by decide +kernel, by decide +kernel⟩
def sp_l_wins (n : Nat) : Sp := fun vs H Q _ => ∃ (a : Addr) (rows : List Str) (h w hd : Nat), vs = [.ref a, .str ⟨#[hd]⟩] ∧ (hd = 110 ∨ hd = 119) ∧ H a = some (.lst (rows.map V.str)) ∧ Rect (rws rows) h w ∧ (emp h w (rws rows)).length = n ∧
  ∀ (z : Bool) H', Same H H' → (z = true ↔ Wins h w n (rws rows) hd) → Q (.bl z) H'
/-- at most N cells are empty -/
def sp_l_winsU (N : Nat) : Sp := fun vs H Q E => ∃ n, n ≤ N ∧ sp_l_wins n vs H Q E
theorem l_winsN {N k : Nat} {spr : Sp} (hk : 1 ≤ k) (hsp : ∀ m vs H Q E, m + 1 ≤ N → sp_l_wins m vs H Q E → spr vs H Q E) (B : Bt mg) (d_l_put : Def P w K mg base 1 "_law_put" ["rows", "cell", "letter"] sp_l_put) (d_l_free : Def P w K mg base 1 "_law_free" ["rows"] sp_l_free) (d_l_road : Def P w K mg base 1 "_law_road" ["rows", "hand"] sp_l_road) (F : Fn K mg "_law_wins" s_l_wins)
    (d_l_wins : Def P w K mg base k "_law_wins" ["rows", "hand"] spr) : Def P w K mg base (k + 1) "_law_wins" ["rows", "hand"] (sp_l_winsU N) := by
  refine Def.by F sc_l_wins (fun _ _ _ _ _ _ => us2 fun _ _ => rfl) (fun vs H Q E h => ?_) (fun f cdv A outer s H vs Q E hr h => ?_)
  · obtain ⟨_, _, a, rows, h, w, hd, rfl, _⟩ := h
    rfl
  obtain ⟨n, hN, a, rows, h, w, hd, rfl, hh, ha, R, hn, q⟩ := h
  have d_l_put := d_l_put.up hk
  have d_l_free := d_l_free.up hk
  have d_l_road := d_l_road.up hk
  have t2 : 2 ≤ sizeLine := by decide
  refine ⟨_, qss_cons (qs_set 2 sc_l_wins.nd (qe_ix ix_list (qe_lst (qa_cons qe_str (qa_cons qe_str qa_nil))) (qe_callTy call_int1 B.int PyProof.Rows.boot_int (qa_cons (qe_cmp op_eq (qv 1) qe_str) qa_nil))))
    (qss_cons (qs_for (qi_list (qe_callD d_l_free hr (qa_cons (qv 0) qa_nil))) (qg_name 3 sc_l_wins.nd) (qss_cons (qs_set 4 sc_l_wins.nd (qe_callD d_l_put hr (qa_cons (qv 0) (qa_cons (qv 3) (qa_cons (qv 1) qa_nil)))))
    (qss_one (qs_if (qt_w (qw_or (qt_cmp op_notN (qe_callD d_l_road hr (qa_cons (qv 4) (qa_cons (qv 1) qa_nil))) qe_non) (qw_or1 (qt_not (qt_val (qe_callD d_l_wins hr (qa_cons (qv 4) (qa_cons (qv 2) qa_nil)))))))) (qss_one (qs_ret qe_bl)) qss_nil))))
    (qss_one (qs_ret qe_bl))), ?_⟩
  refine ⟨t2, fun q1 hq1 => ⟨_, rfl, rfl, .inr ⟨_, rfl, q1, _, _, _, rfl, rfl, SqL.of upd_same, othS hh, ?_⟩⟩⟩
  have s0 := same_upd (o := .lst [.str "n", .str "w"]) hq1
  generalize upd H q1 (.lst [.str "n", .str "w"]) = H0 at s0 ⊢
  refine ⟨_, rfl, a, rows, h, w, rfl, s0 _ _ ha, R, fun l H1 s1 _ LP => ?_⟩
  obtain ⟨as, l1, l2⟩ := LP
  refine ⟨l, rfl, ⟨_, SqL.of l1⟩, ?_⟩
  refine for_goesO goes_list (fun i σ H' => ∃ v3 v4, σ = [some (.ref a), some (.str ⟨#[hd]⟩), some (.str ⟨#[oth hd]⟩), v3, v4] ∧ Same H1 H' ∧ ∀ p ∈ (emp h w (rws rows)).take i, ¬ WinBy h w (n - 1) (rws rows) hd p) ⟨_, _, rfl, fun _ _ z => z, by simp⟩ (fun i σ H' _ z => by obtain ⟨_, _, _, z, _⟩ := z; exact SqL.of (z _ _ l1)) ?_ ?_
  · rintro Pw Rt Bk hw hrt i y σ H2 hi hy ⟨v3, v4, rfl, s2, no⟩
    rw [List.getElem?_map] at hy
    cases e : as[i]? with
    | none => rw [e] at hy; cases hy
    | some t =>
      rw [e] at hy
      obtain rfl := Option.some.inj hy
      obtain ⟨p, e2, hp⟩ := paired_get' l2 e
      have pm := List.mem_of_getElem? e2
      have e46 := (mem_emp R).mp pm
      have np : 0 < n := by rw [← hn]; exact List.length_pos_of_mem pm
      obtain ⟨m, rfl⟩ : ∃ m, n = m + 1 := ⟨n - 1, by omega⟩
      have s02 := s0.trans (s1.trans s2)
      refine ⟨_, rfl, _, rfl, _, rfl, a, t, rows, h, w, hd, p, rfl, s02 _ _ ha, R, s2 _ _ hp, R.inB e46, by omega, fun l' rows' H3 s3 _ hl3 er R3 => ?_⟩
      have en : (emp h w (rws rows')).length = m := by
        have := emp_lyp R e46 (hd := hd) (by omega)
        rw [er]
        omega
      have s23 := s2.trans s3
      have go : ∀ z : Bool, (z = true ↔ WinBy h w m (rws rows) hd p) → ∀ H', Same H1 H' → z = false → ∃ v3 v4, [some (V.ref a), some (.str ⟨#[hd]⟩), some (.str ⟨#[oth hd]⟩), some (.ref t), some (.ref l')] = [some (.ref a), some (.str ⟨#[hd]⟩), some (.str ⟨#[oth hd]⟩), v3, v4] ∧ Same H1 H' ∧ ∀ p ∈ (emp h w (rws rows)).take (i + 1), ¬ WinBy h w (m + 1 - 1) (rws rows) hd p := fun z ez H' sH zf => by
        refine ⟨_, _, rfl, sH, fun p' hp' => ?_⟩
        rw [List.take_succ, e2] at hp'
        rcases List.mem_append.mp hp' with y | y
        · exact no p' y
        · have : p' = p := by simpa using y
          rw [this]
          exact fun y => by
            have := ez.mpr y
            rw [zf] at this
            cases this
      refine ⟨_, rfl, _, rfl, l', rows', h, w, hd, rfl, hh, hl3, R3, fun H4 s4 nj => ?_, fun lw ps H4 s4 _ _ yj _ _ _ => ?_⟩
      · rw [er] at nj
        refine ⟨rfl, _, rfl, iteFb (by simp) ?_⟩
        refine ⟨_, rfl, _, rfl, hsp m _ _ _ _ hN ⟨l', rows', h, w, oth hd, rfl, oth_hd hh, s4 _ _ hl3, R3, en, fun z H5 s5 e5 => ⟨z, rfl, ?_⟩⟩⟩
        rw [er] at e5
        cases z with
        | true =>
          refine iteF ?_
          refine hw _ _ _ ?_
          exact go false ⟨(fun y => nomatch y), fun y => y.elim (fun j => absurd j nj) fun y => absurd (e5.mp rfl) y⟩ H5 (s23.trans (s4.trans s5)) rfl
        | false => exact iteT (hrt _ _ (q true H5 (s0.trans (s1.trans (s23.trans (s4.trans s5)))) ⟨fun _ => wins_succ.mpr ⟨p, pm, .inr (fun y => nomatch e5.mpr y)⟩, fun _ => rfl⟩))
      · rw [er] at yj
        exact ⟨rfl, _, rfl, iteTb (by simp) (iteT (hrt _ _ (q true H4 (s0.trans (s1.trans (s23.trans s4))) ⟨fun _ => wins_succ.mpr ⟨p, pm, .inl yj⟩, fun _ => rfl⟩)))⟩
  · rintro σ H2 ⟨v3, v4, rfl, s2, no⟩
    refine q false H2 (s0.trans (s1.trans s2)) ⟨(fun y => nomatch y), fun y => ?_⟩
    exfalso
    rw [List.length_map, Paired.length l2, List.take_length] at no
    cases n with
    | zero => exact y
    | succ m =>
      obtain ⟨p, pm, wb⟩ := wins_succ.mp y
      exact no p pm wb
theorem l_winsA (B : Bt mg) (d_l_put : Def P w K mg base 1 "_law_put" ["rows", "cell", "letter"] sp_l_put) (d_l_free : Def P w K mg base 1 "_law_free" ["rows"] sp_l_free) (d_l_road : Def P w K mg base 1 "_law_road" ["rows", "hand"] sp_l_road) (F : Fn K mg "_law_wins" s_l_wins) : ∀ n, Def P w K mg base (2 + n) "_law_wins" ["rows", "hand"] (sp_l_winsU n)
  | 0 => l_winsN (k := 1) (spr := fun _ _ _ _ => False) (by omega) (fun m _ _ _ _ z _ => by omega) B d_l_put d_l_free d_l_road F
      (Def.by F sc_l_wins (fun _ _ _ _ _ _ => us2 fun _ _ => rfl) (fun vs H Q E h => h.elim) (fun f cdv A outer s H vs Q E hr h => h.elim))
  | n + 1 => (l_winsN (k := 2 + n) (by omega) (fun m _ _ _ _ z h => ⟨m, by omega, h⟩) B d_l_put d_l_free d_l_road F (l_winsA B d_l_put d_l_free d_l_road F n)).up (by omega)
theorem ok_l_wins (B : Bt mg) (d_l_put : Def P w K mg base 1 "_law_put" ["rows", "cell", "letter"] sp_l_put) (d_l_free : Def P w K mg base 1 "_law_free" ["rows"] sp_l_free) (d_l_road : Def P w K mg base 1 "_law_road" ["rows", "hand"] sp_l_road) (F : Fn K mg "_law_wins" s_l_wins) : Def P w K mg base 8 "_law_wins" ["rows", "hand"] (sp_l_winsU 6) := l_winsA B d_l_put d_l_free d_l_road F 6
end
end Sw

set_option linter.all false
set_option maxRecDepth 100000
set_option maxHeartbeats 400000
namespace Sw
open PySem L2 Sh
section
variable {P : Program} {w : World} {K : PySem.W.Frag} {mg : Str → Option Value} {base : Heap}
theorem sc_l_due : FnScope ["rows", "hand", "against", "found", "cell", "behind"] ["rows", "hand"] (defScope s_l_due) := ⟨rfl, rfl, rfl, by decide +kernel, rfl, by decide +kernel, by decide +kernel⟩
def sp_l_due : Sp := fun vs H Q _ => ∃ (a : Addr) (rows : List Str) (h w hd : Nat), vs = [.ref a, .str ⟨#[hd]⟩] ∧ (hd = 110 ∨ hd = 119) ∧ H a = some (.lst (rows.map V.str)) ∧ Rect (rws rows) h w ∧ (emp h w (rws rows)).length ≤ 6 ∧
  ∀ l H', Same H H' → H l = none → ListPl H' l (repl h w ((emp h w (rws rows)).length - 1) (rws rows) hd) → Q (.ref l) H'
theorem ok_l_due (B : Bt mg) (d_l_put : Def P w K mg base 1 "_law_put" ["rows", "cell", "letter"] sp_l_put) (d_l_free : Def P w K mg base 1 "_law_free" ["rows"] sp_l_free) (d_l_road : Def P w K mg base 1 "_law_road" ["rows", "hand"] sp_l_road) (d_l_wins : Def P w K mg base 8 "_law_wins" ["rows", "hand"] (sp_l_winsU 6)) (F : Fn K mg "_law_due" s_l_due) : Def P w K mg base 9 "_law_due" ["rows", "hand"] sp_l_due := by
  refine Def.by F sc_l_due (fun _ _ _ _ _ _ => us2 fun _ _ => rfl) (fun vs H Q E h => ?_) (fun f cdv A outer s H vs Q E hr h => ?_)
  · obtain ⟨a, rows, h, w, hd, rfl, _⟩ := h
    rfl
  obtain ⟨a, rows, h, w, hd, rfl, hh, ha, R, le, q⟩ := h
  have d_l_put := d_l_put.up (k := 8) (by decide)
  have d_l_free := d_l_free.up (k := 8) (by decide)
  have d_l_road := d_l_road.up (k := 8) (by decide)
  have t2 : 2 ≤ sizeLine := by decide
  refine ⟨_, qss_cons (qs_set 2 sc_l_due.nd (qe_ix ix_list0 (qe_lst (qa_cons qe_str (qa_cons qe_str qa_nil))) (qe_callTy call_int1 B.int PyProof.Rows.boot_int (qa_cons (qe_cmp op_eq (qv 1) qe_str) qa_nil))))
    (qss_cons (qs_set 3 sc_l_due.nd (qe_lst qa_nil))
    (qss_cons (qs_for (qi_list (qe_callD d_l_free hr (qa_cons (qv 0) qa_nil))) (qg_name 4 sc_l_due.nd) (qss_cons (qs_set 5 sc_l_due.nd (qe_callD d_l_put hr (qa_cons (qv 0) (qa_cons (qv 4) (qa_cons (qv 1) qa_nil)))))
    (qss_one (qs_if (qt_w (qw_or (qt_cmp op_notN (qe_callD d_l_road hr (qa_cons (qv 5) (qa_cons (qv 1) qa_nil))) qe_non) (qw_or1 (qt_not (qt_val (qe_callD d_l_wins hr (qa_cons (qv 5) (qa_cons (qv 2) qa_nil)))))))) (qss_one (qs_expr (qe_app (qv 3) (qv 4)))) qss_nil))))
    (qss_one (qs_ret (qv 3))))), ?_⟩
  refine ⟨t2, fun q1 hq1 => ⟨_, rfl, rfl, .inr ⟨_, rfl, q1, _, _, _, rfl, rfl, upd_same, othS hh, ?_⟩⟩⟩
  have s0 := same_upd (o := .lst [.str "n", .str "w"]) hq1
  generalize upd H q1 (.lst [.str "n", .str "w"]) = H0 at s0 ⊢
  refine ⟨(by show 0 ≤ sizeLine; decide), fun l hl => ?_⟩
  have sl := same_upd (o := .lst []) hl
  refine ⟨_, rfl, a, rows, h, w, rfl, sl _ _ (s0 _ _ ha), R, fun lf H1 s1 nf LP => ?_⟩
  have hl1 : H1 l = some (.lst []) := s1 _ _ upd_same
  have s01 : Same H0 H1 := sl.trans s1
  have nfl : lf ≠ l := fun z => by rw [z, upd_same] at nf; cases nf
  obtain ⟨as, l1, l2⟩ := LP
  refine ⟨lf, rfl, ⟨_, SqL.of l1⟩, ?_⟩
  have hn : ∃ n, n = (emp h w (rws rows)).length := ⟨_, rfl⟩
  obtain ⟨n, hn⟩ := hn
  refine for_goesO goes_list (fun i σ H' => ∃ (v4 v5 : Option V) (bs : List Addr), σ = [some (.ref a), some (.str ⟨#[hd]⟩), some (.str ⟨#[oth hd]⟩), some (.ref l), v4, v5] ∧ Same H0 H' ∧ Kp l l H1 H' ∧ H' l = some (.lst (bs.map V.ref)) ∧ Paired (TupAt H') bs (((emp h w (rws rows)).take i).filter (wby h w (n - 1) (rws rows) hd)))
    ⟨_, _, [], rfl, s01, Kp.refl, hl1, .nil⟩ (fun i σ H' _ z => by obtain ⟨_, _, _, _, _, z, _⟩ := z; exact SqL.of (z _ _ nfl nfl l1)) ?_ ?_
  · rintro Pw Rt Bk hw hrt i y σ H2 hi hy ⟨v4, v5, bs, rfl, s2, k2, hl2, pr⟩
    rw [List.getElem?_map] at hy
    cases e : as[i]? with
    | none => rw [e] at hy; cases hy
    | some t =>
      rw [e] at hy
      obtain rfl := Option.some.inj hy
      obtain ⟨p, e2, hp⟩ := paired_get' l2 e
      have pm := List.mem_of_getElem? e2
      have e46 := (mem_emp R).mp pm
      have tl : t ≠ l := ne_of (show H1 t = some _ from hp) hl1 (fun y => nomatch y)
      have hp2 : H2 t = some (.tup [.int p.1, .int p.2]) := k2 _ _ tl tl hp
      have np : 0 < n := by rw [hn]; exact List.length_pos_of_mem pm
      obtain ⟨m, rfl⟩ : ∃ m, n = m + 1 := ⟨n - 1, by omega⟩
      have tk : (emp h w (rws rows)).take (i + 1) = (emp h w (rws rows)).take i ++ [p] := by rw [List.take_succ, e2]; rfl
      have s02 := s0.trans s2
      refine ⟨_, rfl, _, rfl, _, rfl, a, t, rows, h, w, hd, p, rfl, s02 _ _ ha, R, hp2, R.inB e46, by omega, fun l' rows' H3 s3 _ hl3 er R3 => ?_⟩
      have en : (emp h w (rws rows')).length = m := by
        have := emp_lyp R e46 (hd := hd) (by omega)
        rw [er]
        omega
      have add : ∀ H', Same H2 H' → WinBy h w m (rws rows) hd p → ∃ (v4 v5 : Option V) (bs' : List Addr), [some (V.ref a), some (.str ⟨#[hd]⟩), some (.str ⟨#[oth hd]⟩), some (.ref l), some (.ref t), some (.ref l')] = [some (.ref a), some (.str ⟨#[hd]⟩), some (.str ⟨#[oth hd]⟩), some (.ref l), v4, v5] ∧ Same H0 (upd H' l (.lst (bs.map V.ref ++ [.ref t]))) ∧ Kp l l H1 (upd H' l (.lst (bs.map V.ref ++ [.ref t]))) ∧ upd H' l (.lst (bs.map V.ref ++ [.ref t])) l = some (.lst (bs'.map V.ref)) ∧ Paired (TupAt (upd H' l (.lst (bs.map V.ref ++ [.ref t])))) bs' (((emp h w (rws rows)).take (i + 1)).filter (wby h w (m + 1 - 1) (rws rows) hd)) := fun H' sH wb => by
        have hl' := sH _ _ hl2
        refine ⟨_, _, bs ++ [t], rfl, fun b' o z => ?_, (k2.trans (Kp.of sH)).trans Kp.l, by rw [upd_same, List.map_append]; rfl, ?_⟩
        · rw [upd_ne (ne_of_none z hl)]
          exact sH _ _ (s2 _ _ z)
        · rw [tk, List.filter_append, List.filter_cons, if_pos (show wby h w (m + 1 - 1) (rws rows) hd p = true from wby_iff.mpr wb)]
          refine Paired.snoc (Paired.mapP pr fun a' p' z => ?_) ?_
          · have z' : H' a' = some _ := sH _ _ z
            show upd H' l _ a' = _
            rw [upd_ne (ne_of z' hl' (fun q => nomatch q))]
            exact z'
          · show upd H' l _ t = _
            rw [upd_ne tl]
            exact sH _ _ hp2
      have lb : bs.length ≤ 6 := by
        rw [Paired.length pr]
        exact Nat.le_trans (List.length_filter_le _ _) (Nat.le_trans (by rw [List.length_take]; omega) le)
      have lb' : (bs.map V.ref).length < sizeLine := by rw [List.length_map]; exact small1000 (by omega)
      refine ⟨_, rfl, _, rfl, l', rows', h, w, hd, rfl, hh, hl3, R3, fun H4 s4 nj => ?_, fun lw ps H4 s4 _ _ yj _ _ _ => ?_⟩
      · rw [er] at nj
        refine ⟨rfl, _, rfl, iteFb (by simp) ?_⟩
        refine ⟨_, rfl, _, rfl, m, by omega, l', rows', h, w, oth hd, rfl, oth_hd hh, s4 _ _ hl3, R3, en, fun z H5 s5 e5 => ⟨z, rfl, ?_⟩⟩
        rw [er] at e5
        have s25 := s3.trans (s4.trans s5)
        cases z with
        | true =>
          refine iteF (hw _ _ _ ⟨_, _, bs, rfl, s2.trans s25, k2.trans (Kp.of s25), s25 _ _ hl2, ?_⟩)
          rw [tk, List.filter_append, List.filter_cons, if_neg (fun y => ?_), List.filter_nil, List.append_nil]
          · exact paired_same s25 pr
          · exact (wby_iff.mp y).elim (fun j => absurd j nj) fun y => absurd (e5.mp rfl) y
        | false =>
          refine iteT ⟨_, rfl, l, _, rfl, (s25 _ _ hl2), _, rfl, _, _, rfl, s25 _ _ hl2, lb', ?_⟩
          exact hw _ _ _ (add H5 s25 (.inr (fun y => nomatch e5.mpr y)))
      · rw [er] at yj
        have s24 := s3.trans s4
        exact ⟨rfl, _, rfl, iteTb (by simp) (iteT ⟨_, rfl, l, _, rfl, (s24 _ _ hl2), _, rfl, _, _, rfl, s24 _ _ hl2, lb', hw _ _ _ (add H4 s24 (.inl yj))⟩)⟩
  · rintro σ H2 ⟨v4, v5, bs, rfl, s2, k2, hl2, pr⟩
    rw [List.length_map, Paired.length l2, List.take_length, hn] at pr
    exact ⟨_, rfl, q l H2 (s0.trans s2) (s0.free hl) ⟨bs, hl2, pr⟩⟩
end
end Sw

set_option linter.all false
set_option maxRecDepth 100000
set_option maxHeartbeats 400000
namespace Sw
open PySem L2 Sh
section
variable {P : Program} {w : World} {K : PySem.W.Frag} {mg : Str → Option Value} {base : Heap}
/-- the law's own promise: a list of at most 63 ints is handed in, True comes out -/
def sp_law (K : PySem.W.Frag) : Sp := fun vs H Q _ => ∃ (a : Addr) (ns : List Int), vs = [.ref a] ∧ SqL K H a (ns.map V.int) ∧ ns.length ≤ 63 ∧ ∀ H', Q (.bl true) H'
end
end Sw

set_option linter.all false
set_option maxRecDepth 100000
set_option maxHeartbeats 400000
namespace Sw
open PySem L2 Sh
section
variable {P : Program} {w : World} {K : PySem.W.Frag} {mg : Str → Option Value} {base : Heap}
theorem sc_law : FnScope ["script", "rows", "size", "board", "hand", "due", "found"] ["script"] (defScope s_law) := ⟨rfl, rfl, rfl, by decide +kernel, rfl, by decide +kernel, by decide +kernel⟩
theorem most39 (x : Int) : ∃ m : Nat, 1 ≤ m ∧ m ≤ 9 ∧ atI ([.int 4, .int 4, .int 3, .int 9] : List V) (x % 4) = some (.int m) := by
  have h0 := Int.emod_nonneg x (show (4 : Int) ≠ 0 by decide)
  have h1 := Int.emod_lt_of_pos x (show (0 : Int) < 4 by decide)
  generalize x % 4 = y at h0 h1
  have e : y = 0 ∨ y = 1 ∨ y = 2 ∨ y = 3 := by omega
  rcases e with rfl | rfl | rfl | rfl
  · exact ⟨4, by decide, by decide, rfl⟩
  · exact ⟨4, by decide, by decide, rfl⟩
  · exact ⟨3, by decide, by decide, rfl⟩
  · exact ⟨9, by decide, by decide, rfl⟩
theorem repl_pos {h w hd : Nat} {rr : Rws} : 0 < (repl h w ((emp h w rr).length - 1) rr hd).length ↔ Wins h w (emp h w rr).length rr hd := by
  cases e : (emp h w rr).length with
  | zero =>
    have z := List.eq_nil_of_length_eq_zero e
    unfold repl
    rw [z]
    exact ⟨fun y => absurd y (by simp), fun y => y.elim⟩
  | succ m =>
    show 0 < (repl h w m rr hd).length ↔ _
    rw [wins_succ]
    constructor
    · intro y
      obtain ⟨p, hp⟩ := List.exists_mem_of_length_pos y
      obtain ⟨g1, g2⟩ := List.mem_filter.mp hp
      exact ⟨p, g1, wby_iff.mp g2⟩
    · rintro ⟨p, g1, g2⟩
      exact List.length_pos_of_mem (List.mem_filter.mpr ⟨g1, wby_iff.mpr g2⟩)
theorem ok_law {C : Addr} (B : Bt mg) (T : BoardC K C) (d_l_cell_at : Def P w K mg base 1 "_law_cell_at" ["script", "k"] (sp_l_cell_at K)) (d_l_told : Def P w K mg base 1 "_law_told" ["found", "due"] sp_l_told) (d_l_places : Def P w K mg base 2 "_law_places" ["found", "many"] sp_l_places) (M : BrdMk P w K mg base 3 C) (d_can_win : Def P w K mg base 21 "can_win" ["board", "hand"] (sp_can_win C)) (d_replies : Def P w K mg base 21 "replies" ["board", "hand"] (sp_replies C))
    (d_l_free : Def P w K mg base 1 "_law_free" ["rows"] sp_l_free) (d_l_open_by : Def P w K mg base 3 "_law_open_by" ["script", "most"] (sp_l_open_by K)) (d_l_due : Def P w K mg base 9 "_law_due" ["rows", "hand"] sp_l_due)
    {f : Addr} {fd : FuncData} (F : Fun K "law" "law" s_law f fd) : FnOk P w K mg base CX0 22 f fd ["script"] (sp_law K) := by
  refine Law.by F sc_law (fun vs H Q E h => ?_) (fun cdv A outer s H vs Q E hr h => ?_)
  · obtain ⟨a, ns, rfl, _⟩ := h
    rfl
  obtain ⟨a, ns, rfl, hS, hlen, q⟩ := h
  have d_l_cell_at := d_l_cell_at.up (k := 21) (by decide)
  have d_l_told := d_l_told.up (k := 21) (by decide)
  have d_l_free := d_l_free.up (k := 21) (by decide)
  have d_l_places := d_l_places.up (k := 21) (by decide)
  have d_l_open_by := d_l_open_by.up (k := 21) (by decide)
  have d_l_due := d_l_due.up (k := 21) (by decide)
  have M := M.up (k := 20) (by decide)
  have t2 : 2 ≤ sizeLine := by decide
  refine ⟨_, qss_cons (qs_set 1 sc_law.nd (qe_callD d_l_open_by hr (qa_cons (qv 0) (qa_cons (qe_ix ix_list (qe_lst (qa_cons qe_int (qa_cons qe_int (qa_cons qe_int (qa_cons qe_int qa_nil))))) (qe_op op_mod (qe_callD d_l_cell_at hr (qa_cons (qv 0) (qa_cons qe_int qa_nil))) qe_int)) qa_nil))))
    (qss_cons (qs_set 2 sc_law.nd (qe_op op_mul (qe_callB call_len_seq B.len PySem.boot_len (qa_cons (qv 1) qa_nil)) (qe_callB call_len_str B.len PySem.boot_len (qa_cons (qe_ix ix_list (qv 1) qe_int) qa_nil))))
    (qss_cons (qs_if (qt_cmp op_gt (qe_callB call_len_seq B.len PySem.boot_len (qa_cons (qe_callD d_l_free hr (qa_cons (qv 1) qa_nil)) qa_nil)) (qe_ix ix_list (qe_lst (qa_cons (qe_ix ix_list (qe_lst (qa_cons qe_int (qa_cons qe_int qa_nil))) (qe_callTy call_int1 B.int PyProof.Rows.boot_int (qa_cons (qe_cmp op_lt (qv 2) qe_int) qa_nil))) (qa_cons qe_int qa_nil))) (qe_callTy call_int1 B.int PyProof.Rows.boot_int (qa_cons (qe_cmp op_gt (qv 2) qe_int) qa_nil)))) (qss_one (qs_ret qe_bl)) qss_nil)
    (qss_cons (qs_set 3 sc_law.nd (qe_board M hr (qa_cons (qe_callTy call_list_of B.list PyProof.Rows.boot_list (qa_cons (qv 1) qa_nil)) qa_nil)))
    (qss_cons (qs_for (qi_list (qe_lst (qa_cons qe_str (qa_cons qe_str (qa_cons qe_str qa_nil))))) (qg_name 4 sc_law.nd) (qss_cons (qs_set 5 sc_law.nd (qe_callD d_l_due hr (qa_cons (qv 1) (qa_cons (qv 4) qa_nil))))
    (qss_cons (qs_set 6 sc_law.nd (qe_callD d_replies hr (qa_cons (qv 3) (qa_cons (qv 4) qa_nil))))
    (qss_cons (qs_if (qt_w (qw_or (qt_not (qt_val (qe_callD d_l_places hr (qa_cons (qv 6) (qa_cons (qe_callB call_len_seq B.len PySem.boot_len (qa_cons (qv 5) qa_nil)) qa_nil))))) (qw_or1 (qt_cmp (op_neD hr.u64) (qv 6) (qv 5))))) (qss_one (qs_ret qe_bl)) qss_nil)
    (qss_cons (qs_if (qt_not (qt_val (qe_callD d_l_told hr (qa_cons (qe_callD d_can_win hr (qa_cons (qv 3) (qa_cons (qv 4) qa_nil))) (qa_cons (qe_cmp op_gt (qe_callB call_len_seq B.len PySem.boot_len (qa_cons (qv 5) qa_nil)) qe_int) qa_nil))))) (qss_one (qs_ret qe_bl)) qss_nil)
    (qss_one (qs_expr (qe_bm PySem.F.plainAttrs_list PySem.F.slot_list_append PySem.F.type_list_append mt_append (qv 6) (qa_cons (qe_tup (qa_cons qe_int (qa_cons qe_int qa_nil))) qa_nil)))))))))
    (qss_one (qs_ret (qe_cmp (op_eqD hr.u64) (qe_fld (qv 3)) (qv 1)))))))), ?_⟩
  obtain ⟨m, m1, m9, hm⟩ := most39 (ns.getD (2 : Int).toNat 0)
  refine ⟨_, rfl, (by show 4 ≤ sizeLine; decide), fun q1 hq1 => ?_⟩
  have s0 := same_upd (o := .lst [.int 4, .int 4, .int 3, .int 9]) hq1
  refine ⟨_, rfl, a, ns, 2, rfl, s0.seq hS, by decide, _, _, rfl, rfl, (by show (0 : Int) < 4; decide), q1, _, _, _, rfl, rfl, SqL.of upd_same, hm, a, ns, m, rfl, s0.seq hS, m1, m9, fun l rows h w H1 s1 nl hl R _ _ nb => ?_⟩
  have h1 := R.h1
  have h9 := R.h9
  have w1 := R.w1
  have w9 := R.w9
  have hlen : rows.length = h := by have := R.len; rwa [List.length_map] at this
  obtain ⟨r0, hr0⟩ : ∃ r0, rows[0]? = some r0 := ⟨rows[0], List.getElem?_eq_getElem (by omega)⟩
  have l0 : r0.length = w := by
    have := R.wid r0.cps.toList (List.mem_map.mpr ⟨r0, List.mem_of_getElem? hr0, rfl⟩)
    simpa [Str.length] using this
  have at0 : atI (rows.map V.str) 0 = some (.str r0) := atI_of (by decide) (by rw [List.getElem?_map]; simp only [Int.toNat_zero]; rw [hr0]; rfl)
  refine ⟨_, rfl, l, _, rfl, .inl (SqL.of hl), _, rfl, l, _, 0, .str r0, rfl, rfl, SqL.of hl, at0, r0, rfl, le_line (by omega), _, _, rfl, rfl, .inl ⟨by rw [List.length_map]; omega, by rw [List.length_map]; omega⟩, ?_⟩
  refine ⟨_, rfl, l, rows, h, w, rfl, hl, R, fun lf H2 s2 _ LF => ?_⟩
  obtain ⟨as, z1, z2⟩ := LF
  refine ⟨lf, _, rfl, .inl (SqL.of z1), t2, fun q2 hq2 => ?_⟩
  refine ⟨_, rfl, _, _, rfl, rfl, .inr ⟨_, rfl, q2, _, _, _, rfl, rfl, SqL.of upd_same, pickN _ _ _, t2, fun q3 hq3 => ?_⟩⟩
  have s3 := (same_upd (o := .lst [.int 4, .int 5]) hq2).upd (o := .lst [.int (if decide ((rows.map V.str).length * (r0.length : Int) < 10) = true then 5 else 4), .int 3]) hq3
  have hl3 := s3 _ _ (s2 _ _ hl)
  refine ⟨_, rfl, _, _, rfl, rfl, .inr ⟨_, rfl, q3, _, _, _, rfl, rfl, SqL.of upd_same, pickN _ _ _, _, _, rfl, rfl, _, rfl, ?_⟩⟩
  refine ite2 (fun _ => q _) (fun g => ?_)
  have le : (emp h w (rws rows)).length ≤ 5 := by
    have g := of_decide_eq_false (Bool.eq_false_iff.mpr g)
    rw [show (as.map V.ref).length = (emp h w (rws rows)).length by rw [List.length_map, Paired.length z2]] at g
    split at g
    · omega
    · split at g <;> omega
  generalize upd (upd H2 q2 (.lst [.int 4, .int 5])) q3 _ = H3 at s3 hl3 ⊢
  refine ⟨_, rfl, l, _, rfl, .inl (SqL.of hl3), fun l2 hl2 => ?_⟩
  have hl2' : upd H3 l2 (.lst (rows.map V.str)) l = some (.lst (rows.map V.str)) := by rw [upd_ne (ne_of_none hl3 hl2)]; exact hl3
  intro x dx nx ndx nex
  refine ⟨x, dx, l2, rows, h, w, rfl, upd_same, ?_, R, fun H4 Bd kp => ⟨rfl, ?_⟩⟩
  · refine SqL.of ?_
    rw [upd_ne (ne_of_none upd_same nx), upd_ne (ne_of_none upd_same ndx), upd_same]
  have s4 := brd_same nx ndx kp
  have hl4 : H4 l = some (.lst (rows.map V.str)) := s4 _ _ hl2'
  clear kp s4
  refine ⟨(by show 3 ≤ sizeLine; decide), fun l5 hl5 => ⟨l5, rfl, ⟨_, SqL.of upd_same⟩, ?_⟩⟩
  have s5 := same_upd (o := .lst [.str "n", .str "w", .str "w"]) hl5
  have e5 := upd_same (H := H4) (a := l5) (o := .lst [.str "n", .str "w", .str "w"])
  generalize upd H4 l5 (.lst [.str "n", .str "w", .str "w"]) = H5 at s5 e5 ⊢
  refine for_goesO goes_list (fun i σ H' => ∃ v2 v4 v5 v6, σ = [some (.ref a), some (.ref l), v2, some (.ref x), v4, v5, v6] ∧ Same H5 H') ⟨_, _, _, _, rfl, fun _ _ z => z⟩ (fun i σ H' _ z => by obtain ⟨_, _, _, _, _, z⟩ := z; exact SqL.of (z _ _ e5)) ?_ ?_
  · rintro Pw Rt Bk hw hrt i y σ H6 hi hy ⟨v2, v4, v5, v6, rfl, s6⟩
    obtain ⟨hd, hh, rfl⟩ : ∃ hd : Nat, (hd = 110 ∨ hd = 119) ∧ y = .str ⟨#[hd]⟩ := by
      rw [n_eq, w_eq] at hy
      match i, hy with
      | 0, hy => exact ⟨110, .inl rfl, (Option.some.inj hy).symm⟩
      | 1, hy => exact ⟨119, .inr rfl, (Option.some.inj hy).symm⟩
      | 2, hy => exact ⟨119, .inr rfl, (Option.some.inj hy).symm⟩
      | n + 3, hy => simp at hy
    have s46 := s5.trans s6
    refine ⟨_, rfl, _, rfl, l, rows, h, w, hd, rfl, hh, s46 _ _ hl4, R, by omega, fun ld H7 s7 nd LD => ?_⟩
    refine ⟨_, rfl, _, rfl, x, rows, h, w, hd, rfl, hh, Bd.same (s46.trans s7), nb, by omega, fun lr H8 s8 nr LR => ?_⟩
    obtain ⟨ds, d1, d2⟩ := id (LD.same s8)
    have dl := Paired.length d2
    refine ⟨_, rfl, _, rfl, ld, _, rfl, .inl (SqL.of d1), lr, _, (by rw [List.length_map, dl]; rfl), LR, _, rfl, iteF ?_⟩
    refine ⟨_, rfl, _, rfl, _, _, LR.rds, (LD.same s8).rds, shaped_pairs _, shaped_pairs _, _, rfl, iteFb (by rw [eqv_lists, decide_eq_true rfl]; rfl) ?_⟩
    refine ⟨_, rfl, _, rfl, x, rows, h, w, hd, rfl, hh, Bd.same (s46.trans (s7.trans s8)), nb, by omega, fun z H9 s9 ez => ?_⟩
    refine ⟨_, rfl, ld, _, rfl, .inl (SqL.of (s9 _ _ d1)), _, _, rfl, rfl, z, _, rfl, _, rfl, iteFb ?_ ?_⟩
    · have e : z = decide ((0 : Int) < ((ds.map V.ref).length : Int)) := by
        rw [Bool.eq_iff_iff, ez, ← repl_pos, decide_eq_true_iff, List.length_map, dl]
        omega
      rw [← e]
      simp
    · have LR9 := LR.same s9
      obtain ⟨rs, c1, c2⟩ := LR9
      have rl : rs.length ≤ 5 := by
        rw [Paired.length c2]
        exact Nat.le_trans (List.length_filter_le _ _) le
      refine ⟨_, rfl, .inl ⟨rfl, _, SqL.of c1⟩, t2, fun t ht => ?_⟩
      refine ⟨lr, _, _, rfl, rfl, (by rw [upd_ne (ne_of_none c1 ht)]; exact c1), by rw [List.length_map]; exact small1000 (by omega), hw _ _ _ ⟨_, _, _, _, rfl, fun b' o z' => ?_⟩⟩
      rw [upd_ne (ne_of_none (s7 _ _ (s6 _ _ z')) nr)]
      exact (s6.trans (s7.trans (s8.trans (s9.upd ht)))) _ _ z'
  · rintro σ H6 ⟨v2, v4, v5, v6, rfl, s6⟩
    have s46 := s5.trans s6
    obtain ⟨dx2, a2, hb2, ha2⟩ := (Bd.same s46).ob
    refine ⟨_, rfl, x, C, dx2, _, _, rfl, hb2, T.cl, T.nR, bfl_rows _ _ _, _, rfl, _, _, .lst (SqL.of ha2) (rds_strs rows), .lst (SqL.of (s46 _ _ hl4)) (rds_strs rows), shaped_rows R, shaped_rows R, ?_⟩
    rw [eqv_rows, decide_eq_true rfl]
    exact q _
end
end Sw

set_option linter.all false
set_option maxRecDepth 100000
set_option maxHeartbeats 400000
namespace Sw
open PySem L2 Sh
theorem all_mk {l : PySem.W.OpenLaw} {w : World} {K : PySem.W.Frag} {h : Heap} {mg : Str → Option Value} {fa : Addr} (X : K.In h) (G_ : h.Ns mainGlobals mg) (hfa : mg "law" = some (.ref fa))
    {C : Addr}
    {fBI : Addr} {odBI anBI : Option Addr} {slBI : Array (Option Value)} {ocBI kVBI dcBI pmBI cdBI ctBI : Value}
    {tNORTH : Tok}
    {tWEST : Tok}
    {tEMPTY : Tok}
    {tMOST : Tok}
    {tMOST_EMPTY : Tok}
    {dX : Addr}
    {xt1 xu1 xt2 xu2 xt3 xu3 : Tok} {xn : Nat}
    {f_l_cell_at : Addr} {od_l_cell_at an_l_cell_at : Option Addr} {sl_l_cell_at : Array (Option Value)} {oc_l_cell_at kV_l_cell_at dc_l_cell_at pm_l_cell_at cd_l_cell_at ct_l_cell_at : Value}
    {f_l_mix : Addr} {od_l_mix an_l_mix : Option Addr} {sl_l_mix : Array (Option Value)} {oc_l_mix kV_l_mix dc_l_mix pm_l_mix cd_l_mix ct_l_mix : Value}
    {f_l_size_by : Addr} {od_l_size_by an_l_size_by : Option Addr} {sl_l_size_by : Array (Option Value)} {oc_l_size_by kV_l_size_by dc_l_size_by pm_l_size_by cd_l_size_by ct_l_size_by : Value}
    {f_l_rows_by : Addr} {od_l_rows_by an_l_rows_by : Option Addr} {sl_l_rows_by : Array (Option Value)} {oc_l_rows_by kV_l_rows_by dc_l_rows_by pm_l_rows_by cd_l_rows_by ct_l_rows_by : Value}
    {f_check_row : Addr} {od_check_row an_check_row : Option Addr} {sl_check_row : Array (Option Value)} {oc_check_row kV_check_row dc_check_row pm_check_row cd_check_row ct_check_row : Value}
    {f_check_rows : Addr} {od_check_rows an_check_rows : Option Addr} {sl_check_rows : Array (Option Value)} {oc_check_rows kV_check_rows dc_check_rows pm_check_rows cd_check_rows ct_check_rows : Value}
    {f_near : Addr} {od_near an_near : Option Addr} {sl_near : Array (Option Value)} {oc_near kV_near dc_near pm_near cd_near ct_near : Value}
    {f_has_cell : Addr} {od_has_cell an_has_cell : Option Addr} {sl_has_cell : Array (Option Value)} {oc_has_cell kV_has_cell dc_has_cell pm_has_cell cd_has_cell ct_has_cell : Value}
    {f_holds : Addr} {od_holds an_holds : Option Addr} {sl_holds : Array (Option Value)} {oc_holds kV_holds dc_holds pm_holds cd_holds ct_holds : Value}
    {f_first_shore : Addr} {od_first_shore an_first_shore : Option Addr} {sl_first_shore : Array (Option Value)} {oc_first_shore kV_first_shore dc_first_shore pm_first_shore cd_first_shore ct_first_shore : Value}
    {f_on_other_shore : Addr} {od_on_other_shore an_on_other_shore : Option Addr} {sl_on_other_shore : Array (Option Value)} {oc_on_other_shore kV_on_other_shore dc_on_other_shore pm_on_other_shore cd_on_other_shore ct_on_other_shore : Value}
    {f_reached : Addr} {od_reached an_reached : Option Addr} {sl_reached : Array (Option Value)} {oc_reached kV_reached dc_reached pm_reached cd_reached ct_reached : Value}
    {f_way_to : Addr} {od_way_to an_way_to : Option Addr} {sl_way_to : Array (Option Value)} {oc_way_to kV_way_to dc_way_to pm_way_to cd_way_to ct_way_to : Value}
    {f_road : Addr} {od_road an_road : Option Addr} {sl_road : Array (Option Value)} {oc_road kV_road dc_road pm_road cd_road ct_road : Value}
    {f_joined : Addr} {od_joined an_joined : Option Addr} {sl_joined : Array (Option Value)} {oc_joined kV_joined dc_joined pm_joined cd_joined ct_joined : Value}
    {f_l_told : Addr} {od_l_told an_l_told : Option Addr} {sl_l_told : Array (Option Value)} {oc_l_told kV_l_told dc_l_told pm_l_told cd_l_told ct_l_told : Value}
    {f_l_whole : Addr} {od_l_whole an_l_whole : Option Addr} {sl_l_whole : Array (Option Value)} {oc_l_whole kV_l_whole dc_l_whole pm_l_whole cd_l_whole ct_l_whole : Value}
    {f_l_places : Addr} {od_l_places an_l_places : Option Addr} {sl_l_places : Array (Option Value)} {oc_l_places kV_l_places dc_l_places pm_l_places cd_l_places ct_l_places : Value}
    {f_check_cell : Addr} {od_check_cell an_check_cell : Option Addr} {sl_check_cell : Array (Option Value)} {oc_check_cell kV_check_cell dc_check_cell pm_check_cell cd_check_cell ct_check_cell : Value}
    {f_laid : Addr} {od_laid an_laid : Option Addr} {sl_laid : Array (Option Value)} {oc_laid kV_laid dc_laid pm_laid cd_laid ct_laid : Value}
    {f_empty : Addr} {od_empty an_empty : Option Addr} {sl_empty : Array (Option Value)} {oc_empty kV_empty dc_empty pm_empty cd_empty ct_empty : Value}
    {f_other_hand : Addr} {od_other_hand an_other_hand : Option Addr} {sl_other_hand : Array (Option Value)} {oc_other_hand kV_other_hand dc_other_hand pm_other_hand cd_other_hand ct_other_hand : Value}
    {f_joined_hand : Addr} {od_joined_hand an_joined_hand : Option Addr} {sl_joined_hand : Array (Option Value)} {oc_joined_hand kV_joined_hand dc_joined_hand pm_joined_hand cd_joined_hand ct_joined_hand : Value}
    {f_check_end : Addr} {od_check_end an_check_end : Option Addr} {sl_check_end : Array (Option Value)} {oc_check_end kV_check_end dc_check_end pm_check_end cd_check_end ct_check_end : Value}
    {f_wins_by : Addr} {od_wins_by an_wins_by : Option Addr} {sl_wins_by : Array (Option Value)} {oc_wins_by kV_wins_by dc_wins_by pm_wins_by cd_wins_by ct_wins_by : Value}
    {f_has_reply : Addr} {od_has_reply an_has_reply : Option Addr} {sl_has_reply : Array (Option Value)} {oc_has_reply kV_has_reply dc_has_reply pm_has_reply cd_has_reply ct_has_reply : Value}
    {f_can_win : Addr} {od_can_win an_can_win : Option Addr} {sl_can_win : Array (Option Value)} {oc_can_win kV_can_win dc_can_win pm_can_win cd_can_win ct_can_win : Value}
    {f_replies : Addr} {od_replies an_replies : Option Addr} {sl_replies : Array (Option Value)} {oc_replies kV_replies dc_replies pm_replies cd_replies ct_replies : Value}
    {f_l_put : Addr} {od_l_put an_l_put : Option Addr} {sl_l_put : Array (Option Value)} {oc_l_put kV_l_put dc_l_put pm_l_put cd_l_put ct_l_put : Value}
    {f_l_free : Addr} {od_l_free an_l_free : Option Addr} {sl_l_free : Array (Option Value)} {oc_l_free kV_l_free dc_l_free pm_l_free cd_l_free ct_l_free : Value}
    {f_l_road : Addr} {od_l_road an_l_road : Option Addr} {sl_l_road : Array (Option Value)} {oc_l_road kV_l_road dc_l_road pm_l_road cd_l_road ct_l_road : Value}
    {f_l_open_by : Addr} {od_l_open_by an_l_open_by : Option Addr} {sl_l_open_by : Array (Option Value)} {oc_l_open_by kV_l_open_by dc_l_open_by pm_l_open_by cd_l_open_by ct_l_open_by : Value}
    {f_l_wins : Addr} {od_l_wins an_l_wins : Option Addr} {sl_l_wins : Array (Option Value)} {oc_l_wins kV_l_wins dc_l_wins pm_l_wins cd_l_wins ct_l_wins : Value}
    {f_l_due : Addr} {od_l_due an_l_due : Option Addr} {sl_l_due : Array (Option Value)} {oc_l_due kV_l_due dc_l_due pm_l_due cd_l_due ct_l_due : Value}
    {f_law : Addr} {od_law an_law : Option Addr} {sl_law : Array (Option Value)} {oc_law kV_law dc_law pm_law cd_law ct_law : Value}
    (z_len : PySem.W.nsIn K mainGlobals "len" = some none)
    (z_range : PySem.W.nsIn K mainGlobals "range" = some none)
    (z_list : PySem.W.nsIn K mainGlobals "list" = some none)
    (z_int : PySem.W.nsIn K mainGlobals "int" = some none)
    (z_isinst : PySem.W.nsIn K mainGlobals "isinstance" = some none)
    (z_bool : PySem.W.nsIn K mainGlobals "bool" = some none)
    (z_tuple : PySem.W.nsIn K mainGlobals "tuple" = some none)
    (z_str : PySem.W.nsIn K mainGlobals "str" = some none)
    (z_set : PySem.W.nsIn K mainGlobals "set" = some none)
    (z_enum : PySem.W.nsIn K mainGlobals "enumerate" = some none)
    (z_rev : PySem.W.nsIn K mainGlobals "reversed" = some none)
    (y_ib : PySem.W.kitOne K (.type "int") (.type "bool") = some false)
    (aC : PySem.W.nsIn K mainGlobals "Board" = some (some (.ref C)))
    (aBI : PySem.W.findIn K (.ref C) "__init__" = some (some (.ref fBI))) (iBI : PySem.W.isFn K (.ref fBI) = true)
    (lBI : K.lookup fBI = some ⟨ocBI, odBI, .func (PySem.W.fnOf "__init__" "Board.__init__" (defArgs s_Board_init) (defBody s_Board_init) (defScope s_Board_init) .none kVBI dcBI pmBI anBI cdBI ctBI), slBI⟩)
    (cBI : PySem.W.codeIn K cdBI "Board.__init__" = true)
    (kBI : PySem.W.keepIn K (.ref fBI) = true)
    (pg : PySem.W.plainGet K C Str.empty = true)
    (hd : PySem.W.hasDictIn K C = true)
    (po : PySem.W.plainOver K C = true)
    (sa : PySem.W.findIn K (.ref C) "__setattr__" = some (some (.builtin "object.__setattr__")))
    (mk : PySem.W.makesIn K C = true)
    (kc : PySem.W.keepIn K (.ref C) = true)
    (nR : PySem.W.findIn K (.ref C) "rows" = some none)
    (nH : PySem.W.findIn K (.ref C) "height" = some none)
    (nW : PySem.W.findIn K (.ref C) "width" = some none)
    (gNORTH : PySem.W.nsIn K mainGlobals "NORTH" = some (some (.str "n" tNORTH)))
    (gWEST : PySem.W.nsIn K mainGlobals "WEST" = some (some (.str "w" tWEST)))
    (gEMPTY : PySem.W.nsIn K mainGlobals "EMPTY" = some (some (.str "." tEMPTY)))
    (gMOST : PySem.W.nsIn K mainGlobals "MOST" = some (some (.int 9 tMOST)))
    (gMOST_EMPTY : PySem.W.nsIn K mainGlobals "MOST_EMPTY" = some (some (.int 6 tMOST_EMPTY)))
    (gX : PySem.W.nsIn K mainGlobals "EXCHANGED" = some (some (.ref dX)))
    (lX : K.lookup dX = some ⟨.type "dict", none, .dict #[⟨PyData.keyHash w.params "n", .str "n" xt1, .str "w" xu1⟩, ⟨PyData.keyHash w.params "w", .str "w" xt2, .str "n" xu2⟩, ⟨PyData.keyHash w.params ".", .str "." xt3, .str "." xu3⟩] xn, #[]⟩)
    (sX : (dX == sysModules) = false)
    (a_l_cell_at : PySem.W.nsIn K mainGlobals "_law_cell_at" = some (some (.ref f_l_cell_at)))
    (l_l_cell_at : K.lookup f_l_cell_at = some ⟨oc_l_cell_at, od_l_cell_at, .func (PySem.W.fnOf "_law_cell_at" "_law_cell_at" (defArgs s_l_cell_at) (defBody s_l_cell_at) (defScope s_l_cell_at) .none kV_l_cell_at dc_l_cell_at pm_l_cell_at an_l_cell_at cd_l_cell_at ct_l_cell_at), sl_l_cell_at⟩)
    (c_l_cell_at : PySem.W.codeIn K cd_l_cell_at "_law_cell_at" = true)
    (k_l_cell_at : PySem.W.keepIn K (.ref f_l_cell_at) = true)
    (a_l_mix : PySem.W.nsIn K mainGlobals "_law_mix" = some (some (.ref f_l_mix)))
    (l_l_mix : K.lookup f_l_mix = some ⟨oc_l_mix, od_l_mix, .func (PySem.W.fnOf "_law_mix" "_law_mix" (defArgs s_l_mix) (defBody s_l_mix) (defScope s_l_mix) .none kV_l_mix dc_l_mix pm_l_mix an_l_mix cd_l_mix ct_l_mix), sl_l_mix⟩)
    (c_l_mix : PySem.W.codeIn K cd_l_mix "_law_mix" = true)
    (k_l_mix : PySem.W.keepIn K (.ref f_l_mix) = true)
    (a_l_size_by : PySem.W.nsIn K mainGlobals "_law_size_by" = some (some (.ref f_l_size_by)))
    (l_l_size_by : K.lookup f_l_size_by = some ⟨oc_l_size_by, od_l_size_by, .func (PySem.W.fnOf "_law_size_by" "_law_size_by" (defArgs s_l_size_by) (defBody s_l_size_by) (defScope s_l_size_by) .none kV_l_size_by dc_l_size_by pm_l_size_by an_l_size_by cd_l_size_by ct_l_size_by), sl_l_size_by⟩)
    (c_l_size_by : PySem.W.codeIn K cd_l_size_by "_law_size_by" = true)
    (k_l_size_by : PySem.W.keepIn K (.ref f_l_size_by) = true)
    (a_l_rows_by : PySem.W.nsIn K mainGlobals "_law_rows_by" = some (some (.ref f_l_rows_by)))
    (l_l_rows_by : K.lookup f_l_rows_by = some ⟨oc_l_rows_by, od_l_rows_by, .func (PySem.W.fnOf "_law_rows_by" "_law_rows_by" (defArgs s_l_rows_by) (defBody s_l_rows_by) (defScope s_l_rows_by) .none kV_l_rows_by dc_l_rows_by pm_l_rows_by an_l_rows_by cd_l_rows_by ct_l_rows_by), sl_l_rows_by⟩)
    (c_l_rows_by : PySem.W.codeIn K cd_l_rows_by "_law_rows_by" = true)
    (k_l_rows_by : PySem.W.keepIn K (.ref f_l_rows_by) = true)
    (a_check_row : PySem.W.nsIn K mainGlobals "check_row" = some (some (.ref f_check_row)))
    (l_check_row : K.lookup f_check_row = some ⟨oc_check_row, od_check_row, .func (PySem.W.fnOf "check_row" "check_row" (defArgs s_check_row) (defBody s_check_row) (defScope s_check_row) .none kV_check_row dc_check_row pm_check_row an_check_row cd_check_row ct_check_row), sl_check_row⟩)
    (c_check_row : PySem.W.codeIn K cd_check_row "check_row" = true)
    (k_check_row : PySem.W.keepIn K (.ref f_check_row) = true)
    (a_check_rows : PySem.W.nsIn K mainGlobals "check_rows" = some (some (.ref f_check_rows)))
    (l_check_rows : K.lookup f_check_rows = some ⟨oc_check_rows, od_check_rows, .func (PySem.W.fnOf "check_rows" "check_rows" (defArgs s_check_rows) (defBody s_check_rows) (defScope s_check_rows) .none kV_check_rows dc_check_rows pm_check_rows an_check_rows cd_check_rows ct_check_rows), sl_check_rows⟩)
    (c_check_rows : PySem.W.codeIn K cd_check_rows "check_rows" = true)
    (k_check_rows : PySem.W.keepIn K (.ref f_check_rows) = true)
    (a_near : PySem.W.nsIn K mainGlobals "near" = some (some (.ref f_near)))
    (l_near : K.lookup f_near = some ⟨oc_near, od_near, .func (PySem.W.fnOf "near" "near" (defArgs s_near) (defBody s_near) (defScope s_near) .none kV_near dc_near pm_near an_near cd_near ct_near), sl_near⟩)
    (c_near : PySem.W.codeIn K cd_near "near" = true)
    (k_near : PySem.W.keepIn K (.ref f_near) = true)
    (a_has_cell : PySem.W.nsIn K mainGlobals "has_cell" = some (some (.ref f_has_cell)))
    (l_has_cell : K.lookup f_has_cell = some ⟨oc_has_cell, od_has_cell, .func (PySem.W.fnOf "has_cell" "has_cell" (defArgs s_has_cell) (defBody s_has_cell) (defScope s_has_cell) .none kV_has_cell dc_has_cell pm_has_cell an_has_cell cd_has_cell ct_has_cell), sl_has_cell⟩)
    (c_has_cell : PySem.W.codeIn K cd_has_cell "has_cell" = true)
    (k_has_cell : PySem.W.keepIn K (.ref f_has_cell) = true)
    (a_holds : PySem.W.nsIn K mainGlobals "holds" = some (some (.ref f_holds)))
    (l_holds : K.lookup f_holds = some ⟨oc_holds, od_holds, .func (PySem.W.fnOf "holds" "holds" (defArgs s_holds) (defBody s_holds) (defScope s_holds) .none kV_holds dc_holds pm_holds an_holds cd_holds ct_holds), sl_holds⟩)
    (c_holds : PySem.W.codeIn K cd_holds "holds" = true)
    (k_holds : PySem.W.keepIn K (.ref f_holds) = true)
    (a_first_shore : PySem.W.nsIn K mainGlobals "first_shore" = some (some (.ref f_first_shore)))
    (l_first_shore : K.lookup f_first_shore = some ⟨oc_first_shore, od_first_shore, .func (PySem.W.fnOf "first_shore" "first_shore" (defArgs s_first_shore) (defBody s_first_shore) (defScope s_first_shore) .none kV_first_shore dc_first_shore pm_first_shore an_first_shore cd_first_shore ct_first_shore), sl_first_shore⟩)
    (c_first_shore : PySem.W.codeIn K cd_first_shore "first_shore" = true)
    (k_first_shore : PySem.W.keepIn K (.ref f_first_shore) = true)
    (a_on_other_shore : PySem.W.nsIn K mainGlobals "on_other_shore" = some (some (.ref f_on_other_shore)))
    (l_on_other_shore : K.lookup f_on_other_shore = some ⟨oc_on_other_shore, od_on_other_shore, .func (PySem.W.fnOf "on_other_shore" "on_other_shore" (defArgs s_on_other_shore) (defBody s_on_other_shore) (defScope s_on_other_shore) .none kV_on_other_shore dc_on_other_shore pm_on_other_shore an_on_other_shore cd_on_other_shore ct_on_other_shore), sl_on_other_shore⟩)
    (c_on_other_shore : PySem.W.codeIn K cd_on_other_shore "on_other_shore" = true)
    (k_on_other_shore : PySem.W.keepIn K (.ref f_on_other_shore) = true)
    (a_reached : PySem.W.nsIn K mainGlobals "reached" = some (some (.ref f_reached)))
    (l_reached : K.lookup f_reached = some ⟨oc_reached, od_reached, .func (PySem.W.fnOf "reached" "reached" (defArgs s_reached) (defBody s_reached) (defScope s_reached) .none kV_reached dc_reached pm_reached an_reached cd_reached ct_reached), sl_reached⟩)
    (c_reached : PySem.W.codeIn K cd_reached "reached" = true)
    (k_reached : PySem.W.keepIn K (.ref f_reached) = true)
    (a_way_to : PySem.W.nsIn K mainGlobals "way_to" = some (some (.ref f_way_to)))
    (l_way_to : K.lookup f_way_to = some ⟨oc_way_to, od_way_to, .func (PySem.W.fnOf "way_to" "way_to" (defArgs s_way_to) (defBody s_way_to) (defScope s_way_to) .none kV_way_to dc_way_to pm_way_to an_way_to cd_way_to ct_way_to), sl_way_to⟩)
    (c_way_to : PySem.W.codeIn K cd_way_to "way_to" = true)
    (k_way_to : PySem.W.keepIn K (.ref f_way_to) = true)
    (a_road : PySem.W.nsIn K mainGlobals "road" = some (some (.ref f_road)))
    (l_road : K.lookup f_road = some ⟨oc_road, od_road, .func (PySem.W.fnOf "road" "road" (defArgs s_road) (defBody s_road) (defScope s_road) .none kV_road dc_road pm_road an_road cd_road ct_road), sl_road⟩)
    (c_road : PySem.W.codeIn K cd_road "road" = true)
    (k_road : PySem.W.keepIn K (.ref f_road) = true)
    (a_joined : PySem.W.nsIn K mainGlobals "joined" = some (some (.ref f_joined)))
    (l_joined : K.lookup f_joined = some ⟨oc_joined, od_joined, .func (PySem.W.fnOf "joined" "joined" (defArgs s_joined) (defBody s_joined) (defScope s_joined) .none kV_joined dc_joined pm_joined an_joined cd_joined ct_joined), sl_joined⟩)
    (c_joined : PySem.W.codeIn K cd_joined "joined" = true)
    (k_joined : PySem.W.keepIn K (.ref f_joined) = true)
    (a_l_told : PySem.W.nsIn K mainGlobals "_law_told" = some (some (.ref f_l_told)))
    (l_l_told : K.lookup f_l_told = some ⟨oc_l_told, od_l_told, .func (PySem.W.fnOf "_law_told" "_law_told" (defArgs s_l_told) (defBody s_l_told) (defScope s_l_told) .none kV_l_told dc_l_told pm_l_told an_l_told cd_l_told ct_l_told), sl_l_told⟩)
    (c_l_told : PySem.W.codeIn K cd_l_told "_law_told" = true)
    (k_l_told : PySem.W.keepIn K (.ref f_l_told) = true)
    (a_l_whole : PySem.W.nsIn K mainGlobals "_law_whole" = some (some (.ref f_l_whole)))
    (l_l_whole : K.lookup f_l_whole = some ⟨oc_l_whole, od_l_whole, .func (PySem.W.fnOf "_law_whole" "_law_whole" (defArgs s_l_whole) (defBody s_l_whole) (defScope s_l_whole) .none kV_l_whole dc_l_whole pm_l_whole an_l_whole cd_l_whole ct_l_whole), sl_l_whole⟩)
    (c_l_whole : PySem.W.codeIn K cd_l_whole "_law_whole" = true)
    (k_l_whole : PySem.W.keepIn K (.ref f_l_whole) = true)
    (a_l_places : PySem.W.nsIn K mainGlobals "_law_places" = some (some (.ref f_l_places)))
    (l_l_places : K.lookup f_l_places = some ⟨oc_l_places, od_l_places, .func (PySem.W.fnOf "_law_places" "_law_places" (defArgs s_l_places) (defBody s_l_places) (defScope s_l_places) .none kV_l_places dc_l_places pm_l_places an_l_places cd_l_places ct_l_places), sl_l_places⟩)
    (c_l_places : PySem.W.codeIn K cd_l_places "_law_places" = true)
    (k_l_places : PySem.W.keepIn K (.ref f_l_places) = true)
    (a_check_cell : PySem.W.nsIn K mainGlobals "check_cell" = some (some (.ref f_check_cell)))
    (l_check_cell : K.lookup f_check_cell = some ⟨oc_check_cell, od_check_cell, .func (PySem.W.fnOf "check_cell" "check_cell" (defArgs s_check_cell) (defBody s_check_cell) (defScope s_check_cell) .none kV_check_cell dc_check_cell pm_check_cell an_check_cell cd_check_cell ct_check_cell), sl_check_cell⟩)
    (c_check_cell : PySem.W.codeIn K cd_check_cell "check_cell" = true)
    (k_check_cell : PySem.W.keepIn K (.ref f_check_cell) = true)
    (a_laid : PySem.W.nsIn K mainGlobals "laid" = some (some (.ref f_laid)))
    (l_laid : K.lookup f_laid = some ⟨oc_laid, od_laid, .func (PySem.W.fnOf "laid" "laid" (defArgs s_laid) (defBody s_laid) (defScope s_laid) .none kV_laid dc_laid pm_laid an_laid cd_laid ct_laid), sl_laid⟩)
    (c_laid : PySem.W.codeIn K cd_laid "laid" = true)
    (k_laid : PySem.W.keepIn K (.ref f_laid) = true)
    (a_empty : PySem.W.nsIn K mainGlobals "empty" = some (some (.ref f_empty)))
    (l_empty : K.lookup f_empty = some ⟨oc_empty, od_empty, .func (PySem.W.fnOf "empty" "empty" (defArgs s_empty) (defBody s_empty) (defScope s_empty) .none kV_empty dc_empty pm_empty an_empty cd_empty ct_empty), sl_empty⟩)
    (c_empty : PySem.W.codeIn K cd_empty "empty" = true)
    (k_empty : PySem.W.keepIn K (.ref f_empty) = true)
    (a_other_hand : PySem.W.nsIn K mainGlobals "other_hand" = some (some (.ref f_other_hand)))
    (l_other_hand : K.lookup f_other_hand = some ⟨oc_other_hand, od_other_hand, .func (PySem.W.fnOf "other_hand" "other_hand" (defArgs s_other_hand) (defBody s_other_hand) (defScope s_other_hand) .none kV_other_hand dc_other_hand pm_other_hand an_other_hand cd_other_hand ct_other_hand), sl_other_hand⟩)
    (c_other_hand : PySem.W.codeIn K cd_other_hand "other_hand" = true)
    (k_other_hand : PySem.W.keepIn K (.ref f_other_hand) = true)
    (a_joined_hand : PySem.W.nsIn K mainGlobals "joined_hand" = some (some (.ref f_joined_hand)))
    (l_joined_hand : K.lookup f_joined_hand = some ⟨oc_joined_hand, od_joined_hand, .func (PySem.W.fnOf "joined_hand" "joined_hand" (defArgs s_joined_hand) (defBody s_joined_hand) (defScope s_joined_hand) .none kV_joined_hand dc_joined_hand pm_joined_hand an_joined_hand cd_joined_hand ct_joined_hand), sl_joined_hand⟩)
    (c_joined_hand : PySem.W.codeIn K cd_joined_hand "joined_hand" = true)
    (k_joined_hand : PySem.W.keepIn K (.ref f_joined_hand) = true)
    (a_check_end : PySem.W.nsIn K mainGlobals "check_end" = some (some (.ref f_check_end)))
    (l_check_end : K.lookup f_check_end = some ⟨oc_check_end, od_check_end, .func (PySem.W.fnOf "check_end" "check_end" (defArgs s_check_end) (defBody s_check_end) (defScope s_check_end) .none kV_check_end dc_check_end pm_check_end an_check_end cd_check_end ct_check_end), sl_check_end⟩)
    (c_check_end : PySem.W.codeIn K cd_check_end "check_end" = true)
    (k_check_end : PySem.W.keepIn K (.ref f_check_end) = true)
    (a_wins_by : PySem.W.nsIn K mainGlobals "wins_by" = some (some (.ref f_wins_by)))
    (l_wins_by : K.lookup f_wins_by = some ⟨oc_wins_by, od_wins_by, .func (PySem.W.fnOf "wins_by" "wins_by" (defArgs s_wins_by) (defBody s_wins_by) (defScope s_wins_by) .none kV_wins_by dc_wins_by pm_wins_by an_wins_by cd_wins_by ct_wins_by), sl_wins_by⟩)
    (c_wins_by : PySem.W.codeIn K cd_wins_by "wins_by" = true)
    (k_wins_by : PySem.W.keepIn K (.ref f_wins_by) = true)
    (a_has_reply : PySem.W.nsIn K mainGlobals "has_reply" = some (some (.ref f_has_reply)))
    (l_has_reply : K.lookup f_has_reply = some ⟨oc_has_reply, od_has_reply, .func (PySem.W.fnOf "has_reply" "has_reply" (defArgs s_has_reply) (defBody s_has_reply) (defScope s_has_reply) .none kV_has_reply dc_has_reply pm_has_reply an_has_reply cd_has_reply ct_has_reply), sl_has_reply⟩)
    (c_has_reply : PySem.W.codeIn K cd_has_reply "has_reply" = true)
    (k_has_reply : PySem.W.keepIn K (.ref f_has_reply) = true)
    (a_can_win : PySem.W.nsIn K mainGlobals "can_win" = some (some (.ref f_can_win)))
    (l_can_win : K.lookup f_can_win = some ⟨oc_can_win, od_can_win, .func (PySem.W.fnOf "can_win" "can_win" (defArgs s_can_win) (defBody s_can_win) (defScope s_can_win) .none kV_can_win dc_can_win pm_can_win an_can_win cd_can_win ct_can_win), sl_can_win⟩)
    (c_can_win : PySem.W.codeIn K cd_can_win "can_win" = true)
    (k_can_win : PySem.W.keepIn K (.ref f_can_win) = true)
    (a_replies : PySem.W.nsIn K mainGlobals "replies" = some (some (.ref f_replies)))
    (l_replies : K.lookup f_replies = some ⟨oc_replies, od_replies, .func (PySem.W.fnOf "replies" "replies" (defArgs s_replies) (defBody s_replies) (defScope s_replies) .none kV_replies dc_replies pm_replies an_replies cd_replies ct_replies), sl_replies⟩)
    (c_replies : PySem.W.codeIn K cd_replies "replies" = true)
    (k_replies : PySem.W.keepIn K (.ref f_replies) = true)
    (a_l_put : PySem.W.nsIn K mainGlobals "_law_put" = some (some (.ref f_l_put)))
    (l_l_put : K.lookup f_l_put = some ⟨oc_l_put, od_l_put, .func (PySem.W.fnOf "_law_put" "_law_put" (defArgs s_l_put) (defBody s_l_put) (defScope s_l_put) .none kV_l_put dc_l_put pm_l_put an_l_put cd_l_put ct_l_put), sl_l_put⟩)
    (c_l_put : PySem.W.codeIn K cd_l_put "_law_put" = true)
    (k_l_put : PySem.W.keepIn K (.ref f_l_put) = true)
    (a_l_free : PySem.W.nsIn K mainGlobals "_law_free" = some (some (.ref f_l_free)))
    (l_l_free : K.lookup f_l_free = some ⟨oc_l_free, od_l_free, .func (PySem.W.fnOf "_law_free" "_law_free" (defArgs s_l_free) (defBody s_l_free) (defScope s_l_free) .none kV_l_free dc_l_free pm_l_free an_l_free cd_l_free ct_l_free), sl_l_free⟩)
    (c_l_free : PySem.W.codeIn K cd_l_free "_law_free" = true)
    (k_l_free : PySem.W.keepIn K (.ref f_l_free) = true)
    (a_l_road : PySem.W.nsIn K mainGlobals "_law_road" = some (some (.ref f_l_road)))
    (l_l_road : K.lookup f_l_road = some ⟨oc_l_road, od_l_road, .func (PySem.W.fnOf "_law_road" "_law_road" (defArgs s_l_road) (defBody s_l_road) (defScope s_l_road) .none kV_l_road dc_l_road pm_l_road an_l_road cd_l_road ct_l_road), sl_l_road⟩)
    (c_l_road : PySem.W.codeIn K cd_l_road "_law_road" = true)
    (k_l_road : PySem.W.keepIn K (.ref f_l_road) = true)
    (a_l_open_by : PySem.W.nsIn K mainGlobals "_law_open_by" = some (some (.ref f_l_open_by)))
    (l_l_open_by : K.lookup f_l_open_by = some ⟨oc_l_open_by, od_l_open_by, .func (PySem.W.fnOf "_law_open_by" "_law_open_by" (defArgs s_l_open_by) (defBody s_l_open_by) (defScope s_l_open_by) .none kV_l_open_by dc_l_open_by pm_l_open_by an_l_open_by cd_l_open_by ct_l_open_by), sl_l_open_by⟩)
    (c_l_open_by : PySem.W.codeIn K cd_l_open_by "_law_open_by" = true)
    (k_l_open_by : PySem.W.keepIn K (.ref f_l_open_by) = true)
    (a_l_wins : PySem.W.nsIn K mainGlobals "_law_wins" = some (some (.ref f_l_wins)))
    (l_l_wins : K.lookup f_l_wins = some ⟨oc_l_wins, od_l_wins, .func (PySem.W.fnOf "_law_wins" "_law_wins" (defArgs s_l_wins) (defBody s_l_wins) (defScope s_l_wins) .none kV_l_wins dc_l_wins pm_l_wins an_l_wins cd_l_wins ct_l_wins), sl_l_wins⟩)
    (c_l_wins : PySem.W.codeIn K cd_l_wins "_law_wins" = true)
    (k_l_wins : PySem.W.keepIn K (.ref f_l_wins) = true)
    (a_l_due : PySem.W.nsIn K mainGlobals "_law_due" = some (some (.ref f_l_due)))
    (l_l_due : K.lookup f_l_due = some ⟨oc_l_due, od_l_due, .func (PySem.W.fnOf "_law_due" "_law_due" (defArgs s_l_due) (defBody s_l_due) (defScope s_l_due) .none kV_l_due dc_l_due pm_l_due an_l_due cd_l_due ct_l_due), sl_l_due⟩)
    (c_l_due : PySem.W.codeIn K cd_l_due "_law_due" = true)
    (k_l_due : PySem.W.keepIn K (.ref f_l_due) = true)
    (a_law : PySem.W.nsIn K mainGlobals "law" = some (some (.ref f_law)))
    (l_law : K.lookup f_law = some ⟨oc_law, od_law, .func (PySem.W.fnOf "law" "law" (defArgs s_law) (defBody s_law) (defScope s_law) .none kV_law dc_law pm_law an_law cd_law ct_law), sl_law⟩)
    (c_law : PySem.W.codeIn K cd_law "law" = true)
    (k_law : PySem.W.keepIn K (.ref f_law) = true)
    : ∃ fd : FuncData, (∀ (s : Shared) (v : Value), BindsTo s fd ⟨[v], []⟩ [("script", v)]) ∧ ∀ base : Heap, K.In base → base.Ns mainGlobals mg → FnOk l.prog w K mg base CX0 22 fa fd ["script"] (sp_law K) := by
  have e := hfa.symm.trans (PySem.W.mg_of X G_ a_law)
  cases e
  have B : Bt mg := ⟨PySem.W.mg_none_of X G_ z_len, PySem.W.mg_none_of X G_ z_range, PySem.W.mg_none_of X G_ z_list, PySem.W.mg_none_of X G_ z_int, PySem.W.mg_none_of X G_ z_isinst, PySem.W.mg_none_of X G_ z_bool, PySem.W.mg_none_of X G_ z_tuple, PySem.W.mg_none_of X G_ z_str, PySem.W.mg_none_of X G_ z_set, PySem.W.mg_none_of X G_ z_enum, PySem.W.mg_none_of X G_ z_rev⟩
  have Z : Kt K := ⟨y_ib⟩
  have T : BoardC K C := ⟨⟨pg, hd, po, sa⟩, nR, nH, nW⟩
  have M : Mk K C fBI := ⟨mk, aBI, iBI, kc⟩
  have FBI := fun_mk (st := s_Board_init) lBI cBI kBI
  have mC := PySem.W.mg_of X G_ aC
  have hNORTH := PySem.W.mg_of X G_ gNORTH
  have hWEST := PySem.W.mg_of X G_ gWEST
  have hEMPTY := PySem.W.mg_of X G_ gEMPTY
  have hMOST := PySem.W.mg_of X G_ gMOST
  have hMOST_EMPTY := PySem.W.mg_of X G_ gMOST_EMPTY
  have hX := PySem.W.mg_of X G_ gX
  have XX : KDic l.prog w K dX xkv := xkv_mk lX sX
  refine ⟨PySem.W.fnOf "law" "law" (defArgs s_law) (defBody s_law) (defScope s_law) .none kV_law dc_law pm_law an_law cd_law ct_law, fun s v => .of_eq rfl, fun base kb nb => ?_⟩
  have F_l_cell_at := L2.fn_mk (st := s_l_cell_at) X G_ a_l_cell_at l_l_cell_at c_l_cell_at k_l_cell_at
  have F_l_mix := L2.fn_mk (st := s_l_mix) X G_ a_l_mix l_l_mix c_l_mix k_l_mix
  have F_l_size_by := L2.fn_mk (st := s_l_size_by) X G_ a_l_size_by l_l_size_by c_l_size_by k_l_size_by
  have F_l_rows_by := L2.fn_mk (st := s_l_rows_by) X G_ a_l_rows_by l_l_rows_by c_l_rows_by k_l_rows_by
  have F_check_row := L2.fn_mk (st := s_check_row) X G_ a_check_row l_check_row c_check_row k_check_row
  have F_check_rows := L2.fn_mk (st := s_check_rows) X G_ a_check_rows l_check_rows c_check_rows k_check_rows
  have F_near := L2.fn_mk (st := s_near) X G_ a_near l_near c_near k_near
  have F_has_cell := L2.fn_mk (st := s_has_cell) X G_ a_has_cell l_has_cell c_has_cell k_has_cell
  have F_holds := L2.fn_mk (st := s_holds) X G_ a_holds l_holds c_holds k_holds
  have F_first_shore := L2.fn_mk (st := s_first_shore) X G_ a_first_shore l_first_shore c_first_shore k_first_shore
  have F_on_other_shore := L2.fn_mk (st := s_on_other_shore) X G_ a_on_other_shore l_on_other_shore c_on_other_shore k_on_other_shore
  have F_reached := L2.fn_mk (st := s_reached) X G_ a_reached l_reached c_reached k_reached
  have F_way_to := L2.fn_mk (st := s_way_to) X G_ a_way_to l_way_to c_way_to k_way_to
  have F_road := L2.fn_mk (st := s_road) X G_ a_road l_road c_road k_road
  have F_joined := L2.fn_mk (st := s_joined) X G_ a_joined l_joined c_joined k_joined
  have F_l_told := L2.fn_mk (st := s_l_told) X G_ a_l_told l_l_told c_l_told k_l_told
  have F_l_whole := L2.fn_mk (st := s_l_whole) X G_ a_l_whole l_l_whole c_l_whole k_l_whole
  have F_l_places := L2.fn_mk (st := s_l_places) X G_ a_l_places l_l_places c_l_places k_l_places
  have F_check_cell := L2.fn_mk (st := s_check_cell) X G_ a_check_cell l_check_cell c_check_cell k_check_cell
  have F_laid := L2.fn_mk (st := s_laid) X G_ a_laid l_laid c_laid k_laid
  have F_empty := L2.fn_mk (st := s_empty) X G_ a_empty l_empty c_empty k_empty
  have F_other_hand := L2.fn_mk (st := s_other_hand) X G_ a_other_hand l_other_hand c_other_hand k_other_hand
  have F_joined_hand := L2.fn_mk (st := s_joined_hand) X G_ a_joined_hand l_joined_hand c_joined_hand k_joined_hand
  have F_check_end := L2.fn_mk (st := s_check_end) X G_ a_check_end l_check_end c_check_end k_check_end
  have F_wins_by := L2.fn_mk (st := s_wins_by) X G_ a_wins_by l_wins_by c_wins_by k_wins_by
  have F_has_reply := L2.fn_mk (st := s_has_reply) X G_ a_has_reply l_has_reply c_has_reply k_has_reply
  have F_can_win := L2.fn_mk (st := s_can_win) X G_ a_can_win l_can_win c_can_win k_can_win
  have F_replies := L2.fn_mk (st := s_replies) X G_ a_replies l_replies c_replies k_replies
  have F_l_put := L2.fn_mk (st := s_l_put) X G_ a_l_put l_l_put c_l_put k_l_put
  have F_l_free := L2.fn_mk (st := s_l_free) X G_ a_l_free l_l_free c_l_free k_l_free
  have F_l_road := L2.fn_mk (st := s_l_road) X G_ a_l_road l_l_road c_l_road k_l_road
  have F_l_open_by := L2.fn_mk (st := s_l_open_by) X G_ a_l_open_by l_l_open_by c_l_open_by k_l_open_by
  have F_l_wins := L2.fn_mk (st := s_l_wins) X G_ a_l_wins l_l_wins c_l_wins k_l_wins
  have F_l_due := L2.fn_mk (st := s_l_due) X G_ a_l_due l_l_due c_l_due k_l_due
  have d_l_cell_at := ok_l_cell_at (P := l.prog) (w := w) (base := base) B F_l_cell_at
  have d_l_mix := ok_l_mix (P := l.prog) (w := w) (base := base) F_l_mix
  have d_l_size_by := ok_l_size_by (P := l.prog) (w := w) (base := base) d_l_cell_at F_l_size_by
  have d_l_rows_by := ok_l_rows_by (P := l.prog) (w := w) (base := base) B d_l_cell_at d_l_mix F_l_rows_by
  have d_check_row := ok_check_row (P := l.prog) (w := w) (base := base) B hMOST hX XX F_check_row
  have d_check_rows := ok_check_rows (P := l.prog) (w := w) (base := base) B hMOST d_check_row F_check_rows
  have d_Board_init := ok_Board_init (P := l.prog) (w := w) (base := base) B T mC M d_check_rows FBI
  have d_near := ok_near (P := l.prog) (w := w) (base := base) F_near
  have d_has_cell := ok_has_cell (P := l.prog) (w := w) (base := base) T F_has_cell
  have d_holds := ok_holds (P := l.prog) (w := w) (base := base) T d_has_cell F_holds
  have d_first_shore := ok_first_shore (P := l.prog) (w := w) (base := base) B T (.inr ⟨_, hNORTH⟩) F_first_shore
  have d_on_other_shore := ok_on_other_shore (P := l.prog) (w := w) (base := base) T hNORTH F_on_other_shore
  have d_reached := ok_reached (P := l.prog) (w := w) (base := base) B d_first_shore d_holds d_near F_reached
  have d_way_to := ok_way_to (P := l.prog) (w := w) (base := base) B F_way_to
  have d_road := ok_road (P := l.prog) (w := w) (base := base) d_reached d_on_other_shore d_way_to F_road
  have d_joined := ok_joined (P := l.prog) (w := w) (base := base) d_road F_joined
  have d_l_told := ok_l_told (P := l.prog) (w := w) (base := base) B F_l_told
  have d_l_whole := ok_l_whole (P := l.prog) (w := w) (base := base) B Z F_l_whole
  have d_l_places := ok_l_places (P := l.prog) (w := w) (base := base) B d_l_whole F_l_places
  have d_check_cell := ok_check_cell (P := l.prog) (w := w) (base := base) d_has_cell F_check_cell
  have d_laid := ok_laid (P := l.prog) (w := w) (base := base) B T d_Board_init d_check_cell F_laid
  have d_empty := ok_empty (P := l.prog) (w := w) (base := base) B T hEMPTY F_empty
  have d_other_hand := ok_other_hand (P := l.prog) (w := w) (base := base) hX XX F_other_hand
  have d_joined_hand := ok_joined_hand (P := l.prog) (w := w) (base := base) hNORTH hWEST d_joined F_joined_hand
  have d_check_end := ok_check_end (P := l.prog) (w := w) (base := base) B hMOST_EMPTY d_joined_hand d_empty F_check_end
  have d_wins_by := ok_wins_by (P := l.prog) (w := w) (base := base) d_laid d_joined d_other_hand d_empty F_wins_by F_has_reply
  have d_has_reply := ok_has_reply (P := l.prog) (w := w) (base := base) d_empty F_has_reply d_wins_by
  have d_can_win := ok_can_win (P := l.prog) (w := w) (base := base) d_check_end d_has_reply F_can_win
  have d_replies := ok_replies (P := l.prog) (w := w) (base := base) d_check_end d_empty d_wins_by F_replies
  have d_l_put := ok_l_put (P := l.prog) (w := w) (base := base) F_l_put
  have d_l_free := ok_l_free (P := l.prog) (w := w) (base := base) B F_l_free
  have d_l_road := ok_l_road (P := l.prog) (w := w) (base := base) B F_l_road
  have d_l_open_by := ok_l_open_by (P := l.prog) (w := w) (base := base) B d_l_cell_at d_l_mix d_l_size_by d_l_rows_by d_l_put d_l_free d_l_road F_l_open_by
  have d_l_wins := ok_l_wins (P := l.prog) (w := w) (base := base) B d_l_put d_l_free d_l_road F_l_wins
  have d_l_due := ok_l_due (P := l.prog) (w := w) (base := base) B d_l_put d_l_free d_l_road d_l_wins F_l_due
  exact ok_law B T d_l_cell_at d_l_told d_l_places d_Board_init d_can_win d_replies d_l_free d_l_open_by d_l_due (fun_mk l_law c_law k_law)
end Sw
namespace PySem.W.Fast
def tw16923081225683365910 : Unit := ()
def tw7333624413904932891 : Unit := ()
def tw7296180956452996487 : Unit := ()
def tw7153463560097645622 : Unit := ()
def tw9638579491157270251 : Unit := ()
def tw13984706745151801843 : Unit := ()
def tw8251045310688665304 : Unit := ()
end PySem.W.Fast
set_option Elab.async false
open PySem PySem.W PyProof.Rows
set_option maxRecDepth 100000 in
set_option maxHeartbeats 0 in
theorem PySem.Challenge.cw_shoreways_k14_replies_holds : PySem.Challenge.rw_shoreways_k14_replies.Holds := by
  w_on; o_law; k_head; (case hw => w_witness2)
  k_fill
  refine L2.walk_ofK (l := PySem.Challenge.rw_shoreways_k14_replies) (n := 63) (k := 22) (x := "script") (CX := L2.CX0) (sp := Sw.sp_law) rfl (by decide) rfl ⟨rfl, by decide, by decide⟩ (fun w h Y => PySem.W.kIn_of Y) ?F (fun K H a ns hl _ hS => ⟨a, ns, rfl, hS, hl, fun _ => rfl⟩) fun _ _ _ _ z => z
  case F =>
    intro w mg fa h KX G hmg
    refine' Sw.all_mk KX G hmg ?z_len ?z_range ?z_list ?z_int ?z_isinst ?z_bool ?z_tuple ?z_str ?z_set ?z_enum ?z_rev ?y_ib ?aC ?aBI ?iBI ?lBI ?cBI ?kBI ?pg ?hd ?po ?sa ?mk ?kc ?nR ?nH ?nW ?gNORTH ?gWEST ?gEMPTY ?gMOST ?gMOST_EMPTY ?gX ?lX ?sX ?a_l_cell_at ?l_l_cell_at ?c_l_cell_at ?k_l_cell_at ?a_l_mix ?l_l_mix ?c_l_mix ?k_l_mix ?a_l_size_by ?l_l_size_by ?c_l_size_by ?k_l_size_by ?a_l_rows_by ?l_l_rows_by ?c_l_rows_by ?k_l_rows_by ?a_check_row ?l_check_row ?c_check_row ?k_check_row ?a_check_rows ?l_check_rows ?c_check_rows ?k_check_rows ?a_near ?l_near ?c_near ?k_near ?a_has_cell ?l_has_cell ?c_has_cell ?k_has_cell ?a_holds ?l_holds ?c_holds ?k_holds ?a_first_shore ?l_first_shore ?c_first_shore ?k_first_shore ?a_on_other_shore ?l_on_other_shore ?c_on_other_shore ?k_on_other_shore ?a_reached ?l_reached ?c_reached ?k_reached ?a_way_to ?l_way_to ?c_way_to ?k_way_to ?a_road ?l_road ?c_road ?k_road ?a_joined ?l_joined ?c_joined ?k_joined ?a_l_told ?l_l_told ?c_l_told ?k_l_told ?a_l_whole ?l_l_whole ?c_l_whole ?k_l_whole ?a_l_places ?l_l_places ?c_l_places ?k_l_places ?a_check_cell ?l_check_cell ?c_check_cell ?k_check_cell ?a_laid ?l_laid ?c_laid ?k_laid ?a_empty ?l_empty ?c_empty ?k_empty ?a_other_hand ?l_other_hand ?c_other_hand ?k_other_hand ?a_joined_hand ?l_joined_hand ?c_joined_hand ?k_joined_hand ?a_check_end ?l_check_end ?c_check_end ?k_check_end ?a_wins_by ?l_wins_by ?c_wins_by ?k_wins_by ?a_has_reply ?l_has_reply ?c_has_reply ?k_has_reply ?a_can_win ?l_can_win ?c_can_win ?k_can_win ?a_replies ?l_replies ?c_replies ?k_replies ?a_l_put ?l_l_put ?c_l_put ?k_l_put ?a_l_free ?l_l_free ?c_l_free ?k_l_free ?a_l_road ?l_l_road ?c_l_road ?k_l_road ?a_l_open_by ?l_l_open_by ?c_l_open_by ?k_l_open_by ?a_l_wins ?l_l_wins ?c_l_wins ?k_l_wins ?a_l_due ?l_l_due ?c_l_due ?k_l_due ?a_law ?l_law ?c_law ?k_law
    (case z_len => k_is)
    (case z_range => k_is)
    (case z_list => k_is)
    (case z_int => k_is)
    (case z_isinst => k_is)
    (case z_bool => k_is)
    (case z_tuple => k_is)
    (case z_str => k_is)
    (case z_set => k_is)
    (case z_enum => k_is)
    (case z_rev => k_is)
    (case y_ib => first | kit_is | rfl)
    (case aC => k_is)
    (case aBI => k_is)
    (case iBI => k_is)
    (case lBI => k_is)
    (case cBI => k_is)
    (case kBI => k_is)
    (case pg => k_is)
    (case hd => k_is)
    (case po => k_is)
    (case sa => k_is)
    (case mk => k_is)
    (case kc => k_is)
    (case nR => k_is)
    (case nH => k_is)
    (case nW => k_is)
    (case gNORTH => k_is)
    (case gWEST => k_is)
    (case gEMPTY => k_is)
    (case gMOST => k_is)
    (case gMOST_EMPTY => k_is)
    (case gX => k_is)
    (case lX => k_is)
    (case sX => first | rfl | decide)
    (case a_l_cell_at => k_is)
    (case l_l_cell_at => k_is)
    (case c_l_cell_at => k_is)
    (case k_l_cell_at => k_is)
    (case a_l_mix => k_is)
    (case l_l_mix => k_is)
    (case c_l_mix => k_is)
    (case k_l_mix => k_is)
    (case a_l_size_by => k_is)
    (case l_l_size_by => k_is)
    (case c_l_size_by => k_is)
    (case k_l_size_by => k_is)
    (case a_l_rows_by => k_is)
    (case l_l_rows_by => k_is)
    (case c_l_rows_by => k_is)
    (case k_l_rows_by => k_is)
    (case a_check_row => k_is)
    (case l_check_row => k_is)
    (case c_check_row => k_is)
    (case k_check_row => k_is)
    (case a_check_rows => k_is)
    (case l_check_rows => k_is)
    (case c_check_rows => k_is)
    (case k_check_rows => k_is)
    (case a_near => k_is)
    (case l_near => k_is)
    (case c_near => k_is)
    (case k_near => k_is)
    (case a_has_cell => k_is)
    (case l_has_cell => k_is)
    (case c_has_cell => k_is)
    (case k_has_cell => k_is)
    (case a_holds => k_is)
    (case l_holds => k_is)
    (case c_holds => k_is)
    (case k_holds => k_is)
    (case a_first_shore => k_is)
    (case l_first_shore => k_is)
    (case c_first_shore => k_is)
    (case k_first_shore => k_is)
    (case a_on_other_shore => k_is)
    (case l_on_other_shore => k_is)
    (case c_on_other_shore => k_is)
    (case k_on_other_shore => k_is)
    (case a_reached => k_is)
    (case l_reached => k_is)
    (case c_reached => k_is)
    (case k_reached => k_is)
    (case a_way_to => k_is)
    (case l_way_to => k_is)
    (case c_way_to => k_is)
    (case k_way_to => k_is)
    (case a_road => k_is)
    (case l_road => k_is)
    (case c_road => k_is)
    (case k_road => k_is)
    (case a_joined => k_is)
    (case l_joined => k_is)
    (case c_joined => k_is)
    (case k_joined => k_is)
    (case a_l_told => k_is)
    (case l_l_told => k_is)
    (case c_l_told => k_is)
    (case k_l_told => k_is)
    (case a_l_whole => k_is)
    (case l_l_whole => k_is)
    (case c_l_whole => k_is)
    (case k_l_whole => k_is)
    (case a_l_places => k_is)
    (case l_l_places => k_is)
    (case c_l_places => k_is)
    (case k_l_places => k_is)
    (case a_check_cell => k_is)
    (case l_check_cell => k_is)
    (case c_check_cell => k_is)
    (case k_check_cell => k_is)
    (case a_laid => k_is)
    (case l_laid => k_is)
    (case c_laid => k_is)
    (case k_laid => k_is)
    (case a_empty => k_is)
    (case l_empty => k_is)
    (case c_empty => k_is)
    (case k_empty => k_is)
    (case a_other_hand => k_is)
    (case l_other_hand => k_is)
    (case c_other_hand => k_is)
    (case k_other_hand => k_is)
    (case a_joined_hand => k_is)
    (case l_joined_hand => k_is)
    (case c_joined_hand => k_is)
    (case k_joined_hand => k_is)
    (case a_check_end => k_is)
    (case l_check_end => k_is)
    (case c_check_end => k_is)
    (case k_check_end => k_is)
    (case a_wins_by => k_is)
    (case l_wins_by => k_is)
    (case c_wins_by => k_is)
    (case k_wins_by => k_is)
    (case a_has_reply => k_is)
    (case l_has_reply => k_is)
    (case c_has_reply => k_is)
    (case k_has_reply => k_is)
    (case a_can_win => k_is)
    (case l_can_win => k_is)
    (case c_can_win => k_is)
    (case k_can_win => k_is)
    (case a_replies => k_is)
    (case l_replies => k_is)
    (case c_replies => k_is)
    (case k_replies => k_is)
    (case a_l_put => k_is)
    (case l_l_put => k_is)
    (case c_l_put => k_is)
    (case k_l_put => k_is)
    (case a_l_free => k_is)
    (case l_l_free => k_is)
    (case c_l_free => k_is)
    (case k_l_free => k_is)
    (case a_l_road => k_is)
    (case l_l_road => k_is)
    (case c_l_road => k_is)
    (case k_l_road => k_is)
    (case a_l_open_by => k_is)
    (case l_l_open_by => k_is)
    (case c_l_open_by => k_is)
    (case k_l_open_by => k_is)
    (case a_l_wins => k_is)
    (case l_l_wins => k_is)
    (case c_l_wins => k_is)
    (case k_l_wins => k_is)
    (case a_l_due => k_is)
    (case l_l_due => k_is)
    (case c_l_due => k_is)
    (case k_l_due => k_is)
    (case a_law => k_is)
    (case l_law => k_is)
    (case c_law => k_is)
    (case k_law => k_is)
