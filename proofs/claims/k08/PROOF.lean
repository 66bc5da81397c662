import PyProof.Rows.All
import Wide.All
import OpenK.AllK
import Wide.FinOn
import Lean
import PyProof.EqAt
import PyProof.EqKinds
import PyProof.TupleCall
import PySem.Challenge.RW_shoreways_k08_walks
-- CHANGE: your row's module here, as the last of these rows
set_option Elab.async false
set_option linter.all false
set_option maxRecDepth 100000
/-! THE HAND LAYER, for ints, bools, texts, own classes, LISTS and tuples (index, slices, in, append, pop ..), calls, loops. Paste it whole ahead of your own text; what your proof does not reach may be deleted. -/
namespace L2
open PySem PySem.Spec PyProof.Rows

/-- a key: an int or a str -/
abbrev Key := Sum Int Str
def keyIs : Key → Value → Bool
  | .inl k, v => Value.isInt k v
  | .inr x, v => Value.isStrOf x v
def keyH (w : World) : Key → Int
  | .inl k => hashInt k
  | .inr x => hashStr w x
theorem keyIs_shape : ∀ {k : Key} {v : Value}, keyIs k v = true → (∃ i t, k = Sum.inl i ∧ v = Value.int i t) ∨ (∃ x t, k = Sum.inr x ∧ v = Value.str x t)
  | .inl i, v, h => by
    obtain ⟨t, e⟩ := Value.isInt_shape (k := i) (v := v) h
    exact .inl ⟨i, t, rfl, e⟩
  | .inr x, v, h => by
    obtain ⟨t, e⟩ := Value.isStrOf_shape (x := x) (v := v) h
    exact .inr ⟨x, t, rfl, e⟩
theorem keyIs_int (i : Int) (t : Tok) : keyIs (.inl i) (.int i t) = true := by simp [keyIs, Value.isInt]
theorem keyIs_str (x : Str) (t : Tok) : keyIs (.inr x) (.str x t) = true := by simp [keyIs, Value.isStrOf]
theorem key_ll (a b : Int) : decide ((Sum.inl a : Key) = Sum.inl b) = (a == b) := by
  by_cases e : a = b
  · subst e; simp
  · have h : ¬ (Sum.inl a : Key) = Sum.inl b := fun q => e (Sum.inl.inj q)
    rw [decide_eq_false h]
    exact (beq_eq_false_iff_ne.mpr e).symm
theorem key_rr (a b : Str) : decide ((Sum.inr a : Key) = Sum.inr b) = decide (a = b) := by
  by_cases e : a = b
  · subst e; simp
  · have h : ¬ (Sum.inr a : Key) = Sum.inr b := fun q => e (Sum.inr.inj q)
    rw [decide_eq_false h, decide_eq_false e]
theorem key_lr (a : Int) (b : Str) : decide ((Sum.inl a : Key) = Sum.inr b) = false := decide_eq_false (fun q => nomatch q)
theorem key_rl (a : Str) (b : Int) : decide ((Sum.inr a : Key) = Sum.inl b) = false := decide_eq_false (fun q => nomatch q)

def mixKind (prog : Program) (w : World) : PySem.KeyKind prog w Key where
  is := keyIs
  hash := keyH w
  inj := fun v a b ha hb => by
    rcases keyIs_shape ha with ⟨i, t, rfl, rfl⟩ | ⟨x, t, rfl, rfl⟩
    · rcases keyIs_shape hb with ⟨j, u, rfl, e⟩ | ⟨y, u, rfl, e⟩
      · injection e with e1 _; rw [e1]
      · exact nomatch e
    · rcases keyIs_shape hb with ⟨j, u, rfl, e⟩ | ⟨y, u, rfl, e⟩
      · exact nomatch e
      · injection e with e1 _; rw [e1]
  byValue := fun k v h => by
    rcases keyIs_shape h with ⟨i, t, rfl, rfl⟩ | ⟨x, t, rfl, rfl⟩ <;> rfl
  pyHash := fun hv h => by
    rcases keyIs_shape hv with ⟨i, t, rfl, rfl⟩ | ⟨x, t, rfl, rfl⟩
    · exact wpAny_pyHash_int h
    · exact wpAny_pyHash_str h
  eqBool := fun hu hv h => by
    rcases keyIs_shape hu with ⟨i, t, rfl, rfl⟩ | ⟨x, t, rfl, rfl⟩
    · rcases keyIs_shape hv with ⟨j, u, rfl, rfl⟩ | ⟨y, u, rfl, rfl⟩
      · rw [key_ll] at h; exact wpAny_eqBool_int h
      · rw [key_lr] at h; exact SeqAt.EqAt.int_str i t y u _ _ _ _ h
    · rcases keyIs_shape hv with ⟨j, u, rfl, rfl⟩ | ⟨y, u, rfl, rfl⟩
      · rw [key_rl] at h; exact SeqAt.EqAt.str_int x t j u _ _ _ _ h
      · rw [key_rr] at h; exact wpAny_eqBool_str h
  «strs» := fun k x t v h => by
    rcases keyIs_shape h with ⟨i, u, rfl, e⟩ | ⟨y, u, rfl, e⟩
    · exact nomatch e
    · injection e with e1 _
      subst e1
      cases v <;> rfl

theorem mixKind_int (prog : Program) (w : World) (i : Int) (t : Tok) : (mixKind prog w).is (.inl i) (.int i t) = true := keyIs_int i t
theorem mixKind_str (prog : Program) (w : World) (x : Str) (t : Tok) : (mixKind prog w).is (.inr x) (.str x t) = true := keyIs_str x t
end L2

namespace L2
open PySem PySem.Spec PyProof.Rows

/-- a value, without the heap -/
inductive V where
  | non | bl (b : Bool) | int (i : Int) | str (x : Str) | byt (b : Array UInt8) | flt (b : UInt64) | ref (a : Addr) | ty (n : String)
  deriving DecidableEq

def RelV : V → Value → Prop
  | .non, u => u = Value.none
  | .bl b, u => u = Value.bool b
  | .int i, u => ∃ t, u = Value.int i t
  | .str x, u => ∃ t, u = Value.str x t
  | .byt b, u => ∃ t, u = Value.bytes b t
  | .flt b, u => ∃ t, u = Value.float b t
  | .ref a, u => u = Value.ref a
  | .ty n, u => u = Value.type n

abbrev Vals : List V → List Value → Prop := Paired RelV
theorem Vals.length {xs : List V} {us : List Value} (r : Vals xs us) : xs.length = us.length := Paired.length r
theorem Vals.get : ∀ {xs : List V} {us : List Value} {i : Nat} {x : V}, Vals xs us → xs[i]? = some x → ∃ u, us[i]? = some u ∧ RelV x u
  | _, _, _, _, .nil, e => by simp at e
  | _, _, 0, _, .cons r _, e => by simp at e; subst e; exact ⟨_, rfl, r⟩
  | _, _, i + 1, x, .cons _ t, e => by
    obtain ⟨u, h1, h2⟩ := Vals.get (i := i) (x := x) t (by simpa using e)
    exact ⟨u, by simpa using h1, h2⟩
theorem Vals.set {x : V} {u : Value} (r : RelV x u) : ∀ {xs : List V} {us : List Value} (i : Nat), Vals xs us → Vals (xs.set i x) (us.set i u)
  | _, _, _, .nil => .nil
  | _, _, 0, .cons _ t => .cons r t
  | _, _, i + 1, .cons q t => .cons q (Vals.set r i t)
theorem Vals.append : ∀ {xs ys : List V} {us ws : List Value}, Vals xs us → Vals ys ws → Vals (xs ++ ys) (us ++ ws)
  | _, _, _, _, .nil, s => s
  | _, _, _, _, .cons r t, s => .cons r (Vals.append t s)

def RelO : Option V → Option Value → Prop
  | some v, some u => RelV v u
  | none, none => True
  | _, _ => False
def KV {κ : Type} : List (κ × V) → List (κ × Value) → Prop := Paired fun (p : κ × V) (q : κ × Value) => p.1 = q.1 ∧ RelV p.2 q.2

/-- a key of a dict (00_mix): an int or a text -/
def kV : Key → V
  | .inl i => .int i
  | .inr x => .str x

/-- what stands at a tracked address -/
inductive HO where
  /-- a list -/
  | lst (xs : List V)
  /-- a tuple (never changes) -/
  | tup (xs : List V)
  /-- a dict whose keys are ints and texts; one whose keys are tuples of ints and texts (the empty one is both) -/
  | dK (kvs : List (Key × V)) | dT (kvs : List (List Key × V))
  /-- a set of ints: its members, its size -/
  | set (S : Int → Bool) (n : Nat)
  /-- an instance of the class at C, its dict at dx, its attributes -/
  | ins (C dx : Addr) (fs : List (Str × V))
  /-- the dict of the instance at x -/
  | own (x : Addr)
  /-- the dict of an exception -/
  | xd (fs : List (Str × V))
  /-- a bound method, f of x -/
  | met (f x : Addr)
  /-- a range object lo, lo + 1, .. below hi -/
  | rng (lo hi : Int)
  /-- a thing that is known to the object (the script; a dict while a loop walks it): read, never written while it is so -/
  | frz (o : Obj) (u : HO)
  /-- a code object's table -/
  | tbl (ps : Array Value)
  /-- any other thing, by what is true of its one object (a def of one's own: SetO a S n := HO.ext fun h => ..) -/
  | ext (φ : Heap → Prop)

abbrev Hp := Addr → Option HO
def upd (H : Hp) (a : Addr) (o : HO) : Hp := fun b => if b = a then some o else H b
theorem upd_same {H : Hp} {a : Addr} {o : HO} : upd H a o a = some o := by unfold upd; rw [if_pos rfl]
theorem upd_ne {H : Hp} {a b : Addr} {o : HO} (h : b ≠ a) : upd H a o b = H b := by unfold upd; rw [if_neg h]
theorem upd_upd {H : Hp} {a : Addr} {o u : HO} : upd (upd H a o) a u = upd H a u := by
  funext b; unfold upd; split <;> rfl
/-- two objects of different content stand apart -/
theorem ne_of {H : Hp} {a b : Addr} {o u : HO} (h : H a = some o) (h' : H b = some u) (d : o ≠ u) : a ≠ b := by
  intro e; subst e; rw [h] at h'; exact d (Option.some.inj h')
theorem ne_of_none {H : Hp} {a b : Addr} {o : HO} (h : H a = some o) (h' : H b = none) : a ≠ b := by
  intro e; subst e; rw [h] at h'; cases h'

section
variable (P : Program) (w : World)
def ObjOk (H : Hp) (h : Heap) (a : Addr) : HO → Prop
  | .lst xs => xs.length ≤ sizeLine ∧ ∃ (its : List Value) (n : Nat), Vals xs its ∧ h.get? a = some { cls := .type "list", data := .seq its.toArray n }
  | .tup xs => xs.length ≤ sizeLine ∧ ∃ its : List Value, Vals xs its ∧ IsTup h a its.toArray
  | .dK kvs => kvs.length ≤ sizeLine ∧ (a == sysModules) = false ∧ ∃ vs, KV kvs vs ∧ h.DictOf (mixKind P w) a vs
  | .dT kvs => kvs.length ≤ sizeLine ∧ (a == sysModules) = false ∧ ∃ xs : List (List Key × Addr × Value),
      Paired (fun (p : List Key × V) (q : List Key × Addr × Value) => p.1 = q.1 ∧ H q.2.1 = some (.tup (p.1.map kV)) ∧ RelV p.2 q.2.2) kvs xs ∧
      ∃ o es ep, h.get? a = some o ∧ o.ExactDict ∧ o.data = .dict es ep ∧ es.toList = xs.map (entryOfKey (tupleKind (mixKind P w))) ∧ (xs.map (·.1)).Nodup
  | .set S n => h.SetOf (intKind P w) a S n
  | .ins C dx fs => H dx = some (.own a) ∧ fs.length ≤ 1000 ∧ dx ≠ a ∧ h.get? a = some (PySem.W.instObj C dx) ∧
      ∃ mA, h.Ns1 dx mA ∧ (∀ f, RelO (fs.lookup f) (mA f)) ∧ PySem.Within mA (fs.map (·.1))
  | .own _ => ∃ o, h.get? a = some o
  | .xd fs => ∃ mA, h.Ns1 a mA ∧ ∀ f, RelO (fs.lookup f) (mA f)
  | .rng lo hi => ∃ t u v, h.get? a = some { cls := .type "range", data := .fields #[.int lo t, .int hi u, .int 1 v] }
  | .frz o u => h.get? a = some o ∧ ObjOk H h a u
  | .tbl ps => h.get? a = some { cls := .none, data := .fields ps }
  | .met f x => h.get? a = some (PySem.W.methodObj (.ref f) (.ref x))
  | .ext φ => φ h ∧ (∃ o, h.get? a = some o) ∧ ∀ h1 h2 : Heap, φ h1 → (∀ o, h1.get? a = some o → h2.get? a = some o) → φ h2
/-- the abstract heap is held -/
def HOk (H : Hp) (h : Heap) : Prop := ∀ a o, H a = some o → ObjOk P w H h a o
end

section
variable {P : Program} {w : World} {H H' : Hp} {h h' : Heap} {a : Addr} {o : HO}
theorem ObjOk.lt (x : ObjOk P w H h a o) : a < h.objs.size := by
  cases o with
  | lst xs => obtain ⟨_, _, _, _, e⟩ := x; exact Heap.lt_size e
  | tup xs => obtain ⟨_, _, _, p⟩ := x; exact p.lt
  | dK kvs => obtain ⟨_, _, _, _, o, _, _, e, _⟩ := x; exact Heap.lt_size e
  | dT kvs => obtain ⟨_, _, _, _, o, _, _, e, _⟩ := x; exact Heap.lt_size e
  | set S n => obtain ⟨o, _, _, _, e, _⟩ := x; exact Heap.lt_size e
  | ins C dx fs => obtain ⟨_, _, _, e, _⟩ := x; exact Heap.lt_size e
  | own y => obtain ⟨_, e⟩ := x; exact Heap.lt_size e
  | xd fs => obtain ⟨_, ⟨_, _, _, e, _⟩, _⟩ := x; exact Heap.lt_size e
  | rng lo hi => obtain ⟨_, _, _, e⟩ := x; exact Heap.lt_size e
  | frz ob u => obtain ⟨e, _⟩ := x; exact Heap.lt_size e
  | tbl ps => exact Heap.lt_size (show h.get? a = some _ from x)
  | met f y => exact Heap.lt_size (show h.get? a = some _ from x)
  | ext φ => obtain ⟨_, ⟨_, e⟩, _⟩ := x; exact Heap.lt_size e
theorem Paired.mapP {α β : Type} {F G : α → β → Prop} : ∀ {l₁ : List α} {l₂ : List β}, Paired F l₁ l₂ → (∀ a b, F a b → G a b) → Paired G l₁ l₂
  | _, _, .nil, _ => .nil
  | _, _, .cons r t, f => .cons (f _ _ r) (Paired.mapP t f)
/-- what an object's description leans on: its own object, its own dict, the tuples -/
theorem ObjOk.stay (x : ObjOk P w H h a o) (k : ∀ b u, (b = a ∨ H b = some (.own a)) → h.get? b = some u → h'.get? b = some u)
    (ho : ∀ b, H b = some (.own a) → H' b = some (.own a)) (ht : ∀ b xs, H b = some (.tup xs) → H' b = some (.tup xs)) : ObjOk P w H' h' a o := by
  induction o with
  | lst xs => obtain ⟨z, its, n, r, e⟩ := x; exact ⟨z, its, n, r, k _ _ (.inl rfl) e⟩
  | tup xs => obtain ⟨z, its, r, ob, e, c⟩ := x; exact ⟨z, its, r, ob, k _ _ (.inl rfl) e, c⟩
  | dK kvs => obtain ⟨z, y, vs, r, ob, es, ep, e, c⟩ := x; exact ⟨z, y, vs, r, ob, es, ep, k _ _ (.inl rfl) e, c⟩
  | dT kvs =>
    obtain ⟨z, y, xs, r, ob, es, ep, e, c⟩ := x
    exact ⟨z, y, xs, Paired.mapP r fun p q z => ⟨z.1, ht _ _ z.2.1, z.2.2⟩, ob, es, ep, k _ _ (.inl rfl) e, c⟩
  | set S n => obtain ⟨ob, es, ep, t, e, c⟩ := x; exact ⟨ob, es, ep, t, k _ _ (.inl rfl) e, c⟩
  | ins C dx fs =>
    obtain ⟨d, z, ne, e, mA, ⟨od, es, ep, e2, c⟩, r⟩ := x
    exact ⟨ho _ d, z, ne, k _ _ (.inl rfl) e, mA, ⟨od, es, ep, k _ _ (.inr d) e2, c⟩, r⟩
  | own y => obtain ⟨ob, e⟩ := x; exact ⟨ob, k _ _ (.inl rfl) e⟩
  | xd fs => obtain ⟨mA, ⟨od, es, ep, e, c⟩, r⟩ := x; exact ⟨mA, ⟨od, es, ep, k _ _ (.inl rfl) e, c⟩, r⟩
  | rng lo hi => obtain ⟨t, u, v, e⟩ := x; exact ⟨t, u, v, k _ _ (.inl rfl) e⟩
  | frz ob u ih => obtain ⟨e, q⟩ := x; exact ⟨k _ _ (.inl rfl) e, ih q⟩
  | tbl ps =>
    have e : h.get? a = some { cls := .none, data := .fields ps } := x
    show h'.get? a = some { cls := .none, data := .fields ps }
    exact k a _ (.inl rfl) e
  | met f y =>
    have e : h.get? a = some (PySem.W.methodObj (.ref f) (.ref y)) := x
    show h'.get? a = some (PySem.W.methodObj (.ref f) (.ref y))
    exact k a _ (.inl rfl) e
  | ext φ => obtain ⟨p, ⟨o, e⟩, st⟩ := x; exact ⟨st _ _ p fun o q => k _ _ (.inl rfl) q, ⟨o, k _ _ (.inl rfl) e⟩, st⟩
theorem HOk.lt (x : HOk P w H h) (e : H a = some o) : a < h.objs.size := (x a o e).lt
theorem HOk.fresh (x : HOk P w H h) (e : h.objs.size ≤ a) : H a = none := by
  cases q : H a with
  | none => rfl
  | some u => exact absurd (Nat.lt_of_lt_of_le (x.lt q) e) (Nat.lt_irrefl _)
/-- every object of the heap is kept -/
theorem HOk.kept (x : HOk P w H h) (k : ∀ b u, h.get? b = some u → h'.get? b = some u) : HOk P w H h' := fun a o e =>
  (x a o e).stay (fun b u _ q => k b u q) (fun _ q => q) fun _ _ q => q
/-- a new object is laid and tracked -/
theorem HOk.laid (x : HOk P w H h) (k : ∀ b u, h.get? b = some u → h'.get? b = some u) (hp : h.objs.size ≤ a) (new : ObjOk P w (upd H a o) h' a o) : HOk P w (upd H a o) h' := fun b u e => by
  have hn := x.fresh hp
  by_cases hb : b = a
  · subst hb; rw [upd_same] at e; cases e; exact new
  · rw [upd_ne hb] at e
    exact (x b u e).stay (fun c v _ q => k c v q) (fun c q => by rw [upd_ne (ne_of_none q hn)]; exact q) fun c xs q => by rw [upd_ne (ne_of_none q hn)]; exact q
end

/-- what may be read as u: it is u, or a known u -/
def Rd (H : Hp) (a : Addr) (u : HO) : Prop := H a = some u ∨ ∃ o, H a = some (.frz o u)
theorem Rd.ok {P : Program} {w : World} {H : Hp} {h : Heap} {a : Addr} {u : HO} (r : Rd H a u) (x : HOk P w H h) : ObjOk P w H h a u := by
  rcases r with r | ⟨o, r⟩
  · exact x a u r
  · obtain ⟨_, q⟩ := x a _ r
    exact q
/-- what may be written -/
def Mut : Option HO → Prop
  | some (.lst _) => True
  | some (.dK _) => True
  | some (.dT _) => True
  | some (.set _ _) => True
  | some (.ins _ _ _) => True
  | some (.ext _) => True
  | _ => False
section
variable {P : Program} {w : World} {H : Hp} {h h' : Heap} {x e : Addr} {o' : HO}
/-- the object at e is changed: x itself, or the dict of the instance x -/
theorem HOk.write (ok : HOk P w H h) (mu : Mut (H x)) (he : e = x ∨ H e = some (.own x)) (k : ∀ b u, b ≠ e → h.get? b = some u → h'.get? b = some u) (heo : ∃ u, h'.get? e = some u)
    (new : ObjOk P w (upd H x o') h' x o') : HOk P w (upd H x o') h' := fun b u q => by
  have nown : ∀ c y, H c = some (.own y) → c ≠ x := fun c y r z => by subst z; rw [r] at mu; exact mu
  have ntup : ∀ c xs, H c = some (.tup xs) → c ≠ x := fun c xs r z => by subst z; rw [r] at mu; exact mu
  by_cases hb : b = x
  · subst hb; rw [upd_same] at q; cases q; exact new
  · rw [upd_ne hb] at q
    by_cases hbe : b = e
    · have q' : H b = some (.own x) := by
        rcases he with z | z
        · exact absurd (hbe.trans z) hb
        · rw [hbe]; exact z
      rw [q] at q'; cases q'
      obtain ⟨v, hv⟩ := heo
      exact ⟨v, by rw [hbe]; exact hv⟩
    · refine (ok b u q).stay (fun c v hc r => k c v ?_ r) (fun c r => by rw [upd_ne (nown c b r)]; exact r) fun c xs r => by rw [upd_ne (ntup c xs r)]; exact r
      rcases hc with rfl | hc
      · exact hbe
      · rintro rfl
        rcases he with z | z
        · exact nown c b hc z
        · rw [hc] at z; cases z; exact hb rfl
end

/-! ### kept unless tracked; of the frames at fs (the callers') the slots may change (an exception that passes writes there); of the records at ex (iterators) nothing is said -/
structure Un (fs ex : List Addr) (H H' : Hp) (h h' : Heap) : Prop where
  keep : ∀ b o, h.get? b = some o → H b = none → b ∉ fs → b ∉ ex → h'.get? b = some o
  slot : ∀ b o, h.get? b = some o → H b = none → b ∈ fs → b ∉ ex → ∃ sl, h'.get? b = some { o with slots := sl }
  free : ∀ b o, h.get? b = some o → H b = none → b ∉ ex → H' b = none
  there : ∀ b o, h.get? b = some o → b ∉ ex → ∃ o', h'.get? b = some o'
  tups : ∀ b xs, H b = some (.tup xs) → H' b = some (.tup xs)
  frzs : ∀ b o u, H b = some (.frz o u) → H' b = some (.frz o u)
  tbls : ∀ b ps, H b = some (.tbl ps) → ∃ more, H' b = some (.tbl (ps ++ more))
section
variable {fs fs' ex ex' : List Addr} {H H1 H2 : Hp} {h h1 h2 h' : Heap} {a x e : Addr} {o : HO}
theorem Un.any (u : Un fs ex H H1 h h1) {b : Addr} {ob : Obj} (q : h.get? b = some ob) (n : H b = none) (hx : b ∉ ex) : ∃ sl, h1.get? b = some { ob with slots := sl } := by
  by_cases hb : b ∈ fs
  · exact u.slot b ob q n hb hx
  · exact ⟨ob.slots, u.keep b ob q n hb hx⟩
theorem Un.trans (a : Un fs ex H H1 h h1) (b : Un fs ex H1 H2 h1 h2) : Un fs ex H H2 h h2 where
  keep := fun c ob q n hc hx => b.keep c ob (a.keep c ob q n hc hx) (a.free c ob q n hx) hc hx
  slot := fun c ob q n hc hx => by
    obtain ⟨sl, e1⟩ := a.slot c ob q n hc hx
    obtain ⟨sl', e2⟩ := b.slot c _ e1 (a.free c ob q n hx) hc hx
    exact ⟨sl', e2⟩
  free := fun c ob q n hx => by
    obtain ⟨o', e1⟩ := a.there c ob q hx
    exact b.free c o' e1 (a.free c ob q n hx) hx
  there := fun c ob q hx => by
    obtain ⟨o', e1⟩ := a.there c ob q hx
    exact b.there c o' e1 hx
  tups := fun c xs q => b.tups c xs (a.tups c xs q)
  frzs := fun c ob xs q => b.frzs c ob xs (a.frzs c ob xs q)
  tbls := fun c ps q => by
    obtain ⟨m1, e1⟩ := a.tbls c ps q
    obtain ⟨m2, e2⟩ := b.tbls c _ e1
    exact ⟨m1 ++ m2, by rw [e2, Array.append_assoc]⟩
theorem Un.kept (k : ∀ b u, h.get? b = some u → h'.get? b = some u) : Un fs ex H H h h' :=
  ⟨fun b ob q _ _ _ => k b ob q, fun b ob q _ _ _ => ⟨ob.slots, k b ob q⟩, fun _ _ _ n _ => n, fun b ob q _ => ⟨ob, k b ob q⟩, fun _ _ q => q, fun _ _ _ q => q, fun _ ps q => ⟨#[], by rw [q]; simp⟩⟩
theorem Un.refl : Un fs ex H H h h := Un.kept fun _ _ q => q
theorem Un.laid (k : ∀ b u, h.get? b = some u → h'.get? b = some u) (hp : h.objs.size ≤ a) (hn : H a = none) : Un fs ex H (upd H a o) h h' where
  keep := fun b u q _ _ _ => k b u q
  slot := fun b u q _ _ _ => ⟨u.slots, k b u q⟩
  free := fun b u q n _ => by rw [upd_ne (Nat.ne_of_lt (Nat.lt_of_lt_of_le (Heap.lt_size q) hp))]; exact n
  there := fun b u q _ => ⟨u, k b u q⟩
  tups := fun b xs q => by rw [upd_ne (ne_of_none q hn)]; exact q
  frzs := fun b u xs q => by rw [upd_ne (ne_of_none q hn)]; exact q
  tbls := fun b ps q => ⟨#[], by rw [upd_ne (ne_of_none q hn), q]; simp⟩
theorem Un.write (mu : Mut (H x)) (he : e = x ∨ H e = some (.own x)) (k : ∀ b u, b ≠ e → h.get? b = some u → h'.get? b = some u) (heo : ∃ u, h'.get? e = some u) : Un fs ex H (upd H x o) h h' := by
  have hx : ∀ b, H b = none → b ≠ x := fun b n z => by subst z; rw [n] at mu; exact mu
  have hb : ∀ b, H b = none → b ≠ e := fun b n z => by
    subst z
    rcases he with r | r
    · exact hx b n r
    · rw [n] at r; cases r
  have hm : ∀ b u, H b = some u → ¬ Mut (some u) → b ≠ x := fun b u q nm z => by subst z; rw [q] at mu; exact nm mu
  refine ⟨fun b u q n _ _ => k b u (hb b n) q, fun b u q n _ _ => ⟨u.slots, k b u (hb b n) q⟩, fun b u q n _ => by rw [upd_ne (hx b n)]; exact n, fun b u q _ => ?_,
    fun b xs q => by rw [upd_ne (hm b _ q fun z => z)]; exact q, fun b u xs q => by rw [upd_ne (hm b _ q fun z => z)]; exact q, fun b ps q => ⟨#[], by rw [upd_ne (hm b _ q fun z => z), q]; simp⟩⟩
  by_cases hbe : b = e
  · subst hbe; exact heo
  · exact ⟨u, k b u hbe q⟩
end

/-! ### the heap without what is tracked -/
def trk (h : Heap) (H : Hp) : List Addr := (List.range h.objs.size).filter fun a => (H a).isSome
def hidT (h : Heap) (H : Hp) : Heap := PySem.W.hideAll h (trk h H)
theorem hidT_size (h : Heap) (H : Hp) : (hidT h H).objs.size = h.objs.size := PySem.W.hideAll_size _ _
theorem hidT_get {h : Heap} {H : Hp} {b : Addr} {o : Obj} (e : h.get? b = some o) (n : H b = none) : (hidT h H).get? b = some o :=
  PySem.W.hideAll_get _ e fun hm => by
    have q : (H b).isSome = true := (List.mem_filter.mp hm).2
    rw [n] at q; simp at q
theorem of_hidT {h : Heap} {H : Hp} {b : Addr} {o : Obj} (e : (hidT h H).get? b = some o) : h.get? b = some o ∧ H b = none := by
  have e' : h.get? b = some o := PySem.W.of_hideAll (trk h H) e
  refine ⟨e', ?_⟩
  cases q : H b with
  | none => rfl
  | some x =>
    have hm : b ∈ trk h H := List.mem_filter.mpr ⟨List.mem_range.mpr (Heap.lt_size e'), by simp [q]⟩
    have z : (hidT h H).get? b = none := PySem.W.hideAll_none (trk h H) hm
    rw [z] at e; cases e

/-! ### OpenK's ledger, filled with every new object but one -/
end L2

namespace L2
open PySem PySem.Spec PyProof.Rows

/-- the module's facts, over the base: the heap at the law's entry without what is tracked there -/
structure Mod (K : PySem.W.Frag) (mg : Str → Option Value) (base : Heap) : Prop where
  kin : K.In base
  glob : base.Ns mainGlobals mg
  blt : ∃ mb, base.Ns builtinsNs mb ∧ ∀ x : Str, x ≠ "__name__" → mb x = bootBuiltins x
  nolimit : base.NoLimit

/-- the context: a def's body (or a comprehension's block) running. base: fixed through the whole law; s₀, H₀: the entry; outer: the frames whose slots others may change (a def's callers); stack: all frames that run;
   ex: iterators that were made ahead of the entry and are walked here (a comprehension's); fn: the names whose cells were made at the entry (a def: all; a comprehension's block: its own); calm: not within an except suite; pn: pins that every state bears; xe: what is wanted of an exception that leaves the code -/
structure Cx where
  prog : Program
  w : World
  K : PySem.W.Frag
  mg : Str → Option Value
  base : Heap
  A : Around
  N : List Str
  s₀ : Shared
  H₀ : Hp
  env : Env
  outer : List Env
  stack : List Env
  ex : List Addr
  fn : Str → Bool
  calm : Bool
  pn : List (Addr × Obj)
  xe : Value → Shared → Prop
/-- the callers' frames -/
def frs (l : List Env) : List Addr := l.filterMap (·.frame)
abbrev Cx.fs (X : Cx) : List Addr := frs X.outer

def Vis (sc : Scope) (x : Str) : Prop := sc.names.lookup x = some .local ∨ sc.names.lookup x = some .cell ∨ sc.names.lookup x = some .free
def Loc (sc : Scope) (x : Str) : Prop := sc.names.lookup x = some .local ∨ sc.names.lookup x = some .cell
def Look (env : Env) (h : Heap) (m : Str → Option Value) (x : Str) (u : Value) : Prop :=
  (env.kindOf x = some .local ∧ m x = some u) ∨ ((env.kindOf x = some .cell ∨ env.kindOf x = some .free) ∧ ∃ c, env.cells.lookup x = some c ∧ h.IsCell c (some u))

structure Cx.Ok (X : Cx) : Prop where
  mod : Mod X.K X.mg X.base
  kind : X.env.scope.kind = .function
  glob : X.env.globals = mainGlobals
  blt : X.env.builtins = builtinsNs
  above : X.s₀.heap.objs.size ≤ X.env.locals
  inj : ∀ x y c, X.env.cells.lookup x = some c → X.env.cells.lookup y = some c → x = y
  has : ∀ x, (X.env.kindOf x = some .cell ∨ X.env.kindOf x = some .free) → ∃ c, X.env.cells.lookup x = some c
  cab : ∀ x c, X.fn x = true → X.env.cells.lookup x = some c → X.s₀.heap.objs.size ≤ c
  hd : X.calm = true → X.A.handled = none
  frames : X.A.frames = some X.stack
  stk : X.stack = X.outer ∨ (X.stack = X.env :: X.outer ∧ X.env.frame = some X.env.locals)
  exf : ∀ b ∈ X.ex, b ≠ X.env.locals ∧ ∀ x c, X.env.cells.lookup x = some c → c ≠ b
  bs : ∀ b o, X.base.get? b = some o → X.s₀.heap.get? b = some o ∧ X.H₀ b = none
  bsz : X.base.objs.size ≤ X.s₀.heap.objs.size
  noex : ∀ b o, X.base.get? b = some o → b ∉ X.ex
  exfs : ∀ b ∈ X.ex, b ∉ X.fs
  funs : X.s₀.heap.FunFrames X.base X.outer
  frf : ∀ b ∈ X.fs, X.H₀ b = none

structure Inv (X : Cx) (pins : List (Addr × Obj)) (σ : List (Option V)) (H : Hp) (s : Shared) : Prop where
  ok : X.Ok
  os : s.os = X.s₀.os
  bare : AllBare s.gens
  base : Un X.fs X.ex X.H₀ H X.s₀.heap s.heap
  loc : ∃ m, s.heap.Ns X.env.locals m ∧ ∀ (i : Nat) (x : Str) (v : V), X.N[i]? = some x → σ[i]? = some (some v) → Vis X.env.scope x → ∃ u, RelV v u ∧ Look X.env s.heap m x u
  cell : ∀ x c, X.env.cells.lookup x = some c → ∃ v, s.heap.IsCell c v
  free : H X.env.locals = none
  freeC : ∀ x c, X.env.cells.lookup x = some c → H c = none
  pin : ∀ p ∈ X.pn ++ pins, s.heap.get? p.1 = some p.2 ∧ H p.1 = none ∧ p.1 ≠ X.env.locals ∧ p.1 ∉ X.fs ∧ ∀ v, p.2.data ≠ .cell v
  hok : HOk X.prog X.w H s.heap
  len : σ.length = X.N.length

section
variable {X : Cx} {pins : List (Addr × Obj)} {σ : List (Option V)} {H H' : Hp} {s : Shared} {h' : Heap}

theorem Cx.Ok.nofr (ok : X.Ok) {b : Addr} {o : Obj} (e : X.base.get? b = some o) : b ∉ X.fs := fun hb => by
  have := (ok.funs.mem hb).1
  rw [e] at this; cases this
theorem Inv.bs (I : Inv X pins σ H s) : ∀ b o, X.base.get? b = some o → s.heap.get? b = some o ∧ H b = none := fun b o e =>
  ⟨I.base.keep b o (I.ok.bs b o e).1 (I.ok.bs b o e).2 (I.ok.nofr e) (I.ok.noex b o e), I.base.free b o (I.ok.bs b o e).1 (I.ok.bs b o e).2 (I.ok.noex b o e)⟩
theorem Inv.bk (I : Inv X pins σ H s) : ∀ b o, X.base.get? b = some o → s.heap.get? b = some o := fun b o e => (I.bs b o e).1
theorem Inv.mod (I : Inv X pins σ H s) : Mod X.K X.mg X.base := I.ok.mod
theorem Inv.kIn (I : Inv X pins σ H s) : X.K.In s.heap := I.ok.mod.kin.keeps I.bk
theorem Inv.lt (I : Inv X pins σ H s) : X.env.locals < s.heap.objs.size := let ⟨_, hn, _⟩ := I.loc; hn.lt
theorem Inv.sz (I : Inv X pins σ H s) : X.s₀.heap.objs.size ≤ s.heap.objs.size := Nat.le_trans I.ok.above (Nat.le_of_lt I.lt)
theorem Inv.nofs (I : Inv X pins σ H s) {a : Addr} (h : s.heap.objs.size ≤ a) : a ∉ X.fs := fun hb => by
  obtain ⟨_, o, ho, _⟩ := I.ok.funs.mem hb
  exact absurd (Nat.lt_of_lt_of_le (Heap.lt_size ho) (Nat.le_trans I.sz h)) (Nat.lt_irrefl _)
theorem Inv.cne (I : Inv X pins σ H s) : ∀ x c, X.env.cells.lookup x = some c → c ≠ X.env.locals := fun x c e z => by
  obtain ⟨v, o, ho, hd⟩ := I.cell x c e
  obtain ⟨m, ⟨o', es, ep, ho', hd', _⟩, _⟩ := I.loc
  rw [z, ho'] at ho; cases ho; rw [hd'] at hd; cases hd
theorem Inv.funs (I : Inv X pins σ H s) : s.heap.FunFrames X.base X.outer := by
  have all : ∀ (l : List Env), (∀ b ∈ frs l, b ∈ X.fs) → X.s₀.heap.FunFrames X.base l → s.heap.FunFrames X.base l := by
    intro l
    induction l with
    | nil => intro _ _; trivial
    | cons env r ih =>
      intro hs hl
      obtain ⟨hk, ⟨L, o, hf, hn, ho, hd⟩, hr⟩ := hl
      have hL : L ∈ X.fs := hs L (by unfold frs; rw [List.filterMap_cons, hf]; exact List.mem_cons_self)
      obtain ⟨sl, e⟩ := I.base.slot L o ho (I.ok.frf L hL) hL fun z => I.ok.exfs L z hL
      exact ⟨hk, ⟨L, _, hf, hn, e, hd⟩, ih (fun b hb => hs b (by unfold frs; rw [List.filterMap_cons, hf]; exact List.mem_cons_of_mem _ hb)) hr⟩
  exact all X.outer (fun _ hb => hb) I.ok.funs

/-- the frames that run, for a call -/
theorem Inv.stack (I : Inv X pins σ H s) : s.heap.FunFrames X.base X.stack := by
  rcases I.ok.stk with e | ⟨e, hf⟩
  · rw [e]; exact I.funs
  · rw [e]
    obtain ⟨m, hn, _⟩ := I.loc
    refine .cons (by rw [I.ok.kind]; decide) hf hn ?_ I.funs
    exact Heap.get?_none_of_le (Nat.le_trans I.ok.bsz I.ok.above)
theorem Inv.stkSub (I : Inv X pins σ H s) : ∀ b ∈ frs X.stack, b ∈ X.env.locals :: X.fs := fun b hb => by
  rcases I.ok.stk with e | ⟨e, hf⟩
  · rw [e] at hb; exact List.mem_cons_of_mem _ hb
  · rw [e] at hb
    unfold frs at hb
    rw [List.filterMap_cons, hf] at hb
    exact hb
theorem Inv.stkFree (I : Inv X pins σ H s) : ∀ b ∈ frs X.stack, H b = none := fun b hb => by
  rcases List.mem_cons.mp (I.stkSub b hb) with e | hb
  · rw [e]; exact I.free
  · obtain ⟨_, o, ho, _⟩ := I.ok.funs.mem hb
    exact I.base.free b o ho (I.ok.frf b hb) fun z => I.ok.exfs b z hb

/-- THE STEP: the untracked objects but the frame and the records at ch are kept (the callers' frames up to slots), the frame's map is kept, the new abstract heap is held -/
theorem Inv.step {g' : Array GenState} {t' : Nat} {d' : Drawn} {ch : List Addr} (I : Inv X pins σ H s)
    (hch : ∀ b ∈ ch, (b ∈ X.ex ∨ X.s₀.heap.objs.size ≤ b) ∧ b ≠ X.env.locals ∧ (∀ x c, X.env.cells.lookup x = some c → c ≠ b) ∧ ∀ p ∈ X.pn ++ pins, p.1 ≠ b)
    (keep : ∀ b o, b ≠ X.env.locals → b ∉ X.fs → b ∉ ch → s.heap.get? b = some o → H b = none → h'.get? b = some o)
    (slot : ∀ b o, b ≠ X.env.locals → b ∈ X.fs → b ∉ ch → s.heap.get? b = some o → H b = none → ∃ sl, h'.get? b = some { o with slots := sl }) (free : ∀ b o, b ∉ ch → s.heap.get? b = some o → H b = none → H' b = none)
    (there : ∀ b o, b ∉ ch → s.heap.get? b = some o → ∃ o', h'.get? b = some o')
    (tups : ∀ b xs, H b = some (.tup xs) → H' b = some (.tup xs)) (frzs : ∀ b o u, H b = some (.frz o u) → H' b = some (.frz o u)) (tbls : ∀ b ps, H b = some (.tbl ps) → ∃ more, H' b = some (.tbl (ps ++ more)))
    (ns : ∀ m, s.heap.Ns X.env.locals m → h'.Ns X.env.locals m) (hok : HOk X.prog X.w H' h') (hg : AllBare g') :
    Inv X pins σ H' { s with heap := h', gens := g', drawn := d', toks := t' } := by
  have neL : ∀ b o, X.s₀.heap.get? b = some o → b ≠ X.env.locals := fun b o e => Nat.ne_of_lt (Nat.lt_of_lt_of_le (Heap.lt_size e) I.ok.above)
  have neC : ∀ b o, X.s₀.heap.get? b = some o → b ∉ X.ex → b ∉ ch := fun b o e hx hb => by
    rcases (hch b hb).1 with z | z
    · exact hx z
    · exact absurd (Nat.lt_of_lt_of_le (Heap.lt_size e) z) (Nat.lt_irrefl _)
  have cellK : ∀ x c, X.env.cells.lookup x = some c → ∀ v, s.heap.IsCell c v → h'.IsCell c v := fun x c e v ⟨o, ho, hd⟩ => by
    have nch : c ∉ ch := fun z => (hch c z).2.2.1 x c e rfl
    by_cases hc : c ∈ X.fs
    · obtain ⟨sl, q⟩ := slot c o (I.cne x c e) hc nch ho (I.freeC x c e)
      exact ⟨_, q, hd⟩
    · exact ⟨o, keep c o (I.cne x c e) hc nch ho (I.freeC x c e), hd⟩
  refine ⟨I.ok, I.os, hg, ⟨fun b o e n hb hx => ?_, fun b o e n hb hx => ?_, fun b o e n hx => ?_, fun b o e hx => ?_, fun b xs e => tups b xs (I.base.tups b xs e), fun b o xs e => frzs b o xs (I.base.frzs b o xs e), fun b ps e => ?_⟩, ?_, fun x c e => ?_, ?_, fun x c e => ?_, fun p hp => ?_, hok, I.len⟩
  · exact keep b o (neL b o e) hb (neC b o e hx) (I.base.keep b o e n hb hx) (I.base.free b o e n hx)
  · obtain ⟨sl, e1⟩ := I.base.slot b o e n hb hx
    obtain ⟨sl', e2⟩ := slot b _ (neL b o e) hb (neC b o e hx) e1 (I.base.free b o e n hx)
    exact ⟨sl', e2⟩
  · obtain ⟨o', e1⟩ := I.base.there b o e hx
    exact free b o' (neC b o e hx) e1 (I.base.free b o e n hx)
  · obtain ⟨o', e1⟩ := I.base.there b o e hx
    exact there b o' (neC b o e hx) e1
  · obtain ⟨m1, e1⟩ := I.base.tbls b ps e
    obtain ⟨m2, e2⟩ := tbls b _ e1
    exact ⟨m1 ++ m2, by rw [e2, Array.append_assoc]⟩
  · obtain ⟨m, hn, hl⟩ := I.loc
    refine ⟨m, ns m hn, fun i x v e1 e2 e3 => ?_⟩
    obtain ⟨u, r, l⟩ := hl i x v e1 e2 e3
    refine ⟨u, r, ?_⟩
    rcases l with l | ⟨k, c, e, z⟩
    · exact .inl l
    · exact .inr ⟨k, c, e, cellK x c e _ z⟩
  · obtain ⟨v, z⟩ := I.cell x c e
    exact ⟨v, cellK x c e v z⟩
  · obtain ⟨m, ⟨o, _, _, ho, _⟩, _⟩ := I.loc
    exact free _ o (fun z => (hch _ z).2.1 rfl) ho I.free
  · obtain ⟨v, o, ho, hd⟩ := I.cell x c e
    exact free c o (fun z => (hch c z).2.2.1 x c e rfl) ho (I.freeC x c e)
  · obtain ⟨e, n, ne, nf, d⟩ := I.pin p hp
    have nch : p.1 ∉ ch := fun z => (hch p.1 z).2.2.2 p hp rfl
    exact ⟨keep p.1 p.2 ne nf nch e n, free p.1 p.2 nch e n, ne, nf, d⟩
/-- .. where the frame's own object is kept too -/
theorem Inv.un {t' : Nat} (I : Inv X pins σ H s) (u : Un X.fs [] H H' s.heap h') (hok : HOk X.prog X.w H' h') : Inv X pins σ H' { s with heap := h', toks := t' } := by
  obtain ⟨m, ⟨o, es, ep, ho, r⟩, _⟩ := id I.loc
  obtain ⟨sl, hL⟩ := u.any ho I.free (by simp)
  exact I.step (g' := s.gens) (d' := s.drawn) (ch := []) (fun _ z => nomatch z) (fun b o _ hb _ e n => u.keep b o e n hb (by simp)) (fun b o _ hb _ e n => u.slot b o e n hb (by simp)) (fun b o _ e n => u.free b o e n (by simp)) (fun b o _ e => u.there b o e (by simp)) u.tups u.frzs u.tbls (fun m' hm => by
    obtain ⟨o', es', ep', ho', r'⟩ := hm
    rw [ho] at ho'; cases ho'
    exact ⟨_, es', ep', hL, r'⟩) hok I.bare
/-- behind a call (or a comprehension's block): the slots of this frame may have changed too, the records at ch may have turned -/
theorem Inv.call {g' : Array GenState} {t' : Nat} {d' : Drawn} {ch : List Addr} (I : Inv X pins σ H s) (u : Un (frs X.stack) ch H H' s.heap h') (hok : HOk X.prog X.w H' h') (hg : AllBare g')
    (hch : ∀ b ∈ ch, (b ∈ X.ex ∨ X.s₀.heap.objs.size ≤ b) ∧ b ≠ X.env.locals ∧ (∀ x c, X.env.cells.lookup x = some c → c ≠ b) ∧ ∀ p ∈ X.pn ++ pins, p.1 ≠ b) :
    Inv X pins σ H' { s with heap := h', gens := g', drawn := d', toks := t' } := by
  obtain ⟨m, ⟨o, es, ep, ho, r⟩, _⟩ := id I.loc
  obtain ⟨sl, hL⟩ := u.any ho I.free fun z => (hch _ z).2.1 rfl
  exact I.step (ch := ch) hch (fun b o hL hb hc e n => u.keep b o e n (fun z => (List.mem_cons.mp (I.stkSub b z)).elim hL hb) hc) (fun b o _ _ hc e n => u.any e n hc) (fun b o hc e n => u.free b o e n hc) (fun b o hc e => u.there b o e hc) u.tups u.frzs u.tbls (fun m' hm => by
    obtain ⟨o', es', ep', ho', r'⟩ := hm
    rw [ho] at ho'; cases ho'
    exact ⟨_, es', ep', hL, r'⟩) hok hg
/-- an untracked record of ours (an iterator) has turned -/
theorem Inv.turned {t' : Nat} {it : Addr} (I : Inv X pins σ H s) (k : ∀ b o, b ≠ it → s.heap.get? b = some o → h'.get? b = some o) (hn : H it = none) (hL : it ≠ X.env.locals)
    (h1 : it ∈ X.ex ∨ X.s₀.heap.objs.size ≤ it) (h2 : ∀ x c, X.env.cells.lookup x = some c → c ≠ it) (h3 : ∀ p ∈ X.pn ++ pins, p.1 ≠ it) : Inv X pins σ H { s with heap := h', toks := t' } := by
  have nit : ∀ b u, H b = some u → b ≠ it := fun b u e z => by rw [z, hn] at e; cases e
  refine I.step (g' := s.gens) (d' := s.drawn) (ch := [it]) (fun b hb => ?_) (fun b o _ _ hc e _ => k b o (fun z => hc (by simp [z])) e) (fun b o _ _ hc e _ => ⟨o.slots, k b o (fun z => hc (by simp [z])) e⟩) (fun _ _ _ _ n => n)
    (fun b o hc e => ⟨o, k b o (fun z => hc (by simp [z])) e⟩) (fun _ _ e => e) (fun _ _ _ e => e) (fun b ps e => ⟨#[], by rw [e]; simp⟩) (fun m hm => ?_) (fun b u e => ?_) I.bare
  · have e : b = it := by simpa using hb
    subst e
    exact ⟨h1, hL, h2, h3⟩
  · obtain ⟨o, es, ep, ho, r⟩ := hm
    exact ⟨o, es, ep, k _ o (Ne.symm hL) ho, r⟩
  · refine (I.hok b u e).stay (fun c v hc q => k c v ?_ q) (fun _ q => q) fun _ _ q => q
    rcases hc with z | z
    · rw [z]; exact nit b u e
    · exact nit c _ z
theorem Inv.tok (I : Inv X pins σ H s) (t : Nat) : Inv X pins σ H { s with toks := t } := I.un (h' := s.heap) (t' := t) Un.refl I.hok
/-- all objects kept -/
theorem Inv.kept {t' : Nat} (I : Inv X pins σ H s) (k : ∀ b u, s.heap.get? b = some u → h'.get? b = some u) : Inv X pins σ H { s with heap := h', toks := t' } := I.un (Un.kept k) (I.hok.kept k)
/-- a new object laid and tracked -/
theorem Inv.laid {a : Addr} {o : HO} {t' : Nat} (I : Inv X pins σ H s) (k : ∀ b u, s.heap.get? b = some u → h'.get? b = some u) (hp : s.heap.objs.size ≤ a) (new : ObjOk X.prog X.w (upd H a o) h' a o) :
    Inv X pins σ (upd H a o) { s with heap := h', toks := t' } := I.un (Un.laid k hp (I.hok.fresh hp)) (I.hok.laid k hp new)
/-- an object written -/
theorem Inv.write {x e : Addr} {o : HO} {t' : Nat} (I : Inv X pins σ H s) (mu : Mut (H x)) (he : e = x ∨ H e = some (.own x)) (k : ∀ b u, b ≠ e → s.heap.get? b = some u → h'.get? b = some u) (heo : ∃ u, h'.get? e = some u)
    (new : ObjOk X.prog X.w (upd H x o) h' x o) : Inv X pins σ (upd H x o) { s with heap := h', toks := t' } := I.un (Un.write mu he k heo) (I.hok.write mu he k heo new)
theorem Inv.pins_of {pins' : List (Addr × Obj)} (I : Inv X pins σ H s) (h : ∀ p ∈ pins', s.heap.get? p.1 = some p.2 ∧ H p.1 = none ∧ p.1 ≠ X.env.locals ∧ p.1 ∉ X.fs ∧ ∀ v, p.2.data ≠ .cell v) : Inv X pins' σ H s :=
  ⟨I.ok, I.os, I.bare, I.base, I.loc, I.cell, I.free, I.freeC, fun p hp => (List.mem_append.mp hp).elim (fun z => I.pin p (List.mem_append_left _ z)) (h p), I.hok, I.len⟩

theorem nodup_ix {N : List Str} (hN : N.Nodup) {i j : Nat} {x : Str} (a : N[i]? = some x) (b : N[j]? = some x) : i = j := by
  obtain ⟨h1, e1⟩ := List.getElem?_eq_some_iff.mp a
  obtain ⟨h2, e2⟩ := List.getElem?_eq_some_iff.mp b
  exact (List.getElem_inj hN).mp (e1.trans e2.symm)

/-- a name is stored; what changed -/
theorem store_ok2 {M : Model} {A : Around} {E : Value → Shared → Prop} {i : Nat} {x : Str} {v : V} {u : Value} {Q : Unit → Shared → Prop} (I : Inv X pins σ H s) (hN : X.N.Nodup) (hi : X.N[i]? = some x) (hx : Loc X.env.scope x) (r : RelV v u)
    (h : ∀ s', Inv X pins (σ.set i (some v)) H s' → (∃ a, Heap.SameBut a s.heap s'.heap ∧ (a = X.env.locals ∨ X.env.cells.lookup x = some a)) → Q () s') (hf : X.fn x = true ∨ X.env.scope.names.lookup x = some .local := by first | exact .inl rfl | exact .inr rfl | assumption) : wpAny M A (storeName X.env x u) Q E s := by
  obtain ⟨m, hn, hl⟩ := id I.loc
  have hcls : (X.env.scope.kind == .class || (X.env.scope.kind == .module && X.env.locals != X.env.globals)) = false := by rw [I.ok.kind]; rfl
  have hiσ : i < σ.length := by rw [I.len]; exact (List.getElem?_eq_some_iff.mp hi).1
  have cne := I.cne
  have tracked : ∀ {a : Addr} {h' : Heap}, (∃ o, s.heap.get? a = some o ∧ H a = none) → Heap.SameBut a s.heap h' → HOk X.prog X.w H h' := fun {a h'} ha hs b ob e => by
    obtain ⟨_, _, hfree⟩ := ha
    refine (I.hok b ob e).stay (fun c w' hc q => (hs.2 c ?_).trans q) (fun _ q => q) fun _ _ q => q
    rintro rfl
    rcases hc with rfl | hc
    · rw [hfree] at e; cases e
    · rw [hfree] at hc; cases hc
  rcases hx with hk | hk
  · refine wpAny_storeName_local hk hn (fun h' hn' hs => ?_) hcls
    obtain ⟨oL, _, _, hoL, _⟩ := id hn
    refine h _ ⟨I.ok, I.os, I.bare, ⟨fun b o e n hb hx => ?_, fun b o e n hb hx => ?_, I.base.free, fun b o e hx => ?_, I.base.tups, I.base.frzs, I.base.tbls⟩, ⟨_, hn', fun j y v' e1 e2 e3 => ?_⟩, fun y c e => ?_, I.free, I.freeC, fun p hp => ?_, tracked ⟨oL, hoL, I.free⟩ hs, by simpa using I.len⟩ ⟨_, hs, .inl rfl⟩
    · exact (hs.2 b (Nat.ne_of_lt (Nat.lt_of_lt_of_le (Heap.lt_size e) I.ok.above))).trans (I.base.keep b o e n hb hx)
    · obtain ⟨sl, e1⟩ := I.base.slot b o e n hb hx
      exact ⟨sl, (hs.2 b (Nat.ne_of_lt (Nat.lt_of_lt_of_le (Heap.lt_size e) I.ok.above))).trans e1⟩
    · obtain ⟨o', e1⟩ := I.base.there b o e hx
      exact ⟨o', (hs.2 b (Nat.ne_of_lt (Nat.lt_of_lt_of_le (Heap.lt_size e) I.ok.above))).trans e1⟩
    · by_cases hj : j = i
      · subst hj
        rw [hi] at e1; cases e1
        rw [List.getElem?_set_self hiσ] at e2
        cases e2
        exact ⟨u, r, .inl ⟨hk, by simp⟩⟩
      · rw [List.getElem?_set_ne (Ne.symm hj)] at e2
        obtain ⟨u', r', q⟩ := hl j y v' e1 e2 e3
        refine ⟨u', r', ?_⟩
        rcases q with ⟨k, e⟩ | ⟨k, c, e, z⟩
        · refine .inl ⟨k, ?_⟩
          have : y ≠ x := fun e => hj (nodup_ix hN e1 (e ▸ hi))
          simp [this, e]
        · exact .inr ⟨k, c, e, z.sameBut hs (cne y c e)⟩
    · obtain ⟨w', z⟩ := I.cell y c e
      exact ⟨w', z.sameBut hs (cne y c e)⟩
    · obtain ⟨e, n, ne, nf, d⟩ := I.pin p hp
      exact ⟨(hs.2 p.1 ne).trans e, n, ne, nf, d⟩
  · have hfn : X.fn x = true := by
      rcases hf with z | z
      · exact z
      · rw [z] at hk; cases hk
    obtain ⟨c, hc⟩ := I.ok.has x (.inl hk)
    obtain ⟨w', z⟩ := I.cell x c hc
    refine wpAny_storeName_cell I.ok.kind hk hc z (fun h' hc' hs => ?_)
    obtain ⟨oc, hoc, hocd⟩ := id z
    refine h { s with heap := h' } ⟨I.ok, I.os, I.bare, ⟨fun b o e n hb hx => ?_, fun b o e n hb hx => ?_, I.base.free, fun b o e hx => ?_, I.base.tups, I.base.frzs, I.base.tbls⟩, ⟨m, hn.sameBut hs (Ne.symm (cne x c hc)), fun j y v' e1 e2 e3 => ?_⟩, fun y c' e => ?_, I.free, I.freeC, fun p hp => ?_, tracked ⟨oc, hoc, I.freeC x c hc⟩ hs, by simpa using I.len⟩ ⟨c, hs, .inr hc⟩
    · exact (hs.2 b (Nat.ne_of_lt (Nat.lt_of_lt_of_le (Heap.lt_size e) (I.ok.cab x c hfn hc)))).trans (I.base.keep b o e n hb hx)
    · obtain ⟨sl, e1⟩ := I.base.slot b o e n hb hx
      exact ⟨sl, (hs.2 b (Nat.ne_of_lt (Nat.lt_of_lt_of_le (Heap.lt_size e) (I.ok.cab x c hfn hc)))).trans e1⟩
    · obtain ⟨o', e1⟩ := I.base.there b o e hx
      exact ⟨o', (hs.2 b (Nat.ne_of_lt (Nat.lt_of_lt_of_le (Heap.lt_size e) (I.ok.cab x c hfn hc)))).trans e1⟩
    · by_cases hj : j = i
      · subst hj
        rw [hi] at e1; cases e1
        rw [List.getElem?_set_self hiσ] at e2
        cases e2
        exact ⟨u, r, .inr ⟨.inl hk, c, hc, hc'⟩⟩
      · rw [List.getElem?_set_ne (Ne.symm hj)] at e2
        obtain ⟨u', r', q⟩ := hl j y v' e1 e2 e3
        refine ⟨u', r', ?_⟩
        rcases q with q | ⟨k, c', e, z'⟩
        · exact .inl q
        · refine .inr ⟨k, c', e, z'.sameBut hs ?_⟩
          rintro rfl
          exact hj (nodup_ix hN e1 (I.ok.inj _ _ _ e hc ▸ hi))
    · by_cases hcc : c' = c
      · subst hcc; exact ⟨_, hc'⟩
      · obtain ⟨w2, z2⟩ := I.cell y c' e
        exact ⟨w2, z2.sameBut hs hcc⟩
    · obtain ⟨e, n, ne, nf, d⟩ := I.pin p hp
      refine ⟨(hs.2 p.1 ?_).trans e, n, ne, nf, d⟩
      intro q
      rw [q, hoc] at e
      have q' : oc = p.2 := Option.some.inj e
      exact d w' (by rw [← q']; exact hocd)
theorem store_ok {M : Model} {A : Around} {E : Value → Shared → Prop} {i : Nat} {x : Str} {v : V} {u : Value} {Q : Unit → Shared → Prop} (I : Inv X pins σ H s) (hN : X.N.Nodup) (hi : X.N[i]? = some x) (hx : Loc X.env.scope x) (r : RelV v u)
    (h : ∀ s', Inv X pins (σ.set i (some v)) H s' → Q () s') (hf : X.fn x = true ∨ X.env.scope.names.lookup x = some .local := by first | exact .inl rfl | exact .inr rfl | assumption) : wpAny M A (storeName X.env x u) Q E s :=
  store_ok2 I hN hi hx r (fun s' I' _ => h s' I') hf
/-- behind a call or a block, the state as it is -/
theorem Inv.call' {s' : Shared} {ch : List Addr} (I : Inv X pins σ H s) (ho : s'.os = s.os) (u : Un (frs X.stack) ch H H' s.heap s'.heap) (hok : HOk X.prog X.w H' s'.heap) (hg : AllBare s'.gens)
    (hch : ∀ b ∈ ch, (b ∈ X.ex ∨ X.s₀.heap.objs.size ≤ b) ∧ b ≠ X.env.locals ∧ (∀ x c, X.env.cells.lookup x = some c → c ≠ b) ∧ ∀ p ∈ X.pn ++ pins, p.1 ≠ b) : Inv X pins σ H' s' := by
  obtain ⟨h', g', d', t', o'⟩ := s'
  have e : o' = s.os := ho
  subst e
  exact I.call (g' := g') (t' := t') (d' := d') u hok hg hch
end

/-! ### the judgements -/
/-- an exception: its class, its own dict's address (where it has one), the abstract heap behind it -/
abbrev XK := Value → Option Addr → Hp → Prop
abbrev St := List (Option V)
abbrev VK := V → Hp → Prop
/-- an expression's reading; a test's; an argument list's -/
abbrev TE := St → Hp → VK → Prop
abbrev TT := St → Hp → (Bool → Hp → Prop) → Prop
abbrev TA := St → Hp → (List V → Hp → Prop) → Prop
/-- what is wanted behind a statement -/
structure Ends where
  nx : St → Hp → Prop
  rt : VK
  bk : St → Hp → Prop := fun _ _ => False
  ct : St → Hp → Prop := fun _ _ => False
abbrev TS := Ends → St → Hp → Prop

def EP (X : Cx) (pins : List (Addr × Obj)) (σ : St) (Q : VK) (u : Value) (s' : Shared) : Prop := ∃ v H', Inv X pins σ H' s' ∧ RelV v u ∧ Q v H'
def TP (X : Cx) (pins : List (Addr × Obj)) (σ : St) (Q : Bool → Hp → Prop) (b : Bool) (s' : Shared) : Prop := ∃ H', Inv X pins σ H' s' ∧ Q b H'
def AP (X : Cx) (pins : List (Addr × Obj)) (σ : St) (Q : List V → Hp → Prop) (us : List Value) (s' : Shared) : Prop := ∃ vs H', Inv X pins σ H' s' ∧ Vals vs us ∧ Q vs H'
def SP (X : Cx) (pins : List (Addr × Obj)) (D : Ends) (f : Flow) (s' : Shared) : Prop :=
  match f with
  | .next => ∃ σ' H', Inv X pins σ' H' s' ∧ D.nx σ' H'
  | .brk => ∃ σ' H', Inv X pins σ' H' s' ∧ D.bk σ' H'
  | .cont => ∃ σ' H', Inv X pins σ' H' s' ∧ D.ct σ' H'
  | .ret u => ∃ v σ' H', Inv X pins σ' H' s' ∧ RelV v u ∧ D.rt v H'

def PE (X : Cx) (e : Expr) (t : TE) : Prop :=
  ∀ (pins : List (Addr × Obj)) (s : Shared) (σ : St) (H : Hp) (Q : VK), Inv X pins σ H s → t σ H Q → wpAny (model X.prog X.w) X.A (eval e X.env) (EP X pins σ Q) X.xe s
def PT (X : Cx) (e : Expr) (t : TT) : Prop :=
  ∀ (pins : List (Addr × Obj)) (s : Shared) (σ : St) (H : Hp) (Q : Bool → Hp → Prop), Inv X pins σ H s → t σ H Q → wpAny (model X.prog X.w) X.A (isTrue e X.env (eval e X.env)) (TP X pins σ Q) X.xe s
/-- a test whatever its 'whole' is (and, or) -/
def PW (X : Cx) (e : Expr) (t : TT) : Prop :=
  ∀ (whole : Sem Value) (pins : List (Addr × Obj)) (s : Shared) (σ : St) (H : Hp) (Q : Bool → Hp → Prop), Inv X pins σ H s → t σ H Q → wpAny (model X.prog X.w) X.A (isTrue e X.env whole) (TP X pins σ Q) X.xe s
theorem PW.pt {X : Cx} {e : Expr} {t : TT} (h : PW X e t) : PT X e t := h _
/-- an argument list (no star), from the left -/
def PA (X : Cx) (es : List Expr) (t : TA) : Prop :=
  ∀ (pos : Pos) (pins : List (Addr × Obj)) (s : Shared) (σ : St) (H : Hp) (Q : List V → Hp → Prop), Inv X pins σ H s → t σ H Q → wpAny (model X.prog X.w) X.A (spliced (backTo pos (starEach es X.env))) (AP X pins σ Q) X.xe s
def PS (X : Cx) (st : Stmt) (t : TS) : Prop :=
  ∀ (pins : List (Addr × Obj)) (s : Shared) (σ : St) (H : Hp) (D : Ends), Inv X pins σ H s → t D σ H → wpAny (model X.prog X.w) X.A (exec st X.env) (SP X pins D) X.xe s
def PSs (X : Cx) (st : List Stmt) (t : TS) : Prop :=
  ∀ (pins : List (Addr × Obj)) (s : Shared) (σ : St) (H : Hp) (D : Ends), Inv X pins σ H s → t D σ H → wpAny (model X.prog X.w) X.A (execs st X.env) (SP X pins D) X.xe s
/-- weaken the end -/
theorem thn {α : Type} {t : Sem α} {Q Q' : α → Shared → Prop} {M : Model} {A : Around} {E : Value → Shared → Prop} {s : Shared} (h : wpAny M A t Q E s) (hQ : ∀ a s, Q a s → Q' a s) : wpAny M A t Q' E s := wpAny_mono h hQ fun _ _ x => x
end L2

namespace L2
open PySem PySem.Spec PyProof.Rows
section
variable {X : Cx}

/-! ### names and constants -/
def tVar (i : Nat) : TE := fun σ H Q => ∃ v, σ[i]? = some (some v) ∧ Q v H
def tC (v : V) : TE := fun _ H Q => Q v H
theorem pe_var {i : Nat} {x : Str} {pos : Pos} (hN : X.N[i]? = some x) (hv : Vis X.env.scope x) (hd : (x == ("__debug__" : Str)) = false := by decide) (hcd : (x == ("__classdict__" : Str)) = false := by decide) : PE X (.Name x pos) (tVar i) := by
  intro pins s σ H Q I h
  obtain ⟨v, e, h⟩ := h
  obtain ⟨m, hn, hl⟩ := I.loc
  obtain ⟨u, r, l⟩ := hl i x v hN e hv
  have fin : EP X pins σ Q u s := ⟨v, H, I, r, h⟩
  rcases l with ⟨hk, hm⟩ | ⟨hk, c, hc, hcell⟩
  · exact wpAny_Name (wpAny_loadName_local I.ok.kind hk hn hm fin) hd
  · rcases hk with hk | hk
    · exact wpAny_Name (wpAny_loadName_cell I.ok.kind hk hc hcell fin) hd
    · exact wpAny_Name (wpAny_loadName_free I.ok.kind hk hc hcell fin hcd) hd
theorem pe_int {i j pos} : PE X (.Constant (.int i) j pos) (tC (.int i)) := fun _ _ _ H _ I h => wpAny_Constant_int ⟨.int i, H, I.tok _, ⟨_, rfl⟩, h⟩
theorem pe_bl {b j pos} : PE X (.Constant (.bool b) j pos) (tC (.bl b)) := fun _ _ _ H _ I h => Constant_bool ⟨.bl b, H, I, rfl, h⟩
theorem pe_non {j pos} : PE X (.Constant .none j pos) (tC .non) := fun _ _ _ H _ I h => Constant_none ⟨.non, H, I, rfl, h⟩
theorem pe_str {x j pos} : PE X (.Constant (.str x) j pos) (tC (.str x)) := fun _ _ _ H _ I h => Calls.Constant_str ⟨.str x, H, I.tok _, ⟨_, rfl⟩, h⟩

/-- a global name of the def -/
def Gl (X : Cx) (x : Str) : Prop := X.env.kindOf x = some .globalImplicit
theorem ld_glob {E : Value → Shared → Prop} {pins : List (Addr × Obj)} {s : Shared} {σ : St} {H : Hp} {x : Str} {u : Value} {pos : Pos} {Q : Value → Shared → Prop} (I : Inv X pins σ H s) (hg : Gl X x) (hm : X.mg x = some u) (h : Q u s)
    (hd : (x == ("__debug__" : Str)) = false := by decide) : wpAny (model X.prog X.w) X.A (eval (.Name x pos) X.env) Q E s :=
  Calls.Name_function_global I.ok.kind hg (Calls.loadGlobal_global (by rw [I.ok.glob]; exact I.mod.glob.keeps I.bk) hm h) hd
theorem ld_blt {E : Value → Shared → Prop} {pins : List (Addr × Obj)} {s : Shared} {σ : St} {H : Hp} {x : Str} {u : Value} {pos : Pos} {Q : Value → Shared → Prop} (I : Inv X pins σ H s) (hg : Gl X x) (hm : X.mg x = none) (hv : bootBuiltins x = some u) (h : Q u s)
    (hn : x ≠ "__name__" := by decide) (hd : (x == ("__debug__" : Str)) = false := by decide) : wpAny (model X.prog X.w) X.A (eval (.Name x pos) X.env) Q E s := by
  obtain ⟨mb, h1, h2⟩ := I.mod.blt
  exact Calls.Name_function_global I.ok.kind hg (Calls.loadGlobal_builtin (by rw [I.ok.glob]; exact I.mod.glob.keeps I.bk) hm (by rw [I.ok.blt]; exact h1.keeps I.bk) ((h2 x hn).trans hv) h) hd
/-- a module's constant, a class, a function, as a value -/
theorem pe_glob {x : Str} {v : V} {u : Value} {pos : Pos} (hg : Gl X x) (hm : X.mg x = some u) (r : RelV v u) (hd : (x == ("__debug__" : Str)) = false := by decide) : PE X (.Name x pos) (tC v) :=
  fun _ _ _ H _ I h => ld_glob I hg hm ⟨v, H, I, r, h⟩ hd
theorem pe_bltn {x : Str} {v : V} {u : Value} {pos : Pos} (hg : Gl X x) (hm : X.mg x = none) (hv : bootBuiltins x = some u) (r : RelV v u) (hn : x ≠ "__name__" := by decide) (hd : (x == ("__debug__" : Str)) = false := by decide) : PE X (.Name x pos) (tC v) :=
  fun _ _ _ H _ I h => ld_blt I hg hm hv ⟨v, H, I, r, h⟩ hn hd

/-! ### arithmetic -/
variable {a b : Expr} {ta tb : TE} {pos : Pos}

/-! ### comparisons -/
/-- a comparison as a value, as a test -/
def tB (t : TE) : TT := fun σ H Q => t σ H fun x H1 => ∃ c, x = .bl c ∧ Q c H1
/-- an expression whose value is a bool, as a test -/
theorem pt_val {e : Expr} {t : TE} (h : PE X e t) (he : ∀ whole, isTrue e X.env whole = (do let v ← whole; standAt e.pos; holding [v] (truthy v)) := by intro _; rfl) : PT X e (tB t) := by
  intro pins s σ H Q I hw
  refine isTrue_plain (thn (h pins s σ H _ I hw) fun v s1 ⟨x, H1, I1, r1, q1⟩ => ?_) (he _)
  obtain ⟨d, rfl, q⟩ := q1
  cases r1
  exact wpAny_truthy_bool ⟨H1, I1, q⟩

/-! ### and, or, not -/
variable {tA tB' : TT} {rest : List Expr}
def tAnd (t u : TT) : TT := fun σ H Q => t σ H fun c H1 => if c = true then u σ H1 Q else Q false H1
def tOr (t u : TT) : TT := fun σ H Q => t σ H fun c H1 => if c = true then Q true H1 else u σ H1 Q
def tNot (t : TT) : TT := fun σ H Q => t σ H fun c H1 => Q (!c) H1
theorem pw_and1 (ha : PT X a tA) : PW X (.BoolOp .And [a] pos) tA := by
  intro wh pins s σ H Q I h
  refine isTrue_and (thn (ha pins s σ H Q I h) fun c s1 e => ?_)
  cases c with
  | true => exact isTrue_and_nil e
  | false => exact e
theorem pw_or1 (ha : PT X a tA) : PW X (.BoolOp .Or [a] pos) tA := by
  intro wh pins s σ H Q I h
  refine isTrue_or (thn (ha pins s σ H Q I h) fun c s1 e => ?_)
  cases c with
  | false => exact isTrue_or_nil e
  | true => exact e
theorem pw_and (ha : PT X a tA) (hb : PW X (.BoolOp .And (b :: rest) pos) tB') : PW X (.BoolOp .And (a :: b :: rest) pos) (tAnd tA tB') := by
  intro wh pins s σ H Q I h
  refine isTrue_and (thn (ha pins s σ H _ I h) fun c s1 ⟨H1, I1, q1⟩ => ?_)
  cases c with
  | true => exact hb wh pins s1 σ H1 Q I1 q1
  | false => exact ⟨H1, I1, q1⟩
theorem pw_or (ha : PT X a tA) (hb : PW X (.BoolOp .Or (b :: rest) pos) tB') : PW X (.BoolOp .Or (a :: b :: rest) pos) (tOr tA tB') := by
  intro wh pins s σ H Q I h
  refine isTrue_or (thn (ha pins s σ H _ I h) fun c s1 ⟨H1, I1, q1⟩ => ?_)
  cases c with
  | true => exact ⟨H1, I1, q1⟩
  | false => exact hb wh pins s1 σ H1 Q I1 q1
theorem pt_not (ha : PT X a tA) : PT X (.UnaryOp .Not a pos) (tNot tA) := by
  intro pins s σ H Q I h
  exact isTrue_not (ha pins s σ H (fun c H1 => Q (!c) H1) I h)
/-- .. as values (bools) -/
def tAndV (ta tb : TE) : TE := fun σ H Q => ta σ H fun x H1 => ∃ c, x = .bl c ∧ if c = true then tb σ H1 Q else Q (.bl false) H1
def tOrV (ta tb : TE) : TE := fun σ H Q => ta σ H fun x H1 => ∃ c, x = .bl c ∧ if c = true then Q (.bl true) H1 else tb σ H1 Q
def tNotV (ta : TE) : TE := fun σ H Q => ta σ H fun x H1 => ∃ c, x = .bl c ∧ Q (.bl (!c)) H1
theorem pe_one {op} {t : TE} (h : PE X a t) : PE X (.BoolOp op [a] pos) t := fun pins s σ H Q I hw => BoolOp_one (h pins s σ H Q I hw)
theorem pe_and (ha : PE X a ta) (hb : PE X (.BoolOp .And (b :: rest) pos) tb) : PE X (.BoolOp .And (a :: b :: rest) pos) (tAndV ta tb) := by
  intro pins s σ H Q I h
  refine BoolOp_and (thn (ha pins s σ H _ I h) fun v s1 ⟨x, H1, I1, r1, q1⟩ => ?_)
  obtain ⟨c, rfl, q1⟩ := q1
  cases r1
  refine wpAny_truthy_bool ?_
  cases c with
  | true => exact hb pins s1 σ H1 Q I1 q1
  | false => exact ⟨.bl false, H1, I1, rfl, q1⟩
theorem pe_or (ha : PE X a ta) (hb : PE X (.BoolOp .Or (b :: rest) pos) tb) : PE X (.BoolOp .Or (a :: b :: rest) pos) (tOrV ta tb) := by
  intro pins s σ H Q I h
  refine BoolOp_or (thn (ha pins s σ H _ I h) fun v s1 ⟨x, H1, I1, r1, q1⟩ => ?_)
  obtain ⟨c, rfl, q1⟩ := q1
  cases r1
  refine wpAny_truthy_bool ?_
  cases c with
  | false => exact hb pins s1 σ H1 Q I1 q1
  | true => exact ⟨.bl true, H1, I1, rfl, q1⟩
theorem pe_not (ha : PE X a ta) : PE X (.UnaryOp .Not a pos) (tNotV ta) := by
  intro pins s σ H Q I h
  refine UnaryOp_ (thn (ha pins s σ H _ I h) fun v s1 ⟨x, H1, I1, r1, q1⟩ => ?_)
  obtain ⟨c, rfl, q1⟩ := q1
  cases r1
  exact not_of (wpAny_truthy_bool ⟨.bl (!c), H1, I1, rfl, q1⟩)
end
end L2

namespace L2
open PySem PySem.Spec PyProof.Rows

/-! ### a list, a tuple that is read: tracked, frozen, or an object of the module -/
def SqL (K : PySem.W.Frag) (H : Hp) (a : Addr) (xs : List V) : Prop :=
  Rd H a (.lst xs) ∨
    ∃ (o : Obj) (its : Array Value) (n : Nat), K.lookup a = some o ∧ o.cls = .type "list" ∧ o.dict = none ∧ o.data = .seq its n ∧ its.size ≤ sizeLine ∧ Vals xs its.toList
def SqT (K : PySem.W.Frag) (H : Hp) (a : Addr) (xs : List V) : Prop :=
  Rd H a (.tup xs) ∨
    ∃ (o : Obj) (its : Array Value) (n : Nat), K.lookup a = some o ∧ o.cls = .type "tuple" ∧ o.data = .seq its n ∧ its.size ≤ sizeLine ∧ Vals xs its.toList
def absV : Value → Option V
  | .none => some .non
  | .bool b => some (.bl b)
  | .int i _ => some (.int i)
  | .str x _ => some (.str x)
  | .bytes b _ => some (.byt b)
  | .float b _ => some (.flt b)
  | .ref a => some (.ref a)
  | .type n => some (.ty n)
  | _ => none
theorem RelV.abs {x : V} {u : Value} (r : RelV x u) : absV u = some x := by
  cases x with
  | non => cases r; rfl
  | bl _ => cases r; rfl
  | int _ => obtain ⟨t, rfl⟩ := r; rfl
  | str _ => obtain ⟨t, rfl⟩ := r; rfl
  | byt _ => obtain ⟨t, rfl⟩ := r; rfl
  | flt _ => obtain ⟨t, rfl⟩ := r; rfl
  | ref _ => cases r; rfl
  | ty _ => cases r; rfl
theorem RelV.inj {x y : V} {u : Value} (r : RelV x u) (q : RelV y u) : x = y := Option.some.inj (r.abs.symm.trans q.abs)
theorem Vals.inj : ∀ {xs ys : List V} {us : List Value}, Vals xs us → Vals ys us → xs = ys
  | _, _, _, .nil, .nil => rfl
  | _, _, _, .cons r t, .cons r' t' => by rw [r.inj r', Vals.inj t t']
section
variable {X : Cx} {pins : List (Addr × Obj)} {σ : St} {H : Hp} {s : Shared} {a : Addr} {xs ys : List V}
theorem SqL.of {K : PySem.W.Frag} (h : H a = some (.lst xs)) : SqL K H a xs := .inl (.inl h)
theorem SqT.of {K : PySem.W.Frag} (h : H a = some (.tup xs)) : SqT K H a xs := .inl (.inl h)
theorem Inv.list (I : Inv X pins σ H s) (h : SqL X.K H a xs) : ∃ its : List Value, Vals xs its ∧ PlainL s.heap a its.toArray ∧ xs.length ≤ sizeLine := by
  rcases h with h | ⟨o, its, n, hk, hc, hd, hs, hz, r⟩
  · obtain ⟨z, its, n, r, e⟩ := h.ok I.hok
    exact ⟨its, r, ⟨_, n, e, rfl, rfl, rfl⟩, z⟩
  · refine ⟨its.toList, r, ⟨o, n, I.kIn a o hk, hc, hd, by simpa using hs⟩, ?_⟩
    have e := r.length
    simp only [Array.length_toList] at e
    omega
theorem Inv.tuple (I : Inv X pins σ H s) (h : SqT X.K H a xs) : ∃ its : List Value, Vals xs its ∧ IsTup s.heap a its.toArray ∧ xs.length ≤ sizeLine := by
  rcases h with h | ⟨o, its, n, hk, hc, hs, hz, r⟩
  · obtain ⟨z, its, r, p⟩ := h.ok I.hok
    exact ⟨its, r, p, z⟩
  · refine ⟨its.toList, r, ⟨o, I.kIn a o hk, hc, n, by simpa using hs⟩, ?_⟩
    have e := r.length
    simp only [Array.length_toList] at e
    omega
theorem Inv.list_inj (I : Inv X pins σ H s) (h : SqL X.K H a xs) (h' : SqL X.K H a ys) : xs = ys := by
  obtain ⟨its, r, ⟨o, n, e, _, _, d⟩, _⟩ := I.list h
  obtain ⟨its', r', ⟨o', n', e', _, _, d'⟩, _⟩ := I.list h'
  rw [e] at e'; cases e'
  rw [d] at d'
  injection d' with d1 _
  have : its = its' := by simpa using congrArg Array.toList d1
  subst this
  exact r.inj r'
end

/-! ### another wish about exceptions -/
abbrev Cx.wish (X : Cx) (E : Value → Shared → Prop) : Cx := { X with xe := E }
/-- no exception leaves -/
abbrev Cx.nox (X : Cx) : Cx := X.wish fun _ _ => False
theorem Cx.Ok.wish {X : Cx} (ok : X.Ok) (E : Value → Shared → Prop) : (X.wish E).Ok :=
  ⟨ok.mod, ok.kind, ok.glob, ok.blt, ok.above, ok.inj, ok.has, ok.cab, ok.hd, ok.frames, ok.stk, ok.exf, ok.bs, ok.bsz, ok.noex, ok.exfs, ok.funs, ok.frf⟩
theorem Cx.Ok.unwish {X : Cx} {E : Value → Shared → Prop} (ok : (X.wish E).Ok) : X.Ok :=
  ⟨ok.mod, ok.kind, ok.glob, ok.blt, ok.above, ok.inj, ok.has, ok.cab, ok.hd, ok.frames, ok.stk, ok.exf, ok.bs, ok.bsz, ok.noex, ok.exfs, ok.funs, ok.frf⟩
section
variable {X : Cx} {pins : List (Addr × Obj)} {σ : St} {H : Hp} {s : Shared} {E : Value → Shared → Prop}
theorem Inv.wish (I : Inv X pins σ H s) (E : Value → Shared → Prop) : Inv (X.wish E) pins σ H s := ⟨I.ok.wish E, I.os, I.bare, I.base, I.loc, I.cell, I.free, I.freeC, I.pin, I.hok, I.len⟩
theorem Inv.unwish (I : Inv (X.wish E) pins σ H s) : Inv X pins σ H s := ⟨I.ok.unwish, I.os, I.bare, I.base, I.loc, I.cell, I.free, I.freeC, I.pin, I.hok, I.len⟩
theorem SP.unwish {D : Ends} {f : Flow} {s' : Shared} (h : SP (X.wish E) pins D f s') : SP X pins D f s' := by
  cases f with
  | next => obtain ⟨σ', H', I, q⟩ := h; exact ⟨σ', H', I.unwish, q⟩
  | brk => obtain ⟨σ', H', I, q⟩ := h; exact ⟨σ', H', I.unwish, q⟩
  | cont => obtain ⟨σ', H', I, q⟩ := h; exact ⟨σ', H', I.unwish, q⟩
  | ret u => obtain ⟨v, σ', H', I, r, q⟩ := h; exact ⟨v, σ', H', I.unwish, r, q⟩
theorem PSs.nox {st : List Stmt} {t : TS} (h : PSs X.nox st t) : PSs X st t := fun pins s σ H D I hw =>
  wpAny_mono (h pins s σ H D (I.wish _) hw) (fun _ _ q => q.unwish) fun _ _ z => False.elim z
end

/-! ### blocks and small statements -/
section
variable {X : Cx} {st : Stmt} {rest : List Stmt} {t u : TS} {e : Expr} {te : TE} {pos : Pos}
def tNext : TS := fun D σ H => D.nx σ H
def tSeq (t u : TS) : TS := fun D σ H => t { D with nx := u D } σ H
theorem pss_nil : PSs X [] tNext := fun _ _ σ H _ I h => wpAny_execs_nil ⟨σ, H, I, h⟩
theorem pss_cons (h1 : PS X st t) (h2 : PSs X rest u) : PSs X (st :: rest) (tSeq t u) := by
  intro pins s σ H D I h
  refine wpAny_execs_cons (thn (h1 pins s σ H { D with nx := u D } I h) fun f s1 q => ?_)
  cases f with
  | next =>
    obtain ⟨σ', H', I', q⟩ := q
    exact h2 pins s1 σ' H' D I' q
  | ret v => exact q
  | brk => exact q
  | cont => exact q
theorem pss_one (h1 : PS X st t) : PSs X [st] t := by
  intro pins s σ H D I h
  refine wpAny_execs_cons (thn (h1 pins s σ H D I h) fun f s1 q => ?_)
  cases f with
  | next => exact wpAny_execs_nil q
  | ret v => exact q
  | brk => exact q
  | cont => exact q
/-- in a def's body nothing is shown -/
theorem Inv.quiet {pins : List (Addr × Obj)} {σ : St} {H : Hp} {s : Shared} (I : Inv X pins σ H s) : interactive X.env = false := by simp [interactive, I.ok.kind]
/-- an expression whose value is dropped -/
def tDrop (te : TE) : TS := fun D σ H => te σ H fun _ H1 => D.nx σ H1
theorem ps_expr (he : PE X e te) (hs : swapsWith e none pos.line X.env = pure false := by rfl) : PS X (.Expr e pos) (tDrop te) := by
  intro pins s σ H D I h
  exact wpAny_Expr_any (thn (he pins s σ H _ I h) fun v s1 ⟨x, H1, I1, r1, q1⟩ => ⟨σ, H1, I1, q1⟩) I.quiet hs
def tRet (te : TE) : TS := fun D σ H => te σ H D.rt
theorem ps_ret (he : PE X e te) : PS X (.Return (some e) pos) (tRet te) := by
  intro pins s σ H D I h
  exact wpAny_Return_some (thn (he pins s σ H _ I h) fun v s1 ⟨x, H1, I1, r1, q1⟩ => ⟨x, σ, H1, I1, r1, q1⟩)
def tIfS (c : TT) (t u : TS) : TS := fun D σ H => c σ H fun b H1 => if b = true then t D σ H1 else u D σ H1
theorem ps_if {c : Expr} {a b : List Stmt} {tc : TT} (hc : PT X c tc) (ha : PSs X a t) (hb : PSs X b u) : PS X (.If c a b pos) (tIfS tc t u) := by
  intro pins s σ H D I h
  refine wpAny_If (thn (hc pins s σ H _ I h) fun d s1 ⟨H1, I1, q1⟩ => ?_)
  cases d with
  | true => exact ha pins s1 σ H1 D I1 q1
  | false => exact hb pins s1 σ H1 D I1 q1
/-- code that the proof never comes to -/
def tNever : TS := fun _ _ _ => False
theorem pss_never {sts : List Stmt} : PSs X sts tNever := fun _ _ _ _ _ _ h => h.elim
end

/-! ### targets -/
abbrev TG := V → St → Hp → (St → Hp → Prop) → Prop
abbrev TGs := List V → St → Hp → (St → Hp → Prop) → Prop
def PG (X : Cx) (target : Expr) (t : TG) : Prop :=
  ∀ (pins : List (Addr × Obj)) (s : Shared) (σ : St) (H : Hp) (v : V) (u : Value) (Q : St → Hp → Prop), Inv X pins σ H s → RelV v u → t v σ H Q →
    wpAny (model X.prog X.w) X.A (assign target X.env u) (fun _ s' => ∃ σ' H', Inv X pins σ' H' s' ∧ Q σ' H') X.xe s
/-- several targets, one after another -/
def PGs (X : Cx) (ts : List Expr) (t : TGs) : Prop :=
  ∀ (pins : List (Addr × Obj)) (s : Shared) (σ : St) (H : Hp) (vs : List V) (us : List Value) (Q : St → Hp → Prop), Inv X pins σ H s → Vals vs us → t vs σ H Q →
    wpAny (model X.prog X.w) X.A (assignInOrder ((assignEach ts X.env).map (·.2)) us) (fun _ s' => ∃ σ' H', Inv X pins σ' H' s' ∧ Q σ' H') X.xe s
/-- o[i] = v, by values -/
abbrev TSet := V → V → V → Hp → (Hp → Prop) → Prop
def PSet (X : Cx) (t : TSet) : Prop :=
  ∀ (pins : List (Addr × Obj)) (s : Shared) (σ : St) (H : Hp) (o i v : V) (ov iv u : Value) (Q : Hp → Prop), Inv X pins σ H s → RelV o ov → RelV i iv → RelV v u → t o i v H Q →
    wpAny (model X.prog X.w) X.A (setItem ov iv u) (fun _ s' => ∃ H', Inv X pins σ H' s' ∧ Q H') X.xe s
section
variable {X : Cx} {pos : Pos}
def gName (i : Nat) : TG := fun v σ H Q => Q (σ.set i (some v)) H
theorem pg_name {i : Nat} {x : Str} (hN : X.N.Nodup) (hi : X.N[i]? = some x) (hx : Loc X.env.scope x) (hf : X.fn x = true ∨ X.env.scope.names.lookup x = some .local := by first | exact .inl rfl | exact .inr rfl | assumption) : PG X (.Name x pos) (gName i) := by
  intro pins s σ H v u Q I r h
  exact wpAny_assign_Name (store_ok I hN hi hx r (fun s' I' => ⟨_, H, I', h⟩) hf)
def gNil : TGs := fun vs σ H Q => vs = [] ∧ Q σ H
def gCons (t : TG) (u : TGs) : TGs := fun vs σ H Q => ∃ v r, vs = v :: r ∧ t v σ H fun σ' H' => u r σ' H' Q
theorem pgs_nil : PGs X [] gNil := by
  intro pins s σ H vs us Q I r h
  obtain ⟨e, h⟩ := h
  subst e
  cases r
  exact assignInOrder_nil ⟨σ, H, I, h⟩
theorem pgs_cons {e : Expr} {es : List Expr} {t : TG} {u : TGs} (h1 : PG X e t) (h2 : PGs X es u)
    (hs : (assignEach (e :: es) X.env).map (·.2) = assign e X.env :: (assignEach es X.env).map (·.2) := by rfl) : PGs X (e :: es) (gCons t u) := by
  intro pins s σ H vs us Q I r h
  obtain ⟨v, vr, e1, h⟩ := h
  subst e1
  cases r with
  | cons r rr =>
    rw [hs]
    refine assignInOrder_cons (thn (h1 pins s σ H _ _ _ I r h) fun _ s1 ⟨σ1, H1, I1, q1⟩ => ?_)
    exact h2 pins s1 σ1 H1 _ _ Q I1 rr q1
/-- (a, b, ..) = a tuple of that length -/
def gTup (K : PySem.W.Frag) (n : Nat) (t : TGs) : TG := fun v σ H Q => ∃ a xs, v = .ref a ∧ SqT K H a xs ∧ xs.length = n ∧ t xs σ H Q
theorem pg_tup {es : List Expr} {k : Nat} {t : TGs} {n : Nat} (hc : X.calm = true) (h : PGs X es t)
    (hn : (assignEach es X.env).length = n := by rfl) (hst : (assignEach es X.env).findIdx? (·.1) = none := by rfl) : PG X (.Tuple es k pos) (gTup X.K n t) := by
  intro pins s σ H v u Q I r hw
  obtain ⟨a, xs, e1, hq, hl, hw⟩ := hw
  subst e1
  cases r
  obtain ⟨its, rv, ht, hz⟩ := I.tuple hq
  refine assign_Tuple_tuple (I.ok.hd hc) ht (by simp [hn, ← hl, rv.length]) hst fun h' hx => ?_
  have I1 : Inv X pins σ H { s with heap := h' } := I.kept (t' := s.toks) fun b o e => hx b o (Nat.ne_of_lt (Heap.lt_size e)) e
  exact h pins _ σ H xs _ Q I1 (by simpa using rv) hw
/-- o[i] = .. -/
def gSub (to ti : TE) (t : TSet) : TG := fun v σ H Q => to σ H fun o H1 => ti σ H1 fun i H2 => t o i v H2 fun H3 => Q σ H3
theorem pg_sub {o i : Expr} {to ti : TE} {t : TSet} (ho : PE X o to) (hi : PE X i ti) (hs : PSet X t)
    (ha : ∀ v, assign (.Subscript o i pos) X.env v = (do
      let ov ← holding [v] (eval o X.env)
      let iv ← holding [v, ov] (eval i X.env)
      standAt pos
      holding [v, ov, iv] (setItem ov iv v)
      release [v, ov, iv] []) := by intro _; rfl) : PG X (.Subscript o i pos) (gSub to ti t) := by
  intro pins s σ H v u Q I r h
  rw [ha]
  refine wpAny_bind (wpAny_holding (thn (ho pins s σ H _ I h) fun ov s1 ⟨x, H1, I1, r1, q1⟩ => ?_))
  refine wpAny_bind (wpAny_holding (thn (hi pins s1 σ H1 _ I1 q1) fun iv s2 ⟨y, H2, I2, r2, q2⟩ => ?_))
  refine wpAny_bind (wpAny_standAt (wpAny_bind (wpAny_holding (thn (hs pins s2 σ H2 x y v ov iv u _ I2 r1 r2 r q2) fun _ s3 ⟨H3, I3, q3⟩ => ?_))))
  exact wpAny_release ⟨σ, H3, I3, q3⟩
/-- target = value -/
def tAsg (te : TE) (g : TG) : TS := fun D σ H => te σ H fun x H1 => g x σ H1 D.nx
theorem ps_asg {tg e : Expr} {te : TE} {g : TG} (he : PE X e te) (hg : PG X tg g) (hs : swapsWithSole [tg] e pos.line X.env = pure false := by rfl) (hw : swappedStores [tg] e X.env = pure none := by rfl)
    (h1 : (assignEach [tg] X.env).map (·.2) = [assign tg X.env] := by rfl) : PS X (.Assign [tg] e pos) (tAsg te g) := by
  intro pins s σ H D I h
  refine wpAny_Assign_stores (thn (he pins s σ H _ I h) fun v s1 ⟨x, H1, I1, r1, q1⟩ => ?_) hs hw
  rw [h1]
  exact thn (hg pins s1 σ H1 x v _ I1 r1 q1) fun _ s2 q => q
/-- name = value -/
theorem ps_set {i : Nat} {x : Str} {e : Expr} {te : TE} {pos' : Pos} (hN : X.N.Nodup) (hi : X.N[i]? = some x) (hx : Loc X.env.scope x) (he : PE X e te) (hs : swapsWith e (some (.Name x pos')) pos.line X.env = pure false := by rfl) (hf : X.fn x = true ∨ X.env.scope.names.lookup x = some .local := by first | exact .inl rfl | exact .inr rfl | assumption) :
    PS X (.Assign [.Name x pos'] e pos) (tAsg te (gName i)) := by
  intro pins s σ H D I h
  refine wpAny_Assign_Name (thn (he pins s σ H _ I h) fun v s1 ⟨y, H1, I1, r1, q1⟩ => ?_) hs
  exact store_ok I1 hN hi hx r1 (fun s2 I2 => ⟨_, H1, I2, q1⟩) hf
/-- a, b = x, y with plain local names: stored from the right; the pair itself is not tracked (the opening rows as in PyProof/Rows/TupAssign.lean:23) -/
def tPar (i j : Nat) (ta : TA) : TS := fun D σ H => ta σ H fun vs H1 => ∃ v w, vs = [v, w] ∧ D.nx ((σ.set i (some v)).set j (some w)) H1
theorem ps_par {i j : Nat} {x y : Str} {a b : Expr} {ta : TA} {px py pt : Pos} {kt k2 pt2} (hc : X.calm = true) (hN : X.N.Nodup) (hi : X.N[i]? = some x) (hj : X.N[j]? = some y) (hij : i ≠ j)
    (hx : X.env.scope.names.lookup x = some .local) (hy : X.env.scope.names.lookup y = some .local) (ha : PA X [a, b] ta)
    (hw : swappedStores [.Tuple [.Name x px, .Name y py] kt pt] (.Tuple [a, b] k2 pt2) X.env = pure (some [x, y]))
    (hs : swapsWithSole [.Tuple [.Name x px, .Name y py] kt pt] (.Tuple [a, b] k2 pt2) pos.line X.env = pure false := by rfl) :
    PS X (.Assign [.Tuple [.Name x px, .Name y py] kt pt] (.Tuple [a, b] k2 pt2) pos) (tPar i j ta) := by
  intro pins s σ H D I h
  rw [exec_Assign_arm]
  refine wpAny_bind (wpAny_standAt ?_)
  rw [hs]
  refine wpAny_bind (wpAny_pure ?_)
  rw [if_neg (by decide)]
  refine wpAny_bind (Tuple_ (thn (ha _ pins s σ H _ I h) fun us s1 ⟨vs, H1, I1, r1, q1⟩ => ?_))
  obtain ⟨v, w, e1, q1⟩ := q1
  subst e1
  obtain ⟨u1, u2, rfl, rv, rw'⟩ : ∃ u1 u2, us = [u1, u2] ∧ RelV v u1 ∧ RelV w u2 := by
    cases r1 with
    | cons p q =>
      cases q with
      | cons p' q' =>
        cases q'
        exact ⟨_, _, rfl, p, p'⟩
  refine wpAny_newObj_type ?_ (by show 2 ≤ sizeLine; decide)
  have I2 : Inv X pins σ H1 { s1 with heap := s1.heap.push { cls := .type "tuple", data := .seq [u1, u2].toArray } } := I1.kept (t' := s1.toks) fun b o e => Heap.get?_push_of_some _ e
  rw [hw]
  refine wpAny_bind (wpAny_pure ?_)
  show wpAny (model X.prog X.w) X.A (do rule "assign.swapped-stores"; let items ← unpackItems (.ref s1.heap.objs.size) 2 none; assignInOrder [fun v => bindName X.env y v, fun v => bindName X.env x v] items.reverse; pure Flow.next) _ _ _
  refine wpAny_bind (wpAny_rule (wpAny_bind (unpackItems_tuple (items := #[u1, u2]) (I.ok.hd hc) (IsTup.new s1.heap _) fun h' hx' => ?_)))
  have I3 := I2.kept (h' := h') (t' := s1.toks) fun b o e => hx' b o (Nat.ne_of_lt (Heap.lt_size e)) e
  show wpAny _ _ (assignInOrder [fun v => bindName X.env y v, fun v => bindName X.env x v] [u2, u1] >>= fun _ => pure Flow.next) _ _ _
  refine wpAny_bind (assignInOrder_cons (wpAny_bindName (store_ok I3 hN hj (.inl hy) rw' (fun s2 I4 => ?_) (.inr hy))))
  refine assignInOrder_cons (wpAny_bindName (store_ok I4 hN hi (.inl hx) rv (fun s3 I5 => assignInOrder_nil (wpAny_pure ?_)) (.inr hx)))
  rw [List.set_comm _ _ (Ne.symm hij)] at I5
  exact ⟨_, H1, I5, q1⟩
end

/-! ### while -/
section
variable {X : Cx} {pos : Pos}
/-- the invariant W with its measure -/
def tWhile (c : TT) (tb : TS) : TS := fun D σ H => ∃ W : Nat → St → Hp → Prop, (∃ m, W m σ H) ∧ ∀ m σ H, W m σ H →
  c σ H fun b H1 => if b = true then ∃ N : St → Hp → Prop, (∀ σ' H', N σ' H' → ∃ m', m' < m ∧ W m' σ' H') ∧ tb { D with nx := N, ct := N, bk := D.nx } σ H1 else D.nx σ H1
theorem ps_while {c : Expr} {body : List Stmt} {tc : TT} {tb : TS} (hp : PassesOwn (model X.prog X.w) X.A X.env X.xe) (hc : PT X c tc) (hb : PSs X body tb) : PS X (.While c body [] pos) (tWhile tc tb) := by
  intro pins s σ H D I h
  obtain ⟨W, ⟨m0, w0⟩, turn⟩ := h
  refine wpAny_While (codeAny_whileLoop (fun n s' => ∃ σ' H', Inv X pins σ' H' s' ∧ W n σ' H') ?_ m0 ⟨σ, H, I, w0⟩)
  rintro n s1 ⟨σ1, H1, I1, w1⟩
  refine wpAny_passesOwn hp (thn (hc pins s1 σ1 H1 _ I1 (turn n σ1 H1 w1)) fun b s2 ⟨H2, I2, q2⟩ => ?_)
  cases b with
  | true =>
    obtain ⟨N, hN, q2⟩ := q2
    rw [if_pos rfl]
    refine wpAny_passesOwn hp (thn (hb pins s2 σ1 H2 _ I2 q2) fun f s3 q3 => ?_)
    cases f with
    | next =>
      obtain ⟨σ3, H3, I3, n3⟩ := q3
      obtain ⟨m', hm, w3⟩ := hN σ3 H3 n3
      exact ⟨m', hm, σ3, H3, I3, w3⟩
    | cont =>
      obtain ⟨σ3, H3, I3, n3⟩ := q3
      obtain ⟨m', hm, w3⟩ := hN σ3 H3 n3
      exact ⟨m', hm, σ3, H3, I3, w3⟩
    | brk => exact q3
    | ret v => exact q3
  | false =>
    rw [if_neg Bool.false_ne_true]
    exact wpAny_execs_nil ⟨σ1, H2, I2, q2⟩
end

/-! ### what a loop or a comprehension walks -/
/-- at turn i: it yields x (the heap may grow), or it stops -/
structure It where
  go : Nat → Hp → Prop
  yld : Nat → Hp → V → Hp → Prop
  stop : Nat → Hp → Prop
/-- the iterator's own objects may turn: they are not the frame's, not pinned, younger than the entry (or a comprehension's own) -/
def FpOk (X : Cx) (pins : List (Addr × Obj)) (H : Hp) (b : Addr) : Prop :=
  H b = none ∧ b ≠ X.env.locals ∧ b ∉ X.fs ∧ (b ∈ X.ex ∨ X.s₀.heap.objs.size ≤ b) ∧ (∀ x c, X.env.cells.lookup x = some c → c ≠ b) ∧ ∀ p ∈ X.pn ++ pins, p.1 ≠ b
theorem Inv.fpOk {X : Cx} {pins : List (Addr × Obj)} {σ : St} {H H' : Hp} {s : Shared} {b : Addr} (I : Inv X pins σ H s) (hb : s.heap.objs.size ≤ b) (hn : H' b = none) : FpOk X pins H' b := by
  refine ⟨hn, Nat.ne_of_gt (Nat.lt_of_lt_of_le I.lt hb), I.nofs hb, .inr (Nat.le_trans I.sz hb), fun x c e z => ?_, fun p hp z => ?_⟩
  · obtain ⟨v, q⟩ := I.cell x c e
    exact absurd (Nat.lt_of_lt_of_le q.lt (by rw [z]; exact hb)) (Nat.lt_irrefl _)
  · exact absurd (Nat.lt_of_lt_of_le (Heap.lt_size (I.pin p hp).1) (by rw [z]; exact hb)) (Nat.lt_irrefl _)
structure Turn (P : Program) (w : World) (K : PySem.W.Frag) (tg : Expr) (J : It) (fp : List Addr) (it : Addr) (tn : Nat → Heap → Prop) : Prop where
  mem : it ∈ fp
  obj : ∀ i h, tn i h → ∀ b ∈ fp, ∃ o, h.get? b = some o ∧ ∀ v, o.data ≠ .cell v
  keep : ∀ i h h', tn i h → (∀ b ∈ fp, ∀ o, h.get? b = some o → h'.get? b = some o) → tn i h'
  item : ∀ (X : Cx), X.prog = P → X.w = w → X.K = K → X.calm = true → ∀ (i : Nat) (pins : List (Addr × Obj)) (s : Shared) (σ : St) (H : Hp) (E : Value → Shared → Prop), Inv X pins σ H s → (∀ b ∈ fp, FpOk X pins H b) → tn i s.heap → J.go i H →
    wpAny (model P w) X.A (pyNext (.ref it)) (fun r s1 => ∃ u, r = some u ∧
      wpAny (model P w) X.A (letOwnedTupleGo tg (.ref it) u) (fun _ s2 => ∃ x H', Inv X pins σ H' s2 ∧ RelV x u ∧ J.yld i H x H' ∧ tn (i + 1) s2.heap ∧ ∀ b ∈ fp, H' b = none) E s1) E s
  done : ∀ (X : Cx), X.prog = P → X.w = w → X.K = K → X.calm = true → ∀ (i : Nat) (pins : List (Addr × Obj)) (s : Shared) (σ : St) (H : Hp) (E : Value → Shared → Prop), Inv X pins σ H s → (∀ b ∈ fp, FpOk X pins H b) → tn i s.heap → J.stop i H →
    wpAny (model P w) X.A (pyNext (.ref it)) (fun r s1 => r = none ∧ Inv X pins σ H s1) E s
  self : ∀ (A : Around) (i : Nat) (s : Shared) (Q : Value → Shared → Prop) (E : Value → Shared → Prop), tn i s.heap → Q (.ref it) s → wpAny (model P w) A (pyIter (.ref it)) Q E s
abbrev TI := St → Hp → (It → Hp → Prop) → Prop
/-- an iterator has come -/
def PIE (X : Cx) (pins : List (Addr × Obj)) (σ : St) (tg : Expr) (R : It → Hp → Prop) (itv : Value) (s2 : Shared) : Prop :=
  ∃ (it : Addr) (fp : List Addr) (tn : Nat → Heap → Prop) (J : It) (H' : Hp), itv = .ref it ∧ Inv X pins σ H' s2 ∧ Turn X.prog X.w X.K tg J fp it tn ∧ tn 0 s2.heap ∧ (∀ b ∈ fp, FpOk X pins H' b) ∧ R J H'
def PI (X : Cx) (tg iter : Expr) (wi : TI) : Prop :=
  ∀ (pins : List (Addr × Obj)) (s : Shared) (σ : St) (H : Hp) (R : It → Hp → Prop), Inv X pins σ H s → wi σ H R →
    wpAny (model X.prog X.w) X.A (eval iter X.env) (fun v s1 => wpAny (model X.prog X.w) X.A (pyIter v) (PIE X pins σ tg R) X.xe s1) X.xe s

/-- the step ahead of the store is nothing for an iterator that keeps no tuple -/
theorem go_of {M : Model} {A : Around} {E : Value → Shared → Prop} {s : Shared} {tg : Expr} {it : Addr} {u : Value} {o : Obj} {n : String} {vs : Array Value} {Q : Unit → Shared → Prop} (ho : s.heap.get? it = some o) (hc : o.cls = .type n) (hd : o.data = .fields vs)
    (hn : ["enumerate", "zip", "dict_itemiterator", "dict_reverseitemiterator", "odict_iterator", "itertools.zip_longest", "itertools.pairwise"].contains n = false) (hQ : Q () s) : wpAny M A (letOwnedTupleGo tg (.ref it) u) Q E s := by
  unfold letOwnedTupleGo
  cases tg <;> first
    | exact wpAny_pure hQ
    | (cases u <;> first
        | exact wpAny_pure hQ
        | (refine wpAny_bind (wpAny_load ho ?_)
           rw [hc, hd]
           show wpAny M A (if (["enumerate", "zip", "dict_itemiterator", "dict_reverseitemiterator", "odict_iterator", "itertools.zip_longest", "itertools.pairwise"].contains n && vs[0]? == some (rawInt _)) = true then _ else _) Q E s
           rw [if_neg (by intro h; rw [hn, Bool.false_and] at h; cases h)]
           exact wpAny_pure hQ))

/-- the list at a, as it stands at each turn (a loop may append to it) -/
def Itl (K : PySem.W.Frag) (a : Addr) : It :=
  ⟨fun i H => ∃ xs x, SqL K H a xs ∧ xs[i]? = some x, fun i H x H' => H' = H ∧ ∀ xs, SqL K H a xs → xs[i]? = some x, fun i H => ∃ xs, SqL K H a xs ∧ xs.length ≤ i⟩
/-- lo, lo + 1, .. (n of them) -/
def Itr (lo : Int) (n : Nat) : It := ⟨fun i _ => i < n, fun i H x H' => H' = H ∧ x = .int (lo + i), fun i _ => n ≤ i⟩
theorem turn_list {P : Program} {w : World} {K : PySem.W.Frag} {tg : Expr} (a it : Addr) : Turn P w K tg (Itl K a) [it] it (fun i h => h.IsListIter it a i) where
  mem := by simp
  obj := fun i h st b hb => by
    have e : b = it := by simpa using hb
    subst e
    obtain ⟨o, e, c, d⟩ := st
    exact ⟨o, e, fun v z => by rw [d] at z; cases z⟩
  keep := fun i h h' st k => st.at fun o e => k it (by simp) o e
  item := by
    intro X hP hw hK hc i pins s σ H E I hf st hg
    subst hP hw hK
    obtain ⟨xs, x, hq, hx⟩ := hg
    obtain ⟨its, rv, p, hz⟩ := I.list hq
    obtain ⟨u, hu, ru⟩ := rv.get hx
    obtain ⟨f0, f1, f2, f3, f4, f5⟩ := hf it (by simp)
    refine wpAny_pyNext_list_item st p.isList (x := u) (by simpa using hu) fun h' st' sb => ?_
    have I1 : Inv X pins σ H { s with heap := h' } := I.turned (t' := s.toks) (fun b o hb e => (sb.2 b hb).trans e) f0 f1 f3 f4 f5
    obtain ⟨o, e, c, d⟩ := id st'
    exact ⟨u, rfl, go_of (s := { s with heap := h' }) e c d (by decide) ⟨x, H, I1, ru, ⟨rfl, fun ys hy => by rw [I.list_inj hy hq]; exact hx⟩, st', fun b hb => (hf b hb).1⟩⟩
  done := by
    intro X hP hw hK hc i pins s σ H E I hf st hg
    subst hP hw hK
    obtain ⟨xs, hq, hx⟩ := hg
    obtain ⟨its, rv, p, hz⟩ := I.list hq
    obtain ⟨f0, f1, f2, f3, f4, f5⟩ := hf it (by simp)
    have hl := rv.length
    exact wpAny_pyNext_list_end (I.ok.hd hc) st p.isList (by simp; omega) fun h' eb => ⟨rfl, I.turned (t' := s.toks) (fun b o hb e => eb b o hb e) f0 f1 f3 f4 f5⟩
  self := fun _ _ _ _ _ st h => wpAny_pyIter_listiter st h
theorem turn_range {P : Program} {w : World} {K : PySem.W.Frag} {tg : Expr} (it : Addr) (lo : Int) (n : Nat) : Turn P w K tg (Itr lo n) [it] it (fun i h => IsRangeIter h it (lo + (i : Nat) * 1) ((n : Int) - (i : Nat)) 1) where
  mem := by simp
  obj := fun i h st b hb => by
    have e : b = it := by simpa using hb
    subst e
    exact ⟨_, st, fun v z => by
      have z' : Data.fields _ = Data.cell v := z
      cases z'⟩
  keep := fun i h h' st k => k it (by simp) _ st
  item := by
    intro X hP hw hK hc i pins s σ H E I hf st hg
    subst hP hw hK
    obtain ⟨f0, f1, f2, f3, f4, f5⟩ := hf it (by simp)
    have W := Walks.range (prog := X.prog) (w := X.w) (I.ok.hd hc) it lo 1 n
    refine W.item i s _ _ hg st fun v h' tk hv st' kk => ?_
    obtain ⟨t, rfl⟩ := hv
    have I1 : Inv X pins σ H { s with heap := h', toks := tk } := I.turned (fun b o hb e => kk b o (by simpa using hb) e) f0 f1 f3 f4 f5
    refine ⟨_, rfl, go_of (s := { s with heap := h', toks := tk }) (n := "range_iterator") st' rfl rfl (by decide) ⟨.int (lo + i), H, I1, ⟨t, ?_⟩, ⟨rfl, rfl⟩, st', fun b hb => (hf b hb).1⟩⟩
    rw [Int.mul_one]
  done := by
    intro X hP hw hK hc i pins s σ H E I hf st hg
    subst hP hw hK
    obtain ⟨f0, f1, f2, f3, f4, f5⟩ := hf it (by simp)
    exact wpAny_pyNext_range_end (I.ok.hd hc) st (by have : n ≤ i := hg; omega) fun h' eb => ⟨rfl, I.turned (t' := s.toks) (fun b o hb e => eb b o hb e) f0 f1 f3 f4 f5⟩
  self := fun _ _ _ _ _ st h => wpAny_pyIter_rangeiter st h
end L2

namespace L2
open PySem PySem.Spec PyProof.Rows
section
variable {X : Cx} {tg : Expr}
def iList (K : PySem.W.Frag) (tl : TE) : TI := fun σ H R => tl σ H fun x H1 => ∃ a, x = .ref a ∧ (∃ xs, SqL K H1 a xs) ∧ R (Itl K a) H1
theorem pi_list {l : Expr} {tl : TE} (hl : PE X l tl) : PI X tg l (iList X.K tl) := by
  intro pins s σ H R I h
  refine thn (hl pins s σ H _ I h) fun v s1 ⟨x, H1, I1, r1, q1⟩ => ?_
  obtain ⟨a, e, ⟨xs, hq⟩, q⟩ := q1
  subst e
  cases r1
  obtain ⟨its, rv, p, hz⟩ := I1.list hq
  refine wpAny_pyIter_list p.isList ?_
  refine ⟨s1.heap.objs.size, [s1.heap.objs.size], _, _, H1, rfl, I1.kept (t' := s1.toks) fun b o e => Heap.get?_push_of_some _ e, turn_list a _, ⟨_, Heap.get?_push_size _ rfl, rfl, rfl⟩, fun b hb => ?_, q⟩
  have e : b = s1.heap.objs.size := by simpa using hb
  subst e
  exact I1.fpOk (Nat.le_refl _) (I1.hok.fresh (Nat.le_refl _))
/-- a range object just made, walked -/
theorem range_it {pins : List (Addr × Obj)} {σ : St} {H : Hp} {s : Shared} {R : It → Hp → Prop} {E : Value → Shared → Prop} {lo hi : Int} {t u v : Tok} {tk : Nat} (I : Inv X pins σ H s) (h1 : -(2 ^ 62) ≤ lo) (h2 : lo < 2 ^ 62) (h3 : -(2 ^ 62) ≤ hi) (h4 : hi < 2 ^ 62)
    (q : R (Itr lo (hi - lo).toNat) H) : wpAny (model X.prog X.w) X.A (pyIter (.ref s.heap.objs.size)) (PIE X pins σ tg R) E { s with heap := s.heap.push { cls := .type "range", data := .fields #[.int lo t, .int hi u, .int 1 v] }, toks := tk } := by
  refine wpAny_pyIter_range (IsRange.new ..) (small_one h1 h2 h3 h4) ?_
  have I1 : Inv X pins σ H { s with heap := s.heap.push { cls := .type "range", data := .fields #[.int lo t, .int hi u, .int 1 v] }, toks := tk } := I.kept fun b o e => Heap.get?_push_of_some _ e
  refine ⟨(s.heap.push { cls := .type "range", data := .fields #[.int lo t, .int hi u, .int 1 v] }).objs.size, [(s.heap.push { cls := .type "range", data := .fields #[.int lo t, .int hi u, .int 1 v] }).objs.size], _, _, H, rfl,
    I1.kept (t' := tk) fun b o e => Heap.get?_push_of_some _ e, turn_range _ lo (hi - lo).toNat, ?_, fun b hb => ?_, q⟩
  · have e1 : lo + ((0 : Nat) : Int) * 1 = lo := by simp
    have e2 : (((hi - lo).toNat : Nat) : Int) - ((0 : Nat) : Int) = Builtin.Range.rangeSize lo hi 1 := by rw [rangeSize_one]; split <;> omega
    show IsRangeIter _ _ (lo + ((0 : Nat) : Int) * 1) ((((hi - lo).toNat : Nat) : Int) - ((0 : Nat) : Int)) 1
    rw [e1, e2]
    exact Heap.get?_push_size _ rfl
  · have e : b = (s.heap.push { cls := .type "range", data := .fields #[.int lo t, .int hi u, .int 1 v] }).objs.size := by simpa using hb
    subst e
    exact I1.fpOk (Nat.le_refl _) (I1.hok.fresh (Nat.le_refl _))
def iRng1 (ta : TA) : TI := fun σ H R => ta σ H fun vs H1 => ∃ j : Int, vs = [.int j] ∧ -(2 ^ 62) ≤ j ∧ j < 2 ^ 62 ∧ R (Itr 0 j.toNat) H1
def iRng2 (ta : TA) : TI := fun σ H R => ta σ H fun vs H1 => ∃ i j : Int, vs = [.int i, .int j] ∧ (-(2 ^ 62) ≤ i ∧ i < 2 ^ 62 ∧ -(2 ^ 62) ≤ j ∧ j < 2 ^ 62) ∧ R (Itr i (j - i).toNat) H1
theorem pi_range1 {a : Expr} {ta : TA} {p pos : Pos} (hg : Gl X "range") (hm : X.mg "range" = none) (ha : PA X [a] ta) (hs : starEach [a] X.env = [(false, eval a X.env)] := by rfl) : PI X tg (.Call (.Name "range" p) [a] [] pos) (iRng1 ta) := by
  intro pins s σ H R I h
  refine Call_ (ld_blt I hg hm boot_range (PyProof.Rows.callWith_type1 (thn (ha pos pins s σ H _ I h) fun us s1 ⟨vs, H1, I1, r1, q1⟩ => ?_) hs rfl))
  obtain ⟨j, e, q1, q2, q⟩ := q1
  subst e
  cases r1 with
  | cons r rr =>
    cases rr
    obtain ⟨t, rfl⟩ := r
    exact call_range_1 (range_it I1 (by omega) (by omega) q1 q2 (by simpa using q))
theorem pi_range2 {a b : Expr} {ta : TA} {p pos : Pos} (hg : Gl X "range") (hm : X.mg "range" = none) (ha : PA X [a, b] ta) (hs : starEach [a, b] X.env = [(false, eval a X.env), (false, eval b X.env)] := by rfl) (hs2 : starEach [b] X.env = [(false, eval b X.env)] := by rfl) :
    PI X tg (.Call (.Name "range" p) [a, b] [] pos) (iRng2 ta) := by
  intro pins s σ H R I h
  refine Call_ (ld_blt I hg hm boot_range (PyProof.Rows.callWith_type1 (thn (ha pos pins s σ H _ I h) fun us s1 ⟨vs, H1, I1, r1, q1⟩ => ?_) (by rw [hs, hs2]) (by rw [hs2]; rfl)))
  obtain ⟨i, j, e, ⟨q1, q2, q3, q4⟩, q⟩ := q1
  subst e
  cases r1 with
  | cons r rr =>
    cases rr with
    | cons r' rr =>
      cases rr
      obtain ⟨t, rfl⟩ := r
      obtain ⟨t', rfl⟩ := r'
      exact call_range_2 (range_it I1 q1 q2 q3 q4 q)

/-! ### for -/
/-- W: the invariant by the turn and a measure; N: what the body is to reach -/
def tFor (wi : TI) (g : TG) (tb : TS) : TS := fun D σ H => wi σ H fun J H1 => ∃ W : Nat → Nat → St → Hp → Prop, (∃ m, W 0 m σ H1) ∧ ∀ i m σ H, W i m σ H →
  (J.stop i H ∧ D.nx σ H) ∨ (J.go i H ∧ ∃ N : St → Hp → Prop, (∀ σ' H', N σ' H' → ∃ m', m' < m ∧ W (i + 1) m' σ' H') ∧ ∀ x H', J.yld i H x H' → g x σ H' fun σ2 H2 => tb { D with nx := N, ct := N, bk := D.nx } σ2 H2)
/-- the records at fp as they stand -/
def pinsAt (fp : List Addr) (h : Heap) : List (Addr × Obj) := fp.filterMap fun b => (h.get? b).map fun o => (b, o)
theorem mem_pinsAt {fp : List Addr} {h : Heap} {b : Addr} {o : Obj} (hb : b ∈ fp) (e : h.get? b = some o) : (b, o) ∈ pinsAt fp h := List.mem_filterMap.mpr ⟨b, hb, by rw [e]; rfl⟩
theorem of_pinsAt {fp : List Addr} {h : Heap} {p : Addr × Obj} (hp : p ∈ pinsAt fp h) : p.1 ∈ fp ∧ h.get? p.1 = some p.2 := by
  obtain ⟨b, hb, e⟩ := List.mem_filterMap.mp hp
  cases q : h.get? b with
  | none => rw [q] at e; cases e
  | some o =>
    rw [q] at e
    have e' : (b, o) = p := Option.some.inj e
    subst e'
    exact ⟨hb, q⟩
theorem Inv.pinned {pins : List (Addr × Obj)} {σ : St} {H : Hp} {s : Shared} {fp : List Addr} (I : Inv X pins σ H s) (hf : ∀ b ∈ fp, FpOk X pins H b) (ho : ∀ b ∈ fp, ∃ o, s.heap.get? b = some o ∧ ∀ v, o.data ≠ .cell v) : Inv X (pins ++ pinsAt fp s.heap) σ H s :=
  I.pins_of fun p hp => (List.mem_append.mp hp).elim (fun z => I.pin p (List.mem_append_right _ z)) fun z => by
    obtain ⟨hb, e⟩ := of_pinsAt z
    obtain ⟨f0, f1, f2, _⟩ := hf p.1 hb
    obtain ⟨o, e', d⟩ := ho p.1 hb
    rw [e] at e'; cases e'
    exact ⟨e, f0, f1, f2, d⟩
theorem Inv.unpinned {pins pl : List (Addr × Obj)} {σ : St} {H : Hp} {s : Shared} (I : Inv X (pins ++ pl) σ H s) : Inv X pins σ H s := I.pins_of fun p hp => I.pin p (List.mem_append_right _ (List.mem_append_left _ hp))
theorem ps_for {iter : Expr} {body : List Stmt} {wi : TI} {g : TG} {tb : TS} {pos : Pos} (hp : PassesOwn (model X.prog X.w) X.A X.env X.xe) (hc : X.calm = true) (hi : PI X tg iter wi) (hg : PG X tg g) (hb : PSs X body tb)
    (hs : ∀ x, foldedSetIterable iter X.env x = pure x := by intro _; rfl) : PS X (.For tg iter body [] pos) (tFor wi g tb) := by
  intro pins s σ H D I h
  refine wpAny_For (thn (hi pins s σ H _ I h) fun v s1 h1 => thn h1 fun itv s2 h2 => ?_) hs
  obtain ⟨it, fp, tn, J, H2, e, I2, T, st2, f2, W, ⟨m0, w0⟩, turn⟩ := h2
  subst e
  -- what stays true of the iterator's objects through the loop
  have stat : ∀ {H' : Hp}, (∀ b ∈ fp, H' b = none) → ∀ b ∈ fp, FpOk X pins H' b := fun hn b hb => ⟨hn b hb, (f2 b hb).2⟩
  refine codeAny_forLoop_any (fun n s' => ∃ i σ' H', Inv X pins σ' H' s' ∧ tn i s'.heap ∧ (∀ b ∈ fp, H' b = none) ∧ W i n σ' H') ?_ m0 ⟨0, σ, H2, I2, st2, fun b hb => (f2 b hb).1, w0⟩
  rintro n s3 ⟨i, σ3, H3, I3, st3, fr3, w3⟩
  rcases turn i n σ3 H3 w3 with ⟨stop, qn⟩ | ⟨go, N, hN, step⟩
  · refine wpAny_passesOwn hp (thn (T.done X rfl rfl rfl hc i pins s3 σ3 H3 X.xe I3 (stat fr3) st3 stop) fun r s4 ⟨hr, I4⟩ => ?_)
    subst hr
    exact wpAny_execs_nil ⟨σ3, H3, I4, qn⟩
  · refine wpAny_passesOwn hp (thn (T.item X rfl rfl rfl hc i pins s3 σ3 H3 X.xe I3 (stat fr3) st3 go) fun r s4 ⟨u, hr, h4⟩ => ?_)
    subst hr
    refine wpAny_passesOwn hp (thn h4 fun _ s5 ⟨x, H5, I5, r5, y5, st5, fr5⟩ => ?_)
    have I5' := I5.pinned (stat fr5) (T.obj _ _ st5)
    refine wpAny_passesOwn hp (thn (hg _ s5 σ3 H5 x u _ I5' r5 (step x H5 y5)) fun _ s6 ⟨σ6, H6, I6, q6⟩ => ?_)
    refine wpAny_passesOwn hp (thn (hb _ s6 σ6 H6 _ I6 q6) fun f s7 q7 => ?_)
    have again : ∀ {σ7 : St} {H7 : Hp}, Inv X (pins ++ pinsAt fp s5.heap) σ7 H7 s7 → N σ7 H7 → ∃ m, m < n ∧ ∃ i σ' H', Inv X pins σ' H' s7 ∧ tn i s7.heap ∧ (∀ b ∈ fp, H' b = none) ∧ W i m σ' H' := fun {σ7 H7} I7 n7 => by
      obtain ⟨m', hm, w7⟩ := hN σ7 H7 n7
      refine ⟨m', hm, i + 1, σ7, H7, I7.unpinned, T.keep _ _ _ st5 fun b hb o e => (I7.pin (b, o) (List.mem_append_right _ (List.mem_append_right _ (mem_pinsAt hb e)))).1, fun b hb => ?_, w7⟩
      obtain ⟨o, e, d⟩ := T.obj _ _ st5 b hb
      exact (I7.pin (b, o) (List.mem_append_right _ (List.mem_append_right _ (mem_pinsAt hb e)))).2.1
    cases f with
    | next => obtain ⟨σ7, H7, I7, n7⟩ := q7; exact again I7 n7
    | cont => obtain ⟨σ7, H7, I7, n7⟩ := q7; exact again I7 n7
    | brk => obtain ⟨σ7, H7, I7, q7⟩ := q7; exact ⟨σ7, H7, I7.unpinned, q7⟩
    | ret v => obtain ⟨x7, σ7, H7, I7, r7, q7⟩ := q7; exact ⟨x7, σ7, H7, I7.unpinned, r7, q7⟩
end

/-! ### the forms one uses -/
end L2

namespace L2
open PySem PySem.Spec PyProof.Rows

abbrev R2 := V → V → Hp → VK → Prop
/-- a two-place operation on values: f is binaryOp op, inplaceOp op or compareOp op -/
def OpR (X : Cx) (f : Value → Value → Sem Value) (r : R2) : Prop :=
  ∀ (pins : List (Addr × Obj)) (s : Shared) (σ : St) (H : Hp) (x y : V) (v u : Value) (Q : VK), Inv X pins σ H s → RelV x v → RelV y u → r x y H Q →
    wpAny (model X.prog X.w) X.A (f v u) (EP X pins σ Q) X.xe s
/-- a one-place operation -/
def UnR (X : Cx) (f : Value → Sem Value) (r : V → Hp → VK → Prop) : Prop :=
  ∀ (pins : List (Addr × Obj)) (s : Shared) (σ : St) (H : Hp) (x : V) (v : Value) (Q : VK), Inv X pins σ H s → RelV x v → r x H Q →
    wpAny (model X.prog X.w) X.A (f v) (EP X pins σ Q) X.xe s
/-- a call of a value that is known (a builtin, a type) with values -/
def CallR (X : Cx) (f : Value) (r : List V → Hp → VK → Prop) : Prop :=
  ∀ (pins : List (Addr × Obj)) (s : Shared) (σ : St) (H : Hp) (xs : List V) (us : List Value) (Q : VK), Inv X pins σ H s → Vals xs us → r xs H Q →
    wpAny (model X.prog X.w) X.A (call f us) (EP X pins σ Q) X.xe s

def tOp (r : R2) (ta tb : TE) : TE := fun σ H Q => ta σ H fun x H1 => tb σ H1 fun y H2 => r x y H2 Q
def tUn (r : V → Hp → VK → Prop) (ta : TE) : TE := fun σ H Q => ta σ H fun x H1 => r x H1 Q
/-- ints in, under C, and a value out -/
def rI (C : Int → Int → Prop) (g : Int → Int → V) : R2 := fun x y H Q => ∃ i j, x = .int i ∧ y = .int j ∧ C i j ∧ Q (g i j) H
def rI0 (g : Int → Int → V) : R2 := fun x y H Q => ∃ i j, x = .int i ∧ y = .int j ∧ Q (g i j) H
def rU (g : Int → V) : V → Hp → VK → Prop := fun x H Q => ∃ i, x = .int i ∧ Q (g i) H

section
variable {X : Cx} {a b c : Expr} {ta tb tc : TE} {pos : Pos}

theorem binT (ha : PE X a ta) (hb : PE X b tb) {pins : List (Addr × Obj)} {s : Shared} {σ : St} {H : Hp} {R : V → V → Hp → Prop} (I : Inv X pins σ H s)
    (h : ta σ H fun x H1 => tb σ H1 fun y H2 => R x y H2) {Q : Value → Shared → Prop} {f : Value → Value → Sem Value}
    (hf : ∀ v u s2 x y H2, Inv X pins σ H2 s2 → RelV x v → RelV y u → R x y H2 → wpAny (model X.prog X.w) X.A (f v u) Q X.xe s2) :
    wpAny (model X.prog X.w) X.A (eval a X.env) (fun v s₁ => wpAny (model X.prog X.w) X.A (eval b X.env) (fun u s₂ => wpAny (model X.prog X.w) X.A (f v u) Q X.xe s₂) X.xe s₁) X.xe s := by
  refine thn (ha pins s σ H _ I h) fun v s1 ⟨x, H1, I1, r1, q1⟩ => ?_
  refine thn (hb pins s1 σ H1 _ I1 q1) fun u s2 ⟨y, H2, I2, r2, q2⟩ => ?_
  exact hf v u s2 x y H2 I2 r1 r2 q2

theorem pe_op {op : Operator} {r : R2} (ho : OpR X (binaryOp op) r) (ha : PE X a ta) (hb : PE X b tb) : PE X (.BinOp a op b pos) (tOp r ta tb) := by
  intro pins s σ H Q I h
  exact wpAny_BinOp (binT ha hb I h fun v u s2 x y H2 I2 rx ry q => ho pins s2 σ H2 x y v u Q I2 rx ry q)
theorem pe_un {op : UnaryOp} {r : V → Hp → VK → Prop} (ho : UnR X (unaryOp op) r) (ha : PE X a ta) : PE X (.UnaryOp op a pos) (tUn r ta) := by
  intro pins s σ H Q I h
  exact UnaryOp_ (thn (ha pins s σ H _ I h) fun v s1 ⟨x, H1, I1, r1, q1⟩ => ho pins s1 σ H1 x v Q I1 r1 q1)

/-! ### ints -/
theorem opI {f : Value → Value → Sem Value} {C : Int → Int → Prop} {g : Int → Int → Int}
    (rule : ∀ (i j : Int) (t u : Tok) (s : Shared) (Q : Value → Shared → Prop) (E : Value → Shared → Prop), C i j → Q (.int (g i j) s.toks) { s with toks := s.toks + 1 } → wpAny (model X.prog X.w) X.A (f (.int i t) (.int j u)) Q E s) :
    OpR X f (rI C fun i j => .int (g i j)) := by
  intro pins s σ H x y v u Q I rx ry h
  obtain ⟨i, j, rfl, rfl, hc, q⟩ := h
  obtain ⟨t, rfl⟩ := rx
  obtain ⟨t', rfl⟩ := ry
  exact rule i j t t' s _ _ hc ⟨.int (g i j), H, I.tok _, ⟨_, rfl⟩, q⟩
theorem opI0 {f : Value → Value → Sem Value} {g : Int → Int → Int}
    (rule : ∀ (i j : Int) (t u : Tok) (s : Shared) (Q : Value → Shared → Prop) (E : Value → Shared → Prop), Q (.int (g i j) s.toks) { s with toks := s.toks + 1 } → wpAny (model X.prog X.w) X.A (f (.int i t) (.int j u)) Q E s) :
    OpR X f (rI0 fun i j => .int (g i j)) := by
  intro pins s σ H x y v u Q I rx ry h
  obtain ⟨i, j, rfl, rfl, q⟩ := h
  obtain ⟨t, rfl⟩ := rx
  obtain ⟨t', rfl⟩ := ry
  exact rule i j t t' s _ _ ⟨.int (g i j), H, I.tok _, ⟨_, rfl⟩, q⟩
theorem opB0 {f : Value → Value → Sem Value} {g : Int → Int → Bool}
    (rule : ∀ (i j : Int) (t u : Tok) (s : Shared) (Q : Value → Shared → Prop) (E : Value → Shared → Prop), Q (.bool (g i j)) s → wpAny (model X.prog X.w) X.A (f (.int i t) (.int j u)) Q E s) :
    OpR X f (rI0 fun i j => .bl (g i j)) := by
  intro pins s σ H x y v u Q I rx ry h
  obtain ⟨i, j, rfl, rfl, q⟩ := h
  obtain ⟨t, rfl⟩ := rx
  obtain ⟨t', rfl⟩ := ry
  exact rule i j t t' s _ _ ⟨.bl (g i j), H, I, rfl, q⟩

def CDiv (i j : Int) : Prop := 0 < j ∧ j < 1073741824
def CMul (i j : Int) : Prop := (-(2 ^ 64) < i ∧ i < 2 ^ 64) ∨ (-(2 ^ 64) < j ∧ j < 2 ^ 64)
theorem CMul.ok {i j : Int} (h : CMul i j) : IntMulOk i j := by
  rcases h with ⟨h1, h2⟩ | ⟨h1, h2⟩
  · exact .of_left (intBits_le_64 h1 h2)
  · exact .of_right (intBits_le_64 h1 h2)

theorem op_add : OpR X (binaryOp .Add) (rI0 fun i j => .int (i + j)) := opI0 fun _ _ _ _ _ _ _ q => add_int q
theorem op_sub : OpR X (binaryOp .Sub) (rI0 fun i j => .int (i - j)) := opI0 fun _ _ _ _ _ _ _ q => sub_int q
theorem op_mul : OpR X (binaryOp .Mult) (rI CMul fun i j => .int (i * j)) := opI fun _ _ _ _ _ _ _ hc q => mul_int q hc.ok
/-- // by a positive divisor -/
theorem op_fdiv : OpR X (binaryOp .FloorDiv) (rI CDiv fun i j => .int (i / j)) := opI fun i j _ _ _ _ _ hc q => by
  have h1 : (0 : Int) < j := hc.1
  have h2 : j < 1073741824 := hc.2
  exact floordiv_int (by omega) (by rw [Int.fdiv_eq_ediv_of_nonneg i (by omega)]; exact q) (.inl (PyProof.noPylong_small (by omega)))
/-- % by a positive divisor of any size -/
theorem op_mod : OpR X (binaryOp .Mod) (rI (fun _ j => 0 < j) fun i j => .int (i % j)) := opI fun i j _ _ _ _ _ hc q => by
  have h1 : (0 : Int) < j := hc
  exact mod_int' (by omega) (by rw [Int.fmod_eq_emod_of_nonneg i (by omega)]; exact q)

theorem unI {f : Value → Sem Value} {g : Int → Int}
    (rule : ∀ (i : Int) (t : Tok) (s : Shared) (Q : Value → Shared → Prop) (E : Value → Shared → Prop), Q (.int (g i) s.toks) { s with toks := s.toks + 1 } → wpAny (model X.prog X.w) X.A (f (.int i t)) Q E s) :
    UnR X f (rU fun i => .int (g i)) := by
  intro pins s σ H x v Q I rx h
  obtain ⟨i, rfl, q⟩ := h
  obtain ⟨t, rfl⟩ := rx
  exact rule i t s _ _ ⟨.int (g i), H, I.tok _, ⟨_, rfl⟩, q⟩
theorem un_neg : UnR X (unaryOp .USub) (rU fun i => .int (-i)) := unI fun _ _ _ _ _ q => neg_int q

/-! ### bools among ints: n += (a < b) -/
end

/-! ### comparisons -/
/-- the scalars that == tells apart as data does -/
def scal : V → V → Bool
  | .non, .non => true | .non, .int _ => true | .int _, .non => true | .non, .bl _ => true | .bl _, .non => true | .non, .str _ => true | .str _, .non => true
  | .int _, .int _ => true | .bl _, .bl _ => true | .str _, .str _ => true | .byt _, .byt _ => true
  | .int _, .str _ => true | .str _, .int _ => true | .bl _, .str _ => true | .str _, .bl _ => true
  | _, _ => false
def rEq : R2 := fun x y H Q => scal x y = true ∧ Q (.bl (decide (x = y))) H
def rNe : R2 := fun x y H Q => scal x y = true ∧ Q (.bl (!decide (x = y))) H

theorem dec_int {i j : Int} : decide (V.int i = V.int j) = (i == j) := by
  rw [Bool.eq_iff_iff]
  simp
theorem dec_bl {i j : Bool} : decide (V.bl i = V.bl j) = (i == j) := by
  rw [Bool.eq_iff_iff]
  simp
theorem dec_str {i j : Str} : decide (V.str i = V.str j) = (i == j) := by
  rw [Bool.eq_iff_iff]
  simp
theorem dec_byt {i j : Array UInt8} : decide (V.byt i = V.byt j) = (i.toList == j.toList) := by
  rw [Bool.eq_iff_iff]
  cases i
  cases j
  simp

section
variable {X : Cx} {a b c : Expr} {ta tb tc : TE} {pos : Pos}
theorem fin_bl {pins : List (Addr × Obj)} {σ : St} {H : Hp} {s : Shared} {Q : VK} {k k' : Bool} (I : Inv X pins σ H s) (q : Q (.bl k) H) (e : k = k') : EP X pins σ Q (.bool k') s := by
  subst e
  exact ⟨.bl k, H, I, rfl, q⟩
theorem op_eq : OpR X (compareOp .Eq) rEq := by
  intro pins s σ H x y v u Q I rx ry h
  obtain ⟨hs, q⟩ := h
  cases x with
  | non =>
    cases rx
    cases y with
    | non => cases ry; exact PySem.EqNone.eq_none_none (fin_bl I q (by simp))
    | bl j => cases ry; exact PySem.EqNone.eq_none_bool (fin_bl I q (by simp))
    | int j => obtain ⟨t', rfl⟩ := ry; exact PySem.EqNone.eq_none_int (fin_bl I q (by simp))
    | str j => obtain ⟨t', rfl⟩ := ry; exact PySem.EqNone.eq_none_str (fin_bl I q (by simp))
    | _ => exact absurd (show false = true from hs) Bool.false_ne_true
  | bl i =>
    cases rx
    cases y with
    | non => cases ry; exact PySem.EqNone.eq_bool_none (fin_bl I q (by simp))
    | bl j => cases ry; exact eq_bool (fin_bl I q dec_bl)
    | str j => obtain ⟨t', rfl⟩ := ry; exact PySem.EqMixed.eq_bool_str (fin_bl I q (by simp))
    | _ => exact absurd (show false = true from hs) Bool.false_ne_true
  | int i =>
    obtain ⟨t, rfl⟩ := rx
    cases y with
    | non => cases ry; exact PySem.EqNone.eq_int_none (fin_bl I q (by simp))
    | int j => obtain ⟨t', rfl⟩ := ry; exact eq_int (fin_bl I q dec_int)
    | str j => obtain ⟨t', rfl⟩ := ry; exact PySem.EqMixed.eq_int_str (fin_bl I q (by simp))
    | _ => exact absurd (show false = true from hs) Bool.false_ne_true
  | str i =>
    obtain ⟨t, rfl⟩ := rx
    cases y with
    | non => cases ry; exact PySem.EqNone.eq_str_none (fin_bl I q (by simp))
    | bl j => cases ry; exact PySem.EqMixed.eq_str_bool (fin_bl I q (by simp))
    | int j => obtain ⟨t', rfl⟩ := ry; exact PySem.EqMixed.eq_str_int (fin_bl I q (by simp))
    | str j => obtain ⟨t', rfl⟩ := ry; exact eq_str (fin_bl I q dec_str)
    | _ => exact absurd (show false = true from hs) Bool.false_ne_true
  | byt i =>
    obtain ⟨t, rfl⟩ := rx
    cases y with
    | byt j => obtain ⟨t', rfl⟩ := ry; exact PySem.W.eq_bytes (fin_bl I q dec_byt)
    | _ => exact absurd (show false = true from hs) Bool.false_ne_true
  | _ => cases y <;> exact absurd (show false = true from hs) Bool.false_ne_true
theorem op_ne : OpR X (compareOp .NotEq) rNe := by
  intro pins s σ H x y v u Q I rx ry h
  obtain ⟨hs, q⟩ := h
  cases x with
  | non =>
    cases rx
    cases y with
    | non => cases ry; exact PySem.EqNone.ne_none_none (fin_bl I q (by simp))
    | bl j => cases ry; exact PySem.EqNone.ne_none_bool (fin_bl I q (by simp))
    | int j => obtain ⟨t', rfl⟩ := ry; exact PySem.EqNone.ne_none_int (fin_bl I q (by simp))
    | str j => obtain ⟨t', rfl⟩ := ry; exact PySem.EqNone.ne_none_str (fin_bl I q (by simp))
    | _ => exact absurd (show false = true from hs) Bool.false_ne_true
  | bl i =>
    cases rx
    cases y with
    | non => cases ry; exact PySem.EqNone.ne_bool_none (fin_bl I q (by simp))
    | bl j => cases ry; exact ne_bool (fin_bl I q (congrArg not dec_bl))
    | str j => obtain ⟨t', rfl⟩ := ry; exact PySem.EqMixed.ne_bool_str (fin_bl I q (by simp))
    | _ => exact absurd (show false = true from hs) Bool.false_ne_true
  | int i =>
    obtain ⟨t, rfl⟩ := rx
    cases y with
    | non => cases ry; exact PySem.EqNone.ne_int_none (fin_bl I q (by simp))
    | int j => obtain ⟨t', rfl⟩ := ry; exact ne_int (fin_bl I q (congrArg not dec_int))
    | str j => obtain ⟨t', rfl⟩ := ry; exact PySem.EqMixed.ne_int_str (fin_bl I q (by simp))
    | _ => exact absurd (show false = true from hs) Bool.false_ne_true
  | str i =>
    obtain ⟨t, rfl⟩ := rx
    cases y with
    | non => cases ry; exact PySem.EqNone.ne_str_none (fin_bl I q (by simp))
    | bl j => cases ry; exact PySem.EqMixed.ne_str_bool (fin_bl I q (by simp))
    | int j => obtain ⟨t', rfl⟩ := ry; exact PySem.EqMixed.ne_str_int (fin_bl I q (by simp))
    | str j => obtain ⟨t', rfl⟩ := ry; exact ne_str (fin_bl I q (congrArg not dec_str))
    | _ => exact absurd (show false = true from hs) Bool.false_ne_true
  | byt i =>
    obtain ⟨t, rfl⟩ := rx
    cases y with
    | byt j => obtain ⟨t', rfl⟩ := ry; exact PySem.W.ne_bytes (fin_bl I q (congrArg not dec_byt))
    | _ => exact absurd (show false = true from hs) Bool.false_ne_true
  | _ => cases y <;> exact absurd (show false = true from hs) Bool.false_ne_true

theorem op_lt : OpR X (compareOp .Lt) (rI0 fun i j => .bl (decide (i < j))) := opB0 fun _ _ _ _ _ _ _ q => lt_int q
theorem op_le : OpR X (compareOp .LtE) (rI0 fun i j => .bl (decide (i ≤ j))) := opB0 fun _ _ _ _ _ _ _ q => le_int q
theorem op_gt : OpR X (compareOp .Gt) (rI0 fun i j => .bl (decide (j < i))) := opB0 fun _ _ _ _ _ _ _ q => gt_int q

theorem op_notN : OpR X (compareOp .IsNot) (fun x y H Q => y = .non ∧ Q (.bl (!decide (x = .non))) H) := by
  intro pins s σ H x y v u Q I rx ry h
  obtain ⟨rfl, q⟩ := h
  cases ry
  refine isnot_none_gen (fin_bl I q ?_)
  cases x <;> first
    | (cases rx; rfl)
    | (obtain ⟨t, rfl⟩ := rx; rfl)

theorem nomark (b : Expr) {op : CmpOp} (h : op ≠ .In := by decide) (h2 : op ≠ .NotIn := by decide) : behindInMarks op b = false := by
  have e1 : (op == CmpOp.In) = false := by cases op <;> first | rfl | exact absurd rfl h
  have e2 : (op == CmpOp.NotIn) = false := by cases op <;> first | rfl | exact absurd rfl h2
  cases b <;> simp [behindInMarks, e1, e2]
/-- a comparison as a value; hm: nomark b, or (for in, not in) by with_unfolding_all rfl -/
theorem pe_cmpR {op : CmpOp} {r : R2} (ho : OpR X (compareOp op) r) (ha : PE X a ta) (hb : PE X b tb) (hm : behindInMarks op b = false) : PE X (.Compare a [op] [b] pos) (tOp r ta tb) := by
  intro pins s σ H Q I h
  exact wpAny_Compare1 (binT ha hb I h fun v u s2 x y H2 I2 rx ry q => ho pins s2 σ H2 x y v u Q I2 rx ry q) hm
/-- a reading of a value as a test -/
def tTest (t : TE) : TT := fun σ H Q => t σ H fun x H' => ∃ k, x = .bl k ∧ Q k H'
theorem pt_cmpR {op : CmpOp} {r : R2} (ho : OpR X (compareOp op) r) (ha : PE X a ta) (hb : PE X b tb) (hm : behindInMarks op b = false) : PT X (.Compare a [op] [b] pos) (tTest (tOp r ta tb)) := by
  intro pins s σ H Q I h
  refine wpAny_isTrue_Compare1 (thn (ha pins s σ H _ I h) fun v s1 ⟨x, H1, I1, r1, q1⟩ => thn (hb pins s1 σ H1 _ I1 q1) fun u s2 ⟨y, H2, I2, r2, q2⟩ =>
    thn (ho pins s2 σ H2 x y v u _ I2 r1 r2 q2) fun c s3 ⟨z, H3, I3, r3, k, e, q3⟩ => ?_) hm
  subst e
  cases r3
  exact wpAny_truthy_bool ⟨H3, I3, q3⟩
/-- a op1 b op2 c -/
def tChain (r r' : R2) (ta tb tc : TE) : TE := fun σ H Q => ta σ H fun x H1 => tb σ H1 fun y H2 => r x y H2 fun z H3 => ∃ k, z = .bl k ∧
  (if k = true then tc σ H3 fun w' H4 => r' y w' H4 Q else Q (.bl false) H3)
theorem pe_chain {op op' : CmpOp} {r r' : R2} (ho : OpR X (compareOp op) r) (ho' : OpR X (compareOp op') r') (ha : PE X a ta) (hb : PE X b tb) (hc : PE X c tc)
    (hm : lastMarks [op, op'] [b, c] = false := by with_unfolding_all rfl) : PE X (.Compare a [op, op'] [b, c] pos) (tChain r r' ta tb tc) := by
  intro pins s σ H Q I h
  refine Compare_chain (thn (ha pins s σ H _ I h) fun v s1 ⟨x, H1, I1, r1, q1⟩ => chain_link (thn (hb pins s1 σ H1 _ I1 q1) fun u s2 ⟨y, H2, I2, r2, q2⟩ =>
    thn (ho pins s2 σ H2 x y v u _ I2 r1 r2 q2) fun d s3 ⟨z, H3, I3, r3, k, e, q3⟩ => ?_)) hm
  subst e
  cases r3
  refine wpAny_truthy_bool ?_
  cases k with
  | false => exact ite_ff ⟨.bl false, H3, I3, rfl, q3⟩
  | true => exact ite_tt (chain_last (thn (hc pins s3 σ H3 _ I3 q3) fun w' s4 ⟨z', H4, I4, r4, q4⟩ => ho' pins s4 σ H4 y z' u w' Q I4 r2 r4 q4))
theorem pt_chain {op op' : CmpOp} {r r' : R2} (ho : OpR X (compareOp op) r) (ho' : OpR X (compareOp op') r') (ha : PE X a ta) (hb : PE X b tb) (hc : PE X c tc)
    (hm : lastMarks [op, op'] [b, c] = false := by with_unfolding_all rfl) : PT X (.Compare a [op, op'] [b, c] pos) (tTest (tChain r r' ta tb tc)) := by
  intro pins s σ H Q I h
  refine isTrue_chain (thn (ha pins s σ H _ I h) fun v s1 ⟨x, H1, I1, r1, q1⟩ => test_link (thn (hb pins s1 σ H1 _ I1 q1) fun u s2 ⟨y, H2, I2, r2, q2⟩ =>
    thn (ho pins s2 σ H2 x y v u _ I2 r1 r2 q2) fun d s3 ⟨z, H3, I3, r3, k, e, q3⟩ => ?_)) hm
  subst e
  cases r3
  refine wpAny_truthy_bool ?_
  cases k with
  | false =>
    obtain ⟨k', e', q'⟩ := q3
    cases e'
    exact ite_ff ⟨H3, I3, q'⟩
  | true =>
    refine ite_tt (test_last (thn (hc pins s3 σ H3 _ I3 q3) fun w' s4 ⟨z', H4, I4, r4, q4⟩ => thn (ho' pins s4 σ H4 y z' u w' _ I4 r2 r4 q4) fun d' s5 ⟨z2, H5, I5, r5, k2, e2, q5⟩ => ?_))
    subst e2
    cases r5
    exact wpAny_truthy_bool ⟨H5, I5, q5⟩

/-! ### truth -/
theorem line63 : (sizeLine : Nat) < 2 ^ 63 := by rw [sizeLine_eq]; decide

/-! ### strs and bytes -/
theorem op_add_str : OpR X (binaryOp .Add) (fun x y H Q => ∃ i j, x = .str i ∧ y = .str j ∧ i.length + j.length ≤ sizeLine ∧ Q (.str (i ++ j)) H) := by
  intro pins s σ H x y v u Q I rx ry h
  obtain ⟨i, j, rfl, rfl, hz, q⟩ := h
  obtain ⟨t, rfl⟩ := rx
  obtain ⟨t', rfl⟩ := ry
  exact add_str (fun t' tk => ⟨.str (i ++ j), H, I.tok _, ⟨_, rfl⟩, q⟩) hz

/-! ### scalar builtins, by CallR -/
theorem vals1 {x : V} {us : List Value} (r : Vals [x] us) : ∃ u, us = [u] ∧ RelV x u := by
  cases r with
  | cons r1 r2 => cases r2; exact ⟨_, rfl, r1⟩
theorem vals2 {x y : V} {us : List Value} (r : Vals [x, y] us) : ∃ u w', us = [u, w'] ∧ RelV x u ∧ RelV y w' := by
  cases r with
  | cons r1 r2 =>
    cases r2 with
    | cons r3 r4 => cases r4; exact ⟨_, _, rfl, r1, r3⟩
theorem call_int1 : CallR X (.type "int") (fun xs H Q => (∃ i, xs = [.int i] ∧ Q (.int i) H) ∨ ∃ k, xs = [.bl k] ∧ Q (.int (if k then 1 else 0)) H) := by
  intro pins s σ H xs us Q I r h
  rcases h with ⟨i, rfl, q⟩ | ⟨k, rfl, q⟩
  · obtain ⟨u, rfl, t, rfl⟩ := vals1 r
    exact call_int_int ⟨.int i, H, I, ⟨_, rfl⟩, q⟩
  · obtain ⟨u, rfl, r1⟩ := vals1 r
    cases r1
    exact call_int_bool ⟨.int (if k then 1 else 0), H, I.tok _, ⟨_, rfl⟩, q⟩
end
end L2

namespace L2
open PySem PySem.Spec PyProof.Rows

/-! ### an instance, its attributes a map -/
structure ObjM (h : Heap) (x dx C : Addr) (mA : Str → Option Value) : Prop where
  obj : h.get? x = some (PySem.W.instObj C dx)
  ns : h.Ns1 dx mA
  ne : dx ≠ x

theorem lookIn_ns {h : Heap} {dx : Addr} {mA : Str → Option Value} (n : h.Ns1 dx mA) : ∃ od, h.get? dx = some od ∧ ∀ name, PySem.W.lookIn name od = some (mA name) := by
  obtain ⟨o, es, ep, ho, hd, hk, _, hm⟩ := n
  refine ⟨o, ho, fun name => ?_⟩
  have e := hm name
  unfold nsFind findBy at e
  rw [← Array.find?_toList] at e
  unfold PySem.W.lookIn
  rw [hd]
  dsimp only
  split
  · rename_i y q
    rw [q] at e
    exact congrArg some e
  · rename_i q
    rw [q] at e
    have a : es.toList.any (·.refKey) = false := by
      rw [List.any_eq_false]
      intro y hy
      obtain ⟨z, t, hkey⟩ := hk y (Array.mem_toList_iff.mp hy)
      simp [DictEntry.refKey, hkey]
    have a' : ¬ es.toList.any (·.refKey) = true := by rw [a]; exact Bool.false_ne_true
    rw [if_neg a']
    exact congrArg some e

theorem ObjM.look {h : Heap} {x dx C : Addr} {mA : Str → Option Value} (I : ObjM h x dx C mA) : ∃ od, PySem.W.InstAt h x (PySem.W.instObj C dx) C (some od) ∧ ∀ name, PySem.W.lookIn name od = some (mA name) :=
  let ⟨od, ho, hl⟩ := lookIn_ns I.ns
  ⟨od, ⟨I.obj, rfl, rfl, ho⟩, hl⟩

section
variable {prog : Program} {w : World} {A : Around} {E : Value → Shared → Prop} {s : Shared} {K : PySem.W.Frag} {x dx C f : Addr} {mA : Str → Option Value} {name : Str} {v : Value}

theorem get_map {expr : Bool} {Q : Value → Shared → Prop} (X : K.In s.heap) (I : ObjM s.heap x dx C mA) (hg : PySem.W.plainGet K C name = true) (hh : PySem.W.hasDictIn K C = true)
    (ha : PySem.W.findIn K (.ref C) name = some none) (hv : mA name = some v) (hv' : PySem.W.handedIn v = true) (h : Q v { s with toks := s.toks + 1 }) :
    wpAny (model prog w) A (getAttr (.ref x) name expr) Q E s := by
  obtain ⟨od, J, hl⟩ := I.look
  exact PySem.W.get_value X J (PySem.W.plainGet_of hg).1 (PySem.W.findObj_own hh ha rfl (by rw [hl, hv])) hv' h

theorem set_map {ns : List Str} {Q : Unit → Shared → Prop} (X : K.In s.heap) (I : ObjM s.heap x dx C mA)
    (hs : PySem.W.findIn K (.ref C) "__setattr__" = some (some (.builtin "object.__setattr__"))) (hp : PySem.W.plainOver K C = true) (ht : PySem.W.takerIn K C name = some none) (hh : PySem.W.hasDictIn K C = true)
    (hw : PySem.Within mA ns) (hsz : ns.length ≤ sizeLine)
    (h : ∀ h', ObjM h' x dx C (fun y => if y = name then some v else mA y) → Heap.SameBut dx s.heap h' → Q () { s with heap := h', toks := s.toks + 2 }) :
    wpAny (model prog w) A (setAttr (.ref x) name v) Q E s := by
  obtain ⟨od, J, hl⟩ := I.look
  refine PySem.W.set_plain X J hs (PySem.W.osa_open (s := { s with toks := s.toks + 1 }) (r := none) X J hp ht fun b => ?_)
  obtain ⟨cd, hc, hd'⟩ := PySem.W.any_some hh
  have hx : s.heap.get? x = some ⟨.ref C, some dx, .plain, #[]⟩ := I.obj
  refine wpAny_bind (wpAny_pure (wpAny_bind (wpAny_bind (wpAny_loadPart hx (wpAny_bind (PySem.W.Looks.here (s := { s with toks := s.toks + 1 }) (PySem.W.looks_clsIn X hc) ?_))))))
  rw [hd']
  refine wpAny_pure (a := some dx) (wpAny_bind (wpAny_pure (wpAny_bind ?_)))
  refine wpAny_nsSet1 (s := { s with toks := s.toks + 1 }) I.ns fun h' hn2 hs2 => ?_
  obtain ⟨oD, esD, epD, hoD, hdD, hcD⟩ := hn2.count (PySem.Within.cons name v hw)
  refine wpAny_bind (wpAny_lookBehind hoD (by rw [hdD]; exact pastItsLine_dict (Nat.le_trans hcD (by rw [List.length_cons]; omega))) ?_)
  exact wpAny_pure (h _ ⟨(hs2.2 _ (Ne.symm I.ne)).trans I.obj, hn2, I.ne⟩ hs2)

/-- C(..): the dict at the heap's end, the instance behind it; then its __init__ -/
theorem make_map {R : Result → Shared → Prop} {vs : List Value} {kw : List (Str × Value)} (X : K.In s.heap) (hm : PySem.W.makesIn K C = true)
    (hi : PySem.W.findIn K (.ref C) "__init__" = some (some (.ref f))) (hf : PySem.W.typeIn K (.ref f) = some (.type "function"))
    (h : codeAny (model prog w) (A.under (.builtin "type.__call__" ⟨.ref C :: vs, kw⟩)) (.call (.ref f) ⟨.ref (s.heap.objs.size + 1) :: vs, kw⟩) (PySem.W.InitBack (s.heap.objs.size + 1) R)
      { s with heap := (s.heap.push PySem.W.emptyDict).push (PySem.W.instObj C s.heap.objs.size) }) :
    codeAny (model prog w) A (.call (.ref C) ⟨vs, kw⟩) R s := by
  obtain ⟨hh, g, d, t, os⟩ := s
  exact PySem.W.make_core (PySem.W.makes_of X hm) (PySem.W.looks_findIn X hi) (fun self => PySem.W.bind_fn X self hf) (.inl rfl) h
end

/-! ### the attributes as a list of pairs -/
def putF (f : Str) (v : V) : List (Str × V) → List (Str × V)
  | [] => [(f, v)]
  | (g, x) :: r => if g = f then (g, v) :: r else (g, x) :: putF f v r
theorem lookup_putF (f g : Str) (v : V) : ∀ fs : List (Str × V), (putF f v fs).lookup g = if g = f then some v else fs.lookup g
  | [] => by
    show List.lookup g [(f, v)] = _
    by_cases h : g = f
    · have hb : (g == f) = true := beq_iff_eq.mpr h
      simp only [List.lookup, hb, if_pos h]
    · have hb : (g == f) = false := beq_eq_false_iff_ne.mpr h
      simp only [List.lookup, hb, if_neg h]
  | (k, x) :: r => by
    have ih := lookup_putF f g v r
    rw [show putF f v ((k, x) :: r) = (if k = f then (k, v) :: r else (k, x) :: putF f v r) from rfl]
    by_cases hk : k = f
    · rw [if_pos hk]
      by_cases h : g = k
      · have hb : (g == k) = true := beq_iff_eq.mpr h
        simp only [List.lookup, hb, if_pos (h.trans hk)]
      · have hb : (g == k) = false := beq_eq_false_iff_ne.mpr h
        simp only [List.lookup, hb, if_neg (fun e : g = f => h (e.trans hk.symm))]
    · rw [if_neg hk]
      by_cases h : g = k
      · have hb : (g == k) = true := beq_iff_eq.mpr h
        simp only [List.lookup, hb, if_neg (fun e : g = f => hk (h.symm.trans e))]
      · have hb : (g == k) = false := beq_eq_false_iff_ne.mpr h
        simp only [List.lookup, hb]
        exact ih
theorem keys_putF (f : Str) (v : V) : ∀ fs : List (Str × V), f ∈ (putF f v fs).map (·.1) ∧ ∀ g, g ∈ fs.map (·.1) → g ∈ (putF f v fs).map (·.1)
  | [] => ⟨by simp [putF], fun g h => by simp at h⟩
  | (k, x) :: r => by
    obtain ⟨i1, i2⟩ := keys_putF f v r
    rw [show putF f v ((k, x) :: r) = (if k = f then (k, v) :: r else (k, x) :: putF f v r) from rfl]
    by_cases hk : k = f
    · rw [if_pos hk]
      subst hk
      exact ⟨by simp, fun g h => by simpa using h⟩
    · rw [if_neg hk]
      refine ⟨?_, fun g h => ?_⟩
      · rw [List.map_cons]
        exact List.mem_cons_of_mem _ i1
      · rw [List.map_cons] at h ⊢
        rcases List.mem_cons.mp h with e | e
        · exact List.mem_cons.mpr (.inl e)
        · exact List.mem_cons_of_mem _ (i2 g e)
theorem length_putF (f : Str) (v : V) : ∀ fs : List (Str × V), (putF f v fs).length ≤ fs.length + 1
  | [] => by simp [putF]
  | (k, x) :: r => by
    have ih := length_putF f v r
    rw [show putF f v ((k, x) :: r) = (if k = f then (k, v) :: r else (k, x) :: putF f v r) from rfl]
    by_cases hk : k = f
    · rw [if_pos hk, List.length_cons, List.length_cons]; omega
    · rw [if_neg hk, List.length_cons, List.length_cons]; omega

theorem RelO.some_of {v : V} {o : Option Value} (r : RelO (some v) o) : ∃ u, o = some u ∧ RelV v u := by
  cases o with
  | none => exact (show False from r).elim
  | some u => exact ⟨u, rfl, r⟩
theorem handed_of {v : V} {u : Value} (r : RelV v u) : PySem.W.handedIn u = true := by
  cases v with
  | non => cases (show u = Value.none from r); rfl
  | bl b => cases (show u = Value.bool b from r); rfl
  | int i => obtain ⟨t, e⟩ := (show ∃ t, u = Value.int i t from r); cases e; rfl
  | str x => obtain ⟨t, e⟩ := (show ∃ t, u = Value.str x t from r); cases e; rfl
  | byt b => obtain ⟨t, e⟩ := (show ∃ t, u = Value.bytes b t from r); cases e; rfl
  | flt b => obtain ⟨t, e⟩ := (show ∃ t, u = Value.float b t from r); cases e; rfl
  | ref a => cases (show u = Value.ref a from r); rfl
  | ty n => cases (show u = Value.type n from r); rfl

section
variable {P : Program} {w : World} {H H' : Hp} {h h' : Heap} {a C dx : Addr} {fs fs' : List (Str × V)}
theorem ins_get (hok : HOk P w H h) (e : H a = some (.ins C dx fs)) : ∃ mA, ObjM h a dx C mA ∧ (∀ f, RelO (fs.lookup f) (mA f)) ∧ PySem.Within mA (fs.map (·.1)) ∧ fs.length ≤ 1000 ∧ H dx = some (.own a) := by
  obtain ⟨d, z, ne, ob, mA, n, r, q⟩ := (show ObjOk P w H h a (.ins C dx fs) from hok a _ e)
  exact ⟨mA, ⟨ob, n, ne⟩, r, q, z, d⟩
end

/-! ### what of the text a class must have -/
structure Cls (K : PySem.W.Frag) (C : Addr) : Prop where
  pg : PySem.W.plainGet K C Str.empty = true
  hd : PySem.W.hasDictIn K C = true
  po : PySem.W.plainOver K C = true
  sa : PySem.W.findIn K (.ref C) "__setattr__" = some (some (.builtin "object.__setattr__"))
theorem Cls.get {K : PySem.W.Frag} {C : Addr} (c : Cls K C) (f : Str) : PySem.W.plainGet K C f = true := c.pg
/-- no class of it has the name -/
def NoAttr (K : PySem.W.Frag) (C : Addr) (f : Str) : Prop := PySem.W.findIn K (.ref C) f = some none
theorem NoAttr.taker {K : PySem.W.Frag} {C : Addr} {f : Str} (n : NoAttr K C f) : PySem.W.takerIn K C f = some none := by
  unfold PySem.W.takerIn
  rw [show PySem.W.findIn K (.ref C) f = some none from n]
  rfl

section
variable {X : Cx} {pins : List (Addr × Obj)} {σ : St} {H : Hp} {s : Shared} {a C dx : Addr} {fs : List (Str × V)} {f : Str} {v : V} {A : Around} {E : Value → Shared → Prop}

theorem getattr_ok {b : Bool} {Q : Value → Shared → Prop} (I : Inv X pins σ H s) (e : H a = some (.ins C dx fs)) (c : Cls X.K C) (n : NoAttr X.K C f) (l : fs.lookup f = some v)
    (h : ∀ u s', Inv X pins σ H s' → RelV v u → Q u s') : wpAny (model X.prog X.w) A (getAttr (.ref a) f b) Q E s := by
  obtain ⟨mA, O, r, _, _, _⟩ := ins_get I.hok e
  obtain ⟨u, hu, ru⟩ := RelO.some_of (v := v) (o := mA f) (by rw [← l]; exact r f)
  exact get_map I.kIn O (c.get f) c.hd n hu (handed_of ru) (h u _ (I.tok _) ru)

theorem setattr_ok {y : V} {u : Value} {Q : Unit → Shared → Prop} (I : Inv X pins σ H s) (e : H a = some (.ins C dx fs)) (c : Cls X.K C) (n : NoAttr X.K C f) (hl : fs.length < 1000) (ry : RelV y u)
    (h : ∀ s', Inv X pins σ (upd H a (.ins C dx (putF f y fs))) s' → Q () s') : wpAny (model X.prog X.w) A (setAttr (.ref a) f u) Q E s := by
  obtain ⟨mA, O, r, wi, _, ho⟩ := ins_get I.hok e
  have hz : (fs.map (·.1)).length ≤ sizeLine := by rw [List.length_map, sizeLine_eq]; omega
  refine set_map I.kIn O c.sa c.po n.taker c.hd wi hz fun h' O' sb => h _ ?_
  have hd : ∃ o, h'.get? dx = some o := let ⟨o, _, _, e', _⟩ := O'.ns; ⟨o, e'⟩
  refine I.write (x := a) (e := dx) (by rw [e]; exact True.intro) (.inr ho) (fun b q hb z => (sb.2 b hb).trans z) hd ?_
  refine ⟨by rw [upd_ne O.ne]; exact ho, ?_, O.ne, O'.obj, _, O'.ns, fun g => ?_, fun g hg => ?_⟩
  · have := length_putF f y fs; omega
  · show RelO ((putF f y fs).lookup g) (if g = f then some u else mA g)
    rw [lookup_putF]
    by_cases q : g = f
    · rw [if_pos q, if_pos q]; exact ry
    · rw [if_neg q, if_neg q]; exact r g
  · by_cases q : g = f
    · rw [q]; exact (keys_putF f y fs).1
    · refine (keys_putF f y fs).2 g (wi g fun z => hg ?_)
      show (if g = f then some u else mA g) = none
      rw [if_neg q]; exact z

/-- a new instance, tracked, without attributes -/
theorem Inv.made (I : Inv X pins σ H s) : Inv X pins σ (upd (upd H s.heap.objs.size (.own (s.heap.objs.size + 1))) (s.heap.objs.size + 1) (.ins C s.heap.objs.size []))
    { s with heap := (s.heap.push PySem.W.emptyDict).push (PySem.W.instObj C s.heap.objs.size) } := by
  have e1 : (s.heap.push PySem.W.emptyDict).get? s.heap.objs.size = some PySem.W.emptyDict := Heap.get?_push_size s.heap rfl
  have e2 : ((s.heap.push PySem.W.emptyDict).push (PySem.W.instObj C s.heap.objs.size)).get? (s.heap.objs.size + 1) = some (PySem.W.instObj C s.heap.objs.size) := by
    have := Heap.get?_push_size (s.heap.push PySem.W.emptyDict) (o := PySem.W.instObj C s.heap.objs.size) rfl
    rwa [Heap.size_push] at this
  have e3 : (s.heap.push PySem.W.emptyDict).Ns s.heap.objs.size (fun _ => none) := ⟨PySem.W.emptyDict, #[], _, e1, rfl, (fun e he => absurd he (by simp)), fun _ => rfl⟩
  have I1 := I.laid (a := s.heap.objs.size) (o := .own (s.heap.objs.size + 1)) (h' := s.heap.push PySem.W.emptyDict) (t' := s.toks) (fun b u q => Heap.get?_push_of_some _ q) (Nat.le_refl _) ⟨_, e1⟩
  refine I1.laid (a := s.heap.objs.size + 1) (o := .ins C s.heap.objs.size []) (t' := s.toks) (fun b u q => Heap.get?_push_of_some _ q) (Nat.le_of_eq (Heap.size_push _ _)) ?_
  have ne : s.heap.objs.size ≠ s.heap.objs.size + 1 := Nat.ne_of_lt (Nat.lt_succ_self _)
  refine ⟨by rw [upd_ne ne, upd_same], Nat.zero_le _, ne, e2, fun _ => none, (Heap.Ns1.of_empty e3).at fun o q => Heap.get?_push_of_some _ q, fun _ => True.intro, fun y hy => absurd rfl hy⟩

/-- e.f where nothing but the object is asked: through attributeBase (super) and the last hold -/
theorem attr_of {prog : Program} {w : World} {env : Env} {e : Expr} {f : Str} {pos : Pos} {s : Shared} {Q : Value → Shared → Prop} (hb : attributeBase e f env (eval e env) = eval e env)
    (h : wpAny (model prog w) A (eval e env) (fun o s₁ => wpAny (model prog w) A (getAttr o f true) Q E s₁) E s) : wpAny (model prog w) A (eval (.Attribute e f pos) env) Q E s :=
  Attribute_any_ h (by rw [arm_eval_Attribute, hb])
end

/-! ### readings and rules -/
/-- e.f, an attribute of the instance -/
def tFld (K : PySem.W.Frag) (ta : TE) (f : Str) : TE := fun σ H Q => ta σ H fun x H1 => ∃ a C dx fs v, x = .ref a ∧ H1 a = some (.ins C dx fs) ∧ Cls K C ∧ NoAttr K C f ∧ fs.lookup f = some v ∧ Q v H1
/-- e.f = value -/
def sFld (K : PySem.W.Frag) (ta tv : TE) (f : Str) : TS := fun D σ H => tv σ H fun y H1 => ta σ H1 fun x H2 => ∃ a C dx fs, x = .ref a ∧ H2 a = some (.ins C dx fs) ∧ Cls K C ∧ NoAttr K C f ∧ fs.length < 1000 ∧
  D.nx σ (upd H2 a (.ins C dx (putF f y fs)))

section
variable {X : Cx} {o e value : Expr} {f : Str} {pos pos' tpos : Pos} {ta tv : TE}
theorem pe_fld (he : PE X e ta) (hb : attributeBase e f X.env (eval e X.env) = eval e X.env) : PE X (.Attribute e f pos) (tFld X.K ta f) := by
  intro pins s σ H Q I h
  refine attr_of hb (thn (he pins s σ H _ I h) fun u s1 ⟨x, H1, I1, rx, a, C, dx, fs, v, ex, ea, c, n, l, q⟩ => ?_)
  subst ex
  obtain rfl : u = Value.ref a := rx
  exact getattr_ok I1 ea c n l fun u' s2 I2 ru => ⟨v, H1, I2, ru, q⟩
theorem ps_fld (ha : PE X o ta) (hv : PE X value tv) (hs : swapsWith value (some (.Attribute o f pos')) pos.line X.env = pure false) : PS X (.Assign [.Attribute o f pos'] value pos) (sFld X.K ta tv f) := by
  intro pins s σ H D I h
  refine plainObj_wpAny_Assign_Attribute (thn (hv pins s σ H _ I h) fun u s1 ⟨y, H1, I1, ry, q⟩ => thn (ha pins s1 σ H1 _ I1 q) fun ov s2 ⟨x, H2, I2, rx, a, C, dx, fs, ex, ea, c, n, l, q2⟩ => ?_) hs
  subst ex
  obtain rfl : ov = Value.ref a := rx
  exact setattr_ok I2 ea c n l ry fun s3 I3 => ⟨σ, _, I3, q2⟩

end

/-! ### isinstance -/
section
variable {X : Cx} {pins : List (Addr × Obj)} {σ : St} {H : Hp} {s : Shared} {A : Around} {E : Value → Shared → Prop} {Q : Value → Shared → Prop} {c : Value} {b : Bool}
/-- the type of a value, as the fragment's deciders take it; for an instance its class -/
inductive TyOf (K : PySem.W.Frag) (H : Hp) : V → Value → Prop where
  | non : TyOf K H .non (.type "NoneType")
  | bl (x : Bool) : TyOf K H (.bl x) (.type "bool")
  | int (i : Int) : TyOf K H (.int i) (.type "int")
  | str (x : Str) : TyOf K H (.str x) (.type "str")
  | flt (x : UInt64) : TyOf K H (.flt x) (.type "float")
  | lst {a : Addr} {xs : List V} (e : H a = some (.lst xs)) : TyOf K H (.ref a) (.type "list")
  | frz {a : Addr} {o : Obj} {xs : List V} (e : H a = some (.frz o (.lst xs))) : TyOf K H (.ref a) (.type "list")
  | tup {a : Addr} {xs : List V} (e : H a = some (.tup xs)) : TyOf K H (.ref a) (.type "tuple")
  | dK {a : Addr} {kvs : List (Key × V)} (e : H a = some (.dK kvs)) : TyOf K H (.ref a) (.type "dict")
  | dT {a : Addr} {kvs : List (List Key × V)} (e : H a = some (.dT kvs)) : TyOf K H (.ref a) (.type "dict")
  | ins {a C dx : Addr} {fs : List (Str × V)} (e : H a = some (.ins C dx fs)) (cl : Cls K C) (ha : PySem.W.findIn K (.ref C) "__class__" = some (some (.builtin "object.__class__")))
      (hn : PySem.W.specialIn K (.builtin "object.__class__") "__get__" = some (some (.builtin "getset_descriptor.__get__"))) (htk : PySem.W.takesIn K (.builtin "object.__class__") = some true)
      (hm : PySem.W.mroIn K C (.type "object") = some true) : TyOf K H (.ref a) (.ref C)
/-- isinstance(x, c) for one class c, a built-in or an own one: kitOne's answer -/
theorem isinst_ok {x : V} {u t : Value} (I : Inv X pins σ H s) (rx : RelV x u) (ty : TyOf X.K H x t) (e : PySem.W.kitOne X.K t c = some b) (h : ∀ tk, Q (.bool b) { s with toks := tk }) :
    wpAny (model X.prog X.w) A (call (.builtin "isinstance") [u, c]) Q E s := by
  cases ty with
  | non => cases (show u = Value.none from rx); exact PySem.W.kia_one PySem.W.kitx_none I.kIn True.intro e (fun z => nomatch z) h
  | bl y => cases (show u = Value.bool y from rx); exact PySem.W.kia_one PySem.W.kitx_bool I.kIn True.intro e (fun z => nomatch z) h
  | int i => obtain ⟨t, q⟩ := (show ∃ t, u = Value.int i t from rx); cases q; exact PySem.W.kia_one PySem.W.kitx_int I.kIn True.intro e (fun z => nomatch z) h
  | str y => obtain ⟨t, q⟩ := (show ∃ t, u = Value.str y t from rx); cases q; exact PySem.W.kia_one PySem.W.kitx_str I.kIn True.intro e (fun z => nomatch z) h
  | flt y => obtain ⟨t, q⟩ := (show ∃ t, u = Value.float y t from rx); cases q; exact PySem.W.kia_one PySem.W.kitx_float I.kIn True.intro e (fun z => nomatch z) h
  | @lst a xs ea =>
    cases (show u = Value.ref a from rx)
    obtain ⟨_, _, n, _, h1⟩ := (show ObjOk X.prog X.w H s.heap a (.lst xs) from I.hok a _ ea)
    exact PySem.W.kia_one PySem.W.kitx_list I.kIn ⟨_, h1, rfl⟩ e (fun z => nomatch z) h
  | @frz a ob xs ea =>
    cases (show u = Value.ref a from rx)
    obtain ⟨_, _, _, n, _, h1⟩ := (show ObjOk X.prog X.w H s.heap a (.frz ob (.lst xs)) from I.hok a _ ea)
    exact PySem.W.kia_one PySem.W.kitx_list I.kIn ⟨_, h1, rfl⟩ e (fun z => nomatch z) h
  | @tup a xs ea =>
    cases (show u = Value.ref a from rx)
    obtain ⟨_, _, _, p⟩ := (show ObjOk X.prog X.w H s.heap a (.tup xs) from I.hok a _ ea)
    obtain ⟨o, h1, h2, _⟩ := p
    exact PySem.W.kia_one PySem.W.kitx_tuple I.kIn ⟨o, h1, h2⟩ e (fun z => nomatch z) h
  | @dK a kvs ea =>
    cases (show u = Value.ref a from rx)
    obtain ⟨_, _, vs, _, p⟩ := (show ObjOk X.prog X.w H s.heap a (.dK kvs) from I.hok a _ ea)
    obtain ⟨o, es, ep, h1, h2, _⟩ := p
    exact PySem.W.kia_one PySem.W.kitx_dict I.kIn ⟨o, h1, h2.1⟩ e (fun z => nomatch z) h
  | @dT a kvs ea =>
    cases (show u = Value.ref a from rx)
    obtain ⟨_, _, xs, _, o, es, ep, h1, h2, _⟩ := (show ObjOk X.prog X.w H s.heap a (.dT kvs) from I.hok a _ ea)
    exact PySem.W.kia_one PySem.W.kitx_dict I.kIn ⟨o, h1, h2.1⟩ e (fun z => nomatch z) h
  | @ins a C dx fs ea cl ha hn htk hm =>
    cases (show u = Value.ref a from rx)
    obtain ⟨mA, O, _⟩ := ins_get I.hok ea
    obtain ⟨od, J, _⟩ := O.look
    exact PySem.W.kia_one (PySem.W.kitx_own (cl.get _) cl.hd ha hn htk hm) I.kIn J e (fun z => nomatch z) h
end
end L2

namespace L2
open PySem PySem.Spec PyProof.Rows

/-! ### room -/
structure Room (k : Nat) (A : Around) : Prop where
  hd : A.handled = none
  dp : A.depth + 3 * k + 5 < recursionLimit
  un : A.units + 16 * k + 200 < cLine
theorem Room.mono {j k : Nat} {A : Around} (r : Room k A) (h : j ≤ k) : Room j A := ⟨r.hd, by have := r.dp; omega, by have := r.un; omega⟩
theorem Room.deeper {k : Nat} {A : Around} (r : Room (k + 1) A) (env : Env) : Room k (A.deeper env) :=
  ⟨r.hd, by have := r.dp; show A.depth + 1 + 3 * k + 5 < _; omega, by have := r.un; show A.units + 3 + 16 * k + 200 < _; omega⟩
theorem make_depth {A : Around} {C : Addr} {us : List Value} {kw : List (Str × Value)} : (A.under (.builtin "type.__call__" ⟨.ref C :: us, kw⟩)).depth = A.depth + 1 := by
  first | rfl | simp [Around.under, Code.weight, Code.isCreation, Code.isGuard, Code.isCaller, Code.frames, Code.isFrame, guardIds]
theorem make_units {A : Around} {C : Addr} {us : List Value} {kw : List (Str × Value)} : (A.under (.builtin "type.__call__" ⟨.ref C :: us, kw⟩)).units = A.units + 1 := by
  first | rfl | simp [Around.under, Code.cUnits, Code.frames, Code.isFrame]
theorem Room.make {k : Nat} {A : Around} (r : Room (k + 1) A) (C : Addr) (us : List Value) (kw : List (Str × Value)) : Room k (A.under (.builtin "type.__call__" ⟨.ref C :: us, kw⟩)) :=
  ⟨r.hd, by have := r.dp; rw [make_depth]; omega, by have := r.un; rw [make_units]; omega⟩
theorem Room.depth {k : Nat} {A : Around} (r : Room k A) : A.depth < recursionLimit := by have := r.dp; omega

/-! ### argument lists and displays -/
def tNil : TA := fun _ H Q => Q [] H
def tCons (ta : TE) (tr : TA) : TA := fun σ H Q => ta σ H fun x H1 => tr σ H1 fun xs H2 => Q (x :: xs) H2
section
variable {X : Cx} {e : Expr} {es : List Expr} {te : TE} {t : TA} {pos : Pos}
theorem pa_nil : PA X [] tNil := fun _ _ _ _ H Q I h => Calls.spliced_nil ⟨[], H, I, .nil, h⟩
theorem pa_cons (ha : PE X e te) (hr : PA X es t) (hs : starEach (e :: es) X.env = (false, eval e X.env) :: starEach es X.env := by rfl) : PA X (e :: es) (tCons te t) := by
  intro pos pins s σ H Q I h
  rw [hs]
  show wpAny _ _ (spliced ((false, eval e X.env) :: backTo pos (starEach es X.env))) _ _ s
  refine Calls.spliced_cons (thn (ha pins s σ H _ I h) fun u s1 ⟨x, H1, I1, r1, q1⟩ => ?_)
  exact thn (hr pos pins s1 σ H1 _ I1 q1) fun us s2 ⟨xs, H2, I2, r2, q2⟩ => ⟨x :: xs, H2, I2, .cons r1 r2, q2⟩

/-- a tuple, a list of written items -/
def tTup (t : TA) : TE := fun σ H Q => t σ H fun xs H1 => xs.length ≤ sizeLine ∧ ∀ p, H1 p = none → Q (.ref p) (upd H1 p (.tup xs))
def tLst (t : TA) : TE := fun σ H Q => t σ H fun xs H1 => xs.length ≤ sizeLine ∧ ∀ p, H1 p = none → Q (.ref p) (upd H1 p (.lst xs))
theorem pe_tup {x1} (h : PA X es t) : PE X (.Tuple es x1 pos) (tTup t) := by
  intro pins s σ H Q I hq
  refine wpAny_Tuple_spliced (thn (h pos pins s σ H _ I hq) fun us s1 ⟨xs, H1, I1, r, z, q⟩ => ⟨by rw [← r.length]; exact z, ?_⟩)
  have hf : H1 s1.heap.objs.size = none := I1.hok.fresh (Nat.le_refl _)
  refine ⟨.ref s1.heap.objs.size, upd H1 s1.heap.objs.size (.tup xs), I1.laid (t' := s1.toks) (fun b u e => Heap.get?_push_of_some _ e) (Nat.le_refl _) ?_, rfl, q _ hf⟩
  exact ⟨z, us, r, ⟨_, Heap.get?_push_size _ rfl, rfl, _, rfl⟩⟩
theorem pe_lst (h : PA X es t) : PE X (.List es pos) (tLst t) := by
  intro pins s σ H Q I hq
  refine wpAny_List_spliced (thn (h pos pins s σ H _ I hq) fun us s1 ⟨xs, H1, I1, r, z, q⟩ => ⟨by rw [← r.length]; exact z, ?_⟩)
  have hf : H1 s1.heap.objs.size = none := I1.hok.fresh (Nat.le_refl _)
  refine ⟨.ref s1.heap.objs.size, upd H1 s1.heap.objs.size (.lst xs), I1.laid (t' := s1.toks) (fun b u e => Heap.get?_push_of_some _ e) (Nat.le_refl _) ?_, rfl, q _ hf⟩
  exact ⟨z, us, 0, r, Heap.get?_push_size _ rfl⟩
end

/-! ### what a def promises -/
/-- a def's promise: the bound arguments in the parameters' order, the heap, the wanted end, the wanted exception -/
abbrev Sp := List V → Hp → VK → XK → Prop
/-- how an exception lies behind a call (file 08 gives it): the callers' frames, abstract heap and state ahead of the call, the wish, the exception, the state -/
abbrev CXT := List Env → Hp → Shared → XK → Value → Shared → Prop

/-- the state at a call -/
structure Env0 (P : Program) (w : World) (K : PySem.W.Frag) (mg : Str → Option Value) (base : Heap) (A : Around) (outer : List Env) (s : Shared) (H : Hp) : Prop where
  frames : A.frames = some outer
  mod : Mod K mg base
  bs : ∀ b o, base.get? b = some o → s.heap.get? b = some o ∧ H b = none
  bsz : base.objs.size ≤ s.heap.objs.size
  funs : s.heap.FunFrames base outer
  frf : ∀ b ∈ frs outer, H b = none
  hok : HOk P w H s.heap
  bare : AllBare s.gens
/-- a call's end -/
def CE (outer : List Env) (P : Program) (w : World) (H : Hp) (s : Shared) (Q : VK) (u : Value) (s' : Shared) : Prop :=
  ∃ v H', s'.os = s.os ∧ AllBare s'.gens ∧ Un (frs outer) [] H H' s.heap s'.heap ∧ HOk P w H' s'.heap ∧ RelV v u ∧ Q v H'
def CR (CX : CXT) (outer : List Env) (P : Program) (w : World) (H : Hp) (s : Shared) (Q : VK) (E : XK) (r : Result) (s' : Shared) : Prop :=
  match r with
  | .ok (.ret u) => CE outer P w H s Q u s'
  | .ok _ => False
  | .error e => CX outer H s E e s'
structure FnOk (P : Program) (w : World) (K : PySem.W.Frag) (mg : Str → Option Value) (base : Heap) (CX : CXT) (k : Nat) (f : Addr) (fd : FuncData) (ps : List Str) (sp : Sp) : Prop where
  len : ∀ vs H Q E, sp vs H Q E → vs.length = ps.length
  run : ∀ (A : Around) (outer : List Env) (s : Shared) (H : Hp) (args : Args) (us : List Value) (vs : List V) (Q : VK) (E : XK), Room k A → Env0 P w K mg base A outer s H → BindsTo s fd args (ps.zip us) → Vals vs us → sp vs H Q E →
    codeAny (model P w) A (.call (.ref f) args) (CR CX outer P w H s Q E) s
theorem FnOk.mono {P : Program} {w : World} {K : PySem.W.Frag} {mg : Str → Option Value} {base : Heap} {CX : CXT} {j k : Nat} {f : Addr} {fd : FuncData} {ps : List Str} {sp : Sp} (F : FnOk P w K mg base CX j f fd ps sp) (h : j ≤ k) :
    FnOk P w K mg base CX k f fd ps sp := ⟨F.len, fun A outer s H args us vs Q E hr => F.run A outer s H args us vs Q E (hr.mono h)⟩

theorem Env0.make {P : Program} {w : World} {K : PySem.W.Frag} {mg : Str → Option Value} {base : Heap} {A : Around} {outer : List Env} {s : Shared} {H : Hp} (e : Env0 P w K mg base A outer s H) (C : Addr) (us : List Value) (kw : List (Str × Value)) :
    Env0 P w K mg base (A.under (.builtin "type.__call__" ⟨.ref C :: us, kw⟩)) outer s H := ⟨by first | exact e.frames | (simpa [Around.under, Code.envs, Code.isFrame, pushEnvs] using e.frames), e.mod, e.bs, e.bsz, e.funs, e.frf, e.hok, e.bare⟩

section
variable {X : Cx} {pins : List (Addr × Obj)} {σ : St} {H : Hp} {s s' : Shared}
/-- from a body: what a callee wants -/
theorem Inv.env0 (I : Inv X pins σ H s) : Env0 X.prog X.w X.K X.mg X.base X.A X.stack s H :=
  ⟨I.ok.frames, I.ok.mod, I.bs, Nat.le_trans I.ok.bsz I.sz, I.stack, I.stkFree, I.hok, I.bare⟩
/-- behind a call -/
theorem Inv.after {Q : VK} {u : Value} (I : Inv X pins σ H s) (h : CE X.stack X.prog X.w H s Q u s') : EP X pins σ Q u s' := by
  obtain ⟨v, H', os, bare, un, hok, r, q⟩ := h
  obtain ⟨hh, g, d, t, os'⟩ := s'
  obtain rfl : os' = s.os := os
  exact ⟨v, H', I.call (h' := hh) (g' := g) (d' := d) (t' := t) (ch := []) un hok bare (fun b z => absurd z (by simp)), r, q⟩
end

/-! ### calls -/
/-- f(..): the written arguments, then the defaults dvs; E: what is wanted of an exception -/
def tCall (sp : Sp) (dvs : List V) (E : XK) (t : TA) : TE := fun σ H Q => t σ H fun vs H1 => sp (vs ++ dvs) H1 Q E
/-- C(..): a new instance and its dict, then __init__ -/
def tMake (C : Addr) (sp : Sp) (dvs : List V) (E : XK) (t : TA) : TE := fun σ H Q => t σ H fun vs H1 => ∀ x dx, H1 x = none → H1 dx = none → dx ≠ x →
  sp (.ref x :: (vs ++ dvs)) (upd (upd H1 dx (.own x)) x (.ins C dx [])) (fun v H2 => v = .non ∧ Q (.ref x) H2) E

/-- how the parameters are bound: us the positional arguments, kw the keywords' values by name, ds the defaults that fill up -/
def Binds (K : PySem.W.Frag) (fd : FuncData) (ps : List Str) (ds : List Value) : Prop :=
  ∀ (s : Shared) (us : List Value), K.In s.heap → (us ++ ds).length = ps.length → BindsTo s fd ⟨us, []⟩ (ps.zip (us ++ ds))
/-- every parameter is given -/
theorem Binds.all {K : PySem.W.Frag} {fd : FuncData} {ps : List Str} (h : ∀ us : List Value, us.length = ps.length → bindArgs fd ⟨us, []⟩ = pure (ps.zip us)) : Binds K fd ps [] := fun s us _ hl => by
  rw [List.append_nil] at hl ⊢
  exact .of_eq (h us hl)

/-- an exception of a callee reaches what this body wants of exceptions -/
def Passes (CX : CXT) (X : Cx) (E : XK) : Prop := ∀ (pins : List (Addr × Obj)) (σ : St) (H : Hp) (s : Shared) (e : Value) (s' : Shared), Inv X pins σ H s → CX X.stack H s E e s' → X.xe e s'

section
variable {X : Cx} {CX : CXT} {k : Nat} {f C : Addr} {fd : FuncData} {ps : List Str} {sp : Sp} {dvs : List V} {ds : List Value} {E : XK} {x m : Str} {p pos apos : Pos} {e o : Expr} {es : List Expr} {ta : TE} {t : TA}

/-- the callee runs -/
theorem run_fn {pins : List (Addr × Obj)} {σ : St} {H : Hp} {s : Shared} {Q : VK} {us : List Value} {vs : List V} (F : FnOk X.prog X.w X.K X.mg X.base CX k f fd ps sp) (hr : Room k X.A) (hb : Binds X.K fd ps ds) (hd : Vals dvs ds) (hx : Passes CX X E)
    (I : Inv X pins σ H s) (r : Vals vs us) (h : sp (vs ++ dvs) H Q E) : wpAny (model X.prog X.w) X.A (call (.ref f) us) (EP X pins σ Q) X.xe s := by
  have r2 : Vals (vs ++ dvs) (us ++ ds) := r.append hd
  have hl : (us ++ ds).length = ps.length := by rw [← r2.length]; exact F.len _ _ _ _ h
  refine wpAny_call (codeAny_mono (F.run X.A X.stack s H ⟨us, []⟩ (us ++ ds) (vs ++ dvs) Q E hr I.env0 (hb s us I.kIn hl) r2 h) fun r s' hq => ?_)
  cases r with
  | error e => exact hx pins σ H s e s' I hq
  | ok fl =>
    cases fl with
    | ret u => exact I.after hq
    | next => exact False.elim hq
    | brk => exact False.elim hq
    | cont => exact False.elim hq

theorem pe_call (F : FnOk X.prog X.w X.K X.mg X.base CX k f fd ps sp) (hr : Room k X.A) (hg : Gl X x) (hm : X.mg x = some (.ref f)) (hk : PySem.W.keepIn X.K (.ref f) = true) (hb : Binds X.K fd ps ds) (hd : Vals dvs ds) (hx : Passes CX X E)
    (ha : PA X (e :: es) t) (hdb : (x == ("__debug__" : Str)) = false := by decide) (he : starEach (e :: es) X.env = (false, eval e X.env) :: starEach es X.env := by rfl) (hpl : (backTo pos (starEach es X.env)).any (·.1) = false := by rfl) :
    PE X (.Call (.Name x p) (e :: es) [] pos) (tCall sp dvs E t) := by
  intro pins s σ H Q I h
  refine wpAny_Call_Name_kw (ld_glob I hg hm ?_ hdb)
  refine PySem.W.callWith_K (h₀ := X.base) I.ok.mod.kin hk (thn (ha pos pins s σ H _ I h) fun us s1 ⟨vs, H1, I1, r, q⟩ => ⟨I1.kIn, ?_⟩) he hpl
  exact run_fn F hr hb hd hx I1 r q

/-- what a class must have to be made -/
structure Mk (K : PySem.W.Frag) (C f : Addr) : Prop where
  makes : PySem.W.makesIn K C = true
  init : PySem.W.findIn K (.ref C) "__init__" = some (some (.ref f))
  fn : PySem.W.isFn K (.ref f) = true
  kp : PySem.W.keepIn K (.ref C) = true

theorem run_make {pins : List (Addr × Obj)} {σ : St} {H : Hp} {s : Shared} {Q : VK} {us : List Value} {vs : List V} (M : Mk X.K C f) (F : FnOk X.prog X.w X.K X.mg X.base CX k f fd ps sp) (hr : Room (k + 1) X.A) (hb : Binds X.K fd ps ds) (hd : Vals dvs ds)
    (hx : Passes CX X E) (I : Inv X pins σ H s) (r : Vals vs us)
    (h : ∀ x dx, H x = none → H dx = none → dx ≠ x → sp (.ref x :: (vs ++ dvs)) (upd (upd H dx (.own x)) x (.ins C dx [])) (fun v H2 => v = .non ∧ Q (.ref x) H2) E) :
    wpAny (model X.prog X.w) X.A (call (.ref C) us) (EP X pins σ Q) X.xe s := by
  have hq := h (s.heap.objs.size + 1) s.heap.objs.size (I.hok.fresh (Nat.le_succ _)) (I.hok.fresh (Nat.le_refl _)) (Nat.ne_of_lt (Nat.lt_succ_self _))
  have I2 := Inv.made (C := C) I
  have r2 : Vals (V.ref (s.heap.objs.size + 1) :: (vs ++ dvs)) (Value.ref (s.heap.objs.size + 1) :: (us ++ ds)) := .cons rfl (r.append hd)
  have hl : (Value.ref (s.heap.objs.size + 1) :: us ++ ds).length = ps.length := by
    have e := r2.length
    rw [F.len _ _ _ _ hq] at e
    exact e.symm
  refine wpAny_call (make_map (f := f) I.kIn M.makes M.init (beq_iff_eq.mp M.fn) (codeAny_mono (F.run _ X.stack _ _ ⟨Value.ref (s.heap.objs.size + 1) :: us, []⟩ (Value.ref (s.heap.objs.size + 1) :: (us ++ ds)) _ _ E (hr.make C us [])
    (I2.env0.make C us []) (hb _ (Value.ref (s.heap.objs.size + 1) :: us) I2.kIn hl) r2 hq) fun r s' hq' => ?_))
  cases r with
  | error e => exact hx pins σ _ _ e s' I2 hq'
  | ok fl =>
    cases fl with
    | ret u =>
      obtain ⟨v, H', I3, rv, ev, q3⟩ := I2.after hq'
      subst ev
      exact ⟨rv, ⟨V.ref (s.heap.objs.size + 1), H', I3, rfl, q3⟩⟩
    | next => exact False.elim hq'
    | brk => exact False.elim hq'
    | cont => exact False.elim hq'
theorem pe_make (M : Mk X.K C f) (F : FnOk X.prog X.w X.K X.mg X.base CX k f fd ps sp) (hr : Room (k + 1) X.A) (hg : Gl X x) (hm : X.mg x = some (.ref C)) (hb : Binds X.K fd ps ds) (hd : Vals dvs ds) (hx : Passes CX X E)
    (ha : PA X (e :: es) t) (hdb : (x == ("__debug__" : Str)) = false := by decide) (he : starEach (e :: es) X.env = (false, eval e X.env) :: starEach es X.env := by rfl) (hpl : (backTo pos (starEach es X.env)).any (·.1) = false := by rfl) :
    PE X (.Call (.Name x p) (e :: es) [] pos) (tMake C sp dvs E t) := by
  intro pins s σ H Q I h
  refine wpAny_Call_Name_kw (ld_glob I hg hm ?_ hdb)
  refine PySem.W.callWith_K (h₀ := X.base) I.ok.mod.kin M.kp (thn (ha pos pins s σ H _ I h) fun us s1 ⟨vs, H1, I1, r, q⟩ => ⟨I1.kIn, ?_⟩) he hpl
  exact run_make M F hr hb hd hx I1 r q
end

/-! ### keywords -/
section
variable {X : Cx} {CX : CXT} {k : Nat} {f C : Addr} {fd : FuncData} {ps ks : List Str} {sp : Sp} {E : XK} {x m : Str} {p pos apos kpos : Pos} {e o : Expr} {es : List Expr} {kws : List Keyword} {te ta : TE} {t tk : TA} {nm : Option Str}

variable {g : List Value → List Value → List Value} {gV : List V → List V → List V}
end

/-! ### a def's body keeps its promise -/
/-- names: the parameters first -/
structure FnScope (N P : List Str) (sc : Scope) : Prop where
  kind : sc.kind = .function
  co : sc.isCoroutine = false
  gen : sc.isGenerator = false
  nd : N.Nodup
  pre : N.take P.length = P
  par : ∀ x ∈ P, sc.names.lookup x = some .local ∨ sc.names.lookup x = some .cell
  nofree : ∀ y ∈ sc.names, y.2 ≠ .free

theorem bindL_out {kindOf : Str → Option NameKind} {x : Str} : ∀ {binds : List (Str × Value)} {m : Str → Option Value}, (∀ v, (x, v) ∉ binds) → bindL kindOf binds m x = m x
  | [], _, _ => rfl
  | (n, v) :: r, m, h => by
    unfold bindL
    rw [bindL_out fun w hw => h w (List.mem_cons_of_mem _ hw)]
    split
    · have : x ≠ n := by rintro rfl; exact h v List.mem_cons_self
      simp [this]
    · rfl
theorem bindC_out {kindOf : Str → Option NameKind} {x : Str} : ∀ {binds : List (Str × Value)} {m : Str → Option Value}, (∀ v, (x, v) ∉ binds) → bindC kindOf binds m x = m x
  | [], _, _ => rfl
  | (n, v) :: r, m, h => by
    unfold bindC
    rw [bindC_out fun w hw => h w (List.mem_cons_of_mem _ hw)]
    split
    · rfl
    · have : x ≠ n := by rintro rfl; exact h v List.mem_cons_self
      simp [this]
theorem bindL_get {kindOf : Str → Option NameKind} {x : Str} {v : Value} : ∀ {P : List Str} {vs : List Value} {i : Nat} {m : Str → Option Value}, P.Nodup → P[i]? = some x → vs[i]? = some v → kindOf x = some .local →
    bindL kindOf (P.zip vs) m x = some v
  | [], _, _, _, _, h, _, _ => by simp at h
  | _ :: _, [], _, _, _, _, h, _ => by simp at h
  | p :: P, w :: vs, 0, m, nd, h1, h2, hk => by
    simp at h1 h2; subst h1; subst h2
    show bindL kindOf ((p, w) :: P.zip vs) m p = _
    unfold bindL
    rw [bindL_out fun v hv => (List.nodup_cons.mp nd).1 (List.of_mem_zip hv).1, if_pos hk]
    simp
  | p :: P, w :: vs, i + 1, m, nd, h1, h2, hk => by
    show bindL kindOf ((p, w) :: P.zip vs) m x = _
    unfold bindL
    exact bindL_get (i := i) (List.nodup_cons.mp nd).2 (by simpa using h1) (by simpa using h2) hk
theorem bindC_get {kindOf : Str → Option NameKind} {x : Str} {v : Value} : ∀ {P : List Str} {vs : List Value} {i : Nat} {m : Str → Option Value}, P.Nodup → P[i]? = some x → vs[i]? = some v → kindOf x ≠ some .local →
    bindC kindOf (P.zip vs) m x = some v
  | [], _, _, _, _, h, _, _ => by simp at h
  | _ :: _, [], _, _, _, _, h, _ => by simp at h
  | p :: P, w :: vs, 0, m, nd, h1, h2, hk => by
    simp at h1 h2; subst h1; subst h2
    show bindC kindOf ((p, w) :: P.zip vs) m p = _
    unfold bindC
    rw [bindC_out fun v hv => (List.nodup_cons.mp nd).1 (List.of_mem_zip hv).1, if_neg hk]
    simp
  | p :: P, w :: vs, i + 1, m, nd, h1, h2, hk => by
    show bindC kindOf ((p, w) :: P.zip vs) m x = _
    unfold bindC
    exact bindC_get (i := i) (List.nodup_cons.mp nd).2 (by simpa using h1) (by simpa using h2) hk

/-- the names' values at the entry -/
def start (N : List Str) (vs : List V) : St := vs.map some ++ List.replicate (N.length - vs.length) none

/-- the context of a def's body, at its entry; an exception leaves the frame, then lies as CX says -/
def cxOf (CX : CXT) (P : Program) (w : World) (K : PySem.W.Frag) (mg : Str → Option Value) (base : Heap) (N : List Str) (qual : Str) (scope : Scope) (f : Addr) (cd : Value) (A : Around) (outer : List Env) (s : Shared) (H : Hp) (E : XK) : Cx where
  prog := P
  w := w
  K := K
  mg := mg
  base := base
  A := A.deeper (envOfC qual scope s.heap.objs.size f cd)
  N := N
  s₀ := s
  H₀ := H
  env := envOfC qual scope s.heap.objs.size f cd
  outer := outer
  stack := envOfC qual scope s.heap.objs.size f cd :: outer
  ex := []
  calm := true
  fn := fun _ => true
  pn := []
  xe := fun e s' => wpAny (model P w) (A.deeper (envOfC qual scope s.heap.objs.size f cd)) (leaving (envOfC qual scope s.heap.objs.size f cd) e) (fun _ s'' => CX outer H s E e s'') (fun e' s'' => CX outer H s E e' s'') s'

theorem cell_has {sc : Scope} {n : Nat} {x : Str} (h : sc.names.lookup x = some .cell) : ∃ c, (cellsFrom n sc.names []).lookup x = some c := by
  have q := PySem.W.cellsFrom_some sc.names n [] (.inl h)
  exact Option.isSome_iff_exists.mp q

theorem inv_start {CX : CXT} {P : Program} {w : World} {K : PySem.W.Frag} {mg : Str → Option Value} {base : Heap} {N ps : List Str} {qual : Str} {scope : Scope} {f : Addr} {cd : Value} {A : Around} {outer : List Env} {s s1 : Shared} {H : Hp} {E : XK} {us : List Value} {vs : List V}
    (S : FnScope N ps scope) (hd : A.handled = none) (e0 : Env0 P w K mg base A outer s H) (hl : vs.length = ps.length) (r : Vals vs us)
    (x : InCallC s s.heap.objs.size (bindL (envOfC qual scope s.heap.objs.size f cd).kindOf (ps.zip us) fun _ => none) (cellsFrom (s.heap.objs.size + 1) scope.names []) (bindC (envOfC qual scope s.heap.objs.size f cd).kindOf (ps.zip us) fun _ => none) s1) :
    Inv (cxOf CX P w K mg base N qual scope f cd A outer s H E) [] (start N vs) H s1 := by
  have hpl : ps.length ≤ N.length := by have := congrArg List.length S.pre; rw [List.length_take] at this; omega
  obtain ⟨h1, tk, rfl, hk⟩ := x.done
  have noA : ∀ b : Addr, b ∉ (cxOf CX P w K mg base N qual scope f cd A outer s H E).ex := fun b z => absurd (show b ∈ ([] : List Addr) from z) (by simp)
  refine ⟨⟨e0.mod, S.kind, rfl, rfl, Nat.le_refl _, fun y z c h1 h2 => ?_, fun y hy => ?_, fun y c _ h => ?_, fun _ => hd, Around.frames_deeper e0.frames, .inr ⟨rfl, rfl⟩, fun b z => absurd z (noA b), e0.bs, e0.bsz, fun b _ _ => noA b, fun b z => absurd z (noA b), e0.funs, e0.frf⟩,
    rfl, e0.bare, Un.kept hk, ⟨_, x.toInCall.ns, fun i y v h1 h2 h3 => ?_⟩, fun y c h => ⟨_, x.cell y c h⟩, e0.hok.fresh (Nat.le_refl _), fun y c h => ?_, fun p hp => absurd (show p ∈ ([] : List (Addr × Obj)) from hp) (by simp), e0.hok.kept hk, ?_⟩
  · exact name_of_addr x.apart (PySem.mem_of_lookup h1) (PySem.mem_of_lookup h2)
  · have hy : scope.names.lookup y = some .cell ∨ scope.names.lookup y = some .free := hy
    rcases hy with hy | hy
    · exact cell_has hy
    · exact absurd rfl (S.nofree _ (PySem.mem_of_lookup hy))
  · exact Nat.le_of_lt (x.above y c (PySem.mem_of_lookup h))
  · have hi : i < vs.length := by
      unfold start at h2
      by_cases hi : i < vs.length
      · exact hi
      · rw [List.getElem?_append_right (by simpa using hi)] at h2
        rw [List.getElem?_replicate] at h2
        split at h2 <;> cases h2
    have ha : vs[i]? = some v := by
      unfold start at h2
      rw [List.getElem?_append_left (by simpa using hi), List.getElem?_map] at h2
      cases e : vs[i]? with
      | none => rw [e] at h2; cases h2
      | some a => rw [e] at h2; cases h2; rfl
    obtain ⟨u, hu, rv⟩ := r.get ha
    have hp : ps[i]? = some y := by
      rw [← S.pre, List.getElem?_take_of_lt (by omega)]; exact h1
    have ndP : ps.Nodup := by rw [← S.pre]; exact S.nd.sublist (List.take_sublist _ _)
    refine ⟨u, rv, ?_⟩
    rcases S.par y (List.mem_of_getElem? hp) with k | k
    · exact .inl ⟨k, bindL_get ndP hp hu k⟩
    · obtain ⟨c, e⟩ := cell_has (n := s.heap.objs.size + 1) k
      refine .inr ⟨.inl k, c, e, ?_⟩
      have q := x.cell y c e
      rw [bindC_get ndP hp hu (by show scope.names.lookup y ≠ _; rw [k]; decide)] at q
      exact q
  · exact e0.hok.fresh (Nat.le_of_lt (x.above y c (PySem.mem_of_lookup h)))
  · unfold start
    show _ = N.length
    rw [List.length_append, List.length_map, List.length_replicate]
    omega

/-- THE RULE: a def (or a method) of the text, by its body. The body's reading t is chosen for each entry; it is run at the parameters' values -/
theorem fn_of {CX : CXT} {P : Program} {w : World} {K : PySem.W.Frag} {mg : Str → Option Value} {base : Heap} {k : Nat} {f : Addr} {name qual : Str} {params : Arguments} {body : List Stmt} {scope : Scope} {dV kV doc pm cdv ct oc : Value} {an od : Option Addr}
    {osl : Array (Option Value)} {N ps : List Str} {sp : Sp} (lk : K.lookup f = some ⟨oc, od, .func (PySem.W.fnOf name qual params body scope dV kV doc pm an cdv ct), osl⟩) (hcd : PySem.W.codeIn K cdv qual = true) (S : FnScope N ps scope)
    (len : ∀ vs H Q E, sp vs H Q E → vs.length = ps.length)
    (hbody : ∀ (A : Around) (outer : List Env) (s : Shared) (H : Hp) (vs : List V) (Q : VK) (E : XK), Room k (A.deeper (envOfC qual scope s.heap.objs.size f cdv)) → sp vs H Q E →
      ∃ t, PSs (cxOf CX P w K mg base N qual scope f cdv A outer s H E) body t ∧ t { nx := fun _ H' => Q .non H', rt := Q } (start N vs) H) :
    FnOk P w K mg base CX (k + 1) f (PySem.W.fnOf name qual params body scope dV kV doc pm an cdv ct) ps sp := by
  refine ⟨len, fun A outer s H args us vs Q E hr e0 hb r hsp => ?_⟩
  have hl := len _ _ _ _ hsp
  have KX : K.In s.heap := e0.mod.kin.keeps fun b o e => (e0.bs b o e).1
  have lim : s.heap.NoLimit := e0.mod.nolimit.keeps fun b o e => (e0.bs b o e).1
  have hkind : ∀ y ∈ ps.zip us, scope.names.lookup y.1 = some .local ∨ (scope.names.lookup y.1 = some .cell ∧ ((cellsFrom (s.heap.objs.size + 1) scope.names []).lookup y.1).isSome = true) := fun ⟨n, v⟩ hy => by
    rcases S.par n (List.of_mem_zip hy).1 with q | q
    · exact .inl q
    · exact .inr ⟨q, PySem.W.cellsFrom_some _ _ _ (.inl q)⟩
  refine codeAny_call_function hr.depth (KX _ _ lk) rfl S.co S.gen rfl (PySem.W.codeRec_of KX hcd) (hb _ _ _ _ ?_)
  refine wpAny_newFunctionEnv_cells S.kind hkind fun env he s1 x => ?_
  subst he
  refine ⟨lim.keeps x.toInCall.keep, codeAny_func ?_⟩
  obtain ⟨t, ht, hq⟩ := hbody A outer s H vs Q E (hr.deeper _) hsp
  have I : Inv (cxOf CX P w K mg base N qual scope f cdv A outer s H E) [] (start N vs) H s1 := inv_start S hr.hd e0 hl r x
  refine wpAny_mono (ht [] s1 (start N vs) H _ I hq) (fun fl s' hs => ?_) fun e s' hs => hs
  have fin : ∀ {σ' : St} {H' : Hp} {v : V} {u : Value}, Inv (cxOf CX P w K mg base N qual scope f cdv A outer s H E) [] σ' H' s' → RelV v u → Q v H' → CE outer P w H s Q u s' :=
    fun {σ' H' v u} J rv q => ⟨v, H', J.os, J.bare, J.base, J.hok, rv, q⟩
  cases fl with
  | ret u =>
    obtain ⟨v, σ', H', J, rv, q⟩ := hs
    exact fin J rv q
  | next =>
    obtain ⟨σ', H', J, q⟩ := hs
    exact fin (v := V.non) (u := Value.none) J rfl q
  | brk =>
    obtain ⟨_, _, _, q⟩ := hs
    exact False.elim q
  | cont =>
    obtain ⟨_, _, _, q⟩ := hs
    exact False.elim q
end L2

namespace L2
open PySem PySem.Spec PyProof.Rows
section
variable {X : Cx} {x : Str} {p pos : Pos} {e : Expr} {es : List Expr} {t : TA} {id T : String} {r : List V → Hp → VK → Prop}

def tCB (r : List V → Hp → VK → Prop) (t : TA) : TE := fun σ H Q => t σ H fun vs H1 => r vs H1 Q
/-- f(e, ..), f a built-in function -/
theorem pe_callB (hc : CallR X (.builtin id) r) (hg : Gl X x) (hm : X.mg x = none) (hv : bootBuiltins x = some (.builtin id)) (ha : PA X (e :: es) t) (hn : x ≠ "__name__" := by decide) (hdb : (x == ("__debug__" : Str)) = false := by decide)
    (he : starEach (e :: es) X.env = (false, eval e X.env) :: starEach es X.env := by rfl) (hpl : (backTo pos (starEach es X.env)).any (·.1) = false := by rfl) : PE X (.Call (.Name x p) (e :: es) [] pos) (tCB r t) := by
  intro pins s σ H Q I h
  refine wpAny_Call_Name_kw (ld_blt I hg hm hv ?_ hn hdb)
  exact PyProof.Rows.callWith_builtin1 (thn (ha pos pins s σ H _ I h) fun us s1 ⟨vs, H1, I1, r1, q1⟩ => hc pins s1 σ H1 vs us Q I1 r1 q1) he hpl
/-- T(e, ..), T a built-in type -/
theorem pe_callTy (hc : CallR X (.type T) r) (hg : Gl X x) (hm : X.mg x = none) (hv : bootBuiltins x = some (.type T)) (ha : PA X (e :: es) t) (hn : x ≠ "__name__" := by decide) (hdb : (x == ("__debug__" : Str)) = false := by decide)
    (he : starEach (e :: es) X.env = (false, eval e X.env) :: starEach es X.env := by rfl) (hpl : (backTo pos (starEach es X.env)).any (·.1) = false := by rfl) : PE X (.Call (.Name x p) (e :: es) [] pos) (tCB r t) := by
  intro pins s σ H Q I h
  refine wpAny_Call_Name_kw (ld_blt I hg hm hv ?_ hn hdb)
  exact PyProof.Rows.callWith_type1 (thn (ha pos pins s σ H _ I h) fun us s1 ⟨vs, H1, I1, r1, q1⟩ => hc pins s1 σ H1 vs us Q I1 r1 q1) he hpl
end
end L2

namespace HT
open PySem PyProof.Rows

section
open PySem.SeqAt
open PySem.AutoSeq1 (wpAny_loadPart')
open PySem.MeetsSeq PySem.MeetsSeq2 PySem.MeetsSeq3

end

section
variable {prog : Program} {w : World} {A : Around} {E : Value → Shared → Prop} {s : Shared}

/-! ### t[a:b], not the whole -/

end
end HT

namespace L2
open PySem PySem.Spec PyProof.Rows

/-! ### the parts of a slice -/
abbrev TO := St → Hp → (Option Int → Hp → Prop) → Prop
/-- a slice's part (left out, or an int) -/
def PO (X : Cx) (e : Option Expr) (t : TO) : Prop :=
  ∀ (pins : List (Addr × Obj)) (s : Shared) (σ : St) (H : Hp) (Q : Option Int → Hp → Prop), Inv X pins σ H s → t σ H Q →
    wpAny (model X.prog X.w) X.A (evalPart e X.env) (fun u s' => ∃ o H', Inv X pins σ H' s' ∧ IsPart u o ∧ Q o H') X.xe s
def tNoPart : TO := fun _ H Q => Q none H
def tPart (t : TE) : TO := fun σ H Q => t σ H fun x H1 => ∃ i, x = .int i ∧ Q (some i) H1

section
variable {X : Cx} {e : Expr} {te : TE} {lo hi : Option Expr} {tl th : TO} {pos p2 : Pos}

theorem po_none : PO X none tNoPart := by
  intro pins s σ H Q I h
  rw [evalPart_none]
  exact wpAny_pure ⟨none, H, I, .none, h⟩
theorem po_some (h : PE X e te) : PO X (some e) (tPart te) := by
  intro pins s σ H Q I hw
  rw [evalPart_some]
  refine thn (h pins s σ H _ I hw) fun u s1 ⟨x, H1, I1, r1, q1⟩ => ?_
  obtain ⟨i, rfl, q⟩ := q1
  obtain ⟨t, rfl⟩ := r1
  exact ⟨some i, H1, I1, .int i t, q⟩

/-- what a slice of a value is, by values: the slice object stands at sl -/
def SlR (X : Cx) (r : V → Option Int → Option Int → Hp → VK → Prop) : Prop :=
  ∀ (pins : List (Addr × Obj)) (s : Shared) (σ : St) (H : Hp) (x : V) (v vl vu : Value) (lo hi : Option Int) (sl : Addr) (Q : VK), Inv X pins σ H s → RelV x v → s.heap.IsSliceOf sl vl vu .none → IsPart vl lo → IsPart vu hi → r x lo hi H Q →
    ∃ T id, typeLookup (.type T) "__getitem__" = pure (some (.builtin id)) ∧ s.TypeIs v T ∧ wpAny (model X.prog X.w) X.A (getItem v (.ref sl)) (EP X pins σ Q) X.xe s
def tSl (r : V → Option Int → Option Int → Hp → VK → Prop) (te : TE) (tl th : TO) : TE := fun σ H Q => te σ H fun x H1 => tl σ H1 fun l H2 => th σ H2 fun u H3 => r x l u H3 Q
/-- a[lo:hi], any a -/
theorem pe_slice {r : V → Option Int → Option Int → Hp → VK → Prop} (hr : SlR X r) (he : PE X e te) (hl : PO X lo tl) (hu : PO X hi th) : PE X (.Subscript e (.Slice lo hi none p2) pos) (tSl r te tl th) := by
  intro pins s σ H Q I h
  refine Subscript_ (thn (he pins s σ H _ I h) fun v s1 ⟨x, H1, I1, r1, q1⟩ => ?_)
  refine wpAny_Slice (thn (hl pins s1 σ H1 _ I1 q1) fun vl s2 ⟨l, H2, I2, pl, q2⟩ => thn (hu pins s2 σ H2 _ I2 q2) fun vu s3 ⟨u, H3, I3, pu, q3⟩ => ?_)
  rw [evalPart_none]
  refine wpAny_pure ?_
  have I4 : Inv X pins σ H3 { s3 with heap := s3.heap.push { cls := .type "slice", data := .fields #[vl, vu, .none] } } := I3.kept (t' := s3.toks) fun b ob q => Heap.get?_push_of_some _ q
  obtain ⟨T, id, hT, ht, hg⟩ := hr pins { s3 with heap := s3.heap.push { cls := .type "slice", data := .fields #[vl, vu, .none] } } σ H3 x v vl vu l u s3.heap.objs.size Q I4 r1 (Heap.IsSliceOf.new ..) pl pu q3
  show wpAny (model X.prog X.w) X.A (subscriptTail e (.Slice lo hi none p2) v (.ref s3.heap.objs.size)) (EP X pins σ Q) X.xe { s3 with heap := s3.heap.push { cls := .type "slice", data := .fields #[vl, vu, .none] } }
  exact tail_any (ops := [.ref s3.heap.objs.size, v]) ht hT hg (by with_unfolding_all rfl)

/-! ### t < u, t + u -/
end
end L2

namespace L2
open PySem PySem.Spec PyProof.Rows

/-! ### places -/
/-- the place that an index of any sign means -/
def ixN (n : Nat) (i : Int) : Option Nat := if 0 ≤ i then (if i < n then some i.toNat else none) else if -(n : Int) ≤ i then some (i + n).toNat else none
def atI {α : Type} (xs : List α) (i : Int) : Option α := (ixN xs.length i).bind fun j => xs[j]?
theorem ixN_seq {n : Nat} {i : Int} {j : Nat} (h : ixN n i = some j) : seqIndex? i n = some j ∧ j < n ∧ -(n : Int) ≤ i ∧ i < n := by
  unfold ixN at h
  by_cases h0 : 0 ≤ i
  · rw [if_pos h0] at h
    by_cases h1 : i < n
    · rw [if_pos h1] at h
      have e : i.toNat = j := Option.some.inj h
      exact ⟨by rw [seqIndex_of h0 h1, e], by omega, by omega, h1⟩
    · rw [if_neg h1] at h; cases h
  · rw [if_neg h0] at h
    by_cases h1 : -(n : Int) ≤ i
    · rw [if_pos h1] at h
      have e : (i + n).toNat = j := Option.some.inj h
      exact ⟨by rw [seqIndex_neg (by omega) h1, e], by omega, h1, by omega⟩
    · rw [if_neg h1] at h; cases h
theorem atI_get {α : Type} {xs : List α} {i : Int} {v : α} (h : atI xs i = some v) : ∃ j, seqIndex? i xs.length = some j ∧ xs[j]? = some v ∧ j < xs.length ∧ -(xs.length : Int) ≤ i ∧ i < xs.length := by
  unfold atI at h
  cases e : ixN xs.length i with
  | none => rw [e] at h; cases h
  | some j =>
    rw [e] at h
    obtain ⟨h1, h2, h3, h4⟩ := ixN_seq e
    exact ⟨j, h1, h, h2, h3, h4⟩
theorem atI_nat {α : Type} {xs : List α} {j : Nat} {v : α} (h : xs[j]? = some v) : atI xs (j : Int) = some v := by
  have hj : j < xs.length := (List.getElem?_eq_some_iff.mp h).1
  have e : ixN xs.length (j : Int) = some j := by
    unfold ixN
    rw [if_pos (by omega), if_pos (by omega)]; simp
  unfold atI; rw [e]; exact h

/-! ### what may be subscripted -/
/-- what stands as an index of a plain subscript -/
def PlainIx (b : Expr) : Prop := ∀ o i, subscripted b false o i = operate [o, i] (getItem o i)
/-- a subscript by values -/
def IxR (X : Cx) (r : R2) : Prop :=
  ∀ (value slice : Expr) (pins : List (Addr × Obj)) (s : Shared) (σ : St) (H : Hp) (x y : V) (v u : Value) (Q : VK), Inv X pins σ H s → RelV x v → RelV y u → r x y H Q →
    subscripted slice false v u = operate [v, u] (getItem v u) → wpAny (model X.prog X.w) X.A (subscriptTail value slice v u) (EP X pins σ Q) X.xe s
/-- a call of a builtin's method by values: the receiver, the arguments -/
def MtR (X : Cx) (id : String) (r : V → List V → Hp → VK → Prop) : Prop :=
  ∀ (pins : List (Addr × Obj)) (s : Shared) (σ : St) (H : Hp) (x : V) (xs : List V) (v : Value) (us : List Value) (Q : VK), Inv X pins σ H s → RelV x v → Vals xs us → r x xs H Q →
    wpAny (model X.prog X.w) X.A (call (.builtin id) (v :: us)) (EP X pins σ Q) X.xe s
section
variable {X : Cx} {a b : Expr} {ta tb : TE} {pos : Pos}
/-- a[b] -/
theorem pe_ix {r : R2} (hr : IxR X r) (ha : PE X a ta) (hb : PE X b tb) (hs : PlainIx b) : PE X (.Subscript a b pos) (tOp r ta tb) := by
  intro pins s σ H Q I h
  exact Subscript_ (binT ha hb I h fun v u s2 x y H2 I2 rx ry q => hr a b pins s2 σ H2 x y v u Q I2 rx ry q (hs _ _))

def rIxL (K : PySem.W.Frag) : R2 := fun x y H Q => ∃ p xs i v, x = .ref p ∧ y = .int i ∧ SqL K H p xs ∧ atI xs i = some v ∧ Q v H
def rIxT (K : PySem.W.Frag) : R2 := fun x y H Q => ∃ p xs i v, x = .ref p ∧ y = .int i ∧ SqT K H p xs ∧ atI xs i = some v ∧ Q v H
def rIxS : R2 := fun x y H Q => ∃ z i c, x = .str z ∧ y = .int i ∧ z.length ≤ sizeLine ∧ atI z.cps.toList i = some c ∧ Q (.str ⟨#[c]⟩) H
theorem ix_list : IxR X (rIxL X.K) := by
  intro value slice pins s σ H x y v u Q I rx ry h hs
  obtain ⟨p, xs, i, z, rfl, rfl, hq, he, q⟩ := h
  cases rx
  obtain ⟨t, rfl⟩ := ry
  obtain ⟨its, r, pl, hz⟩ := I.list hq
  obtain ⟨j, h1, h2, h3, h4, h5⟩ := atI_get he
  obtain ⟨w, ew, rw'⟩ := r.get h2
  have hl := r.length
  have hn := line63
  have fin : EP X pins σ Q w s := ⟨z, H, I, rw', q⟩
  by_cases h0 : 0 ≤ i
  · have hj : i.toNat = j := by
      rw [seqIndex_of h0 h5] at h1
      exact Option.some.inj h1
    exact item_listR pl.isList h0 (by omega) (by rw [hj]; simpa using ew) fin hs
  · have hj : (i + (its.toArray.size : Int)).toNat = j := by
      rw [seqIndex_neg (by omega) h4] at h1
      rw [List.size_toArray, ← hl]
      exact Option.some.inj h1
    exact subscriptTail_builtinR (x := w) pl.isList.typeIs slot_list_getitem.lookup
      (wpAny_getItem_list_neg (Q := fun r s' => r = w ∧ EP X pins σ Q r s') pl.isList (by omega) (by rw [List.size_toArray] <;> omega) (by omega) (by rw [hj]; simpa using ew) ⟨rfl, fin⟩) hs
theorem ix_tup : IxR X (rIxT X.K) := by
  intro value slice pins s σ H x y v u Q I rx ry h hs
  obtain ⟨p, xs, i, z, rfl, rfl, hq, he, q⟩ := h
  cases rx
  obtain ⟨t, rfl⟩ := ry
  obtain ⟨its, r, pl, hz⟩ := I.tuple hq
  obtain ⟨j, h1, h2, h3, h4, h5⟩ := atI_get he
  obtain ⟨w, ew, rw'⟩ := r.get h2
  have hl := r.length
  have hn := line63
  have fin : EP X pins σ Q w s := ⟨z, H, I, rw', q⟩
  exact subscriptTail_builtinR (x := w) pl.typeIs slot_tuple_getitem.lookup
    (getItem_tuple (j := j) (Q := fun r s' => r = w ∧ EP X pins σ Q r s') pl (by omega) (by omega) (by rw [List.size_toArray, ← hl]; exact h1) (by simpa using ew) ⟨rfl, fin⟩) hs
theorem ix_str : IxR X rIxS := by
  intro value slice pins s σ H x y v u Q I rx ry h hs
  obtain ⟨z, i, c, rfl, rfl, hz, he, q⟩ := h
  obtain ⟨t, rfl⟩ := rx
  obtain ⟨t', rfl⟩ := ry
  obtain ⟨j, h1, h2, h3, h4, h5⟩ := atI_get he
  have hl : z.cps.toList.length = z.length := by simp [Str.length]
  rw [hl] at h1 h4 h5
  have hn := line63
  exact tail_any (typeIs_str s z t) slot_str_getitem.lookup (getItem_str (c := c) (by
    have e1 : decide (i < -(2 ^ 63 : Int)) = false := decide_eq_false (by omega)
    have e2 : decide (i ≥ 2 ^ 63) = false := decide_eq_false (by omega)
    rw [e1, e2, Bool.or_false]) (by rw [h1]; simpa using h2) ⟨.str ⟨#[c]⟩, H, I.tok _, ⟨_, rfl⟩, q⟩) hs

/-! ### xs[i] = v, any sign -/
/-- the list's object behind a store -/
theorem mapSeq_set (its : List Value) (n j : Nat) (u : Value) : Obj.mapSeq (·.setIfInBounds j u) { cls := .type "list", data := .seq its.toArray n } = { cls := .type "list", data := .seq (its.set j u).toArray n } := by
  simp [Obj.mapSeq]
theorem Inv.lst {pins : List (Addr × Obj)} {σ : St} {H : Hp} {s : Shared} {p : Addr} {xs : List V} (I : Inv X pins σ H s) (h : H p = some (.lst xs)) :
    ∃ (its : List Value) (n : Nat), Vals xs its ∧ s.heap.get? p = some { cls := .type "list", data := .seq its.toArray n } ∧ xs.length ≤ sizeLine := by
  obtain ⟨z, its, n, r, e⟩ := I.hok p _ h
  exact ⟨its, n, r, e, z⟩
/-- the list at p is written by an update of its object -/
theorem Inv.lstUpd {pins : List (Addr × Obj)} {σ : St} {H : Hp} {s : Shared} {p : Addr} {xs ys : List V} {its its' : List Value} {n n' : Nat} {f : Obj → Obj} (I : Inv X pins σ H s) (h : H p = some (.lst xs))
    (ho : s.heap.get? p = some { cls := .type "list", data := .seq its.toArray n }) (hf : f { cls := .type "list", data := .seq its.toArray n } = { cls := .type "list", data := .seq its'.toArray n' }) (r : Vals ys its') (hz : ys.length ≤ sizeLine) (t : Nat) :
    Inv X pins σ (upd H p (.lst ys)) { s with heap := s.heap.update p f, toks := t } := by
  have e : (s.heap.update p f).get? p = some { cls := .type "list", data := .seq its'.toArray n' } := by
    rw [Heap.get?_update_self f ho (by rw [hf] <;> rfl), hf]
  refine I.write (x := p) (e := p) (by rw [h]; trivial) (.inl rfl) (fun b u hb q => (Heap.get?_update_other _ _ (Ne.symm hb)).trans q) ⟨_, e⟩ ?_
  exact ⟨hz, its', n', r, e⟩
def rSetL : V → V → V → Hp → (Hp → Prop) → Prop := fun o i v H Q => ∃ p xs k j, o = .ref p ∧ i = .int k ∧ H p = some (.lst xs) ∧ ixN xs.length k = some j ∧ Q (upd H p (.lst (xs.set j v)))
theorem set_list : PSet X rSetL := by
  intro pins s σ H o i v ov iv u Q I ro ri rv h
  obtain ⟨p, xs, k, j, rfl, rfl, hp, hj, q⟩ := h
  cases ro
  obtain ⟨t, rfl⟩ := ri
  obtain ⟨its, n, r, ho, hz⟩ := I.lst hp
  obtain ⟨h1, h2, h3, h4⟩ := ixN_seq hj
  have hl := r.length
  have hn := line63
  have I' : Inv X pins σ (upd H p (.lst (xs.set j v))) { s with heap := s.heap.update p (Obj.mapSeq (·.setIfInBounds j u)) } :=
    I.lstUpd hp ho (mapSeq_set its n j u) (r.set rv j) (by rw [List.length_set]; exact hz) s.toks
  by_cases h0 : 0 ≤ k
  · have hk : k.toNat = j := by
      rw [seqIndex_of h0 h4] at h1
      exact Option.some.inj h1
    exact PySem.W.ki_setAt ho h0 (by omega) (by rw [List.size_toArray, ← hl]; exact h4) (by rw [hk]; exact ⟨_, I', q⟩)
  · have hk : (k + (its.toArray.size : Int)).toNat = j := by
      rw [seqIndex_neg (by omega) h3] at h1
      rw [List.size_toArray, ← hl]
      exact Option.some.inj h1
    exact PySem.W.ki_setBack ho (by omega) (by rw [List.size_toArray, ← hl]; exact h3) (by omega) (by rw [hk]; exact ⟨_, I', q⟩)

/-! ### slices -/

/-! ### in, not in: flat items -/

/-! ### len, list(x), tuple(x) of any list or tuple that is read -/
theorem call_len_seq : CallR X (.builtin "len") (fun xs H Q => ∃ p ys, xs = [.ref p] ∧ (SqL X.K H p ys ∨ SqT X.K H p ys) ∧ Q (.int ys.length) H) := by
  intro pins s σ H xs us Q I r h
  obtain ⟨p, ys, rfl, hq, q⟩ := h
  obtain ⟨u, rfl, rx⟩ := vals1 r
  cases rx
  have hn := line63
  rcases hq with hq | hq
  · obtain ⟨its, r', pl, hz⟩ := I.list hq
    have hlen := r'.length
    exact Calls.call_len_list pl.isList (by simp only [List.size_toArray] <;> omega) ⟨.int ys.length, H, I.tok _, ⟨s.toks + 1, by rw [List.size_toArray, hlen]⟩, q⟩
  · obtain ⟨its, r', pl, hz⟩ := I.tuple hq
    have hlen := r'.length
    exact len_tuple pl (by simp only [List.size_toArray] <;> omega) ⟨.int ys.length, H, I.tok _, ⟨s.toks + 1, by rw [List.size_toArray, hlen]⟩, q⟩
theorem call_len_str : CallR X (.builtin "len") (fun xs H Q => ∃ z, xs = [.str z] ∧ z.length ≤ sizeLine ∧ Q (.int z.length) H) := by
  intro pins s σ H xs us Q I r h
  obtain ⟨z, rfl, hz, q⟩ := h
  obtain ⟨u, rfl, t, rfl⟩ := vals1 r
  have hn := line63
  exact len_str (by omega) ⟨.int z.length, H, I.tok _, ⟨_, rfl⟩, q⟩
theorem call_list_of : CallR X (.type "list") (fun xs H Q => ∃ p ys, xs = [.ref p] ∧ (SqL X.K H p ys ∨ SqT X.K H p ys) ∧ ∀ l, H l = none → Q (.ref l) (upd H l (.lst ys))) := by
  intro pins s σ H xs us Q I r h
  obtain ⟨p, ys, rfl, hq, q⟩ := h
  obtain ⟨u, rfl, rx⟩ := vals1 r
  cases rx
  have fin : ∀ (its : List Value), Vals ys its → ys.length ≤ sizeLine → ∀ (h' : Heap) (c' : Nat), (∀ b o', s.heap.get? b = some o' → h'.get? b = some o') →
      h'.get? s.heap.objs.size = some { cls := .type "list", dict := none, data := .seq its.toArray c', slots := #[] } → EP X pins σ Q (.ref s.heap.objs.size) { s with heap := h' } := fun its r' hz h' c' kp e =>
    ⟨.ref s.heap.objs.size, _, I.laid (t' := s.toks) kp (Nat.le_refl _) (show ObjOk X.prog X.w _ h' _ (.lst ys) from ⟨hz, its, c', r', e⟩), rfl, q _ (I.hok.fresh (Nat.le_refl _))⟩
  rcases hq with hq | hq
  · obtain ⟨its, r', pl, hz⟩ := I.list hq
    have hlen := r'.length
    obtain ⟨o, ho, hc, n, hd⟩ := pl.isList
    exact call_list_seq p (.inl rfl) ho hc hd (fun h' c' kp e => fin its r' hz h' c' kp e) (by simp only [List.size_toArray] <;> omega)
  · obtain ⟨its, r', pl, hz⟩ := I.tuple hq
    have hlen := r'.length
    obtain ⟨o, ho, hc, n, hd⟩ := pl
    exact call_list_seq p (.inr rfl) ho hc hd (fun h' c' kp e => fin its r' hz h' c' kp e) (by simp only [List.size_toArray] <;> omega)

/-! ### the call of a builtin's method: o.m(..) -/
/-- the value is of that builtin type -/
def tyV (K : PySem.W.Frag) (T : String) (x : V) (H : Hp) : Prop := match x with
  | .str _ => T = "str"
  | .int _ => T = "int"
  | .ref p => (T = "list" ∧ ∃ xs, SqL K H p xs) ∨ (T = "tuple" ∧ ∃ o, K.lookup p = some o ∧ o.cls = .type "tuple" ∧ o.dict = none) ∨
      (T = "dict" ∧ ((∃ kvs, H p = some (.dK kvs)) ∨ ∃ kvs, H p = some (.dT kvs))) ∨ (T = "set" ∧ ∃ S n, H p = some (.set S n))
  | _ => False
theorem tyV_is {pins : List (Addr × Obj)} {σ : St} {H : Hp} {s : Shared} {T : String} {x : V} {v : Value} (I : Inv X pins σ H s) (r : RelV x v) (ty : tyV X.K T x H) :
    s.TypeIs v T ∧ ∀ a, v = .ref a → ∃ ob, s.heap.get? a = some ob ∧ ob.dict = none := by
  cases x with
  | str z =>
    obtain ⟨t, rfl⟩ := r
    cases (show T = "str" from ty)
    exact ⟨typeIs_str s z t, fun _ e => nomatch e⟩
  | int i =>
    obtain ⟨t, rfl⟩ := r
    cases (show T = "int" from ty)
    exact ⟨typeIs_int s i t, fun _ e => nomatch e⟩
  | ref p =>
    cases r
    rcases ty with ⟨rfl, xs, hq⟩ | ⟨rfl, o, hk, hc, hd⟩ | ⟨rfl, hk⟩ | ⟨rfl, S, n, hk⟩
    · obtain ⟨its, _, pl, _⟩ := I.list hq
      refine ⟨pl.isList.typeIs, fun a e => ?_⟩
      cases e
      obtain ⟨o, n, e, c, hd, _⟩ := pl
      exact ⟨o, e, hd⟩
    · refine ⟨⟨o, I.kIn p o hk, hc⟩, fun a e => ?_⟩
      cases e
      exact ⟨o, I.kIn _ o hk, hd⟩
    · have z : ∃ o, s.heap.get? p = some o ∧ o.ExactDict := by
        rcases hk with ⟨kvs, hk⟩ | ⟨kvs, hk⟩
        · obtain ⟨_, _, _, _, o, _, _, e, ex, _⟩ := I.hok p _ hk
          exact ⟨o, e, ex⟩
        · obtain ⟨_, _, _, _, o, _, _, e, ex, _⟩ := I.hok p _ hk
          exact ⟨o, e, ex⟩
      obtain ⟨o, e, ex⟩ := z
      refine ⟨⟨o, e, ex.1⟩, fun a e2 => ?_⟩
      cases e2
      exact ⟨o, e, ex.2.1⟩
    · obtain ⟨o, _, _, _, e, ex, _⟩ := I.hok p _ hk
      refine ⟨⟨o, e, ex.1⟩, fun a e2 => ?_⟩
      cases e2
      exact ⟨o, e, ex.2.1⟩
  | _ => exact False.elim ty
def tBM0 (K : PySem.W.Frag) (T : String) (r : V → List V → Hp → VK → Prop) (to : TE) : TE := fun σ H Q => to σ H fun x H1 => tyV K T x H1 ∧ r x [] H1 Q
def tBM (K : PySem.W.Frag) (T : String) (r : V → List V → Hp → VK → Prop) (to : TE) (t : TA) : TE := fun σ H Q => to σ H fun x H1 => tyV K T x H1 ∧ t σ H1 fun xs H2 => r x xs H2 Q
variable {o e : Expr} {es : List Expr} {to : TE} {t : TA} {name : Str} {apos cpos : Pos} {T id : String} {r : V → List V → Hp → VK → Prop}
theorem pe_bm0 (pa : PlainAttrs T) (slot : Slot T name id) (hty : typeOf (.builtin id) = pure (.type "method_descriptor")) (hm : MtR X id r) (ho : PE X o to)
    (hbase : attributeBase o name X.env (eval o X.env) = eval o X.env := by rfl) (hline : (apos.endLine == cpos.line) = true := by rfl) : PE X (.Call (.Attribute o name apos) [] [] cpos) (tBM0 X.K T r to) := by
  intro pins s σ H Q I h
  refine wpAny_Call_method0_late hbase hline (thn (ho pins s σ H _ I h) fun v s1 ⟨x, H1, I1, r1, ty, q1⟩ => ?_)
  obtain ⟨h1, h2⟩ := tyV_is I1 r1 ty
  exact ⟨T, id, pa, slot, hty, h1, h2, Calls.callWith_builtin rfl (PySem.evalArgs_none (hm pins s1 σ H1 x [] v [] Q I1 r1 .nil q1))⟩
theorem pe_bm (pa : PlainAttrs T) (slot : Slot T name id) (hty : typeOf (.builtin id) = pure (.type "method_descriptor")) (hm : MtR X id r) (ho : PE X o to) (ha : PA X (e :: es) t)
    (hbase : attributeBase o name X.env (eval o X.env) = eval o X.env := by rfl)
    (hfew : ((backTo cpos (starEach (e :: es) X.env)).all (fun x => !x.1) && (backToKw cpos (keywordEach [] X.env)).all (fun x => x.1.isSome)
      && decide ((e :: es).length + ([] : List Keyword).length + (if ([] : List Keyword).isEmpty then 0 else 1) < 30)) = true := by rfl)
    (hline : (apos.endLine == cpos.line) = true := by rfl) (hs : starEach (e :: es) X.env = (false, eval e X.env) :: starEach es X.env := by rfl) (hplain : (backTo cpos (starEach es X.env)).any (·.1) = false := by rfl) :
    PE X (.Call (.Attribute o name apos) (e :: es) [] cpos) (tBM X.K T r to t) := by
  intro pins s σ H Q I h
  refine wpAny_Call_method_late hbase hfew hline rfl (thn (ho pins s σ H _ I h) fun v s1 ⟨x, H1, I1, r1, ty, q1⟩ => ?_)
  obtain ⟨h1, h2⟩ := tyV_is I1 r1 ty
  refine ⟨T, id, pa, slot, hty, h1, h2, ?_⟩
  have hA := ha cpos pins s1 σ H1 _ I1 q1
  rw [hs] at hA ⊢
  refine Calls.callWith_builtin (by show (false || (backTo cpos (starEach es X.env)).any (·.1)) = false; rw [hplain] <;> rfl) (Calls.evalArgs_plain ?_)
  exact thn hA fun us s2 ⟨vs, H2, I2, r2, q2⟩ => hm pins s2 σ H2 x vs v us Q I2 r1 r2 q2
/- xs.append(e), list.index on a module's tuple .. are MtR facts of 06m -/
end
end L2

namespace L2
open PySem PySem.Spec PyProof.Rows

def MtM (X : Cx) (id : String) (r : V → List V → Hp → VK → Prop) : Prop :=
  ∀ (pins : List (Addr × Obj)) (s : Shared) (σ : St) (H : Hp) (x : V) (xs : List V) (v : Value) (us : List Value) (Q : VK), Inv X pins σ H s → RelV x v → Vals xs us → r x xs H Q →
    wpAny (model X.prog X.w) X.A (call (.builtin id) (v :: us)) (EP X pins σ Q) X.xe s

/-! ### lists of values -/
theorem Vals.one : ∀ {x : V} {us : List Value}, Vals [x] us → ∃ u, us = [u] ∧ RelV x u
  | _, _, .cons r .nil => ⟨_, rfl, r⟩
theorem Vals.zero : ∀ {us : List Value}, Vals [] us → us = []
  | _, .nil => rfl

section
variable {X : Cx} {pins : List (Addr × Obj)} {σ : St} {H : Hp} {s : Shared} {l b : Addr} {xs ys zs : List V}

/-! ### the two steps: a tracked list is rewritten, a new list is laid -/
theorem Inv.lset {its its' : List Value} {n : Nat} {f : Array Value → Array Value} {t' : Nat} (I : Inv X pins σ H s) (hH : H l = some (.lst xs))
    (e : s.heap.get? l = some { cls := .type "list", data := .seq its.toArray n }) (hf : f its.toArray = its'.toArray) (hv : Vals ys its') (hz : ys.length ≤ sizeLine) :
    Inv X pins σ (upd H l (.lst ys)) { s with heap := s.heap.update l (Obj.mapSeq f), toks := t' } := by
  have q := PySem.IsL.update e f
  rw [hf] at q
  refine I.write (x := l) (e := l) (by rw [hH]; exact trivial) (.inl rfl) (fun b' u hb hu => (Heap.get?_update_other s.heap (Obj.mapSeq f) (Ne.symm hb)).trans hu) ⟨_, q⟩ ?_
  exact ⟨hz, its', _, hv, q⟩
theorem Inv.lnew {its : List Value} {t' : Nat} (I : Inv X pins σ H s) (hv : Vals ys its) (hz : ys.length ≤ sizeLine) :
    Inv X pins σ (upd H s.heap.objs.size (.lst ys)) { s with heap := s.heap.push { cls := .type "list", data := .seq its.toArray }, toks := t' } :=
  I.laid (fun _ _ q => Heap.get?_push_of_some _ q) (Nat.le_refl _) ⟨hz, its, 0, hv, Heap.get?_push_size _ rfl⟩
theorem Inv.fresh (I : Inv X pins σ H s) : H s.heap.objs.size = none := I.hok.fresh (Nat.le_refl _)
theorem Inv.lstM (I : Inv X pins σ H s) (hH : H l = some (.lst xs)) : xs.length ≤ sizeLine ∧ ∃ (its : List Value) (n : Nat), Vals xs its ∧ xs.length = its.length ∧ s.heap.get? l = some { cls := .type "list", data := .seq its.toArray n } := by
  obtain ⟨z, its, n, r, e⟩ := I.hok l _ hH
  exact ⟨z, its, n, r, r.length, e⟩

end

section
variable {X : Cx}

/-! ### methods -/
def rAppend : V → List V → Hp → VK → Prop := fun x vs H Q => ∃ l xs y, x = .ref l ∧ vs = [y] ∧ H l = some (.lst xs) ∧ xs.length < sizeLine ∧ Q .non (upd H l (.lst (xs ++ [y])))
theorem mt_append : MtM X "list.append" rAppend := by
  intro pins s σ H x vs v us Q I rx rv h
  obtain ⟨l, xs, y, rfl, rfl, hH, hz, q⟩ := h
  cases rx
  obtain ⟨u, rfl, ru⟩ := rv.one
  obtain ⟨z, its, n, r, hl, e⟩ := I.lstM hH
  refine call_meets F.slot_list_append ⟨_, e, rfl⟩ F.entry_list_append (F.args_list_append_2 _ _) (PySem.list_append l its.toArray n u (by rw [List.size_toArray]; omega)) ⟨e, ?_⟩
  refine ⟨.non, _, I.lset (its' := its ++ [u]) hH e (by simp) (r.append (.cons ru .nil)) ?_, rfl, q⟩
  rw [List.length_append, List.length_singleton]
  omega

def rClear : V → List V → Hp → VK → Prop := fun x vs H Q => ∃ l xs, x = .ref l ∧ vs = [] ∧ H l = some (.lst xs) ∧ Q .non (upd H l (.lst []))
theorem mt_clear : MtM X "list.clear" rClear := by
  intro pins s σ H x vs v us Q I rx rv h
  obtain ⟨l, xs, rfl, rfl, hH, q⟩ := h
  cases rx
  have hus := rv.zero
  subst hus
  obtain ⟨z, its, n, r, hl, e⟩ := I.lstM hH
  refine call_meets F.slot_list_clear ⟨_, e, rfl⟩ F.entry_list_clear (F.args_list_clear_1 _) (AutoSeq1.list_clear_list_0 l its.toArray n (by rw [List.size_toArray]; omega)) ⟨e, ?_⟩
  exact ⟨.non, _, I.lset (its' := []) (ys := []) hH e rfl .nil (Nat.zero_le _), rfl, q⟩

/-! ### list + list, list += list, list * int -/
def rCat : R2 := fun x y H Q => ∃ l b xs zs, x = .ref l ∧ y = .ref b ∧ H l = some (.lst xs) ∧ H b = some (.lst zs) ∧ xs.length + zs.length ≤ sizeLine ∧ ∀ p, H p = none → Q (.ref p) (upd H p (.lst (xs ++ zs)))
theorem op_cat : OpR X (binaryOp .Add) rCat := by
  intro pins s σ H x y v u Q I rx ry h
  obtain ⟨l, b, xs, zs, rfl, rfl, hH, hB, hz, q⟩ := h
  cases rx
  cases ry
  obtain ⟨z, its, n, r, hl, e⟩ := I.lstM hH
  obtain ⟨z2, its2, n2, r2, hl2, e2⟩ := I.lstM hB
  refine PySem.P.add_list e e2 ?_ (by rw [List.size_toArray, List.size_toArray]; omega)
  have ea : its.toArray ++ its2.toArray = (its ++ its2).toArray := by simp
  rw [ea]
  exact ⟨.ref _, _, I.lnew (t' := s.toks) (r.append r2) (by rw [List.length_append]; omega), rfl, q _ I.fresh⟩

/-! ### del xs[i] -/
end

/-! ### xs[a:b] = ys -/
section
variable {prog : Program} {w : World} {A : Around} {E : Value → Shared → Prop} {s : Shared}
end

section
variable {X : Cx}
end
end L2

namespace L2
open PySem PySem.Spec PyProof.Rows

/-! ### lists of pairs as tables -/
section
variable {κ : Type} [DecidableEq κ]
def valV (kvs : List (κ × V)) (k : κ) : Option V := (kvs.find? fun kv => decide (kv.1 = k)).map (·.2)

theorem valV_pos {p : κ × V} {r : List (κ × V)} {k : κ} (e : p.1 = k) : valV (p :: r) k = some p.2 := by simp [valV, List.find?_cons, e]
theorem valV_neg {p : κ × V} {r : List (κ × V)} {k : κ} (e : ¬ p.1 = k) : valV (p :: r) k = valV r k := by simp [valV, List.find?_cons, e]

theorem RelO.isSome_eq {o : Option V} {u : Option Value} (r : RelO o u) : o.isSome = u.isSome := by
  cases o with
  | none => cases u with
    | none => rfl
    | some _ => exact (show False from r).elim
  | some _ => cases u with
    | none => exact (show False from r).elim
    | some _ => rfl

/-- raw tables of the same keys -/
theorem KV.val {kvs : List (κ × V)} {vs : List (κ × Value)} (r : KV kvs vs) (k : κ) : RelO (valV kvs k) (valueAt vs k) := by
  unfold KV at r
  induction r with
  | nil => exact True.intro
  | @cons p q ps qs h t ih =>
    obtain ⟨h1, h2⟩ := h
    by_cases e : p.1 = k
    · have e' : q.1 = k := h1.symm.trans e
      have b : valueAt (q :: qs) k = some q.2 := by simp [valueAt, List.find?_cons, e']
      rw [valV_pos e, b]; exact h2
    · have e' : ¬ q.1 = k := fun z => e (h1.trans z)
      have b : valueAt (q :: qs) k = valueAt qs k := by simp [valueAt, List.find?_cons, e']
      rw [valV_neg e, b]; exact ih
end

/-! ### a tracked dict, its keys ints and texts or tuples of these -/
theorem kV_is {P : Program} {w : World} {k : Key} {u : Value} (r : RelV (kV k) u) : (mixKind P w).is k u = true := by
  cases k with
  | inl i => obtain ⟨t, e⟩ := (show ∃ t, u = Value.int i t from r); subst e; exact mixKind_int P w i t
  | inr x => obtain ⟨t, e⟩ := (show ∃ t, u = Value.str x t from r); subst e; exact mixKind_str P w x t

section
variable {P : Program} {w : World} {H : Hp} {h : Heap} {a : Addr}
end

section
variable {X : Cx} {pins : List (Addr × Obj)} {σ : St} {H : Hp} {s : Shared} {a : Addr} {y v : V} {u r : Value} {o : Option V} {A : Around} {E : Value → Shared → Prop}

end

section
variable {X : Cx} {pins : List (Addr × Obj)} {σ : St} {H : Hp} {s : Shared} {a : Addr} {kvs : List (Key × V)} {k : Key} {u : Value} {A : Around} {E : Value → Shared → Prop}
end

/-! ### readings and rules -/

section
variable {X : Cx} {o i e value : Expr} {pos pos' tpos : Pos} {td ty tv : TE}
end

/-! ### displays -/
section
variable {X : Cx} {pos : Pos}
end

/-! ### methods -/

section
variable {X : Cx} {pins : List (Addr × Obj)} {σ : St} {H : Hp} {s : Shared} {a : Addr} {y d : V} {u r : Value} {o : Option V} {A : Around} {E : Value → Shared → Prop}
end

section
variable {X : Cx} {o e f : Expr} {apos cpos : Pos} {td ty tx : TE}
end

/-! ### dict(d): a copy -/
section
variable {X : Cx} {pins : List (Addr × Obj)} {σ : St} {H : Hp} {s : Shared} {a : Addr} {kvs : List (Key × V)} {A : Around} {E : Value → Shared → Prop}
end

section
variable {X : Cx} {pins : List (Addr × Obj)} {σ : St} {H : Hp} {s : Shared} {a : Addr} {y : V} {u : Value} {A : Around} {E : Value → Shared → Prop}
end
end L2

namespace Att
open PySem PySem.W PySem.Calls PyProof.Rows

/-! ### the script -/
theorem ints_of_wellAll {P : Params} {h : Heap} : ∀ (ns : List Int) (vs : List Value), WellAll P h vs (ns.map WData.int) → IntsAre vs ns := by
  intro ns
  induction ns with
  | nil =>
    intro vs w
    rw [List.map_nil] at w
    cases w
    exact .nil
  | cons n ns ih =>
    intro vs w
    rw [List.map_cons] at w
    cases w with
    | cons a b =>
      cases a
      exact .cons _ _ (ih _ b)

theorem script_of {l : OpenLaw} {n : Nat} (hn : l.most = some n) {P : Params} {h : Heap} {args : List WData} {vals : List Value}
    (hpre : l.row.toRowW.claim.pre args = true) (hwl : WellAll P h vals args) :
    ∃ a vs ns, vals = [Value.ref a] ∧ args = [WData.list (ns.map WData.int)] ∧ h.get? a = some { cls := .type "list", data := .seq vs.toArray } ∧ IntsAre vs ns ∧ ns.length ≤ n := by
  have hsh : WShape.hasAll [] args [.list .int] = true := (pre_splitW hpre).1
  have hc : l.pre.holds [] { args := args } = true := (pre_splitW hpre).2
  obtain ⟨d, r, rfl, h1, h2⟩ := hasAllW_cons hsh
  obtain rfl := hasAllW_nil h2
  obtain ⟨xs, rfl, h3⟩ := hasW_list h1
  obtain ⟨ns, rfl⟩ := items_int h3
  have hlen : ns.length ≤ n := by
    unfold OpenLaw.pre at hc
    have h4 : (WTm.not (.lt (.lit (.int (n : Int))) (.len (.arg 0)))).holds [] { args := [.list (ns.map .int)] } = true := by
      have h4 := (holds_andW hc).1
      rw [hn] at h4
      exact h4
    have h5 := condW_of h4 (w_not (w_lt w_lit (w_len_list (w_arg rfl))))
    rw [List.length_map] at h5
    refine Nat.le_of_not_lt fun q => ?_
    have q' : (n : Int) < ((ns.length : Nat) : Int) := by omega
    first
      | (rw [decide_eq_true q'] at h5; exact absurd h5 (by decide))
      | (simp at h5; omega)
  cases hwl with
  | cons w1 w2 =>
    cases w2
    cases w1 with
    | list ho hall => exact ⟨_, _, ns, rfl, rfl, ho, ints_of_wellAll ns _ hall, hlen⟩

theorem post_true (l : OpenLaw) (args : List WData) : l.row.toRowW.claim.post args (.bool true) args = true :=
  postW_of (r := l.row.toRowW) (X := (true == true))
    (show WShape.has [] (.bool true) .bool = true by first | rfl | decide | simp [WShape.has, WShape.arms, WShape.armsAll])
    (show (WTm.eq .res (.lit (.bool true))).value [] { args := args, res := some (.bool true), after := args } = some (.bool (true == true)) from w_eq_bool (w_res rfl) w_lit) rfl

/-! ### the attachment: holds_open's last premise (the goal 'hc' behind k_head) from a wpAny of the law's body -/

/-- the same from a codeAny of the CALL (for a layer whose function contracts speak of calls) -/
theorem attach_call {l : OpenLaw} {n : Nat} {q : Program} {loose : List Str} {XP : (Str → Option Value) → Heap → Prop} {YP : World → Heap → Prop} {d : DefRec}
    (hn : l.most = some n) (hdf : d.params.defaults = [])
    (call : ∀ (w : World) (s₀ s₁ : Shared) (mg mb : Str → Option Value) (fa : Addr) (o : Obj) (pm cd doc : Value) (a : Addr) (vs : List Value) (ns : List Int),
      Ground q loose [] XP w s₀ mg mb s₁.heap → YP w s₁.heap →
      s₁.heap.get? fa = some o → o.data = .func (docDef d.name d.params d.body d.scope pm cd doc) → s₁.heap.CodeRec cd d.name → mg d.name = some (.ref fa) →
      s₁.heap.get? a = some { cls := .type "list", data := .seq vs.toArray } → IntsAre vs ns → ns.length ≤ n → s₁.gens = #[] →
      codeAny (model l.prog w) callerA (.call (.ref fa) ⟨[.ref a], []⟩) (fun r s' => r = .ok (.ret (.bool true)) ∧ OldK s₁.heap s'.heap ∧ s'.os = s₁.os ∧ AllBare s'.gens) s₁) :
    WalkO q loose XP YP l.row.toRowW d [] (fun f vs => PySem.call f vs) := by
  intro w s₀ s₁ mg mb G Y fa o pm cd doc dV kV ho hd hcd hD hmg hg args vals as hpre hlay hrd hwl hlo
  obtain rfl : dV = .none := Dflts.none hD hdf
  obtain rfl : kV = .none := Dflts.noKw hD
  obtain ⟨a, vs, ns, rfl, rfl, hobj, hints, hlen⟩ := script_of hn hpre hwl
  refine enter_call (codeAny_mono (call w s₀ s₁ mg mb fa o pm cd doc a vs ns G Y ho (fd_plain hd) hcd hmg hobj hints hlen hg) fun r s' hq => ?_)
  obtain ⟨rfl, h2, h3, h4⟩ := hq
  exact ⟨.inl ⟨.bool true, .bool true, [], rfl, fun _ => rfl, .bool true, post_true l _, fun _ => ⟨List.Pairwise.nil, fun _ hm => (nomatch hm)⟩⟩, h2, h3, h4⟩

/-! ### rules over ANY heap (no ledger) from facts about the written part K: the library's own take a ledger (News) for what they write -/
section
variable {prog : Program} {w : World} {A : Around} {E : Value → Shared → Prop} {s : Shared} {K : Frag}

/-! the whole heap as the ledger: makes every rule that writes through a ledger a rule over any heap -/

end
end Att

namespace L2
open PySem PySem.Spec PyProof.Rows

theorem vals_ints : ∀ {vs : List Value} {ns : List Int}, IntsAre vs ns → Vals (ns.map V.int) vs
  | _, _, .nil => .nil
  | _, _, .cons n t h => .cons ⟨t, rfl⟩ (vals_ints h)

/-- nothing is tracked but the script, known to the object (or it is an object of the module) -/
def Only (H : Hp) : Prop := ∀ b, H b = none ∨ ∃ o xs, H b = some (.frz o (.lst xs))

/-- THE HEAD: the law's promise, at the heap behind the top. F, the promise of the law's def, may use that base is part of the heap (so K.In base, base.Ns mainGlobals mg stand in Mod) -/
theorem law_call {P : Program} {w : World} {K : PySem.W.Frag} {mg mb : Str → Option Value} {CX : CXT} {k : Nat} {fa a : Addr} {fd : FuncData} {x : Str} {sp : Sp} {s₁ : Shared} {vs : List Value} {ns : List Int}
    (KX : K.In s₁.heap) (hns : s₁.heap.Ns mainGlobals mg) (hb : s₁.heap.Ns builtinsNs mb) (hbb : ∀ x : Str, x ≠ "__name__" → mb x = bootBuiltins x) (hlim : s₁.heap.NoLimit) (hg : s₁.gens = #[])
    (ha : s₁.heap.get? a = some { cls := .type "list", data := .seq vs.toArray }) (hi : IntsAre vs ns) (hl : ns.length ≤ sizeLine) (hr : Room k callerA)
    (F : ∀ base : Heap, K.In base → base.Ns mainGlobals mg → FnOk P w K mg base CX k fa fd [x] sp) (hbind : ∀ (s : Shared) (u : Value), BindsTo s fd ⟨[u], []⟩ [(x, u)])
    (hsp : ∀ H : Hp, Only H → SqL K H a (ns.map V.int) → sp [.ref a] H (fun v _ => v = .bl true) fun _ _ _ => False)
    (hCX : ∀ H e s', CX [] H s₁ (fun _ _ _ => False) e s' → False) :
    codeAny (model P w) callerA (.call (.ref fa) ⟨[.ref a], []⟩) (fun r s' => r = .ok (.ret (.bool true)) ∧ OldK s₁.heap s'.heap ∧ s'.os = s₁.os ∧ AllBare s'.gens) s₁ := by
  have rv := vals_ints hi
  have lenV := hi.length
  -- from an abstract heap in which nothing but the script may be tracked
  have core : ∀ H : Hp, Only H → SqL K H a (ns.map V.int) → HOk P w H s₁.heap → (∀ b, H b ≠ none → b = a) → (H a ≠ none → K.lookup a = none) →
      codeAny (model P w) callerA (.call (.ref fa) ⟨[.ref a], []⟩) (fun r s' => r = .ok (.ret (.bool true)) ∧ OldK s₁.heap s'.heap ∧ s'.os = s₁.os ∧ AllBare s'.gens) s₁ := by
    intro H hO hS hok hA hK
    have base_of : ∀ {b : Addr} {o : Obj}, s₁.heap.get? b = some o → H b = none → (hidT s₁.heap H).get? b = some o := fun e n => hidT_get e n
    have noA : ∀ {b : Addr} {o : Obj} {es : Array DictEntry} {ep : Nat}, s₁.heap.get? b = some o → o.data = .dict es ep → H b = none := fun {b o es ep} e d => by
      cases q : H b with
      | none => rfl
      | some u =>
        have e' : b = a := hA b (by rw [q]; simp)
        subst e'
        rw [ha] at e; cases e
        have d' : Data.seq vs.toArray _ = Data.dict es ep := d
        cases d'
    have nsK : ∀ {b : Addr} {m : Str → Option Value}, s₁.heap.Ns b m → (hidT s₁.heap H).Ns b m := fun {b m} ⟨o, es, ep, e, d, r⟩ => ⟨o, es, ep, base_of e (noA e d), d, r⟩
    have hKb : K.In (hidT s₁.heap H) := fun b o e => base_of (KX b o e) (by
      cases q : H b with
      | none => rfl
      | some u =>
        have e' : b = a := hA b (by rw [q]; simp)
        subst e'
        rw [hK (by rw [q]; simp)] at e; cases e)
    have hM : Mod K mg (hidT s₁.heap H) := ⟨hKb, nsK hns, ⟨mb, nsK hb, hbb⟩, let ⟨mc, h1, h2⟩ := hlim; ⟨mc, nsK h1, h2⟩⟩
    have e0 : Env0 P w K mg (hidT s₁.heap H) callerA [] s₁ H := ⟨rfl, hM, fun b o e => of_hidT e, Nat.le_of_eq (hidT_size _ _), trivial, fun b hb => absurd (show b ∈ ([] : List Addr) from hb) (by simp), hok, .of_eq hg⟩
    refine codeAny_mono ((F _ hKb (nsK hns)).run callerA [] s₁ H ⟨[.ref a], []⟩ [.ref a] [.ref a] _ _ hr e0 (hbind s₁ (.ref a)) (.cons rfl .nil) (hsp H hO hS)) fun r s' h => ?_
    cases r with
    | error e => exact (hCX H e s' h).elim
    | ok fl =>
      cases fl with
      | next => exact False.elim h
      | brk => exact False.elim h
      | cont => exact False.elim h
      | ret u =>
        obtain ⟨v, H', os, bare, un, hok', r', q⟩ := h
        have q' : v = .bl true := q
        subst q'
        obtain rfl : u = Value.bool true := r'
        refine ⟨rfl, OldK.of_keep fun b o e => ?_, os, bare⟩
        cases q : H b with
        | none => exact un.keep b o e q (by intro z; exact absurd (show b ∈ ([] : List Addr) from z) (by simp)) (by simp)
        | some u =>
          rcases hO b with z | ⟨ob, xs, z⟩
          · rw [q] at z; cases z
          · have z2 := un.frzs b ob _ z
            obtain ⟨e1, _⟩ := hok b _ z
            obtain ⟨e2, _⟩ := hok' b _ z2
            rw [e] at e1; cases e1
            exact e2
  cases hk : K.lookup a with
  | some o =>
    -- the script is one of the module's own objects
    have e := KX a o hk
    rw [ha] at e
    cases e
    refine core (fun _ => none) (fun _ => .inl rfl) (.inr ⟨_, vs.toArray, _, hk, rfl, rfl, rfl, by rw [List.size_toArray, lenV]; exact hl, by simpa using rv⟩) (fun b u z => by have z' : (none : Option HO) = some u := z; cases z') (fun b z => absurd rfl z) fun z => absurd rfl z
  | none =>
    refine core (fun b => if b = a then some (.frz { cls := .type "list", data := .seq vs.toArray } (.lst (ns.map V.int))) else none) (fun b => ?_) (.inl (.inr ⟨{ cls := .type "list", data := .seq vs.toArray }, if_pos rfl⟩)) (fun b u z => ?_) (fun b z => ?_) fun _ => hk
    · by_cases hb : b = a
      · exact .inr ⟨_, _, if_pos hb⟩
      · exact .inl (if_neg hb)
    · by_cases hb : b = a
      · have z' := (if_pos hb).symm.trans z
        cases z'
        subst hb
        exact ⟨ha, by rw [List.length_map]; exact hl, vs, _, rv, ha⟩
      · have z' := (if_neg hb).symm.trans z
        cases z'
    · by_cases hb : b = a
      · exact hb
      · exact absurd (if_neg hb) z
end L2

namespace L2
open PySem PySem.Spec PyProof.Rows

/-- the goal that k_head leaves (case hc), from the law's promise. F gives the function object fd (K's own) once, then the promise over every base -/
theorem walk_of {l : PySem.W.OpenLaw} {n k : Nat} {q : Program} {loose : List Str} {XP : (Str → Option Value) → Heap → Prop} {YP : World → Heap → Prop} {d : DefRec} {K : Params → PySem.W.Frag} {CX : World → CXT} {sp : World → Sp} {x : Str}
    (hn : l.most = some n) (hn2 : n ≤ sizeLine) (hdf : d.params.defaults = []) (hr : Room k callerA)
    (hY : ∀ (w : World) (h : Heap), YP w h → (K w.params).In h)
    (F : ∀ (w : World) (mg : Str → Option Value) (fa : Addr) (h : Heap), (K w.params).In h → h.Ns mainGlobals mg → mg d.name = some (.ref fa) →
      ∃ fd : FuncData, (∀ (s : Shared) (u : Value), BindsTo s fd ⟨[u], []⟩ [(x, u)]) ∧
        ∀ base : Heap, (K w.params).In base → base.Ns mainGlobals mg → FnOk l.prog w (K w.params) mg base (CX w) k fa fd [x] (sp w))
    (hsp : ∀ (w : World) (H : Hp) (a : Addr) (ns : List Int), ns.length ≤ n → Only H → SqL (K w.params) H a (ns.map V.int) → sp w [.ref a] H (fun v _ => v = .bl true) fun _ _ _ => False)
    (hCX : ∀ (w : World) (H : Hp) (s : Shared) (e : Value) (s' : Shared), CX w [] H s (fun _ _ _ => False) e s' → False) :
    PySem.W.WalkO q loose XP YP l.row.toRowW d [] (fun f vs => PySem.call f vs) := by
  refine Att.attach_call hn hdf fun w s₀ s₁ mg mb fa o pm cd doc a vs ns G Y ho hd hcd hmg hobj hints hlen hg => ?_
  have KX := hY w _ Y
  obtain ⟨fd, hb, hF⟩ := F w mg fa _ KX G.T.g hmg
  exact law_call KX G.T.g G.T.b G.T.builtins G.T.nolimit hg hobj hints (Nat.le_trans hlen hn2) hr hF hb (fun H hO hS => hsp w H a ns hlen hO hS) fun H e s' => hCX w H s₁ e s'
/-- the same where the promise hangs on the written part alone: (sp := My.sp_law), no hole under a binder -/
theorem walk_ofK {l : PySem.W.OpenLaw} {n k : Nat} {q : Program} {loose : List Str} {XP : (Str → Option Value) → Heap → Prop} {YP : World → Heap → Prop} {d : DefRec} {K : Params → PySem.W.Frag} {CX : CXT} {sp : PySem.W.Frag → Sp} {x : Str}
    (hn : l.most = some n) (hn2 : n ≤ sizeLine) (hdf : d.params.defaults = []) (hr : Room k callerA)
    (hY : ∀ (w : World) (h : Heap), YP w h → (K w.params).In h)
    (F : ∀ (w : World) (mg : Str → Option Value) (fa : Addr) (h : Heap), (K w.params).In h → h.Ns mainGlobals mg → mg d.name = some (.ref fa) →
      ∃ fd : FuncData, (∀ (s : Shared) (u : Value), BindsTo s fd ⟨[u], []⟩ [(x, u)]) ∧
        ∀ base : Heap, (K w.params).In base → base.Ns mainGlobals mg → FnOk l.prog w (K w.params) mg base CX k fa fd [x] (sp (K w.params)))
    (hsp : ∀ (K : PySem.W.Frag) (H : Hp) (a : Addr) (ns : List Int), ns.length ≤ n → Only H → SqL K H a (ns.map V.int) → sp K [.ref a] H (fun v _ => v = .bl true) fun _ _ _ => False)
    (hCX : ∀ (H : Hp) (s : Shared) (e : Value) (s' : Shared), CX [] H s (fun _ _ _ => False) e s' → False) :
    PySem.W.WalkO q loose XP YP l.row.toRowW d [] (fun f vs => PySem.call f vs) :=
  walk_of (K := K) (CX := fun _ => CX) (sp := fun w => sp (K w.params)) hn hn2 hdf hr hY F (fun w H a ns h1 h2 h3 => hsp (K w.params) H a ns h1 h2 h3) fun _ H s e s' => hCX H s e s'
end L2

/- THE LAST THEOREM (shape; LID, My.* are yours):
   My.Adr: a structure of the addresses that your layer names (classes, functions); My.Txt K t: a structure (Prop) of the equations over K;
   My.txt_mk : {K} {implicit addresses ..} (e1 : nsIn K mainGlobals "law" = some (some (.ref f))) (e2 : K.lookup f = some ⟨oc, od, .func (fnOf "law" "law" params body scope dV kV doc pm an cdv ct), sl⟩) (e3 : codeIn K cdv "law" = true) .. : ∃ t, My.Txt K t

set_option maxRecDepth 100000 in
set_option maxHeartbeats 0 in
theorem PySem.Challenge.cw_LID_holds : PySem.Challenge.rw_LID.Holds := by
  w_on; o_law; k_head; (case hw => w_witness2)
  k_fill
  refine L2.walk_of (l := PySem.Challenge.rw_LID) (n := 63) (k := 40) (x := "script") (CX := fun w => ..) (sp := fun _ => My.sp_law) rfl (by decide) rfl ⟨rfl, by decide, by decide⟩ (fun w h Y => PySem.W.kIn_of Y) ?F ?S ?C
  case F =>
    intro w mg fa h KX G hmg
    have T : ∃ t, My.Txt (L2.KOf KX) t := by
      dsimp only [L2.KOf]                          -- K must stand as «<heap const> w.params» for k_is
      refine' My.txt_mk ?e1 ?e2 ?e3 ..
      (case e1 => PySem.W.k_is)                    -- in the order: a name -> its address -> its object -> its parts
      (case e2 => PySem.W.k_is)
      ..
    obtain ⟨t, T⟩ := T
    have e0 := hmg.symm.trans (PySem.W.mg_of KX G T.law)
    cases e0                                       -- fa is the law's own address
    exact ⟨_, fun s u => .of_eq rfl, fun base kb nb => My.law_fn T kb nb⟩     -- if «.of_eq rfl» comes too early: refine' ⟨_, ?b, fun base kb nb => My.law_fn T kb nb⟩; exact fun s u => .of_eq rfl
  case S => exact fun w H a ns hl hO hS => ..
  case C => exact ..
(the tactic k_is has no namespace: write k_is) -/

/-! SHORT WORDS over the layer: a def of the text, its body, what a loop and a test want. -/
namespace L2
open PySem PySem.Spec PyProof.Rows

/-! ### the text by places -/
/-- the j-th statement of a class's body -/
def inClass (s : Stmt) (j : Nat) : Stmt := match s with
  | .ClassDef _ _ _ body _ _ _ _ _ _ _ => body.getD j (.Pass ⟨0, 0, 0, 0⟩)
  | _ => .Pass ⟨0, 0, 0, 0⟩
def defArgs (s : Stmt) : Arguments := match s with
  | .FunctionDef _ a _ _ _ _ _ _ _ _ => a
  | _ => { posonlyargs := [], args := [], vararg := none, kwonlyargs := [], kw_defaults := [], kwarg := none, defaults := [] }
def defBody (s : Stmt) : List Stmt := match s with
  | .FunctionDef _ _ b _ _ _ _ _ _ _ => b
  | _ => []
def defScope (s : Stmt) : Scope := match s with
  | .FunctionDef _ _ _ _ _ _ sc _ _ _ => sc
  | _ => { kind := .function, names := [], isGenerator := false, isCoroutine := false }

/-! ### no exception leaves a def -/
abbrev CX0 : CXT := fun _ _ _ _ _ _ => False
abbrev E0 : XK := fun _ _ _ => False
theorem pass0 {X : Cx} : Passes CX0 X E0 := fun _ _ _ _ _ _ _ h => h.elim

/-! ### a def (or method) of the text as it stands behind the top -/
structure Fun (K : PySem.W.Frag) (x qual : Str) (st : Stmt) (f : Addr) (fd : FuncData) : Prop where
  ex : ∃ (oc : Value) (od : Option Addr) (kV doc pm : Value) (an : Option Addr) (cdv ct : Value) (osl : Array (Option Value)),
    fd = PySem.W.fnOf x qual (defArgs st) (defBody st) (defScope st) .none kV doc pm an cdv ct ∧ K.lookup f = some ⟨oc, od, .func fd, osl⟩ ∧ PySem.W.codeIn K cdv qual = true
  kp : PySem.W.keepIn K (.ref f) = true
section
variable {P : Program} {w : World} {K : PySem.W.Frag} {mg : Str → Option Value} {base : Heap}
/-- THE RULE for a def: its body as a term of rules, and the reading of that term -/
theorem Fun.ok {x qual : Str} {st : Stmt} {f : Addr} {fd : FuncData} {N ps : List Str} {k : Nat} {sp : Sp} (F : Fun K x qual st f fd) (S : FnScope N ps (defScope st)) (len : ∀ vs H Q E, sp vs H Q E → vs.length = ps.length)
    (hbody : ∀ (cdv : Value) (A : Around) (outer : List Env) (s : Shared) (H : Hp) (vs : List V) (Q : VK) (E : XK), Room k (A.deeper (envOfC qual (defScope st) s.heap.objs.size f cdv)) → sp vs H Q E →
      ∃ t, PSs (cxOf CX0 P w K mg base N qual (defScope st) f cdv A outer s H E).nox (defBody st) t ∧ t { nx := fun _ H' => Q .non H', rt := Q } (start N vs) H) : FnOk P w K mg base CX0 (k + 1) f fd ps sp := by
  obtain ⟨oc, od, kV, doc, pm, an, cdv, ct, osl, rfl, lk, hcd⟩ := F.ex
  refine fn_of lk hcd S len fun A outer s H vs Q E hr hsp => ?_
  obtain ⟨t, h, q⟩ := hbody cdv A outer s H vs Q E hr hsp
  exact ⟨t, h.nox, q⟩
/-- how its arguments bind (no defaults): h is «fun _ _ _ _ _ _ us hl => match us, hl with | [_, _], _ => rfl», one _ a parameter -/
theorem Fun.binds {x qual : Str} {st : Stmt} {f : Addr} {fd : FuncData} {ps : List Str} (F : Fun K x qual st f fd)
    (h : ∀ (kV doc pm : Value) (an : Option Addr) (cdv ct : Value) (us : List Value), us.length = ps.length → bindArgs (PySem.W.fnOf x qual (defArgs st) (defBody st) (defScope st) .none kV doc pm an cdv ct) ⟨us, []⟩ = pure (ps.zip us)) : Binds K fd ps [] := by
  obtain ⟨oc, od, kV, doc, pm, an, cdv, ct, osl, rfl, lk, hcd⟩ := F.ex
  exact .all (h kV doc pm an cdv ct)
theorem fun_mk {x qual : Str} {st : Stmt} {f : Addr} {oc : Value} {od an : Option Addr} {osl : Array (Option Value)} {kV doc pm cdv ct : Value} (l : K.lookup f = some ⟨oc, od, .func (PySem.W.fnOf x qual (defArgs st) (defBody st) (defScope st) .none kV doc pm an cdv ct), osl⟩)
    (c : PySem.W.codeIn K cdv qual = true) (k : PySem.W.keepIn K (.ref f) = true) : Fun K x qual st f (PySem.W.fnOf x qual (defArgs st) (defBody st) (defScope st) .none kV doc pm an cdv ct) := ⟨⟨oc, od, kV, doc, pm, an, cdv, ct, osl, rfl, l, c⟩, k⟩
end
theorem small1000 {n : Nat} (h : n ≤ 1000) : n < sizeLine := Nat.lt_of_le_of_lt h (by decide)

/-! ### expressions in short: the name that stands in the i-th slot -/
section
variable {X : Cx}
end

/-! ### tests -/
theorem iteF {A B : Prop} (h : B) : if false = true then A else B := by
  rw [if_neg Bool.false_ne_true]
  exact h
theorem iteT {A B : Prop} (h : A) : if true = true then A else B := by
  rw [if_pos rfl]
  exact h
theorem ite2 {c A B : Prop} [Decidable c] (h1 : c → A) (h2 : ¬ c → B) : if c then A else B := by
  by_cases h : c
  · rw [if_pos h]
    exact h1 h
  · rw [if_neg h]
    exact h2 h
theorem iteNS {c A B : Prop} [Decidable c] (hc : c) (h : B) : if (!decide c) = true then A else B := by
  rw [decide_eq_true hc]
  exact iteF h

/-! ### heaps -/
/-- all that was tracked is as it was -/
def Same (H H' : Hp) : Prop := ∀ b o, H b = some o → H' b = some o
theorem Same.refl (H : Hp) : Same H H := fun _ _ h => h
theorem Same.trans {H H1 H2 : Hp} (a : Same H H1) (b : Same H1 H2) : Same H H2 := fun c o h => b c o (a c o h)
theorem Same.free {H H' : Hp} (e : Same H H') {l : Addr} (h : H' l = Option.none) : H l = Option.none := by
  cases q : H l with
  | none => rfl
  | some o =>
    rw [e l o q] at h
    cases h
theorem Same.seq {K : PySem.W.Frag} {H H' : Hp} {a : Addr} {xs : List V} (e : Same H H') (h : SqL K H a xs) : SqL K H' a xs := by
  rcases h with (h | ⟨o, h⟩) | h
  · exact .inl (.inl (e _ _ h))
  · exact .inl (.inr ⟨o, e _ _ h⟩)
  · exact .inr h

/-! ### a dict's pairs: keys that differ -/
section
variable {κ : Type} [DecidableEq κ]
end
end L2

set_option linter.all false
set_option maxRecDepth 100000
set_option maxHeartbeats 400000
/-! comprehensions over the layer -/
namespace L2
open PySem PySem.Spec PyProof.Rows

theorem lookup_mapg {g : Str → Addr} (y : Str) : ∀ l : List Str, (l.map fun n => (n, g n)).lookup y = if y ∈ l then some (g y) else none
  | [] => by simp
  | n :: r => by
    rw [List.map_cons, List.lookup_cons]
    by_cases e : y = n
    · subst e; simp
    · have hb : (y == n) = false := beq_eq_false_iff_ne.mpr e
      rw [hb, lookup_mapg y r]
      simp [e]
/-- the cells that a comprehension takes with it -/
def closL (env : Env) (names : List (Str × NameKind)) : List (Str × Addr) :=
  ((names.filter fun x => decide (x.2 = .free)).map (·.1)).reverse.map fun n => (n, (env.cells.lookup n).getD 0)
theorem closL_lookup {env : Env} {names : List (Str × NameKind)} {y : Str} : (closL env names).lookup y = if (y, NameKind.free) ∈ names then some ((env.cells.lookup y).getD 0) else none := by
  unfold closL
  rw [lookup_mapg (g := fun n => (env.cells.lookup n).getD 0)]
  have e : (y ∈ ((names.filter fun x => decide (x.2 = NameKind.free)).map (·.1)).reverse) ↔ (y, NameKind.free) ∈ names := by
    rw [List.mem_reverse, List.mem_map]
    constructor
    · rintro ⟨⟨n, k⟩, h1, rfl⟩
      have h2 := List.mem_filter.mp h1
      have h3 : k = NameKind.free := by simpa using h2.2
      rw [h3] at h2
      exact h2.1
    · intro h
      exact ⟨(y, .free), List.mem_filter.mpr ⟨h, by simp⟩, rfl⟩
  by_cases h : (y, NameKind.free) ∈ names
  · rw [if_pos (e.mpr h), if_pos h]
  · rw [if_neg (fun q => h (e.mp q)), if_neg h]
theorem forIn_clos {env : Env} : ∀ (names : List (Str × NameKind)) (cs : List (Str × Addr)), (∀ x ∈ names, x.2 = .free → ∃ c, env.cells.lookup x.1 = some c) →
    (forIn names cs fun (x : Str × NameKind) (r : List (Str × Addr)) => (if (x.2 == NameKind.free) = true then (cellOf env x.1 >>= fun c => pure (ForInStep.yield ((x.1, c) :: r))) else pure (ForInStep.yield r) : Sem (ForInStep (List (Str × Addr)))))
      = pure (closL env names ++ cs)
  | [], cs, _ => rfl
  | (n, k) :: r, cs, h => by
    rw [List.forIn_cons]
    by_cases hk : k = .free
    · subst hk
      obtain ⟨c, hc⟩ := h (n, .free) List.mem_cons_self rfl
      have e : cellOf env n = pure c := by
        unfold cellOf
        rw [hc]
      have ih := forIn_clos r ((n, c) :: cs) (fun x hx => h x (List.mem_cons_of_mem _ hx))
      simp only [beq_self_eq_true, if_true, e, pure_bind]
      rw [ih]
      unfold closL
      simp [hc]
    · have hb : (k == NameKind.free) = false := by simpa using hk
      have ih := forIn_clos r cs (fun x hx => h x (List.mem_cons_of_mem _ hx))
      simp only [hb, Bool.false_eq_true, if_false, pure_bind]
      rw [ih]
      unfold closL
      simp [hk]
theorem closureFor_cells {sc : Scope} {env : Env} (h : ∀ x ∈ sc.names, x.2 = .free → ∃ c, env.cells.lookup x.1 = some c) : closureFor sc env = pure (closL env sc.names) := by
  have e := forIn_clos (env := env) sc.names [] h
  rw [List.append_nil] at e
  unfold closureFor
  show (forIn sc.names [] _ >>= _) = _
  refine Eq.trans (congrArg (fun m => m >>= _) e) ?_
  rw [pure_bind]
theorem relabel_free {env : Env} (hf : env.scope.kind = .function) : ∀ {names : List (Str × NameKind)} {x : Str}, names.lookup x = some .free → env.kindOf x = some .cell →
    (names.map fun (n, k) => if (k == NameKind.free && env.scope.kind == .function && env.kindOf n == some .cell) then (n, NameKind.cell) else (n, k)).lookup x = some .cell
  | [], _, h, _ => by simp at h
  | (n, k) :: r, x, h, hc => by
    have ih := @relabel_free env hf r x
    show List.lookup x ((if (k == NameKind.free && env.scope.kind == .function && env.kindOf n == some .cell) = true then (n, NameKind.cell) else (n, k)) :: _) = _
    cases hx : x == n with
    | true =>
      have e : x = n := eq_of_beq hx
      subst e
      simp only [List.lookup_cons, hx] at h
      cases h
      have c : ((NameKind.free == NameKind.free) && env.scope.kind == .function && env.kindOf x == some NameKind.cell) = true := by simp [hf, hc]
      rw [if_pos c]
      simp [List.lookup_cons, hx]
    | false =>
      simp only [List.lookup_cons, hx] at h
      by_cases hc' : (k == NameKind.free && env.scope.kind == .function && env.kindOf n == some .cell) = true
      · rw [if_pos hc']; simp only [List.lookup_cons, hx]; exact ih h hc
      · rw [if_neg hc']; simp only [List.lookup_cons, hx]; exact ih h hc
/-- kinds behind the relabelling come from the scope -/
theorem relabel_kind {env : Env} : ∀ {names : List (Str × NameKind)} {x : Str} {k' : NameKind},
    (names.map fun (n, k) => if (k == NameKind.free && env.scope.kind == .function && env.kindOf n == some .cell) then (n, NameKind.cell) else (n, k)).lookup x = some k' →
    ∃ k, names.lookup x = some k ∧ (k' = k ∨ (k = .free ∧ k' = .cell))
  | [], _, _, h => by simp at h
  | (n, k) :: r, x, k', h => by
    have ih := @relabel_kind env r x k'
    change List.lookup x ((if (k == NameKind.free && env.scope.kind == .function && env.kindOf n == some .cell) = true then (n, NameKind.cell) else (n, k)) :: _) = _ at h
    cases hx : x == n with
    | true =>
      by_cases hc' : (k == NameKind.free && env.scope.kind == .function && env.kindOf n == some .cell) = true
      · rw [if_pos hc'] at h
        simp only [List.lookup_cons, hx] at h
        have hk : k = .free := by simp at hc'; exact hc'.1.1
        exact ⟨k, by simp only [List.lookup_cons, hx], .inr ⟨hk, (Option.some.inj h).symm⟩⟩
      · rw [if_neg hc'] at h
        simp only [List.lookup_cons, hx] at h
        exact ⟨k, by simp only [List.lookup_cons, hx], .inl (Option.some.inj h).symm⟩
    | false =>
      by_cases hc' : (k == NameKind.free && env.scope.kind == .function && env.kindOf n == some .cell) = true
      · rw [if_pos hc'] at h
        simp only [List.lookup_cons, hx] at h ⊢
        exact ih h
      · rw [if_neg hc'] at h
        simp only [List.lookup_cons, hx] at h ⊢
        exact ih h

/-- what is seen of a comprehension's scope: esc the scope around it; fr: the names of the frame that it takes, ix their slots -/
structure CompSc (esc sc : Scope) (N fr : List Str) (ix : List Nat) : Prop where
  k1 : sc.kind = .function
  a1 : ∀ y ∈ sc.names, y.2 ≠ .cell
  a2 : ∀ y ∈ sc.names, y.2 = .local → sc.names.lookup y.1 = some .local
  a3 : ∀ y ∈ sc.names, y.2 = .free → esc.names.lookup y.1 = some .cell
  a4 : fr.length = ix.length
  a5 : ∀ q ∈ fr.zip ix, N[q.2]? = some q.1 ∧ esc.names.lookup q.1 = some .cell ∧ sc.names.lookup q.1 = some .free

/-- .. by a look -/
def compChk (esc sc : Scope) (N fr : List Str) (ix : List Nat) : Bool :=
  decide (sc.kind = .function) && (sc.names.all fun y => decide (y.2 ≠ .cell) && (!decide (y.2 = .local) || decide (sc.names.lookup y.1 = some .local)) && (!decide (y.2 = .free) || decide (esc.names.lookup y.1 = some .cell))) && decide (fr.length = ix.length) &&
    ((fr.zip ix).all fun q => decide (N[q.2]? = some q.1) && decide (esc.names.lookup q.1 = some .cell) && decide (sc.names.lookup q.1 = some .free))
theorem CompSc.of {esc sc : Scope} {N fr : List Str} {ix : List Nat} (h : compChk esc sc N fr ix = true) : CompSc esc sc N fr ix := by
  unfold compChk at h
  simp only [Bool.and_eq_true, List.all_eq_true, decide_eq_true_eq] at h
  obtain ⟨⟨⟨h1, h2⟩, h3⟩, h4⟩ := h
  refine ⟨h1, fun y hy => (h2 y hy).1.1, fun y hy e => ?_, fun y hy e => ?_, h3, fun q hq => ⟨(h4 q hq).1.1, (h4 q hq).1.2, (h4 q hq).2⟩⟩
  · have := (h2 y hy).1.2
    rw [decide_eq_true e] at this
    simpa using this
  · have := (h2 y hy).2
    rw [decide_eq_true e] at this
    simpa using this
/-- a comprehension's block -/
def cxComp (X : Cx) (N' : List Str) (sc : Scope) (fp : List Addr) (pins : List (Addr × Obj)) (s : Shared) (H : Hp) : Cx :=
  { X with N := N', s₀ := s, H₀ := H, env := compEnvC sc (closL X.env sc.names) s.heap.objs.size X.env, outer := X.stack, stack := X.stack, ex := fp, fn := fun _ => false, pn := X.pn ++ pins, xe := fun _ _ => False }
/-- its names' values at the entry: its own ones none, then those of the frame -/
def compSt (own : List Str) (ix : List Nat) (σ : St) : St := List.replicate own.length none ++ ix.map fun i => (σ[i]?).getD none

section
variable {X : Cx} {pins : List (Addr × Obj)} {σ : St} {H : Hp} {s : Shared}
theorem Inv.cellOf (I : Inv X pins σ H s) {sc : Scope} {N fr : List Str} {ix : List Nat} (S : CompSc X.env.scope sc N fr ix) : ∀ x ∈ sc.names, x.2 = .free → ∃ c, X.env.cells.lookup x.1 = some c := fun x hx hf =>
  I.ok.has x.1 (.inl (S.a3 x hx hf))
theorem closL_in (I : Inv X pins σ H s) {sc : Scope} {fr : List Str} {ix : List Nat} (S : CompSc X.env.scope sc X.N fr ix) {x : Str} {c : Addr} (h : (closL X.env sc.names).lookup x = some c) : X.env.cells.lookup x = some c := by
  rw [closL_lookup] at h
  by_cases hm : (x, NameKind.free) ∈ sc.names
  · rw [if_pos hm] at h
    obtain ⟨c', hc'⟩ := I.cellOf S _ hm rfl
    have hc2 : X.env.cells.lookup x = some c' := hc'
    rw [hc2] at h ⊢
    simpa using h
  · rw [if_neg hm] at h; cases h
/-- the block begins -/
theorem Inv.comp (I : Inv X pins σ H s) {sc : Scope} {own fr : List Str} {ix : List Nat} (S : CompSc X.env.scope sc X.N fr ix) {fp : List Addr} (hfp : ∀ b ∈ fp, FpOk X pins H b) (hlt : ∀ b ∈ fp, b < s.heap.objs.size)
    {h' : Heap} {tk : Nat} (hn : ∃ m, h'.Ns s.heap.objs.size m) (hk : ∀ b o, s.heap.get? b = some o → h'.get? b = some o) :
    Inv (cxComp X (own ++ fr) sc fp pins s H) [] (compSt own ix σ) H { s with heap := h', toks := tk } := by
  obtain ⟨m, hn⟩ := hn
  have cl : ∀ {x : Str} {c : Addr}, (closL X.env sc.names).lookup x = some c → X.env.cells.lookup x = some c := fun h => closL_in I S h
  have nstk : ∀ b, b ≠ X.env.locals → b ∉ X.fs → b ∉ frs X.stack := fun b h1 h2 h3 => by
    rcases List.mem_cons.mp (I.stkSub b h3) with e | e
    · exact h1 e
    · exact h2 e
  have ok : (cxComp X (own ++ fr) sc fp pins s H).Ok :=
    { mod := I.ok.mod
      kind := S.k1
      glob := I.ok.glob
      blt := I.ok.blt
      above := Nat.le_refl _
      inj := fun x y c h1 h2 => I.ok.inj x y c (cl h1) (cl h2)
      has := fun x hx => by
        have hx' : (relabel sc X.env).names.lookup x = some .cell ∨ (relabel sc X.env).names.lookup x = some .free := hx
        have fr' : sc.names.lookup x = some .free := by
          rcases hx' with h | h
          · obtain ⟨k, h1, h2⟩ := relabel_kind h
            rcases h2 with h2 | ⟨h2, _⟩
            · exact absurd h2.symm (S.a1 (x, k) (PySem.mem_of_lookup h1))
            · rw [h2] at h1; exact h1
          · obtain ⟨k, h1, h2⟩ := relabel_kind h
            rcases h2 with h2 | ⟨_, h2⟩
            · rw [← h2] at h1; exact h1
            · cases h2
        have hm := PySem.mem_of_lookup fr'
        obtain ⟨c, hc⟩ := I.cellOf S _ hm rfl
        refine ⟨c, ?_⟩
        show (closL X.env sc.names).lookup x = some c
        have hc2 : X.env.cells.lookup x = some c := hc
        rw [closL_lookup, if_pos hm, hc2]
        rfl
      cab := fun x c h => absurd (show false = true from h) Bool.false_ne_true
      hd := I.ok.hd
      frames := I.ok.frames
      stk := .inl rfl
      exf := fun b hb => ⟨Nat.ne_of_lt (hlt b hb), fun x c h => (hfp b hb).2.2.2.2.1 x c (cl h)⟩
      bs := I.bs
      bsz := Nat.le_trans I.ok.bsz I.sz
      noex := fun b o h hb => by
        rcases (hfp b hb).2.2.2.1 with z | z
        · exact I.ok.noex b o h z
        · exact absurd (Nat.lt_of_lt_of_le (Heap.lt_size h) (Nat.le_trans I.ok.bsz z)) (Nat.lt_irrefl _)
      exfs := fun b hb => nstk b (hfp b hb).2.1 (hfp b hb).2.2.1
      funs := I.stack
      frf := I.stkFree }
  refine ⟨ok, rfl, I.bare, Un.kept hk, ⟨m, hn, fun i x v h1 h2 h3 => ?_⟩, fun x c h => ?_, ?_, fun x c h => I.freeC x c (cl h), fun p hp => ?_, I.hok.kept hk, ?_⟩
  · have h1' : (own ++ fr)[i]? = some x := h1
    have h2' : (compSt own ix σ)[i]? = some (some v) := h2
    unfold compSt at h2'
    by_cases hi : i < own.length
    · rw [List.getElem?_append_left (by simpa using hi), List.getElem?_replicate] at h2'
      split at h2' <;> cases h2'
    · rw [List.getElem?_append_right (by omega)] at h1'
      rw [List.getElem?_append_right (by simpa using hi), List.length_replicate, List.getElem?_map] at h2'
      cases e : ix[i - own.length]? with
      | none => rw [e] at h2'; cases h2'
      | some j =>
        rw [e] at h2'
        have hσ : σ[j]? = some (some v) := by
          have h3 : (σ[j]?).getD none = some v := Option.some.inj h2'
          cases e2 : σ[j]? with
          | none => rw [e2] at h3; cases h3
          | some w => rw [e2] at h3; rw [show w = some v from h3]
        have hz : (x, j) ∈ fr.zip ix := by
          rw [List.mem_iff_getElem?]
          refine ⟨i - own.length, ?_⟩
          rw [List.getElem?_zip_eq_some]
          exact ⟨h1', e⟩
        obtain ⟨b1, b2, b3⟩ := S.a5 _ hz
        obtain ⟨m0, hn0, hl0⟩ := I.loc
        obtain ⟨u, ru, lk⟩ := hl0 j x v b1 hσ (.inr (.inl b2))
        refine ⟨u, ru, ?_⟩
        rcases lk with ⟨q1, _⟩ | ⟨_, c, hc, hcell⟩
        · have q1' : X.env.scope.names.lookup x = some .local := q1
          have b2' : X.env.scope.names.lookup x = some .cell := b2
          rw [b2'] at q1'; cases q1'
        · refine .inr ⟨.inl ?_, c, ?_, ?_⟩
          · exact relabel_free I.ok.kind b3 b2
          · show (closL X.env sc.names).lookup x = some c
            rw [closL_lookup, if_pos (PySem.mem_of_lookup b3), hc]
            rfl
          · obtain ⟨o, ho, hd⟩ := hcell
            exact ⟨o, hk _ _ ho, hd⟩
  · obtain ⟨v, o, ho, hd⟩ := I.cell x c (cl h)
    exact ⟨v, o, hk _ _ ho, hd⟩
  · exact I.hok.fresh (Nat.le_refl _)
  · have hp' : p ∈ X.pn ++ pins := by
      have : p ∈ (X.pn ++ pins) ++ [] := hp
      simpa using this
    obtain ⟨e, n, ne, nf, d⟩ := I.pin p hp'
    exact ⟨hk _ _ e, n, Nat.ne_of_lt (Heap.lt_size e), nstk p.1 ne nf, d⟩
  · show (compSt own ix σ).length = (own ++ fr).length
    unfold compSt
    rw [List.length_append, List.length_replicate, List.length_map, List.length_append, S.a4]
/-- the block is left: C, its own names' object, may have changed -/
theorem Inv.uncomp {s0 s' : Shared} {H1 H' : Hp} {N' : List Str} {sc : Scope} {fp : List Addr} {σ' : St} {h'' : Heap} (I : Inv X pins σ H s0) (hfp : ∀ b ∈ fp, FpOk X pins H b)
    (hos : s.os = s0.os) (hu : Un (frs X.stack) fp H H1 s0.heap s.heap) (I' : Inv (cxComp X N' sc fp pins s H1) [] σ' H' s') (hsz : s0.heap.objs.size ≤ s.heap.objs.size)
    (hs : Heap.SameBut s.heap.objs.size s'.heap h'') : Inv X pins σ H' { s' with heap := h'' } := by
  have hC : H' s.heap.objs.size = none := I'.free
  have u2 : Un (frs X.stack) fp H1 H' s.heap s'.heap := I'.base
  have ne : ∀ b o, s0.heap.get? b = some o → b ≠ s.heap.objs.size := fun b o e => Nat.ne_of_lt (Nat.lt_of_lt_of_le (Heap.lt_size e) hsz)
  have u3 := hu.trans u2
  refine I.call' (s' := { s' with heap := h'' }) (ch := fp) ?_ ?_ ?_ I'.bare ?_
  · show s'.os = s0.os
    exact I'.os.trans hos
  · refine ⟨fun b o e n hb hx => ?_, fun b o e n hb hx => ?_, u3.free, fun b o e hx => ?_, u3.tups, u3.frzs, u3.tbls⟩
    · exact (hs.2 b (ne b o e)).trans (u3.keep b o e n hb hx)
    · obtain ⟨sl, q⟩ := u3.slot b o e n hb hx
      exact ⟨sl, (hs.2 b (ne b o e)).trans q⟩
    · obtain ⟨o', q⟩ := u3.there b o e hx
      exact ⟨o', (hs.2 b (ne b o e)).trans q⟩
  · intro b ob e
    refine (I'.hok b ob e).stay (fun c w' hc q => (hs.2 c ?_).trans q) (fun _ q => q) fun _ _ q => q
    rintro rfl
    rcases hc with z | z
    · rw [← z, hC] at e; cases e
    · rw [hC] at z; cases z
  · intro b hb
    obtain ⟨_, f1, _, f3, f4, f5⟩ := hfp b hb
    exact ⟨f3, f1, f4, f5⟩
end
end L2

namespace L2
open PySem PySem.Spec PyProof.Rows
section
variable {prog : Program} {w : World} {A : Around} {R : Result → Shared → Prop} {s : Shared}
theorem codeAny_compLoop_own {elt target iter : Expr} {ifs : List Expr} {scope : Scope} {pos : Pos} {it acc : Value} {env : Env} (I : Nat → Shared → Prop)
    (turn : ∀ n s, I n s → wpAny (model prog w) A (pyNext it) (fun r s₁ => match r with
      | none => R (.ok .next) s₁
      | some v => wpAny (model prog w) A (letOwnedTupleGo target it v) (fun _ s₁' => wpAny (model prog w) A (assign target env v) (fun _ s₂ =>
          wpAny (model prog w) A (forIn ifs true fun c r => if r = true then do let ok ← isTrue c env (eval c env); pure (ForInStep.yield ok) else pure (ForInStep.yield r)) (fun ok s₃ =>
            if ok = true then wpAny (model prog w) A (eval elt env) (fun x s₄ =>
              wpAny (model prog w) A (call (.builtin "list.append") [acc, x]) (fun _ s₅ => ∃ m, m < n ∧ I m s₅) (fun _ _ => False) s₄) (fun _ _ => False) s₃
            else ∃ m, m < n ∧ I m s₃) (fun _ _ => False) s₂) (fun _ _ => False) s₁') (fun _ _ => False) s₁) (fun _ _ => False) s)
    (n : Nat) (h : I n s) :
    codeAny (model prog w) A (.compLoop (.ListComp elt [⟨target, iter, ifs, 0⟩] scope pos) 0 it acc env) R s := by
  refine codeAny_loop rfl I (fun n s hI => ?_) n h
  show wpAny _ A ((compTurn (.ListComp elt [⟨target, iter, ifs, 0⟩] scope pos) 0 it acc env).onRaise (fun x => do noteFrame x env; theTreesLotGoes x)) _ _ s
  refine wpAny_noted ?_
  rw [compTurn_list]
  refine wpAny_bind (wpAny_standAt (wpAny_bind (wpAny_mono (turn n s hI) (fun r s₁ h₁ => ?_) fun _ _ h' => h'.elim)))
  cases r with
  | none => exact wpAny_pure h₁
  | some v =>
    refine wpAny_bind (wpAny_mono h₁ (fun _ s₁' h₁' => ?_) fun _ _ h' => h'.elim)
    refine wpAny_bind (wpAny_mono h₁' (fun _ s₂ h₂ => wpAny_bind (wpAny_mono h₂ (fun ok s₃ h₃ => ?_) fun _ _ h' => h'.elim)) fun _ _ h' => h'.elim)
    cases ok with
    | false => exact wpAny_pure ⟨rfl, h₃⟩
    | true =>
      exact wpAny_bind (wpAny_bind (wpAny_mono h₃ (fun x s₄ h₄ => wpAny_bind (wpAny_mono h₄ (fun _ s₅ h₅ => wpAny_pure (wpAny_pure ⟨rfl, h₅⟩)) fun _ _ h' => h'.elim)) fun _ _ h' => h'.elim))
end

/-- the tests of a clause -/
def PTs (X : Cx) (ifs : List Expr) (t : TT) : Prop :=
  ∀ (pins : List (Addr × Obj)) (s : Shared) (σ : St) (H : Hp) (Q : Bool → Hp → Prop), Inv X pins σ H s → t σ H Q →
    wpAny (model X.prog X.w) X.A (forIn ifs true fun c r => if r = true then do let ok ← isTrue c X.env (eval c X.env); pure (ForInStep.yield ok) else pure (ForInStep.yield r)) (TP X pins σ Q) X.xe s
def tYes : TT := fun _ H Q => Q true H
theorem pts_nil {X : Cx} : PTs X [] tYes := fun _ _ _ H _ I h => wpAny_tests_nil ⟨H, I, h⟩

/-- what a comprehension's block wants: p its list; W the word by the turn, a measure, the items so far, the block's names, the heap -/
def CompBl (J : It) (g : TG) (tt : TT) (te : TE) (p : Addr) (σ0 : St) (H1 : Hp) (Q : Hp → Prop) : Prop :=
  ∃ W : Nat → Nat → List V → St → Hp → Prop, (∃ m, W 0 m [] σ0 (upd H1 p (.lst []))) ∧ ∀ i m ys σ' H', W i m ys σ' H' → H' p = some (.lst ys) ∧
    ((J.stop i H' ∧ Q H') ∨ (J.go i H' ∧ ∀ x H2, J.yld i H' x H2 → g x σ' H2 fun σ3 H3 => tt σ3 H3 fun b H4 =>
      if b = true then te σ3 H4 fun y H5 => H5 p = some (.lst ys) ∧ ys.length < sizeLine ∧ ∃ m', m' < m ∧ W (i + 1) m' (ys ++ [y]) σ3 (upd H5 p (.lst (ys ++ [y]))) else ∃ m', m' < m ∧ W (i + 1) m' ys σ3 H4))
def tComp (wi : TI) (g : TG) (tt : TT) (te : TE) (own : List Str) (ix : List Nat) : TE := fun σ H Q => wi σ H fun J H1 => ∀ p, H1 p = none → CompBl J g tt te p (compSt own ix σ) H1 (Q (.ref p))

section
variable {X : Cx} {tg iter elt : Expr} {ifs : List Expr} {sc : Scope} {own fr : List Str} {ix : List Nat} {wi : TI} {g : TG} {tt : TT} {te : TE} {pos spos : Pos}
/-- the block from the iterator on, whatever is wanted behind it -/
theorem comp_block (hc : X.calm = true) (S : CompSc X.env.scope sc X.N fr ix) {pins : List (Addr × Obj)} {σ : St} {H1 : Hp} {s2 : Shared} {it : Addr} {fp : List Addr} {tn : Nat → Heap → Prop} {J : It}
    (I2 : Inv X pins σ H1 s2) (T : Turn X.prog X.w X.K tg J fp it tn) (st2 : tn 0 s2.heap) (f2 : ∀ b ∈ fp, FpOk X pins H1 b) {Q : Hp → Prop}
    (q : CompBl J g tt te s2.heap.objs.size (compSt own ix σ) H1 Q)
    (hg : ∀ (fp : List Addr) (pins : List (Addr × Obj)) (s : Shared) (H : Hp), PG (cxComp X (own ++ fr) sc fp pins s H) tg g) (ht : ∀ (fp : List Addr) (pins : List (Addr × Obj)) (s : Shared) (H : Hp), PTs (cxComp X (own ++ fr) sc fp pins s H) ifs tt)
    (he : ∀ (fp : List Addr) (pins : List (Addr × Obj)) (s : Shared) (H : Hp), PE (cxComp X (own ++ fr) sc fp pins s H) elt te)
    {use : Option (Value → Sem Unit)} {Q2 : Value → Shared → Prop}
    (fin : ∀ s' H', (∃ m, s'.heap.Ns (s2.heap.objs.size + 1) m) → H' (s2.heap.objs.size + 1) = none → (∀ h'', Heap.SameBut (s2.heap.objs.size + 1) s'.heap h'' → Inv X pins σ H' { s' with heap := h'' }) → Q H' →
      compPost (model X.prog X.w) X.A X.xe use Q2 (.ref s2.heap.objs.size) (s2.heap.objs.size + 1) (.ok .next) s') :
    wpAny (model X.prog X.w) X.A (newList []) (fun acc s₃ => wpAny (model X.prog X.w) X.A (newFunctionEnv sc X.env.globals (closL X.env sc.names) [] X.env.qual none .none (some X.env)) (fun cenv s₄ =>
      codeAny (model X.prog X.w) X.A (.compStart (.ListComp elt [⟨tg, iter, ifs, 0⟩] sc pos) 0 (.ref it) acc { cenv with scope := relabel sc X.env }) (compPost (model X.prog X.w) X.A X.xe use Q2 acc cenv.locals) s₄) X.xe s₃) X.xe s2 := by
  refine wpAny_newObj_type (wpAny_newFunctionEnv S.a1 (by intro y hy; simp at hy) (fun h₁ hns₁ hsb₁ => ?_) S.k1)
  dsimp only at hns₁ hsb₁ ⊢
  have hsz : (s2.heap.push { cls := .type "list", dict := none, data := .seq ([] : List Value).toArray }).objs.size = s2.heap.objs.size + 1 := Heap.size_push _ _
  have I3 : Inv X pins σ (upd H1 s2.heap.objs.size (.lst [])) { s2 with heap := s2.heap.push { cls := .type "list", dict := none, data := .seq ([] : List Value).toArray } } :=
    I2.laid (t' := s2.toks) (fun b u e => Heap.get?_push_of_some _ e) (Nat.le_refl _) ⟨Nat.zero_le _, [], 0, .nil, Heap.get?_push_size _ rfl⟩
  have lt2 : ∀ b ∈ fp, b < s2.heap.objs.size := fun b hb => let ⟨o, ho, _⟩ := T.obj 0 _ st2 b hb; Heap.lt_size ho
  have nep : ∀ b ∈ fp, b ≠ s2.heap.objs.size := fun b hb => Nat.ne_of_lt (lt2 b hb)
  have f3 : ∀ b ∈ fp, FpOk X pins (upd H1 s2.heap.objs.size (.lst [])) b := fun b hb => ⟨by rw [upd_ne (nep b hb)]; exact (f2 b hb).1, (f2 b hb).2⟩
  have hk : ∀ b o, (s2.heap.push { cls := .type "list", dict := none, data := .seq ([] : List Value).toArray }).get? b = some o → h₁.get? b = some o := fun b o e =>
    (hsb₁.2 b (Nat.ne_of_lt (Heap.lt_size e))).trans (Heap.get?_push_of_some _ e)
  have I4 := I3.comp (own := own) (h' := h₁) (tk := s2.toks + ([] : List (Str × Value)).length) S f3 (fun b hb => by show b < _; rw [hsz]; exact Nat.lt_succ_of_lt (lt2 b hb)) ⟨_, hns₁⟩ hk
  obtain ⟨W, ⟨m0, w0⟩, turn⟩ := q
  have st4 : tn 0 h₁ := T.keep 0 _ _ st2 fun b hb o e => hk b o (Heap.get?_push_of_some _ e)
  have loop : codeAny (model X.prog X.w) X.A (.compLoop (.ListComp elt [⟨tg, iter, ifs, 0⟩] sc pos) 0 (.ref it) (.ref s2.heap.objs.size)
      (compEnvC sc (closL X.env sc.names) (s2.heap.push { cls := .type "list", dict := none, data := .seq ([] : List Value).toArray }).objs.size X.env))
      (compPost (model X.prog X.w) X.A X.xe use Q2 (.ref s2.heap.objs.size) (s2.heap.objs.size + 1)) { s2 with heap := h₁, toks := s2.toks + ([] : List (Str × Value)).length } := by
    refine codeAny_compLoop_own (fun n s' => ∃ i ys σ' H', Inv (cxComp X (own ++ fr) sc fp pins { s2 with heap := s2.heap.push { cls := .type "list", dict := none, data := .seq ([] : List Value).toArray } } (upd H1 s2.heap.objs.size (.lst []))) [] σ' H' s' ∧
      tn i s'.heap ∧ (∀ b ∈ fp, H' b = none) ∧ W i n ys σ' H') ?_ m0 ⟨0, [], _, _, I4, st4, fun b hb => (f3 b hb).1, w0⟩
    rintro n s' ⟨i, ys, σ', H', I', st', fr', w'⟩
    obtain ⟨hp, tr⟩ := turn i n ys σ' H' w'
    have stat : ∀ {K : Hp}, (∀ b ∈ fp, K b = none) → ∀ b ∈ fp, FpOk (cxComp X (own ++ fr) sc fp pins { s2 with heap := s2.heap.push { cls := .type "list", dict := none, data := .seq ([] : List Value).toArray } } (upd H1 s2.heap.objs.size (.lst []))) [] K b := fun {K} hn b hb => by
      have ⟨_, g1, g2, g3, g4, g5⟩ := f2 b hb
      refine ⟨hn b hb, ?_, ?_, .inl hb, fun x c e => g4 x c (closL_in I2 S e), fun p hp => g5 p ?_⟩
      · show b ≠ (s2.heap.push _).objs.size
        rw [hsz]
        exact Nat.ne_of_lt (Nat.lt_succ_of_lt (lt2 b hb))
      · intro h3
        rcases List.mem_cons.mp (I2.stkSub b h3) with e | e
        · exact g1 e
        · exact g2 e
      · have : p ∈ (X.pn ++ pins) ++ [] := hp
        simpa using this
    rcases tr with ⟨stop, qn⟩ | ⟨go, step⟩
    · refine thn (T.done (cxComp X (own ++ fr) sc fp pins { s2 with heap := s2.heap.push { cls := .type "list", dict := none, data := .seq ([] : List Value).toArray } } (upd H1 s2.heap.objs.size (.lst []))) rfl rfl rfl hc i [] s' σ' H' _ I' (stat fr') st' stop) fun r s4 ⟨hr, I5⟩ => ?_
      subst hr
      obtain ⟨m5, hn5, _⟩ := id I5.loc
      have hn5' : s4.heap.Ns (s2.heap.objs.size + 1) m5 := by
        have z : s4.heap.Ns (s2.heap.push { cls := .type "list", dict := none, data := .seq ([] : List Value).toArray }).objs.size m5 := hn5
        rw [hsz] at z
        exact z
      have fC : H' (s2.heap.objs.size + 1) = none := by
        have z : H' (s2.heap.push { cls := .type "list", dict := none, data := .seq ([] : List Value).toArray }).objs.size = none := I5.free
        rw [hsz] at z
        exact z
      refine fin s4 H' ⟨m5, hn5'⟩ fC (fun h'' hs => ?_) qn
      rw [← hsz] at hs
      exact I2.uncomp (s := { s2 with heap := s2.heap.push { cls := .type "list", dict := none, data := .seq ([] : List Value).toArray } }) f2 rfl
        (Un.laid (fun b u e => Heap.get?_push_of_some _ e) (Nat.le_refl _) (I2.hok.fresh (Nat.le_refl _))) I5 (by show _ ≤ (s2.heap.push _).objs.size; rw [hsz]; exact Nat.le_succ _) hs
    · refine thn (T.item (cxComp X (own ++ fr) sc fp pins { s2 with heap := s2.heap.push { cls := .type "list", dict := none, data := .seq ([] : List Value).toArray } } (upd H1 s2.heap.objs.size (.lst []))) rfl rfl rfl hc i [] s' σ' H' _ I' (stat fr') st' go) fun r s4 ⟨u, hr, h4⟩ => ?_
      subst hr
      refine thn h4 fun _ s5 ⟨x, H5, I5, r5, y5, st5, fr5⟩ => ?_
      have I5' := I5.pinned (stat fr5) (T.obj _ _ st5)
      refine thn (hg _ _ _ _ _ s5 σ' H5 x u _ I5' r5 (step x H5 y5)) fun _ s6 ⟨σ6, H6, I6, q6⟩ => ?_
      have again : ∀ {σ7 : St} {H7 : Hp} {s7 : Shared} {ys' : List V}, Inv (cxComp X (own ++ fr) sc fp pins { s2 with heap := s2.heap.push { cls := .type "list", dict := none, data := .seq ([] : List Value).toArray } } (upd H1 s2.heap.objs.size (.lst []))) ([] ++ pinsAt fp s5.heap) σ7 H7 s7 →
          (∃ m', m' < n ∧ W (i + 1) m' ys' σ7 H7) → ∃ m, m < n ∧ ∃ i ys σ' H', Inv (cxComp X (own ++ fr) sc fp pins { s2 with heap := s2.heap.push { cls := .type "list", dict := none, data := .seq ([] : List Value).toArray } } (upd H1 s2.heap.objs.size (.lst []))) [] σ' H' s7 ∧
            tn i s7.heap ∧ (∀ b ∈ fp, H' b = none) ∧ W i m ys σ' H' := fun {σ7 H7 s7 ys'} I7 ⟨m', hm, w7⟩ => by
        refine ⟨m', hm, i + 1, ys', σ7, H7, I7.unpinned, T.keep _ _ _ st5 fun b hb o e => (I7.pin (b, o) (List.mem_append_right _ (List.mem_append_right _ (mem_pinsAt hb e)))).1, fun b hb => ?_, w7⟩
        obtain ⟨o, e, d⟩ := T.obj _ _ st5 b hb
        exact (I7.pin (b, o) (List.mem_append_right _ (List.mem_append_right _ (mem_pinsAt hb e)))).2.1
      refine thn (ht _ _ _ _ _ s6 σ6 H6 _ I6 q6) fun ok s7 ⟨H7, I7, q7⟩ => ?_
      cases ok with
      | false =>
        rw [if_neg Bool.false_ne_true] at q7
        rw [if_neg Bool.false_ne_true]
        exact again I7 q7
      | true =>
        rw [if_pos rfl] at q7
        rw [if_pos rfl]
        refine thn (he _ _ _ _ _ s7 σ6 H7 _ I7 q7) fun xv s8 ⟨y, H8, I8, r8, hp8, hz8, q8⟩ => ?_
        refine thn (mt_append _ s8 σ6 H8 (.ref s2.heap.objs.size) [y] (.ref s2.heap.objs.size) [xv] (fun _ H9 => H9 = upd H8 s2.heap.objs.size (.lst (ys ++ [y]))) I8 rfl (.cons r8 .nil) ⟨_, ys, y, rfl, rfl, hp8, hz8, rfl⟩) fun _ s9 ⟨_, H9, I9, _, e9⟩ => ?_
        subst e9
        exact again I9 q8
  have e1 : (compPost (model X.prog X.w) X.A X.xe use Q2 (.ref s2.heap.objs.size) (s2.heap.push { cls := .type "list", dict := none, data := .seq ([] : List Value).toArray }).objs.size) = compPost (model X.prog X.w) X.A X.xe use Q2 (.ref s2.heap.objs.size) (s2.heap.objs.size + 1) := by rw [hsz]
  show codeAny _ _ _ (compPost (model X.prog X.w) X.A X.xe use Q2 (.ref s2.heap.objs.size) (s2.heap.push { cls := .type "list", dict := none, data := .seq ([] : List Value).toArray }).objs.size) _
  rw [e1]
  exact codeAny_compStart_list loop (T.self _ 0 _ _ _ st4 loop)

theorem pe_lcomp (own fr : List Str) (ix : List Nat) (hc : X.calm = true) (hi : PI X tg iter wi)
    (hg : ∀ (fp : List Addr) (pins : List (Addr × Obj)) (s : Shared) (H : Hp), PG (cxComp X (own ++ fr) sc fp pins s H) tg g) (ht : ∀ (fp : List Addr) (pins : List (Addr × Obj)) (s : Shared) (H : Hp), PTs (cxComp X (own ++ fr) sc fp pins s H) ifs tt)
    (he : ∀ (fp : List Addr) (pins : List (Addr × Obj)) (s : Shared) (H : Hp), PE (cxComp X (own ++ fr) sc fp pins s H) elt te)
    (hS : compChk X.env.scope sc X.N fr ix = true := by kernel_rfl) (hs : ∀ x, foldedSetIterable iter X.env x = pure x := by intro _; rfl) : PE X (.ListComp elt [⟨tg, iter, ifs, 0⟩] sc pos) (tComp wi g tt te own ix) := by
  intro pins s σ H Q I h
  have S := CompSc.of hS
  rw [eval_ListComp]
  refine wpAny_comprehension_free (use := none) rfl hs (closureFor_cells (I.cellOf S)) S.k1 S.a2 (thn (hi pins s σ H _ I h) fun v s1 h1 => thn h1 fun itv s2 h2 => ?_)
  obtain ⟨it, fp, tn, J, H2, e, I2, T, st2, f2, q⟩ := h2
  subst e
  refine comp_block hc S I2 T st2 f2 (q _ (I2.hok.fresh (Nat.le_refl _))) hg ht he fun s' H' hn _ hI hq => ?_
  obtain ⟨m, hn⟩ := hn
  exact ⟨m, hn, fun h'' hs'' => ⟨.ref s2.heap.objs.size, H', hI h'' hs'', rfl, hq⟩⟩
end
end L2

set_option linter.all false
set_option maxRecDepth 100000
set_option maxHeartbeats 400000
namespace L2
open PySem PySem.Spec PyProof.Rows

/-! ### the signs of a text, walked -/
def Its (x : Str) : It := ⟨fun i _ => i < x.cps.size, fun i H y H' => H' = H ∧ ∃ c, x.cps[i]? = some c ∧ y = .str ⟨#[c]⟩, fun i _ => x.cps.size ≤ i⟩
/-- the step ahead of the store is nothing for an iterator whose kind is another one -/
theorem turn_str {P : Program} {w : World} {K : PySem.W.Frag} {tg : Expr} (x : Str) (it : Addr) {St : Nat → Heap → Prop}
    (W : ∀ A' : Around, A'.handled = none → Walks P w A' it [it] [it] x.cps.size (SignAt x) St) (hobj : ∀ i h, St i h → ∃ o n vs, h.get? it = some o ∧ o.cls = .type n ∧ o.data = .fields vs ∧
      ["enumerate", "zip", "dict_itemiterator", "dict_reverseitemiterator", "odict_iterator", "itertools.zip_longest", "itertools.pairwise"].contains n = false)
    (hself : ∀ (A : Around) (i : Nat) (s : Shared) (Q : Value → Shared → Prop) (E : Value → Shared → Prop), St i s.heap → Q (.ref it) s → wpAny (model P w) A (pyIter (.ref it)) Q E s) :
    Turn P w K tg (Its x) [it] it (fun i h => i ≤ x.cps.size ∧ St i h) where
  mem := by simp
  obj := fun i h st b hb => by
    have e : b = it := by simpa using hb
    subst e
    obtain ⟨o, n, vs, ho, _, hd, _⟩ := hobj i h st.2
    exact ⟨o, ho, fun v z => by rw [hd] at z; cases z⟩
  keep := fun i h h' st k => ⟨st.1, (W callerA rfl).frame i h h' st.2 k⟩
  item := by
    intro X hP hw hK hc i pins s σ H E I hf st hg
    subst hP hw hK
    obtain ⟨f0, f1, f2, f3, f4, f5⟩ := hf it (by simp)
    refine (W X.A (I.ok.hd hc)).item i s _ _ hg st.2 fun v h' tk hv st' kk => ?_
    obtain ⟨c, u, hcx, rfl⟩ := hv
    have I1 : Inv X pins σ H { s with heap := h', toks := tk } := I.turned (fun b o hb e => kk b o (by simpa using hb) e) f0 f1 f3 f4 f5
    obtain ⟨o, n, vs, ho, hcl, hd, hn⟩ := hobj _ _ st'
    exact ⟨_, rfl, go_of (s := { s with heap := h', toks := tk }) ho hcl hd hn ⟨.str ⟨#[c]⟩, H, I1, ⟨u, rfl⟩, ⟨rfl, c, hcx, rfl⟩, ⟨hg, st'⟩, fun b hb => (hf b hb).1⟩⟩
  done := by
    intro X hP hw hK hc i pins s σ H E I hf st hg
    subst hP hw hK
    obtain ⟨f0, f1, f2, f3, f4, f5⟩ := hf it (by simp)
    have hg' : x.cps.size ≤ i := hg
    have e : i = x.cps.size := Nat.le_antisymm st.1 hg'
    subst e
    exact (W X.A (I.ok.hd hc)).done s _ _ st.2 fun h' tk kk => ⟨rfl, I.turned (fun b o hb e => kk b o (by simpa using hb) e) f0 f1 f3 f4 f5⟩
  self := fun A i s Q E st h => hself A i s Q E st.2 h
def iStr (tl : TE) : TI := fun σ H R => tl σ H fun x H1 => ∃ z, x = .str z ∧ R (Its z) H1
theorem pi_str {X : Cx} {tg l : Expr} {tl : TE} (hl : PE X l tl) : PI X tg l (iStr tl) := by
  intro pins s σ H R I h
  refine thn (hl pins s σ H _ I h) fun v s1 ⟨x, H1, I1, r1, q1⟩ => ?_
  obtain ⟨z, e, q⟩ := q1
  subst e
  obtain ⟨t, rfl⟩ := r1
  have fin : ∀ (o : Obj), FpOk X pins H1 s1.heap.objs.size := fun o => I1.fpOk (Nat.le_refl _) (I1.hok.fresh (Nat.le_refl _))
  cases ha : z.cps.all (· < 128)
  · refine wpAny_pyIter_wide ha ?_
    refine ⟨s1.heap.objs.size, [s1.heap.objs.size], _, Its z, H1, rfl, I1.kept (t' := s1.toks) fun b o e => Heap.get?_push_of_some _ e,
      turn_str z _ (fun A' hA => Walks.strWide hA _ z t) (fun i h st => let ⟨o, ho, h1, h2⟩ := st; ⟨o, _, _, ho, h1, h2, by decide⟩) (fun A i s Q E st h => wpAny_pyIter_striter_wide st h),
      ⟨Nat.zero_le _, _, Heap.get?_push_size _ rfl, rfl, rfl⟩, fun b hb => ?_, q⟩
    have e : b = s1.heap.objs.size := by simpa using hb
    subst e
    exact I1.fpOk (Nat.le_refl _) (I1.hok.fresh (Nat.le_refl _))
  · refine wpAny_pyIter_ascii ha ?_
    refine ⟨s1.heap.objs.size, [s1.heap.objs.size], _, Its z, H1, rfl, I1.kept (t' := s1.toks) fun b o e => Heap.get?_push_of_some _ e,
      turn_str z _ (fun A' hA => Walks.strAscii hA _ z t) (fun i h st => let ⟨o, ho, h1, h2⟩ := st; ⟨o, _, _, ho, h1, h2, by decide⟩) (fun A i s Q E st h => wpAny_pyIter_striter_ascii st h),
      ⟨Nat.zero_le _, _, Heap.get?_push_size _ rfl, rfl, rfl⟩, fun b hb => ?_, q⟩
    have e : b = s1.heap.objs.size := by simpa using hb
    subst e
    exact I1.fpOk (Nat.le_refl _) (I1.hok.fresh (Nat.le_refl _))

/-! ### the forms one uses: a loop over what goes through a list of values that the body leaves as it is; a comprehension likewise -/
/-- J goes through xs: where Pv holds at turn i, it yields some value that is xs's i-th by rel -/
structure Goes (J : It) (n : Nat) (Ok : Hp → Prop) (Y : Nat → Hp → V → Prop) : Prop where
  go : ∀ i H, Ok H → i < n → J.go i H
  yld : ∀ i H x H', Ok H → i < n → J.yld i H x H' → H' = H ∧ Y i H x
  stop : ∀ H, Ok H → J.stop n H
theorem goes_list {K : PySem.W.Frag} {a : Addr} {xs : List V} : Goes (Itl K a) xs.length (fun H => SqL K H a xs) (fun i _ x => xs[i]? = some x) where
  go := fun i H h hi => ⟨xs, xs[i], h, by simp [hi]⟩
  yld := fun i H x H' h hi y => ⟨y.1, y.2 xs h⟩
  stop := fun H h => ⟨xs, h, Nat.le_refl _⟩
theorem goes_range {lo : Int} {n : Nat} : Goes (Itr lo n) n (fun _ => True) (fun i _ x => x = .int (lo + i)) where
  go := fun i H _ hi => hi
  yld := fun i H x H' _ hi y => ⟨y.1, y.2⟩
  stop := fun H _ => Nat.le_refl _
theorem goes_str {z : Str} : Goes (Its z) z.cps.size (fun _ => True) (fun i _ x => ∃ c, z.cps[i]? = some c ∧ x = .str ⟨#[c]⟩) where
  go := fun i H _ hi => hi
  yld := fun i H x H' _ hi y => ⟨y.1, y.2⟩
  stop := fun H _ => Nat.le_refl _
theorem for_goes {J : It} {n : Nat} {Ok : Hp → Prop} {Y : Nat → Hp → V → Prop} (G : Goes J n Ok Y) {g : TG} {tb : TS} {D : Ends} {σ : St} {H : Hp} (Pv : Nat → St → Hp → Prop) (h0 : Pv 0 σ H) (hl : ∀ i σ H, i ≤ n → Pv i σ H → Ok H)
    (hs : ∀ i x σ H, i < n → Y i H x → Pv i σ H → g x σ H fun σ2 H2 => tb { D with nx := Pv (i + 1), ct := Pv (i + 1), bk := D.nx } σ2 H2) (hd : ∀ σ H, Pv n σ H → D.nx σ H) :
    ∃ W : Nat → Nat → St → Hp → Prop, (∃ m, W 0 m σ H) ∧ ∀ i m σ H, W i m σ H →
      (J.stop i H ∧ D.nx σ H) ∨ (J.go i H ∧ ∃ N : St → Hp → Prop, (∀ σ' H', N σ' H' → ∃ m', m' < m ∧ W (i + 1) m' σ' H') ∧ ∀ x H', J.yld i H x H' → g x σ H' fun σ2 H2 => tb { D with nx := N, ct := N, bk := D.nx } σ2 H2) := by
  refine ⟨fun i m σ H => m = n - i ∧ i ≤ n ∧ Pv i σ H, ⟨n, by simp, Nat.zero_le _, h0⟩, ?_⟩
  rintro i m σ H ⟨rfl, hi, p⟩
  have q := hl i σ H hi p
  by_cases hlt : i < n
  · refine .inr ⟨G.go i H q hlt, Pv (i + 1), fun σ' H' p' => ⟨n - (i + 1), by omega, rfl, hlt, p'⟩, fun x H' y => ?_⟩
    obtain ⟨e, y⟩ := G.yld i H x H' q hlt y
    subst e
    exact hs i x σ _ hlt y p
  · have e : i = n := by omega
    subst e
    exact .inl ⟨G.stop H q, hd σ H p⟩
/-- one turn is done -/
def CNx (n : Nat) (Pv : Nat → List V → St → Hp → Prop) (i : Nat) (ys : List V) (σ : St) (H : Hp) : Prop := ∃ m', m' < n - i ∧ m' = n - (i + 1) ∧ i + 1 ≤ n ∧ Pv (i + 1) ys σ H
theorem cnx {n : Nat} {Pv : Nat → List V → St → Hp → Prop} {i : Nat} {ys : List V} {σ : St} {H : Hp} (hi : i < n) (h : Pv (i + 1) ys σ H) : CNx n Pv i ys σ H := ⟨n - (i + 1), by omega, rfl, hi, h⟩
theorem comp_goes {J : It} {n : Nat} {Ok : Hp → Prop} {Y : Nat → Hp → V → Prop} (G : Goes J n Ok Y) {g : TG} {tt : TT} {te : TE} {p : Addr} {σ : St} {H : Hp} {Q : Hp → Prop} (Pv : Nat → List V → St → Hp → Prop)
    (h0 : Pv 0 [] σ (upd H p (.lst []))) (hl : ∀ i ys σ H, i ≤ n → Pv i ys σ H → Ok H ∧ H p = some (.lst ys))
    (hs : ∀ i x ys σ H, i < n → Y i H x → Pv i ys σ H → g x σ H fun σ3 H3 => tt σ3 H3 fun b H4 => if b = true then te σ3 H4 fun y H5 => H5 p = some (.lst ys) ∧ ys.length < sizeLine ∧ CNx n Pv i (ys ++ [y]) σ3 (upd H5 p (.lst (ys ++ [y]))) else CNx n Pv i ys σ3 H4)
    (hd : ∀ ys σ H, Pv n ys σ H → Q H) : CompBl J g tt te p σ H Q := by
  refine ⟨fun i m ys σ H => m = n - i ∧ i ≤ n ∧ Pv i ys σ H, ⟨n, by simp, Nat.zero_le _, h0⟩, ?_⟩
  rintro i m ys σ' H' ⟨rfl, hi, pv⟩
  obtain ⟨ok, hp⟩ := hl i ys σ' H' hi pv
  refine ⟨hp, ?_⟩
  by_cases hlt : i < n
  · refine .inr ⟨G.go i H' ok hlt, fun x H2 y => ?_⟩
    obtain ⟨e, y⟩ := G.yld i H' x H2 ok hlt y
    subst e
    exact hs i x ys σ' _ hlt y pv
  · have e : i = n := by omega
    subst e
    exact .inl ⟨G.stop H' ok, hd ys σ' H' pv⟩
theorem while_w {c : TT} {tb : TS} {D : Ends} {σ : St} {H : Hp} (Pv : St → Hp → Prop) (μ : St → Hp → Nat) (h0 : Pv σ H)
    (hs : ∀ σ H, Pv σ H → c σ H fun b H1 => if b = true then ∃ N : St → Hp → Prop, (∀ σ' H', N σ' H' → ∃ m', m' < μ σ H ∧ m' = μ σ' H' ∧ Pv σ' H') ∧ tb { D with nx := N, ct := N, bk := D.nx } σ H1 else D.nx σ H1) : tWhile c tb D σ H := by
  refine ⟨fun m σ H => m = μ σ H ∧ Pv σ H, ⟨_, rfl, h0⟩, ?_⟩
  rintro m σ H ⟨rfl, p⟩
  exact hs σ H p
end L2

set_option linter.all false
set_option maxRecDepth 100000
set_option maxHeartbeats 400000
namespace L2
open PySem PySem.Spec PyProof.Rows

section
variable {X : Cx}
/-- isinstance(x, a built-in type); isinstance(x, an own class) -/
theorem call_isT {T : String} : CallR X (.builtin "isinstance") (fun xs H Q => ∃ x t b, xs = [x, .ty T] ∧ TyOf X.K H x t ∧ PySem.W.kitOne X.K t (.type T) = some b ∧ Q (.bl b) H) := by
  intro pins s σ H xs us Q I r h
  obtain ⟨x, t, b, rfl, ty, e, q⟩ := h
  obtain ⟨u, w', rfl, ru, rw'⟩ := vals2 r
  cases rw'
  exact isinst_ok I ru ty e fun tk => ⟨.bl b, H, I.tok _, rfl, q⟩
end

/-! ### a row of written ints as arguments -/
end L2

set_option linter.all false
set_option maxRecDepth 100000
set_option maxHeartbeats 400000
namespace L2
open PySem PySem.Spec PyProof.Rows

/-! ### defs in short -/
/-- the def x of the text stands behind the top -/
structure Fn (K : PySem.W.Frag) (mg : Str → Option Value) (x : Str) (st : Stmt) : Prop where
  ex : ∃ (f : Addr) (fd : FuncData), mg x = some (.ref f) ∧ Fun K x x st f fd
/-- .. and keeps its promise -/
def Def (P : Program) (w : World) (K : PySem.W.Frag) (mg : Str → Option Value) (base : Heap) (k : Nat) (x : Str) (ps : List Str) (sp : Sp) : Prop :=
  ∃ (f : Addr) (fd : FuncData), mg x = some (.ref f) ∧ PySem.W.keepIn K (.ref f) = true ∧ Binds K fd ps [] ∧ FnOk P w K mg base CX0 k f fd ps sp
section
variable {P : Program} {w : World} {K : PySem.W.Frag} {mg : Str → Option Value} {base : Heap} {x : Str} {st : Stmt} {N ps : List Str} {k j : Nat} {sp : Sp}
theorem Def.up (D : Def P w K mg base j x ps sp) (h : j ≤ k) : Def P w K mg base k x ps sp := by
  obtain ⟨f, fd, a, b, c, d⟩ := D
  exact ⟨f, fd, a, b, c, d.mono h⟩
theorem Def.of (F : Fn K mg x st) (S : FnScope N ps (defScope st))
    (hb : ∀ (kV doc pm : Value) (an : Option Addr) (cdv ct : Value) (us : List Value), us.length = ps.length → bindArgs (PySem.W.fnOf x x (defArgs st) (defBody st) (defScope st) .none kV doc pm an cdv ct) ⟨us, []⟩ = pure (ps.zip us))
    (len : ∀ vs H Q E, sp vs H Q E → vs.length = ps.length)
    (hbody : ∀ (f : Addr) (cdv : Value) (A : Around) (outer : List Env) (s : Shared) (H : Hp) (vs : List V) (Q : VK) (E : XK), Room k (A.deeper (envOfC x (defScope st) s.heap.objs.size f cdv)) → sp vs H Q E →
      ∃ t, PSs (cxOf CX0 P w K mg base N x (defScope st) f cdv A outer s H E).nox (defBody st) t ∧ t { nx := fun _ H' => Q .non H', rt := Q } (start N vs) H) : Def P w K mg base (k + 1) x ps sp := by
  obtain ⟨f, fd, hm, F⟩ := F.ex
  exact ⟨f, fd, hm, F.kp, F.binds hb, F.ok S len fun cdv A outer s H vs Q E hr h => hbody f cdv A outer s H vs Q E hr h⟩
end
section
variable {X : Cx} {x : Str} {ps : List Str} {sp : Sp} {k : Nat} {e : Expr} {es : List Expr} {t : TA} {p pos : Pos}
theorem pe_callD (D : Def X.prog X.w X.K X.mg X.base k x ps sp) (hr : Room k X.A) (ha : PA X (e :: es) t) (hg : Gl X x := by rfl) (hdb : (x == ("__debug__" : Str)) = false := by decide)
    (he : starEach (e :: es) X.env = (false, eval e X.env) :: starEach es X.env := by rfl) (hpl : (backTo pos (starEach es X.env)).any (·.1) = false := by rfl) :
    PE X (.Call (.Name x p) (e :: es) [] pos) (tCall sp [] E0 t) := by
  obtain ⟨f, fd, hm, hk, hb, F⟩ := D
  exact pe_call F hr hg hm hk hb .nil pass0 ha hdb he hpl
end

/-! ### heaps that only grow -/
theorem same_upd {H : Hp} {p : Addr} {o : HO} (h : H p = none) : Same H (upd H p o) := fun b u e => by rw [upd_ne (ne_of_none e h)]; exact e
theorem Same.upd {H H1 : Hp} {p : Addr} {o : HO} (s : Same H H1) (h : H1 p = none) : Same H (upd H1 p o) := s.trans (same_upd h)
end L2

set_option linter.all false
set_option maxRecDepth 100000
set_option maxHeartbeats 400000
namespace L2
open PySem PySem.Spec PyProof.Rows
/-! ### the judgements, sealed: Lean does not look into them while a term is built -/
structure QE (X : Cx) (e : Expr) (t : TE) : Prop where
  h : PE X e t
structure QT (X : Cx) (e : Expr) (t : TT) : Prop where
  h : PT X e t
structure QW (X : Cx) (e : Expr) (t : TT) : Prop where
  h : PW X e t
structure QA (X : Cx) (es : List Expr) (t : TA) : Prop where
  h : PA X es t
structure QS (X : Cx) (st : Stmt) (t : TS) : Prop where
  h : PS X st t
structure QSs (X : Cx) (st : List Stmt) (t : TS) : Prop where
  h : PSs X st t
structure QG (X : Cx) (e : Expr) (t : TG) : Prop where
  h : PG X e t
structure QGs (X : Cx) (es : List Expr) (t : TGs) : Prop where
  h : PGs X es t
structure QI (X : Cx) (tg iter : Expr) (t : TI) : Prop where
  h : PI X tg iter t
structure QO (X : Cx) (e : Option Expr) (t : TO) : Prop where
  h : PO X e t
structure QTs (X : Cx) (es : List Expr) (t : TT) : Prop where
  h : PTs X es t
section
variable {X : Cx} {a b c e o i l : Expr} {es rest : List Expr} {ta tb tc te to ti td ty tv tl : TE} {tA tB' : TT} {t : TA} {pos p p2 pos' apos cpos tpos : Pos} {x : Str}
theorem qv (i : Nat) {x : Str} {pos : Pos} (hN : X.N[i]? = some x := by rfl) (hv : Vis X.env.scope x := by first | exact Or.inl rfl | exact Or.inr (Or.inl rfl) | exact Or.inr (Or.inr rfl)) (hd : (x == ("__debug__" : Str)) = false := by decide)
    (hcd : (x == ("__classdict__" : Str)) = false := by decide) : QE X (.Name x pos) (tVar i) := ⟨pe_var hN hv hd hcd⟩
theorem qe_int {i j pos} : QE X (.Constant (.int i) j pos) (tC (.int i)) := ⟨pe_int⟩
theorem qe_bl {b j pos} : QE X (.Constant (.bool b) j pos) (tC (.bl b)) := ⟨pe_bl⟩
theorem qe_non {j pos} : QE X (.Constant .none j pos) (tC .non) := ⟨pe_non⟩
theorem qe_str {x j pos} : QE X (.Constant (.str x) j pos) (tC (.str x)) := ⟨pe_str⟩
theorem qe_glob {x : Str} {v : V} {u : Value} {pos : Pos} (hm : X.mg x = some u) (r : RelV v u) (hg : Gl X x := by rfl) (hd : (x == ("__debug__" : Str)) = false := by decide) : QE X (.Name x pos) (tC v) := ⟨pe_glob hg hm r hd⟩
theorem qe_bltn {x : Str} {v : V} {u : Value} {pos : Pos} (hm : X.mg x = none) (hv : bootBuiltins x = some u) (r : RelV v u) (hg : Gl X x := by rfl) (hn : x ≠ "__name__" := by decide) (hd : (x == ("__debug__" : Str)) = false := by decide) : QE X (.Name x pos) (tC v) := ⟨pe_bltn hg hm hv r hn hd⟩
theorem qe_op {op : Operator} {r : R2} (ho : OpR X (binaryOp op) r) (ha : QE X a ta) (hb : QE X b tb) : QE X (.BinOp a op b pos) (tOp r ta tb) := ⟨pe_op ho ha.h hb.h⟩
theorem qe_un {op : UnaryOp} {r : V → Hp → VK → Prop} (ho : UnR X (unaryOp op) r) (ha : QE X a ta) : QE X (.UnaryOp op a pos) (tUn r ta) := ⟨pe_un ho ha.h⟩
theorem qe_cmp {op : CmpOp} {r : R2} (ho : OpR X (compareOp op) r) (ha : QE X a ta) (hb : QE X b tb) (hm : behindInMarks op b = false := by first | exact nomark _ | rfl) : QE X (.Compare a [op] [b] pos) (tOp r ta tb) := ⟨pe_cmpR ho ha.h hb.h hm⟩
theorem qt_cmp {op : CmpOp} {r : R2} (ho : OpR X (compareOp op) r) (ha : QE X a ta) (hb : QE X b tb) (hm : behindInMarks op b = false := by first | exact nomark _ | rfl) : QT X (.Compare a [op] [b] pos) (tTest (tOp r ta tb)) := ⟨pt_cmpR ho ha.h hb.h hm⟩
theorem qe_chain {op op' : CmpOp} {r r' : R2} (ho : OpR X (compareOp op) r) (ho' : OpR X (compareOp op') r') (ha : QE X a ta) (hb : QE X b tb) (hc : QE X c tc) (hm : lastMarks [op, op'] [b, c] = false := by with_unfolding_all rfl) :
    QE X (.Compare a [op, op'] [b, c] pos) (tChain r r' ta tb tc) := ⟨pe_chain ho ho' ha.h hb.h hc.h hm⟩
theorem qt_chain {op op' : CmpOp} {r r' : R2} (ho : OpR X (compareOp op) r) (ho' : OpR X (compareOp op') r') (ha : QE X a ta) (hb : QE X b tb) (hc : QE X c tc) (hm : lastMarks [op, op'] [b, c] = false := by with_unfolding_all rfl) :
    QT X (.Compare a [op, op'] [b, c] pos) (tTest (tChain r r' ta tb tc)) := ⟨pt_chain ho ho' ha.h hb.h hc.h hm⟩
theorem qe_one {op} (h : QE X a ta) : QE X (.BoolOp op [a] pos) ta := ⟨pe_one h.h⟩
theorem qe_and (ha : QE X a ta) (hb : QE X (.BoolOp .And (b :: rest) pos) tb) : QE X (.BoolOp .And (a :: b :: rest) pos) (tAndV ta tb) := ⟨pe_and ha.h hb.h⟩
theorem qe_or (ha : QE X a ta) (hb : QE X (.BoolOp .Or (b :: rest) pos) tb) : QE X (.BoolOp .Or (a :: b :: rest) pos) (tOrV ta tb) := ⟨pe_or ha.h hb.h⟩
theorem qe_not (ha : QE X a ta) : QE X (.UnaryOp .Not a pos) (tNotV ta) := ⟨pe_not ha.h⟩
theorem qw_and1 (ha : QT X a tA) : QW X (.BoolOp .And [a] pos) tA := ⟨pw_and1 ha.h⟩
theorem qw_or1 (ha : QT X a tA) : QW X (.BoolOp .Or [a] pos) tA := ⟨pw_or1 ha.h⟩
theorem qw_and (ha : QT X a tA) (hb : QW X (.BoolOp .And (b :: rest) pos) tB') : QW X (.BoolOp .And (a :: b :: rest) pos) (tAnd tA tB') := ⟨pw_and ha.h hb.h⟩
theorem qw_or (ha : QT X a tA) (hb : QW X (.BoolOp .Or (b :: rest) pos) tB') : QW X (.BoolOp .Or (a :: b :: rest) pos) (tOr tA tB') := ⟨pw_or ha.h hb.h⟩
theorem qt_w (h : QW X a tA) : QT X a tA := ⟨h.h.pt⟩
theorem qt_not (ha : QT X a tA) : QT X (.UnaryOp .Not a pos) (tNot tA) := ⟨pt_not ha.h⟩
/-- a value that is a bool, as a test -/
theorem qt_val {t : TE} (h : QE X e t) (he : ∀ whole, isTrue e X.env whole = (do let v ← whole; standAt e.pos; holding [v] (truthy v)) := by intro _; rfl) : QT X e (tB t) := ⟨pt_val h.h he⟩
theorem qe_fld {f : Str} (he : QE X e ta) (hb : attributeBase e f X.env (eval e X.env) = eval e X.env := by rfl) : QE X (.Attribute e f pos) (tFld X.K ta f) := ⟨pe_fld he.h hb⟩
theorem qe_tup {x1} (h : QA X es t) : QE X (.Tuple es x1 pos) (tTup t) := ⟨pe_tup h.h⟩
theorem qe_lst (h : QA X es t) : QE X (.List es pos) (tLst t) := ⟨pe_lst h.h⟩
theorem qe_ix {r : R2} (hr : IxR X r) (ha : QE X a ta) (hb : QE X b tb) (hs : PlainIx b := by exact fun _ _ => rfl) : QE X (.Subscript a b pos) (tOp r ta tb) := ⟨pe_ix hr ha.h hb.h hs⟩
theorem qo_none : QO X none tNoPart := ⟨po_none⟩
theorem qo_some (h : QE X e te) : QO X (some e) (tPart te) := ⟨po_some h.h⟩
theorem qe_slice {r : V → Option Int → Option Int → Hp → VK → Prop} {lo hi : Option Expr} {t1 t2 : TO} (hr : SlR X r) (he : QE X e te) (hl : QO X lo t1) (hu : QO X hi t2) : QE X (.Subscript e (.Slice lo hi none p2) pos) (tSl r te t1 t2) := ⟨pe_slice hr he.h hl.h hu.h⟩
theorem qe_callD {ps : List Str} {sp : Sp} {k : Nat} (D : Def X.prog X.w X.K X.mg X.base k x ps sp) (hr : Room k X.A) (ha : QA X (e :: es) t) (hg : Gl X x := by rfl) (hdb : (x == ("__debug__" : Str)) = false := by decide)
    (he : starEach (e :: es) X.env = (false, eval e X.env) :: starEach es X.env := by rfl) (hpl : (backTo pos (starEach es X.env)).any (·.1) = false := by rfl) :
    QE X (.Call (.Name x p) (e :: es) [] pos) (tCall sp [] E0 t) := ⟨pe_callD D hr ha.h hg hdb he hpl⟩
theorem qe_callB {id : String} {r : List V → Hp → VK → Prop} (hc : CallR X (.builtin id) r) (hm : X.mg x = none) (hv : bootBuiltins x = some (.builtin id)) (ha : QA X (e :: es) t) (hg : Gl X x := by rfl) (hn : x ≠ "__name__" := by decide) (hdb : (x == ("__debug__" : Str)) = false := by decide)
    (he : starEach (e :: es) X.env = (false, eval e X.env) :: starEach es X.env := by rfl) (hpl : (backTo pos (starEach es X.env)).any (·.1) = false := by rfl) : QE X (.Call (.Name x p) (e :: es) [] pos) (tCB r t) := ⟨pe_callB hc hg hm hv ha.h hn hdb he hpl⟩
theorem qe_callTy {T : String} {r : List V → Hp → VK → Prop} (hc : CallR X (.type T) r) (hm : X.mg x = none) (hv : bootBuiltins x = some (.type T)) (ha : QA X (e :: es) t) (hg : Gl X x := by rfl) (hn : x ≠ "__name__" := by decide) (hdb : (x == ("__debug__" : Str)) = false := by decide)
    (he : starEach (e :: es) X.env = (false, eval e X.env) :: starEach es X.env := by rfl) (hpl : (backTo pos (starEach es X.env)).any (·.1) = false := by rfl) : QE X (.Call (.Name x p) (e :: es) [] pos) (tCB r t) := ⟨pe_callTy hc hg hm hv ha.h hn hdb he hpl⟩
theorem qe_bm0 {T id : String} {name : Str} {r : V → List V → Hp → VK → Prop} (pa : PlainAttrs T) (slot : Slot T name id) (hty : typeOf (.builtin id) = pure (.type "method_descriptor")) (hm : MtR X id r) (ho : QE X o to)
    (hbase : attributeBase o name X.env (eval o X.env) = eval o X.env := by rfl) (hline : (apos.endLine == cpos.line) = true := by rfl) : QE X (.Call (.Attribute o name apos) [] [] cpos) (tBM0 X.K T r to) := ⟨pe_bm0 pa slot hty hm ho.h hbase hline⟩
theorem qe_bm {T id : String} {name : Str} {r : V → List V → Hp → VK → Prop} (pa : PlainAttrs T) (slot : Slot T name id) (hty : typeOf (.builtin id) = pure (.type "method_descriptor")) (hm : MtR X id r) (ho : QE X o to) (ha : QA X (e :: es) t)
    (hbase : attributeBase o name X.env (eval o X.env) = eval o X.env := by rfl)
    (hfew : ((backTo cpos (starEach (e :: es) X.env)).all (fun x => !x.1) && (backToKw cpos (keywordEach [] X.env)).all (fun x => x.1.isSome)
      && decide ((e :: es).length + ([] : List Keyword).length + (if ([] : List Keyword).isEmpty then 0 else 1) < 30)) = true := by rfl)
    (hline : (apos.endLine == cpos.line) = true := by rfl) (hs : starEach (e :: es) X.env = (false, eval e X.env) :: starEach es X.env := by rfl) (hplain : (backTo cpos (starEach es X.env)).any (·.1) = false := by rfl) :
    QE X (.Call (.Attribute o name apos) (e :: es) [] cpos) (tBM X.K T r to t) := ⟨pe_bm pa slot hty hm ho.h ha.h hbase hfew hline hs hplain⟩
theorem qa_nil : QA X [] tNil := ⟨pa_nil⟩
theorem qa_cons {e : Expr} {es : List Expr} {te : TE} {t : TA} (ha : QE X e te) (hr : QA X es t) (hs : starEach (e :: es) X.env = (false, eval e X.env) :: starEach es X.env := by rfl) : QA X (e :: es) (tCons te t) := ⟨pa_cons ha.h hr.h hs⟩
theorem qe_lcomp {tg iter elt : Expr} {ifs : List Expr} {sc : Scope} {wi : TI} {g : TG} {tt : TT} (own fr : List Str) (ix : List Nat) (hi : QI X tg iter wi)
    (hg : ∀ (fp : List Addr) (pins : List (Addr × Obj)) (s : Shared) (H : Hp), QG (cxComp X (own ++ fr) sc fp pins s H) tg g) (ht : ∀ (fp : List Addr) (pins : List (Addr × Obj)) (s : Shared) (H : Hp), QTs (cxComp X (own ++ fr) sc fp pins s H) ifs tt)
    (he : ∀ (fp : List Addr) (pins : List (Addr × Obj)) (s : Shared) (H : Hp), QE (cxComp X (own ++ fr) sc fp pins s H) elt te) (hc : X.calm = true := by rfl)
    (hS : compChk X.env.scope sc X.N fr ix = true := by kernel_rfl) (hs : ∀ x, foldedSetIterable iter X.env x = pure x := by intro _; rfl) : QE X (.ListComp elt [⟨tg, iter, ifs, 0⟩] sc pos) (tComp wi g tt te own ix) :=
  ⟨pe_lcomp own fr ix hc hi.h (fun a b c d => (hg a b c d).h) (fun a b c d => (ht a b c d).h) (fun a b c d => (he a b c d).h) hS hs⟩
theorem qts_nil : QTs X [] tYes := ⟨pts_nil⟩
/-! statements -/
variable {st : Stmt} {rs : List Stmt} {ts us : TS}
theorem qss_nil : QSs X [] tNext := ⟨pss_nil⟩
theorem qss_cons (h1 : QS X st ts) (h2 : QSs X rs us) : QSs X (st :: rs) (tSeq ts us) := ⟨pss_cons h1.h h2.h⟩
theorem qss_one (h1 : QS X st ts) : QSs X [st] ts := ⟨pss_one h1.h⟩
theorem qss_never : QSs X rs tNever := ⟨pss_never⟩
theorem qs_expr (he : QE X e te) (hs : swapsWith e none pos.line X.env = pure false := by rfl) : QS X (.Expr e pos) (tDrop te) := ⟨ps_expr he.h hs⟩
theorem qs_ret (he : QE X e te) : QS X (.Return (some e) pos) (tRet te) := ⟨ps_ret he.h⟩
theorem qs_if {sa sb : List Stmt} {tt : TT} (hc : QT X c tt) (ha : QSs X sa ts) (hb : QSs X sb us) : QS X (.If c sa sb pos) (tIfS tt ts us) := ⟨ps_if hc.h ha.h hb.h⟩
theorem qs_set {x : Str} (i : Nat) (hN : X.N.Nodup) (he : QE X e te) (hi : X.N[i]? = some x := by rfl) (hx : Loc X.env.scope x := by first | exact Or.inl rfl | exact Or.inr rfl) (hs : swapsWith e (some (.Name x pos')) pos.line X.env = pure false := by rfl)
    (hf : X.fn x = true ∨ X.env.scope.names.lookup x = some .local := by first | exact .inl rfl | exact .inr rfl) : QS X (.Assign [.Name x pos'] e pos) (tAsg te (gName i)) := ⟨ps_set hN hi hx he.h hs hf⟩
theorem qs_asg {tg : Expr} {g : TG} (he : QE X e te) (hg : QG X tg g) (hs : swapsWithSole [tg] e pos.line X.env = pure false := by rfl) (hw : swappedStores [tg] e X.env = pure none := by rfl)
    (h1 : (assignEach [tg] X.env).map (·.2) = [assign tg X.env] := by rfl) : QS X (.Assign [tg] e pos) (tAsg te g) := ⟨ps_asg he.h hg.h hs hw h1⟩
theorem qs_par {x y : Str} {px py pt pt2 : Pos} {kt k2} (i j : Nat) (hN : X.N.Nodup) (ha : QA X [a, b] t) (hc : X.calm = true := by rfl) (hi : X.N[i]? = some x := by rfl) (hj : X.N[j]? = some y := by rfl) (hij : i ≠ j := by decide)
    (hx : X.env.scope.names.lookup x = some .local := by rfl) (hy : X.env.scope.names.lookup y = some .local := by rfl)
    (hw : swappedStores [.Tuple [.Name x px, .Name y py] kt pt] (.Tuple [a, b] k2 pt2) X.env = pure (some [x, y]) := by rfl)
    (hs : swapsWithSole [.Tuple [.Name x px, .Name y py] kt pt] (.Tuple [a, b] k2 pt2) pos.line X.env = pure false := by rfl) :
    QS X (.Assign [.Tuple [.Name x px, .Name y py] kt pt] (.Tuple [a, b] k2 pt2) pos) (tPar i j t) := ⟨ps_par hc hN hi hj hij hx hy ha.h hw hs⟩
theorem qs_fld {f : Str} {value : Expr} (ha : QE X o ta) (hv : QE X value tv) (hs : swapsWith value (some (.Attribute o f pos')) pos.line X.env = pure false := by rfl) : QS X (.Assign [.Attribute o f pos'] value pos) (sFld X.K ta tv f) := ⟨ps_fld ha.h hv.h hs⟩
theorem qs_while {body : List Stmt} {tt : TT} {tb : TS} (hc : QT X c tt) (hb : QSs X body tb) (hp : PassesOwn (model X.prog X.w) X.A X.env X.xe := by exact PassesOwn.never) : QS X (.While c body [] pos) (tWhile tt tb) := ⟨ps_while hp hc.h hb.h⟩
theorem qs_for {tg iter : Expr} {body : List Stmt} {wi : TI} {g : TG} {tb : TS} (hi : QI X tg iter wi) (hg : QG X tg g) (hb : QSs X body tb) (hc : X.calm = true := by rfl) (hp : PassesOwn (model X.prog X.w) X.A X.env X.xe := by exact PassesOwn.never)
    (hs : ∀ x, foldedSetIterable iter X.env x = pure x := by intro _; rfl) : QS X (.For tg iter body [] pos) (tFor wi g tb) := ⟨ps_for hp hc hi.h hg.h hb.h hs⟩
/-! targets, iterators -/
theorem qg_name {x : Str} (i : Nat) (hN : X.N.Nodup) (hi : X.N[i]? = some x := by rfl) (hx : Loc X.env.scope x := by first | exact Or.inl rfl | exact Or.inr rfl) (hf : X.fn x = true ∨ X.env.scope.names.lookup x = some .local := by first | exact .inl rfl | exact .inr rfl) :
    QG X (.Name x pos) (gName i) := ⟨pg_name hN hi hx hf⟩
theorem qgs_nil : QGs X [] gNil := ⟨pgs_nil⟩
theorem qgs_cons {t : TG} {u : TGs} (h1 : QG X e t) (h2 : QGs X es u) (hs : (assignEach (e :: es) X.env).map (·.2) = assign e X.env :: (assignEach es X.env).map (·.2) := by rfl) : QGs X (e :: es) (gCons t u) := ⟨pgs_cons h1.h h2.h hs⟩
theorem qg_tup {k : Nat} {t : TGs} {n : Nat} (h : QGs X es t) (hc : X.calm = true := by rfl) (hn : (assignEach es X.env).length = n := by rfl) (hst : (assignEach es X.env).findIdx? (·.1) = none := by rfl) : QG X (.Tuple es k pos) (gTup X.K n t) := ⟨pg_tup hc h.h hn hst⟩
theorem qg_sub {t : TSet} (ho : QE X o to) (hi : QE X i ti) (hs : PSet X t)
    (ha : ∀ v, assign (.Subscript o i pos) X.env v = (do
      let ov ← holding [v] (eval o X.env)
      let iv ← holding [v, ov] (eval i X.env)
      standAt pos
      holding [v, ov, iv] (setItem ov iv v)
      release [v, ov, iv] []) := by intro _; rfl) : QG X (.Subscript o i pos) (gSub to ti t) := ⟨pg_sub ho.h hi.h hs ha⟩
theorem qi_list {tg : Expr} (hl : QE X l tl) : QI X tg l (iList X.K tl) := ⟨pi_list hl.h⟩
theorem qi_str {tg : Expr} (hl : QE X l tl) : QI X tg l (iStr tl) := ⟨pi_str hl.h⟩
theorem qi_range1 {tg : Expr} (hm : X.mg "range" = none) (ha : QA X [a] t) (hg : Gl X "range" := by rfl) (hs : starEach [a] X.env = [(false, eval a X.env)] := by rfl) : QI X tg (.Call (.Name "range" p) [a] [] pos) (iRng1 t) := ⟨pi_range1 hg hm ha.h hs⟩
theorem qi_range2 {tg : Expr} (hm : X.mg "range" = none) (ha : QA X [a, b] t) (hg : Gl X "range" := by rfl) (hs : starEach [a, b] X.env = [(false, eval a X.env), (false, eval b X.env)] := by rfl) (hs2 : starEach [b] X.env = [(false, eval b X.env)] := by rfl) :
    QI X tg (.Call (.Name "range" p) [a, b] [] pos) (iRng2 t) := ⟨pi_range2 hg hm ha.h hs hs2⟩
end
/-! ### a def by its sealed body -/
theorem Def.by {P : Program} {w : World} {K : PySem.W.Frag} {mg : Str → Option Value} {base : Heap} {x : Str} {st : Stmt} {N ps : List Str} {k : Nat} {sp : Sp} (F : Fn K mg x st) (S : FnScope N ps (defScope st))
    (hb : ∀ (kV doc pm : Value) (an : Option Addr) (cdv ct : Value) (us : List Value), us.length = ps.length → bindArgs (PySem.W.fnOf x x (defArgs st) (defBody st) (defScope st) .none kV doc pm an cdv ct) ⟨us, []⟩ = pure (ps.zip us))
    (len : ∀ vs H Q E, sp vs H Q E → vs.length = ps.length)
    (hbody : ∀ (f : Addr) (cdv : Value) (A : Around) (outer : List Env) (s : Shared) (H : Hp) (vs : List V) (Q : VK) (E : XK), Room k (A.deeper (envOfC x (defScope st) s.heap.objs.size f cdv)) → sp vs H Q E →
      ∃ t, QSs (cxOf CX0 P w K mg base N x (defScope st) f cdv A outer s H E).nox (defBody st) t ∧ t { nx := fun _ H' => Q .non H', rt := Q } (start N vs) H) : Def P w K mg base (k + 1) x ps sp :=
  Def.of F S hb len fun f cdv A outer s H vs Q E hr h => let ⟨t, h1, h2⟩ := hbody f cdv A outer s H vs Q E hr h; ⟨t, h1.h, h2⟩
end L2

set_option linter.all false
set_option maxRecDepth 100000
set_option maxHeartbeats 400000
namespace L2
open PySem PySem.Spec PyProof.Rows
/-! ### data: what == reads -/
mutual
inductive Rds (K : PySem.W.Frag) (H : Hp) : V → PyData → Prop
  | non : Rds K H .non .none
  | bl (b : Bool) : Rds K H (.bl b) (.bool b)
  | int (i : Int) : Rds K H (.int i) (.int i)
  | str (x : Str) : Rds K H (.str x) (.str x)
  | lst {a : Addr} {xs : List V} {ds : List PyData} : SqL K H a xs → RdsAll K H xs ds → Rds K H (.ref a) (.list ds)
  | tup {a : Addr} {xs : List V} {ds : List PyData} : SqT K H a xs → RdsAll K H xs ds → Rds K H (.ref a) (.tuple ds)
inductive RdsAll (K : PySem.W.Frag) (H : Hp) : List V → List PyData → Prop
  | nil : RdsAll K H [] []
  | cons {x : V} {d : PyData} {xs : List V} {ds : List PyData} : Rds K H x d → RdsAll K H xs ds → RdsAll K H (x :: xs) (d :: ds)
end
section
variable {X : Cx} {pins : List (Addr × Obj)} {σ : St} {H : Hp} {s : Shared}
mutual
theorem reads_of (I : Inv X pins σ H s) : ∀ {x : V} {d : PyData}, Rds X.K H x d → ∀ u, RelV x u → ∃ as, Reads s.heap u d as
  | _, _, .non, u, r => by cases r; exact ⟨[], .none⟩
  | _, _, .bl b, u, r => by cases r; exact ⟨[], .bool b⟩
  | _, _, .int i, u, r => by obtain ⟨t, rfl⟩ := r; exact ⟨[], .int i t⟩
  | _, _, .str x, u, r => by obtain ⟨t, rfl⟩ := r; exact ⟨[], .str x t⟩
  | _, _, .lst (a := a) hq ha, u, r => by
    cases r
    obtain ⟨its, rv, ⟨o, n, ho, hc, hd, hs⟩, _⟩ := I.list hq
    obtain ⟨as, q⟩ := readsAll_of I ha its rv
    exact ⟨a :: as, .list ho hc hs (by simpa using q)⟩
  | _, _, .tup (a := a) hq ha, u, r => by
    cases r
    obtain ⟨its, rv, ⟨o, ho, hc, n, hs⟩, _⟩ := I.tuple hq
    obtain ⟨as, q⟩ := readsAll_of I ha its rv
    exact ⟨as, .tuple ho hc hs (by simpa using q)⟩
theorem readsAll_of (I : Inv X pins σ H s) : ∀ {xs : List V} {ds : List PyData}, RdsAll X.K H xs ds → ∀ us, Vals xs us → ∃ as, ReadsAll s.heap us ds as
  | _, _, .nil, us, r => by cases r; exact ⟨[], .nil⟩
  | _, _, .cons h t, us, r => by
    cases r with
    | cons r1 r2 =>
      obtain ⟨as, q1⟩ := reads_of I h _ r1
      obtain ⟨bs, q2⟩ := readsAll_of I t _ r2
      exact ⟨as ++ bs, .cons q1 q2⟩
end
theorem op_eqD (hu : X.A.units + 64 < cLine) : OpR X (compareOp .Eq) (fun x y H Q => ∃ dx dy, Rds X.K H x dx ∧ Rds X.K H y dy ∧ SeqAt.shaped dx = true ∧ SeqAt.shaped dy = true ∧ Q (.bl (PyData.eqv dx dy)) H) := by
  intro pins s σ H x y v u Q I rx ry h
  obtain ⟨dx, dy, h1, h2, s1, s2, q⟩ := h
  obtain ⟨as, r1⟩ := reads_of I h1 v rx
  obtain ⟨bs, r2⟩ := reads_of I h2 u ry
  exact eq_dataH r1 r2 s1 s2 hu ⟨.bl _, H, I, rfl, q⟩
theorem op_neD (hu : X.A.units + 64 < cLine) : OpR X (compareOp .NotEq) (fun x y H Q => ∃ dx dy, Rds X.K H x dx ∧ Rds X.K H y dy ∧ SeqAt.shaped dx = true ∧ SeqAt.shaped dy = true ∧ Q (.bl (!PyData.eqv dx dy)) H) := by
  intro pins s σ H x y v u Q I rx ry h
  obtain ⟨dx, dy, h1, h2, s1, s2, q⟩ := h
  obtain ⟨as, r1⟩ := reads_of I h1 v rx
  obtain ⟨bs, r2⟩ := reads_of I h2 u ry
  exact ne_dataH r1 r2 s1 s2 hu ⟨.bl _, H, I, rfl, q⟩
end
/-! texts; lists of texts; pairs of ints; lists of these -/
theorem rds_strs {K : PySem.W.Frag} {H : Hp} : ∀ zs : List Str, RdsAll K H (zs.map V.str) (zs.map PyData.str)
  | [] => .nil
  | z :: zs => .cons (.str z) (rds_strs zs)
theorem eqv_strs : ∀ xs ys : List Str, PyData.eqvAll (xs.map PyData.str) (ys.map PyData.str) = decide (xs = ys)
  | [], [] => by simp [PyData.eqvAll]
  | [], _ :: _ => by simp [PyData.eqvAll]
  | _ :: _, [] => by simp [PyData.eqvAll]
  | x :: xs, y :: ys => by
    simp only [List.map_cons, PyData.eqvAll, PyData.eqv, eqv_strs xs ys]
    by_cases h : x = y <;> by_cases h' : xs = ys <;> simp [h, h']
theorem lay_strs : ∀ {xs : List Str}, (∀ x ∈ xs, PySem.PyData.strOk x = true) → PyData.canLayAll0 (xs.map PyData.str) = true ∧ PyData.depthAll (xs.map PyData.str) = 0
  | [], _ => ⟨rfl, rfl⟩
  | x :: xs, h => by
    obtain ⟨h1, h2⟩ := lay_strs (xs := xs) fun y hy => h y (List.mem_cons_of_mem _ hy)
    refine ⟨?_, ?_⟩
    · simp only [List.map_cons, PyData.canLayAll0, PyData.canLay0, h1, Bool.and_true]
      exact h x List.mem_cons_self
    · simp [PyData.depthAll, PyData.depth, h2]
theorem shaped_strs {xs : List Str} (h : ∀ x ∈ xs, PySem.PyData.strOk x = true) : SeqAt.shaped (.list (xs.map PyData.str)) = true := by
  obtain ⟨h1, h2⟩ := lay_strs h
  unfold SeqAt.shaped
  simp [PyData.canLay0, PyData.depth, h1, h2]
abbrev pairD (p : Int × Int) : PyData := .tuple [.int p.1, .int p.2]
theorem eqv_pair (p q : Int × Int) : PyData.eqv (pairD p) (pairD q) = decide (p = q) := by
  simp only [pairD, PyData.eqv, PyData.eqvAll, Bool.and_true]
  obtain ⟨p1, p2⟩ := p
  obtain ⟨q1, q2⟩ := q
  by_cases h : p1 = q1 <;> by_cases h' : p2 = q2 <;> simp [h, h']
theorem shaped_pair (p : Int × Int) : SeqAt.shaped (pairD p) = true := by
  simp [SeqAt.shaped, pairD, PyData.canLay0, PyData.canLayAll0, PyData.depth, PyData.depthAll]
theorem lay_pairs : ∀ ps : List (Int × Int), PyData.canLayAll0 (ps.map pairD) = true ∧ PyData.depthAll (ps.map pairD) ≤ 1
  | [] => ⟨rfl, by simp [PyData.depthAll]⟩
  | p :: ps => by
    obtain ⟨h1, h2⟩ := lay_pairs ps
    refine ⟨?_, ?_⟩
    · rw [List.map_cons]
      show (PyData.canLay0 (pairD p) && PyData.canLayAll0 (ps.map pairD)) = true
      rw [h1]
      simp [pairD, PyData.canLay0, PyData.canLayAll0]
    · rw [List.map_cons]
      show max (PyData.depth (pairD p)) (PyData.depthAll (ps.map pairD)) ≤ 1
      have : PyData.depth (pairD p) = 1 := by simp [pairD, PyData.depth, PyData.depthAll]
      omega
theorem shaped_pairs (ps : List (Int × Int)) : SeqAt.shaped (.list (ps.map pairD)) = true := by
  obtain ⟨h1, h2⟩ := lay_pairs ps
  unfold SeqAt.shaped
  rw [Bool.and_eq_true]
  refine ⟨by simpa [PyData.canLay0] using h1, decide_eq_true ?_⟩
  simp only [PyData.depth]
  omega
end L2

set_option linter.all false
set_option maxRecDepth 100000
set_option maxHeartbeats 400000
namespace L2
open PySem PySem.Spec PyProof.Rows
/-! ### in, not in: a list of data -/
section
variable {X : Cx}
theorem op_inD (hu : X.A.units + 65 < cLine) : OpR X (compareOp .In) (fun x y H Q => ∃ d ds, Rds X.K H x d ∧ Rds X.K H y (.list ds) ∧ SeqAt.shaped d = true ∧ SeqAt.shaped (.list ds) = true ∧ Q (.bl (ds.any fun z => PyData.eqv z d)) H) := by
  intro pins s σ H x y v u Q I rx ry h
  obtain ⟨d, ds, h1, h2, s1, s2, q⟩ := h
  obtain ⟨as, r1⟩ := reads_of I h1 v rx
  obtain ⟨bs, r2⟩ := reads_of I h2 u ry
  exact SeqAt.in_list_reads r2 r1 (SeqAt.canLay_of_shaped s2) (SeqAt.canLay_of_shaped s1) (room_in_shaped s1 hu) ⟨.bl _, H, I, rfl, q⟩
end
theorem any_pairs (ps : List (Int × Int)) (p : Int × Int) : ((ps.map pairD).any fun z => PyData.eqv z (pairD p)) = decide (p ∈ ps) := by
  induction ps with
  | nil => simp
  | cons q r ih =>
    rw [List.map_cons, List.any_cons, ih, eqv_pair]
    by_cases h : q = p
    · simp [h]
    · have h' : ¬ p = q := fun z => h z.symm
      by_cases h2 : p ∈ r <;> simp [h, h', h2]
end L2

set_option linter.all false
set_option maxRecDepth 100000
set_option maxHeartbeats 400000
namespace L2
open PySem PySem.Spec PyProof.Rows
/-- a body in two: what holds of the rows from the n-th on is shown first -/
theorem split_at {X : Cx} {st : List Stmt} {D : Ends} {σ : St} {H : Hp} (n : Nat) (R : Ends → TS → Prop) (h2 : ∃ t, QSs X (st.drop n) t ∧ R D t)
    (h1 : ∀ t, QSs X (st.drop n) t → R D t → ∃ t', QSs X st t' ∧ t' D σ H) : ∃ t', QSs X st t' ∧ t' D σ H :=
  let ⟨t, a, b⟩ := h2
  h1 t a b
theorem Room.u64 {k : Nat} {A : Around} (r : Room k A) : A.units + 64 < cLine := by have := r.un; omega
theorem Room.u65 {k : Nat} {A : Around} (r : Room k A) : A.units + 65 < cLine := by have := r.un; omega
end L2
namespace L2
theorem iteFb {b : Bool} {A B : Prop} (e : b = false) (h : B) : if b = true then A else B := by rw [e]; exact h
theorem iteTb {b : Bool} {A B : Prop} (e : b = true) (h : A) : if b = true then A else B := by rw [e]; exact h
end L2
namespace L2
open PySem PySem.Spec PyProof.Rows
/-- the law's own def by its sealed body -/
theorem Law.by {P : Program} {w : World} {K : PySem.W.Frag} {mg : Str → Option Value} {base : Heap} {x qual : Str} {st : Stmt} {N ps : List Str} {k : Nat} {sp : Sp} {f : Addr} {fd : FuncData} (F : Fun K x qual st f fd) (S : FnScope N ps (defScope st))
    (len : ∀ vs H Q E, sp vs H Q E → vs.length = ps.length)
    (hbody : ∀ (cdv : Value) (A : Around) (outer : List Env) (s : Shared) (H : Hp) (vs : List V) (Q : VK) (E : XK), Room k (A.deeper (envOfC qual (defScope st) s.heap.objs.size f cdv)) → sp vs H Q E →
      ∃ t, QSs (cxOf CX0 P w K mg base N qual (defScope st) f cdv A outer s H E).nox (defBody st) t ∧ t { nx := fun _ H' => Q .non H', rt := Q } (start N vs) H) : FnOk P w K mg base CX0 (k + 1) f fd ps sp :=
  F.ok S len fun cdv A outer s H vs Q E hr h => let ⟨t, h1, h2⟩ := hbody cdv A outer s H vs Q E hr h; ⟨t, h1.h, h2⟩
/-- a def that the top has made -/
theorem fn_mk {K : PySem.W.Frag} {h : Heap} {mg : Str → Option Value} {x : Str} {st : Stmt} {f : Addr} {oc : Value} {od an : Option Addr} {osl : Array (Option Value)} {kV doc pm cdv ct : Value} (X : K.In h) (G : h.Ns mainGlobals mg)
    (a : PySem.W.nsIn K mainGlobals x = some (some (.ref f))) (l : K.lookup f = some ⟨oc, od, .func (PySem.W.fnOf x x (defArgs st) (defBody st) (defScope st) .none kV doc pm an cdv ct), osl⟩) (c : PySem.W.codeIn K cdv x = true) (k : PySem.W.keepIn K (.ref f) = true) : Fn K mg x st :=
  ⟨f, _, PySem.W.mg_of X G a, fun_mk l c k⟩
end L2
namespace L2
open PySem PySem.Spec PyProof.Rows
/-! the same rules, K named (inside a comprehension) -/
theorem ix_listK (K : PySem.W.Frag) {X : Cx} (e : X.K = K := by rfl) : IxR X (rIxL K) := e ▸ ix_list
theorem qe_fldK (K : PySem.W.Frag) {X : Cx} {e : Expr} {ta : TE} {f : Str} {pos : Pos} (he : QE X e ta) (h : X.K = K := by rfl) (hb : attributeBase e f X.env (eval e X.env) = eval e X.env := by rfl) : QE X (.Attribute e f pos) (tFld K ta f) := by
  subst h
  exact ⟨pe_fld he.h hb⟩
end L2
namespace L2
open PySem PySem.Spec PyProof.Rows
theorem qe_bmK (K : PySem.W.Frag) {X : Cx} {e o : Expr} {es : List Expr} {to : TE} {t : TA} {apos cpos : Pos} {T id : String} {name : Str} {r : V → List V → Hp → VK → Prop} (pa : PlainAttrs T) (slot : Slot T name id) (hty : typeOf (.builtin id) = pure (.type "method_descriptor")) (hm : MtR X id r) (ho : QE X o to) (ha : QA X (e :: es) t)
    (hK : X.K = K := by rfl) (hbase : attributeBase o name X.env (eval o X.env) = eval o X.env := by rfl)
    (hfew : ((backTo cpos (starEach (e :: es) X.env)).all (fun x => !x.1) && (backToKw cpos (keywordEach [] X.env)).all (fun x => x.1.isSome)
      && decide ((e :: es).length + ([] : List Keyword).length + (if ([] : List Keyword).isEmpty then 0 else 1) < 30)) = true := by rfl)
    (hline : (apos.endLine == cpos.line) = true := by rfl) (hs : starEach (e :: es) X.env = (false, eval e X.env) :: starEach es X.env := by rfl) (hplain : (backTo cpos (starEach es X.env)).any (·.1) = false := by rfl) :
    QE X (.Call (.Attribute o name apos) (e :: es) [] cpos) (tBM K T r to t) := by
  subst hK
  exact qe_bm pa slot hty hm ho ha hbase hfew hline hs hplain
end L2

set_option linter.all false
set_option maxRecDepth 100000
set_option maxHeartbeats 400000
namespace L2
open PySem PySem.Spec PyProof.Rows
/-! ### list(reversed(xs)) -/
section
variable {prog : Program} {w : World} {A : Around} {E : Value → Shared → Prop} {s : Shared} {it l : Addr} {vs : Array Value}
end
end L2

set_option linter.all false
set_option maxRecDepth 100000
set_option maxHeartbeats 400000
namespace L2
open PySem PySem.Spec PyProof.Rows
/-! ### a dict of the text's own, read -/
def KDic (P : Program) (w : World) (K : PySem.W.Frag) (d : Addr) (kvs : List (Key × V)) : Prop := (d == sysModules) = false ∧ ∀ h : Heap, K.In h → ∃ vs, KV kvs vs ∧ h.DictOf (mixKind P w) d vs
section
variable {X : Cx} {d : Addr} {kvs : List (Key × V)}
theorem op_notInK (C : KDic X.prog X.w X.K d kvs) : OpR X (compareOp .NotIn) (fun x y H Q => ∃ k, x = kV k ∧ y = .ref d ∧ Q (.bl (!(valV kvs k).isSome)) H) := by
  intro pins s σ H x y v u Q I rx ry h
  obtain ⟨k, rfl, rfl, q⟩ := h
  cases ry
  obtain ⟨vs, rel, dd⟩ := C.2 _ I.kIn
  refine wpAny_notIn_of (kV_is rx) C.1 dd.mapOf ?_
  rw [← (rel.val k).isSome_eq]
  exact ⟨.bl _, H, I.tok _, rfl, q⟩
end
/-! ### a dict walked: its keys in order -/
section
variable {prog : Program} {w : World} {A : Around} {E : Value → Shared → Prop} {s : Shared} {d it : Addr} {o : Obj} {es : Array DictEntry} {ep i : Nat}
end
end L2

set_option linter.all false
set_option maxRecDepth 100000
set_option maxHeartbeats 400000
namespace L2
open PySem PySem.Spec PyProof.Rows
/-! ### a text's slices -/
theorem part_of {v : Value} {lo : Option Int} (h : IsPart v lo) : ∃ l : Option (Int × Tok), v = partValue l ∧ l.map (·.1) = lo := by
  cases h with
  | none => exact ⟨none, rfl, rfl⟩
  | int i t => exact ⟨some (i, t), rfl, rfl⟩
theorem sl_str {X : Cx} : SlR X (fun x lo hi H Q => ∃ z, x = .str z ∧ z.length ≤ sizeLine ∧ Q (.str (Txt.slice z lo hi)) H) := by
  intro pins s σ H x v vl vu lo hi sl Q I rx hs pl pu h
  obtain ⟨z, rfl, hz, q⟩ := h
  obtain ⟨t, rfl⟩ := rx
  obtain ⟨l, rfl, rfl⟩ := part_of pl
  obtain ⟨u, rfl, rfl⟩ := part_of pu
  refine ⟨"str", _, PySem.F.slot_str_getitem.lookup, typeIs_str _ _ _, ?_⟩
  refine wpAny_getItem_str_slice (l := l) (u := u) (st := none) hs rfl ?_
  exact post_val_or_str ⟨Nat.le_trans (Txt.slice_le z _ _) hz, fun t' k => ⟨.str (Txt.slice z (l.map (·.1)) (u.map (·.1))), H, I.tok _, ⟨_, rfl⟩, q⟩⟩
theorem slice_to {x : Str} {j : Nat} (h : j ≤ x.length) : Txt.slice x none (some (j : Int)) = ⟨(x.cps.toList.take j).toArray⟩ := by
  have e := StrLaws.sliceText_to (x := x) (j := (j : Int)) ⟨by omega, by simpa [Str.length] using h⟩
  have e2 : Txt.slice x none (some (j : Int)) = StrLaws.sliceText x none (some (j : Int)) := rfl
  rw [e2]
  simpa using e
theorem slice_from {x : Str} {i : Nat} (h : i ≤ x.length) : Txt.slice x (some (i : Int)) none = ⟨(x.cps.toList.drop i).toArray⟩ := by
  have e := StrLaws.sliceText_from (x := x) (i := (i : Int)) ⟨by omega, by simpa [Str.length] using h⟩
  have e2 : Txt.slice x (some (i : Int)) none = StrLaws.sliceText x (some (i : Int)) none := rfl
  rw [e2, e, Int.toNat_natCast]
  congr 1
  rw [List.take_of_length_le]
  rw [List.length_drop]
  omega
end L2

set_option linter.all false
set_option maxRecDepth 100000
set_option maxHeartbeats 400000
namespace L2
open PySem PySem.Spec PyProof.Rows
/-! ### enumerate -/
section
variable {X : Cx} {pins : List (Addr × Obj)} {σ : St} {H : Hp} {s : Shared}
/-- records of ours have turned, and a new object is laid -/
theorem Inv.turnedT {h' : Heap} {t' : Nat} {ch : List Addr} {T : Addr} {o : HO} (I : Inv X pins σ H s) (hf : ∀ b ∈ ch, FpOk X pins H b) (k : ∀ b ob, b ∉ ch → s.heap.get? b = some ob → h'.get? b = some ob)
    (hT : s.heap.objs.size ≤ T) (new : ObjOk X.prog X.w (upd H T o) h' T o) : Inv X pins σ (upd H T o) { s with heap := h', toks := t' } := by
  have hn : H T = none := I.hok.fresh hT
  have ntr : ∀ b u, H b = some u → b ∉ ch := fun b u e z => by
    have := (hf b z).1
    rw [e] at this
    cases this
  have nT : ∀ b ob, s.heap.get? b = some ob → b ≠ T := fun b ob e z => by
    have := Heap.lt_size e
    rw [z] at this
    exact absurd (Nat.lt_of_lt_of_le this hT) (Nat.lt_irrefl _)
  refine I.step (g' := s.gens) (d' := s.drawn) (ch := ch) (fun b hb => ?_) (fun b ob _ _ hc e _ => k b ob hc e) (fun b ob _ _ hc e _ => ⟨ob.slots, k b ob hc e⟩) (fun b ob _ e n => ?_)
    (fun b ob hc e => ⟨ob, k b ob hc e⟩) (fun b xs e => ?_) (fun b ob u e => ?_) (fun b ps e => ⟨#[], ?_⟩) (fun m hm => ?_) (fun b u e => ?_) I.bare
  · obtain ⟨f0, f1, f2, f3, f4, f5⟩ := hf b hb
    exact ⟨f3, f1, f4, f5⟩
  · rw [upd_ne (nT b ob e)]
    exact n
  · rw [upd_ne (ne_of_none e hn)]
    exact e
  · rw [upd_ne (ne_of_none e hn)]
    exact e
  · rw [upd_ne (ne_of_none e hn), e]
    simp
  · obtain ⟨ob, es, ep, ho, r⟩ := hm
    refine ⟨ob, es, ep, k _ ob (fun z => ?_) ho, r⟩
    exact (hf _ z).2.1 rfl
  · by_cases hb : b = T
    · subst hb
      rw [upd_same] at e
      cases e
      exact new
    · rw [upd_ne hb] at e
      refine (I.hok b u e).stay (fun c v hc q => k c v ?_ q) (fun c q => by rw [upd_ne (ne_of_none q hn)]; exact q) fun c xs q => by rw [upd_ne (ne_of_none q hn)]; exact q
      rcases hc with z | z
      · rw [z]; exact ntr b u e
      · exact ntr c _ z
theorem Inv.turnedN {h' : Heap} {t' : Nat} {ch : List Addr} (I : Inv X pins σ H s) (hf : ∀ b ∈ ch, FpOk X pins H b) (k : ∀ b ob, b ∉ ch → s.heap.get? b = some ob → h'.get? b = some ob) : Inv X pins σ H { s with heap := h', toks := t' } := by
  have ntr : ∀ b u, H b = some u → b ∉ ch := fun b u e z => by
    have := (hf b z).1
    rw [e] at this
    cases this
  refine I.step (g' := s.gens) (d' := s.drawn) (ch := ch) (fun b hb => ?_) (fun b ob _ _ hc e _ => k b ob hc e) (fun b ob _ _ hc e _ => ⟨ob.slots, k b ob hc e⟩) (fun b ob _ e n => n)
    (fun b ob hc e => ⟨ob, k b ob hc e⟩) (fun b xs e => e) (fun b ob u e => e) (fun b ps e => ⟨#[], by rw [e]; simp⟩) (fun m hm => ?_) (fun b u e => ?_) I.bare
  · obtain ⟨f0, f1, f2, f3, f4, f5⟩ := hf b hb
    exact ⟨f3, f1, f4, f5⟩
  · obtain ⟨ob, es, ep, ho, r⟩ := hm
    refine ⟨ob, es, ep, k _ ob (fun z => ?_) ho, r⟩
    exact (hf _ z).2.1 rfl
  · refine (I.hok b u e).stay (fun c v hc q => k c v ?_ q) (fun c q => q) fun c xs q => q
    rcases hc with z | z
    · rw [z]; exact ntr b u e
    · exact ntr c _ z
end
/-- pairs: the turn's number and an item of the list at a -/
def IteL (K : PySem.W.Frag) (a : Addr) : It :=
  ⟨fun i H => ∃ xs x, SqL K H a xs ∧ xs[i]? = some x, fun i H x H' => ∃ T y, x = .ref T ∧ H T = none ∧ H' = upd H T (.tup [.int i, y]) ∧ ∀ xs, SqL K H a xs → xs[i]? = some y, fun i H => ∃ xs, SqL K H a xs ∧ xs.length = i⟩
def IteS (z : Str) : It :=
  ⟨fun i _ => i < z.cps.size, fun i H x H' => ∃ T y, x = .ref T ∧ H T = none ∧ H' = upd H T (.tup [.int i, y]) ∧ ∃ c, z.cps[i]? = some c ∧ y = .str ⟨#[c]⟩, fun i _ => z.cps.size = i⟩
section
variable {P : Program} {w : World} {K : PySem.W.Frag}
/-- the turn of an enumerate, over what its inner iterator draws -/
theorem turn_enum {J : It} {e it : Addr} (ne : e ≠ it) {inner : Nat → Heap → Prop} {elts : List Expr} {kk : Nat} {pos : Pos}
    (hin : ∀ i h, inner i h → ∃ o, h.get? it = some o ∧ ∀ v, o.data ≠ .cell v) (hkeep : ∀ i h h', inner i h → (∀ o, h.get? it = some o → h'.get? it = some o) → inner i h')
    (hgo : ∀ (X : Cx), X.prog = P → X.w = w → X.K = K → X.calm = true → ∀ (i : Nat) (pins : List (Addr × Obj)) (s : Shared) (σ : St) (H : Hp), Inv X pins σ H s → J.go i H → ∃ (n : Nat) (fp : List Addr) (Pt : Nat → Array Value → Prop) (St : Nat → Heap → Prop) (Mid : Nat → Addr → Heap → Prop), WalksT P w X.A e fp [e, it] n Pt St Mid ∧ i < n ∧
      (∀ h', (∃ old, IsEnum h' e it i old) → inner i h' → (∀ b ob, b ≠ e → b ≠ it → s.heap.get? b = some ob → h'.get? b = some ob) → St i h') ∧ (∀ h', St (i + 1) h' → (∃ old, IsEnum h' e it ((i + 1 : Nat) : Int) old) ∧ inner (i + 1) h') ∧
      ∀ vals, Pt i vals → ∃ t u y, vals = #[.int i t, u] ∧ RelV y u ∧ ∀ T, H T = none → J.yld i H (.ref T) (upd H T (.tup [.int i, y])))
    (hstop : ∀ (X : Cx), X.prog = P → X.w = w → X.K = K → X.calm = true → ∀ (i : Nat) (pins : List (Addr × Obj)) (s : Shared) (σ : St) (H : Hp), Inv X pins σ H s → J.stop i H → (∃ old, IsEnum s.heap e it i old) → inner i s.heap → ∃ (n : Nat) (fp : List Addr) (Pt : Nat → Array Value → Prop) (St : Nat → Heap → Prop) (Mid : Nat → Addr → Heap → Prop), WalksT P w X.A e fp [e, it] n Pt St Mid ∧ St n s.heap) :
    Turn P w K (.Tuple elts kk pos) J [e, it] e (fun i h => (∃ old, IsEnum h e it i old) ∧ inner i h) where
  mem := by simp
  obj := fun i h st b hb => by
    obtain ⟨⟨old, he⟩, hi⟩ := st
    rcases List.mem_cons.mp hb with rfl | hb
    · exact ⟨_, he, fun v z => by cases z⟩
    · rw [List.mem_singleton.mp hb]
      exact hin i h hi
  keep := fun i h h' st k => by
    obtain ⟨⟨old, he⟩, hi⟩ := st
    exact ⟨⟨old, k e (by simp) _ he⟩, hkeep i h h' hi fun o q => k it (by simp) o q⟩
  item := by
    intro X hP hw hK hc i pins s σ H E I hf st hg
    obtain ⟨n, fp, Pt, St, Mid, W, hn, h1, h2, h3⟩ := hgo X hP hw hK hc i pins s σ H I hg
    subst hP hw hK
    have st1 := h1 s.heap st.1 st.2 fun b ob _ _ q => q
    refine W.item i s _ E hn st1 fun T vals h' tk hp hT isT mid kp => ⟨.ref T, rfl, ?_⟩
    obtain ⟨t, u, y, rfl, ry, yl⟩ := h3 vals hp
    refine W.go elts kk pos i T { s with heap := h', toks := tk } _ E mid fun h'' st'' kp2 => ?_
    obtain ⟨e2, i2⟩ := h2 h'' st''
    have nT : H T = none := I.hok.fresh hT
    have kk2 : ∀ b ob, b ∉ [e, it] → s.heap.get? b = some ob → h''.get? b = some ob := fun b ob nb q => kp2 b ob nb (kp b ob nb q)
    have isT2 : h''.IsTuple T #[.int i t, u] := by
      obtain ⟨o, q1, q2, q3⟩ := isT
      exact ⟨o, kp2 T o (W.apart i T h' mid) q1, q2, q3⟩
    have I1 : Inv X pins σ (upd H T (.tup [.int i, y])) { s with heap := h'', toks := tk } := I.turnedT hf kk2 hT ⟨(by show 2 ≤ sizeLine; decide), [.int i t, u], .cons ⟨_, rfl⟩ (.cons ry .nil), isT2⟩
    refine ⟨.ref T, _, I1, rfl, yl T nT, ⟨e2, i2⟩, fun b hb => ?_⟩
    have : b ≠ T := fun z => W.apart i T h' mid (z ▸ hb)
    rw [upd_ne this]
    exact (hf b hb).1
  done := by
    intro X hP hw hK hc i pins s σ H E I hf st hg
    obtain ⟨n, fp, Pt, St, Mid, W, st1⟩ := hstop X hP hw hK hc i pins s σ H I hg st.1 st.2
    subst hP hw hK
    exact W.done s _ E st1 fun h' tk kp => ⟨rfl, I.turnedN hf kp⟩
  self := fun A i s Q E st h => by
    obtain ⟨⟨old, he⟩, _⟩ := st
    exact wpAny_pyIter_enum he h
end

theorem turn_enumL {P : Program} {w : World} {K : PySem.W.Frag} {elts : List Expr} {kk : Nat} {pos : Pos} (a e it : Addr) (ne : e ≠ it) (nae : a ≠ e) (nai : a ≠ it) :
    Turn P w K (.Tuple elts kk pos) (IteL K a) [e, it] e (fun i h => (∃ old, IsEnum h e it i old) ∧ h.IsListIter it a i) := by
  refine turn_enum ne (fun i h st => ?_) (fun i h h' st k => st.at k) ?_ ?_
  · obtain ⟨o, q, c, d⟩ := st
    exact ⟨o, q, fun v z => by rw [d] at z; cases z⟩
  · intro X hP hw hK hc i pins s σ H I hg
    subst hP hw hK
    obtain ⟨xs, x, hq, hx⟩ := hg
    obtain ⟨its, rv, p, hz⟩ := I.list hq
    obtain ⟨u, hu, ru⟩ := rv.get hx
    have hl := p.isList
    refine ⟨_, _, _, _, _, WalksT.enumerate (I.ok.hd hc) e it a ne nae nai its.toArray, ?_, fun h' g1 g2 g3 => ⟨g1, g2, hl.at fun o q => g3 a o nae nai q⟩, fun h' st => ⟨st.1, st.2.1⟩, fun vals hv => ?_⟩
    · have := (List.getElem?_eq_some_iff.mp hu).1
      simpa using this
    · obtain ⟨t, x', hx', rfl⟩ := hv
      have hx' : its[i]? = some x' := by simpa using hx'
      rw [hu] at hx'
      obtain rfl := Option.some.inj hx'
      exact ⟨t, u, x, rfl, ru, fun T hT => ⟨T, x, rfl, hT, rfl, fun ys hy => by rw [I.list_inj hy hq]; exact hx⟩⟩
  · intro X hP hw hK hc i pins s σ H I hg he hi
    subst hP hw hK
    obtain ⟨xs, hq, hx⟩ := hg
    obtain ⟨its, rv, p, hz⟩ := I.list hq
    have e1 : i = its.toArray.size := by rw [List.size_toArray, ← rv.length, hx]
    refine ⟨_, _, _, _, _, WalksT.enumerate (I.ok.hd hc) e it a ne nae nai its.toArray, ?_, ?_, p.isList⟩
    · rw [← e1]; exact he
    · rw [← e1]; exact hi
theorem turn_enumS {P : Program} {w : World} {K : PySem.W.Frag} {elts : List Expr} {kk : Nat} {pos : Pos} (z : Str) (t : Tok) (e it : Addr) (ne : e ≠ it) {St : Nat → Heap → Prop}
    (D : ∀ A' : Around, A'.handled = none → Draws P w A' it [it] z.cps.size (SignAt z) St) (hobj : ∀ i h, St i h → ∃ o, h.get? it = some o ∧ ∀ v, o.data ≠ .cell v) :
    Turn P w K (.Tuple elts kk pos) (IteS z) [e, it] e (fun i h => (∃ old, IsEnum h e it i old) ∧ St i h) := by
  have side : e ∉ [it] := fun m => ne (List.mem_singleton.mp m)
  refine turn_enum ne hobj (fun i h h' st k => (D callerA rfl).frame i h h' st fun b hb o q => by rw [List.mem_singleton.mp hb] at q ⊢; exact k o q) ?_ ?_
  · intro X hP hw hK hc i pins s σ H I hg
    subst hP hw hK
    refine ⟨_, _, _, _, _, WalksT.enumerateD (D X.A.in1 (I.ok.hd hc)) e ne side (by simp), hg, fun h' g1 g2 g3 => ⟨g1, g2⟩, fun h' st => st, fun vals hv => ?_⟩
    obtain ⟨t, x', ⟨c, u, hc', rfl⟩, rfl⟩ := hv
    exact ⟨t, _, .str ⟨#[c]⟩, rfl, ⟨_, rfl⟩, fun T hT => ⟨T, _, rfl, hT, rfl, c, hc', rfl⟩⟩
  · intro X hP hw hK hc i pins s σ H I hg he hi
    subst hP hw hK
    have e1 : z.cps.size = i := hg
    refine ⟨_, _, _, _, _, WalksT.enumerateD (D X.A.in1 (I.ok.hd hc)) e ne side (by simp), ?_, ?_⟩
    · rw [e1]; exact he
    · rw [e1]; exact hi
/-- for i, x in enumerate(e): a list; a text -/
def iEnumL (K : PySem.W.Frag) (tl : TE) : TI := fun σ H R => tl σ H fun x H1 => ∃ a, x = .ref a ∧ (∃ xs, SqL K H1 a xs) ∧ R (IteL K a) H1
def iEnumS (tl : TE) : TI := fun σ H R => tl σ H fun x H1 => ∃ z, x = .str z ∧ R (IteS z) H1
section
variable {X : Cx} {elts : List Expr} {kk : Nat} {tpos p pos : Pos} {a : Expr} {tl : TE}
theorem qi_enumL (hm : X.mg "enumerate" = none) (hl : QE X a tl) (hg : Gl X "enumerate" := by rfl) (hs : starEach [a] X.env = [(false, eval a X.env)] := by rfl) : QI X (.Tuple elts kk tpos) (.Call (.Name "enumerate" p) [a] [] pos) (iEnumL X.K tl) := by
  refine ⟨fun pins s σ H R I h => ?_⟩
  refine Call_ (ld_blt I hg hm boot_enumerate (PyProof.Rows.callWith_type1 ?_ hs rfl))
  rw [hs]
  refine Calls.spliced_cons (thn (hl.h pins s σ H _ I h) fun v s1 ⟨x, H1, I1, r1, q1⟩ => Calls.spliced_nil ?_)
  obtain ⟨ad, rfl, ⟨xs, hq⟩, q⟩ := q1
  cases r1
  obtain ⟨its, rv, pl, hz⟩ := I1.list hq
  have lt : ad < s1.heap.objs.size := by
    obtain ⟨o, ho, _⟩ := pl.isList
    exact Heap.lt_size ho
  refine call_enumerate_list pl.isList fun h' he hit hsz hk => ?_
  refine wpAny_pyIter_enum (s := { s1 with heap := h' }) he ?_
  refine ⟨s1.heap.objs.size + 1, [s1.heap.objs.size + 1, s1.heap.objs.size], _, IteL X.K ad, H1, rfl, I1.kept (t' := s1.toks) hk, turn_enumL ad _ _ (Nat.succ_ne_self _) (Nat.ne_of_lt (Nat.lt_succ_of_lt lt)) (Nat.ne_of_lt lt), ⟨⟨_, he⟩, hit⟩, fun b hb => ?_, q⟩
  have e : s1.heap.objs.size ≤ b := by
    rcases List.mem_cons.mp hb with z | z
    · rw [z]; exact Nat.le_succ _
    · rw [List.mem_singleton.mp z]; exact Nat.le_refl _
  exact I1.fpOk e (I1.hok.fresh e)
theorem qi_enumS (hm : X.mg "enumerate" = none) (hl : QE X a tl) (hg : Gl X "enumerate" := by rfl) (hs : starEach [a] X.env = [(false, eval a X.env)] := by rfl) : QI X (.Tuple elts kk tpos) (.Call (.Name "enumerate" p) [a] [] pos) (iEnumS tl) := by
  refine ⟨fun pins s σ H R I h => ?_⟩
  refine Call_ (ld_blt I hg hm boot_enumerate (PyProof.Rows.callWith_type1 ?_ hs rfl))
  rw [hs]
  refine Calls.spliced_cons (thn (hl.h pins s σ H _ I h) fun v s1 ⟨x, H1, I1, r1, q1⟩ => Calls.spliced_nil ?_)
  obtain ⟨z, rfl, q⟩ := q1
  obtain ⟨t, rfl⟩ := r1
  refine call_enumerate_str fun h' he hit hsz hk => ?_
  refine wpAny_pyIter_enum (s := { s1 with heap := h' }) he ?_
  have fin : ∀ b ∈ [s1.heap.objs.size + 1, s1.heap.objs.size], FpOk X pins H1 b := fun b hb => by
    have e : s1.heap.objs.size ≤ b := by
      rcases List.mem_cons.mp hb with z | z
      · rw [z]; exact Nat.le_succ _
      · rw [List.mem_singleton.mp z]; exact Nat.le_refl _
    exact I1.fpOk e (I1.hok.fresh e)
  cases ha : z.cps.all (· < 128)
  · have hit' : h'.IsStrIter s1.heap.objs.size "str_iterator" z t 0 := by simpa [strIterType, ha] using hit
    exact ⟨_, _, _, IteS z, H1, rfl, I1.kept (t' := s1.toks) hk, turn_enumS z t _ s1.heap.objs.size (Nat.succ_ne_self _) (fun A' hA => Draws.strWide hA _ z t) (fun i h st => by obtain ⟨o, q1, q2, q3⟩ := st; exact ⟨o, q1, fun v y => by rw [q3] at y; cases y⟩), ⟨⟨_, he⟩, hit'⟩, fin, q⟩
  · have hit' : h'.IsStrIter s1.heap.objs.size "str_ascii_iterator" z t 0 := by simpa [strIterType, ha] using hit
    exact ⟨_, _, _, IteS z, H1, rfl, I1.kept (t' := s1.toks) hk, turn_enumS z t _ s1.heap.objs.size (Nat.succ_ne_self _) (fun A' hA => Draws.strAscii hA _ z t) (fun i h st => by obtain ⟨o, q1, q2, q3⟩ := st; exact ⟨o, q1, fun v y => by rw [q3] at y; cases y⟩), ⟨⟨_, he⟩, hit'⟩, fin, q⟩
end
/-- a loop over pairs of a number and an item -/
structure GoesE (J : It) (n : Nat) (Ok : Hp → Prop) (Y : Nat → Hp → V → Prop) : Prop where
  go : ∀ i H, Ok H → i < n → J.go i H
  yld : ∀ i H x H', Ok H → i < n → J.yld i H x H' → ∃ T y, x = .ref T ∧ H T = none ∧ H' = upd H T (.tup [.int i, y]) ∧ Y i H y
  stop : ∀ H, Ok H → J.stop n H
theorem goes_enumL {K : PySem.W.Frag} {a : Addr} {xs : List V} : GoesE (IteL K a) xs.length (fun H => SqL K H a xs) (fun i _ y => xs[i]? = some y) where
  go := fun i H h hi => ⟨xs, xs[i], h, by simp [hi]⟩
  yld := fun i H x H' h hi y => by
    obtain ⟨T, y, e1, e2, e3, e4⟩ := y
    exact ⟨T, y, e1, e2, e3, e4 xs h⟩
  stop := fun H h => ⟨xs, h, rfl⟩
theorem goes_enumS {z : Str} : GoesE (IteS z) z.cps.size (fun _ => True) (fun i _ y => ∃ c, z.cps[i]? = some c ∧ y = .str ⟨#[c]⟩) where
  go := fun i H _ hi => hi
  yld := fun i H x H' _ hi y => y
  stop := fun H _ => rfl
theorem for_enum {J : It} {n : Nat} {Ok : Hp → Prop} {Y : Nat → Hp → V → Prop} (G : GoesE J n Ok Y) {g : TG} {tb : TS} {D : Ends} {σ : St} {H : Hp} (Pv : Nat → St → Hp → Prop) (h0 : Pv 0 σ H) (hl : ∀ i σ H, i ≤ n → Pv i σ H → Ok H)
    (hs : ∀ i y T σ H, i < n → Y i H y → H T = none → Pv i σ H → g (.ref T) σ (upd H T (.tup [.int i, y])) fun σ2 H2 => tb { D with nx := Pv (i + 1), ct := Pv (i + 1), bk := D.nx } σ2 H2) (hd : ∀ σ H, Pv n σ H → D.nx σ H) :
    ∃ W : Nat → Nat → St → Hp → Prop, (∃ m, W 0 m σ H) ∧ ∀ i m σ H, W i m σ H →
      (J.stop i H ∧ D.nx σ H) ∨ (J.go i H ∧ ∃ N : St → Hp → Prop, (∀ σ' H', N σ' H' → ∃ m', m' < m ∧ W (i + 1) m' σ' H') ∧ ∀ x H', J.yld i H x H' → g x σ H' fun σ2 H2 => tb { D with nx := N, ct := N, bk := D.nx } σ2 H2) := by
  refine ⟨fun i m σ H => m = n - i ∧ i ≤ n ∧ Pv i σ H, ⟨n, by simp, Nat.zero_le _, h0⟩, ?_⟩
  rintro i m σ H ⟨rfl, hi, p⟩
  have q := hl i σ H hi p
  by_cases hlt : i < n
  · refine .inr ⟨G.go i H q hlt, Pv (i + 1), fun σ' H' p' => ⟨n - (i + 1), by omega, rfl, hlt, p'⟩, fun x H' y => ?_⟩
    obtain ⟨T, y', rfl, e2, rfl, e4⟩ := G.yld i H x H' q hlt y
    exact hs i y' T σ H hlt e4 e2 p
  · have e : i = n := by omega
    subst e
    exact .inl ⟨G.stop H q, hd σ H p⟩
end L2

set_option linter.all false
set_option maxRecDepth 100000
set_option maxHeartbeats 400000
namespace L2
open PySem PySem.Spec PyProof.Rows
/-! ### xs.count(x), xs.index(x): flat items -/
section
variable {X : Cx}
end
end L2

set_option linter.all false
set_option maxRecDepth 100000
set_option maxHeartbeats 400000
namespace L2
open PySem PySem.Spec PyProof.Rows
variable {X : Cx}
/-- is, is not of two bools -/
theorem op_isB : OpR X (compareOp .Is) (fun x y H Q => ∃ a b, x = .bl a ∧ y = .bl b ∧ Q (.bl (a == b)) H) := by
  intro pins s σ H x y v u Q I rx ry h
  obtain ⟨a, b, rfl, rfl, q⟩ := h
  cases rx
  cases ry
  exact is_bool (fin_bl I q rfl)
end L2

set_option linter.all false
set_option maxRecDepth 100000
set_option maxHeartbeats 400000
namespace L2
open PySem PySem.Spec PyProof.Rows
/-! ### exceptions of own classes: on their way out, caught -/
/-- an exception that left a def: B holds all that stood but the frames -/
def CXX (P : Program) (w : World) : CXT := fun outer H s E e s' => ∃ (x C t : Addr) (B : Heap) (H' : Hp), e = .ref x ∧ s'.os = s.os ∧ AllBare s'.gens ∧ Un (frs outer) [] H H' s.heap s'.heap ∧ HOk P w H' s'.heap ∧
  Heap.FlyingW B outer x (.ref C) (.ref t) s'.heap ∧ (∀ b u, H' b = some u → ∃ o, B.get? b = some o) ∧ (∀ b o, s.heap.get? b = some o → b ∉ frs outer → ∃ o', B.get? b = some o' ∧ (H b = none → o' = o)) ∧ E (.ref C) none H'
theorem ObjOk.get {P : Program} {w : World} {H : Hp} {h : Heap} {a : Addr} {o : HO} (x : ObjOk P w H h a o) : ∃ ob, h.get? a = some ob := by
  cases o with
  | lst xs => obtain ⟨_, _, _, _, e⟩ := x; exact ⟨_, e⟩
  | tup xs => obtain ⟨_, _, _, o, e, _⟩ := x; exact ⟨_, e⟩
  | dK kvs => obtain ⟨_, _, _, _, o, _, _, e, _⟩ := x; exact ⟨_, e⟩
  | dT kvs => obtain ⟨_, _, _, _, o, _, _, e, _⟩ := x; exact ⟨_, e⟩
  | set S n => obtain ⟨o, _, _, _, e, _⟩ := x; exact ⟨_, e⟩
  | ins C dx fs => obtain ⟨_, _, _, e, _⟩ := x; exact ⟨_, e⟩
  | own y => obtain ⟨_, e⟩ := x; exact ⟨_, e⟩
  | xd fs => obtain ⟨_, ⟨_, _, _, e, _⟩, _⟩ := x; exact ⟨_, e⟩
  | rng lo hi => obtain ⟨_, _, _, e⟩ := x; exact ⟨_, e⟩
  | frz ob u => obtain ⟨e, _⟩ := x; exact ⟨_, e⟩
  | tbl ps => exact ⟨_, (show h.get? a = some _ from x)⟩
  | met f y => exact ⟨_, (show h.get? a = some _ from x)⟩
  | ext φ => obtain ⟨_, e, _⟩ := x; exact e
/-- what is tracked stands in B: so it stays -/
theorem hok_B {P : Program} {w : World} {H : Hp} {B h h' : Heap} (x : HOk P w H h) (c : ∀ b u, H b = some u → ∃ o, B.get? b = some o) (s : B.StaysIn h) (s' : B.StaysIn h') : HOk P w H h' := fun a o e => by
  refine (x a o e).stay (fun b u hb q => ?_) (fun _ z => z) fun _ _ z => z
  have tr : ∃ v, H b = some v := by
    rcases hb with z | z
    · exact ⟨_, z ▸ e⟩
    · exact ⟨_, z⟩
  obtain ⟨v, hv⟩ := tr
  obtain ⟨ob, hob⟩ := c b v hv
  have h1 := s b ob hob
  rw [q] at h1
  cases h1
  exact s' b _ hob
section
variable {P : Program} {w : World} {K : PySem.W.Frag} {mg : Str → Option Value} {base : Heap} {N : List Str} {qual : Str} {scope : Scope} {f : Addr} {cd : Value} {A : Around} {outer : List Env} {s0 : Shared} {H0 : Hp} {E : XK}
variable {pins : List (Addr × Obj)} {σ : St} {H1 H' : Hp} {s1 s' : Shared} {B h'' : Heap} {x C t : Addr}
theorem leave_cxx {CX : CXT} (I : Inv (cxOf CX P w K mg base N qual scope f cd A outer s0 H0 E) pins σ H1 s1) (os : s'.os = s1.os) (bare : AllBare s'.gens) (un : Un (frs (envOfC qual scope s0.heap.objs.size f cd :: outer)) [] H1 H' s1.heap s'.heap) (hok : HOk P w H' s'.heap) (hB : B.StaysIn s'.heap)
    (c1 : ∀ b u, H' b = some u → ∃ o, B.get? b = some o) (c2 : ∀ b o, s1.heap.get? b = some o → b ∉ frs (envOfC qual scope s0.heap.objs.size f cd :: outer) → ∃ o', B.get? b = some o' ∧ (H1 b = none → o' = o))
    (fl : Heap.FlyingW B outer x (.ref C) (.ref t) h'') (up : s'.heap.UpToSlots h'') (e : E (.ref C) none H') : CXX P w outer H0 s0 E (.ref x) { s' with heap := h'' } := by
  have noX : ∀ b : Addr, b ∉ (cxOf CX P w K mg base N qual scope f cd A outer s0 H0 E).ex := fun b z => nomatch (show b ∈ ([] : List Addr) from z)
  have sub : ∀ b, b ∈ frs outer → b ∈ frs (envOfC qual scope s0.heap.objs.size f cd :: outer) := fun b hb => by
    unfold frs
    rw [List.filterMap_cons]
    exact List.mem_cons_of_mem _ hb
  have nst : ∀ b o, s0.heap.get? b = some o → b ∉ frs outer → b ∉ frs (envOfC qual scope s0.heap.objs.size f cd :: outer) := fun b o q nb z => by
    unfold frs at z
    rw [List.filterMap_cons] at z
    rcases List.mem_cons.mp z with z | z
    · rw [z] at q
      exact absurd (Heap.lt_size q) (Nat.lt_irrefl _)
    · exact nb z
  have sl : ∀ b o, s0.heap.get? b = some o → H0 b = none → b ∈ frs outer → ∃ v, h''.get? b = some { o with slots := v } := fun b o q n hb => by
    obtain ⟨v1, e1⟩ := I.base.slot b o q n hb (noX b)
    obtain ⟨v2, e2⟩ := un.slot b _ e1 (I.base.free b o q n (noX b)) (sub b hb) (fun z => nomatch z)
    have nf : ∀ vs, o.data ≠ .fields vs := by
      obtain ⟨_, o', ho', hn⟩ := I.ok.funs.mem hb
      have ho' : s0.heap.get? b = some o' := ho'
      rw [q] at ho'
      cases ho'
      exact hn
    obtain ⟨v3, e3⟩ := up b _ e2 nf
    exact ⟨v3, e3⟩
  have kp : ∀ b o, s0.heap.get? b = some o → b ∉ frs outer → ∃ o', B.get? b = some o' ∧ (H0 b = none → o' = o) := fun b o q nb => by
    obtain ⟨o1, e1⟩ := I.base.there b o q (noX b)
    obtain ⟨o2, e2, e3⟩ := c2 b o1 e1 (nst b o q nb)
    refine ⟨o2, e2, fun n => ?_⟩
    have e4 := I.base.keep b o q n nb (noX b)
    rw [e1] at e4
    cases e4
    exact e3 (I.base.free b o q n (noX b))
  refine ⟨x, C, t, B, H', rfl, os.trans I.os, bare, ⟨fun b o q n nb _ => ?_, fun b o q n hb _ => sl b o q n hb, fun b o q n _ => ?_, fun b o q _ => ?_, fun b xs z => un.tups b xs (I.base.tups b xs z), fun b o u z => un.frzs b o u (I.base.frzs b o u z), fun b ps z => ?_⟩, hok_B hok c1 hB fl.1, fl, c1, kp, e⟩
  · obtain ⟨o', e1, e2⟩ := kp b o q nb
    rw [← e2 n]
    exact fl.1 b o' e1
  · obtain ⟨o1, e1⟩ := I.base.there b o q (noX b)
    exact un.free b o1 e1 (I.base.free b o q n (noX b)) (fun z => nomatch z)
  · by_cases hb : b ∈ frs outer
    · obtain ⟨v, e1⟩ := sl b o q (I.ok.frf b hb) hb
      exact ⟨_, e1⟩
    · obtain ⟨o', e1, _⟩ := kp b o q hb
      exact ⟨o', fl.1 b o' e1⟩
  · obtain ⟨m1, e1⟩ := I.base.tbls b ps z
    obtain ⟨m2, e2⟩ := un.tbls b _ e1
    exact ⟨m1 ++ m2, by rw [e2, Array.append_assoc]⟩
/-- an exception is made here and leaves -/
theorem xe_made {h' : Heap} {args : List Value} (I : Inv (cxOf (CXX P w) P w K mg base N qual scope f cd A outer s0 H0 E) pins σ H1 s1) (hx : Heap.MadeExcOf s1.heap h' x (.ref C) args) (e : E (.ref C) none H1) :
    (cxOf (CXX P w) P w K mg base N qual scope f cd A outer s0 H0 E).xe (.ref x) { s1 with heap := h' } := by
  have fr := I.stkFree
  have st := I.stack
  have fm := I.ok.frames
  refine wpAny_leaves_madeW (base := PySem.W.hideAll s1.heap (frs (envOfC qual scope s0.heap.objs.size f cd :: outer))) (h := s1.heap) (L := s0.heap.objs.size) fm rfl (fun b o q => PySem.W.of_hideAll _ q)
    (PySem.W.funFrames_hide st fun env he b hb => List.mem_filterMap.mpr ⟨env, he, hb⟩) hx fun h2 t fl tup tn up => ?_
  refine leave_cxx (s' := { s1 with heap := h' }) I rfl I.bare (Un.kept hx.keeps) (I.hok.kept hx.keeps) (fun b o q => hx.keeps _ _ (PySem.W.of_hideAll _ q)) (fun b u hb => ?_) (fun b o q nb => ⟨o, PySem.W.hideAll_get _ q nb, fun _ => rfl⟩) fl up e
  obtain ⟨o, ho⟩ := (I.hok b u hb).get
  refine ⟨o, PySem.W.hideAll_get _ ho fun z => ?_⟩
  rw [fr b z] at hb
  cases hb
/-- a callee's exception leaves -/
theorem passX : Passes (CXX P w) (cxOf (CXX P w) P w K mg base N qual scope f cd A outer s0 H0 E) E := by
  rintro pins σ H s e s' I ⟨x, C, t, B, H', rfl, os, bare, un, hok, fl, c1, c2, hE⟩
  have fm := I.ok.frames
  refine wpAny_leaves_onW fm rfl fl fun h2 fl' up => ?_
  exact leave_cxx I os bare un hok fl.1 c1 c2 fl' up hE
end
/-! ### defs that raise -/
def DefX (P : Program) (w : World) (K : PySem.W.Frag) (mg : Str → Option Value) (base : Heap) (k : Nat) (x : Str) (ps : List Str) (sp : Sp) : Prop :=
  ∃ (f : Addr) (fd : FuncData), mg x = some (.ref f) ∧ PySem.W.keepIn K (.ref f) = true ∧ Binds K fd ps [] ∧ FnOk P w K mg base (CXX P w) k f fd ps sp
section
variable {P : Program} {w : World} {K : PySem.W.Frag} {mg : Str → Option Value} {base : Heap} {x : Str} {st : Stmt} {N ps : List Str} {k j : Nat} {sp : Sp}
theorem DefX.up (D : DefX P w K mg base j x ps sp) (h : j ≤ k) : DefX P w K mg base k x ps sp := by
  obtain ⟨f, fd, a, b, c, d⟩ := D
  exact ⟨f, fd, a, b, c, d.mono h⟩
theorem DefX.«by» (F : Fn K mg x st) (S : FnScope N ps (defScope st))
    (hb : ∀ (kV doc pm : Value) (an : Option Addr) (cdv ct : Value) (us : List Value), us.length = ps.length → bindArgs (PySem.W.fnOf x x (defArgs st) (defBody st) (defScope st) .none kV doc pm an cdv ct) ⟨us, []⟩ = pure (ps.zip us))
    (len : ∀ vs H Q E, sp vs H Q E → vs.length = ps.length)
    (hbody : ∀ (f : Addr) (cdv : Value) (A : Around) (outer : List Env) (s : Shared) (H : Hp) (vs : List V) (Q : VK) (E : XK), Room k (A.deeper (envOfC x (defScope st) s.heap.objs.size f cdv)) → sp vs H Q E →
      ∃ t, QSs (cxOf (CXX P w) P w K mg base N x (defScope st) f cdv A outer s H E) (defBody st) t ∧ t { nx := fun _ H' => Q .non H', rt := Q } (start N vs) H) : DefX P w K mg base (k + 1) x ps sp := by
  obtain ⟨f, fd, hm, F⟩ := F.ex
  refine ⟨f, fd, hm, F.kp, F.binds hb, ?_⟩
  obtain ⟨oc, od, kV, doc, pm, an, cdv, ct, osl, rfl, lk, hcd⟩ := F.ex
  refine fn_of lk hcd S len fun A outer s H vs Q E hr hsp => ?_
  obtain ⟨t, h, q⟩ := hbody f cdv A outer s H vs Q E hr hsp
  exact ⟨t, h.h, q⟩
end
section
variable {X : Cx} {x : Str} {ps : List Str} {sp : Sp} {k : Nat} {e : Expr} {es : List Expr} {t : TA} {p pos : Pos} {E : XK}
/-- a call of a def that raises, its exceptions go on -/
theorem qe_callX (D : DefX X.prog X.w X.K X.mg X.base k x ps sp) (hr : Room k X.A) (hx : Passes (CXX X.prog X.w) X E) (ha : QA X (e :: es) t) (hg : Gl X x := by rfl) (hdb : (x == ("__debug__" : Str)) = false := by decide)
    (he : starEach (e :: es) X.env = (false, eval e X.env) :: starEach es X.env := by rfl) (hpl : (backTo pos (starEach es X.env)).any (·.1) = false := by rfl) :
    QE X (.Call (.Name x p) (e :: es) [] pos) (tCall sp [] E t) := by
  obtain ⟨f, fd, hm, hk, hb, F⟩ := D
  exact ⟨pe_call F hr hg hm hk hb .nil hx ha.h hdb he hpl⟩
end
/-! ### raise C(..) -/
/-- the class C of the text, an exception -/
structure ExcC (K : PySem.W.Frag) (mg : Str → Option Value) (base : Heap) (x : Str) (C : Addr) : Prop where
  own : OwnCls x C [.type "ValueError", .type "Exception", .type "BaseException", .type "object"] "ValueError.__new__" mg base
def tRaise (C : Addr) (E : XK) (ta : TA) : TS := fun _ σ H => ta σ H fun vs H1 => vs.length ≤ sizeLine ∧ E (.ref C) none H1
section
variable {P : Program} {w : World} {K : PySem.W.Frag} {mg : Str → Option Value} {base : Heap} {N : List Str} {qual : Str} {scope : Scope} {f : Addr} {cd : Value} {A : Around} {outer : List Env} {s0 : Shared} {H0 : Hp} {E : XK}
theorem qs_raise {x : Str} {C : Addr} {e : Expr} {es : List Expr} {t : TA} {np cpos pos : Pos} (O : ExcC K mg base x C) (hh : (A.deeper (envOfC qual scope s0.heap.objs.size f cd)).handled = none)
    (ha : QA (cxOf (CXX P w) P w K mg base N qual scope f cd A outer s0 H0 E) (e :: es) t) (hg : Gl (cxOf (CXX P w) P w K mg base N qual scope f cd A outer s0 H0 E) x := by rfl) (hdb : (x == ("__debug__" : Str)) = false := by decide)
    (he : starEach (e :: es) (envOfC qual scope s0.heap.objs.size f cd) = (false, eval e (envOfC qual scope s0.heap.objs.size f cd)) :: starEach es (envOfC qual scope s0.heap.objs.size f cd) := by rfl) (hpl : (backTo cpos (starEach es (envOfC qual scope s0.heap.objs.size f cd))).any (·.1) = false := by rfl) :
    QS (cxOf (CXX P w) P w K mg base N qual scope f cd A outer s0 H0 E) (.Raise (some (.Call (.Name x np) (e :: es) [] cpos)) none pos) (tRaise C E t) := by
  refine ⟨fun pins s σ H D I h => ?_⟩
  obtain ⟨tl, Nn, nm, q, bs, hdct, sn, sub, ab, col, dd, k0, k1, k2, k3, k5, mN, hC, hN, hni, T⟩ := O.own.obj
  have any0 : (backTo cpos (starEach (e :: es) (envOfC qual scope s0.heap.objs.size f cd))).any (·.1) = false := by
    rw [he]
    show (false || (backTo cpos (starEach es (envOfC qual scope s0.heap.objs.size f cd))).any (·.1)) = false
    rw [hpl, Bool.false_or]
  refine wpAny_Raise_call_subT (C := C) (nm := nm) (q := q) (N := Nn) (bs := bs) (bm := tl) (hdct := hdct) (sn := sn) (sub := sub) (ab := ab) (col := col) (dd := dd) (k0 := k0) (k1 := k1) (k2 := k2) (k3 := k3) (k5 := k5) PySem.F.excBase_ValueError (mN := mN)
    (T.hasType PySem.F.excBase_ValueError.hasBase) hh any0 hni (ld_glob I hg O.own.bound ⟨rfl, ?_⟩ hdb)
  have A1 := ha.h cpos pins s σ H _ I h
  show wpAny (model P w) _ (evalArgs (.ref C) true (backTo cpos (starEach (e :: es) (envOfC qual scope s0.heap.objs.size f cd))) []) _ _ s
  have A1 : wpAny (model P w) _ (spliced (backTo cpos (starEach (e :: es) (envOfC qual scope s0.heap.objs.size f cd)))) _ _ s := A1
  rw [he] at A1 ⊢
  refine Calls.evalArgs_plain (thn A1 fun us s2 ⟨vs, H2, I2, r, z, q2⟩ => ?_)
  exact ⟨rfl, by show us.length ≤ sizeLine; rw [← r.length]; exact z, I2.bk _ _ hC, hN.keeps I2.bk, T.keeps I2.bk, fun h' e' hm => xe_made I2 hm q2⟩
end
end L2

set_option linter.all false
set_option maxRecDepth 100000
set_option maxHeartbeats 400000
namespace L2
open PySem PySem.Spec PyProof.Rows
/-! the rules with K named: their readings do not hold the whole context -/
section
variable (K : PySem.W.Frag) {X : Cx}
theorem call_len_seqK (e : X.K = K := by rfl) : CallR X (.builtin "len") (fun xs H Q => ∃ p ys, xs = [.ref p] ∧ (SqL K H p ys ∨ SqT K H p ys) ∧ Q (.int ys.length) H) := e ▸ call_len_seq
theorem call_list_ofK (e : X.K = K := by rfl) : CallR X (.type "list") (fun xs H Q => ∃ p ys, xs = [.ref p] ∧ (SqL K H p ys ∨ SqT K H p ys) ∧ ∀ l, H l = none → Q (.ref l) (upd H l (.lst ys))) := e ▸ call_list_of
theorem op_eqDK (hu : X.A.units + 64 < cLine) (e : X.K = K := by rfl) : OpR X (compareOp .Eq) (fun x y H Q => ∃ dx dy, Rds K H x dx ∧ Rds K H y dy ∧ SeqAt.shaped dx = true ∧ SeqAt.shaped dy = true ∧ Q (.bl (PyData.eqv dx dy)) H) := e ▸ op_eqD hu
theorem op_neDK (hu : X.A.units + 64 < cLine) (e : X.K = K := by rfl) : OpR X (compareOp .NotEq) (fun x y H Q => ∃ dx dy, Rds K H x dx ∧ Rds K H y dy ∧ SeqAt.shaped dx = true ∧ SeqAt.shaped dy = true ∧ Q (.bl (!PyData.eqv dx dy)) H) := e ▸ op_neD hu
theorem op_inDK (hu : X.A.units + 65 < cLine) (e : X.K = K := by rfl) : OpR X (compareOp .In) (fun x y H Q => ∃ d ds, Rds K H x d ∧ Rds K H y (.list ds) ∧ SeqAt.shaped d = true ∧ SeqAt.shaped (.list ds) = true ∧ Q (.bl (ds.any fun z => PyData.eqv z d)) H) := e ▸ op_inD hu
theorem qi_listK {tg l : Expr} {tl : TE} (hl : QE X l tl) (e : X.K = K := by rfl) : QI X tg l (iList K tl) := e ▸ qi_list hl
theorem qg_tupK {es : List Expr} {pos : Pos} {k : Nat} {t : TGs} {n : Nat} (h : QGs X es t) (e : X.K = K := by rfl) (hc : X.calm = true := by rfl) (hn : (assignEach es X.env).length = n := by rfl) (hst : (assignEach es X.env).findIdx? (·.1) = none := by rfl) : QG X (.Tuple es k pos) (gTup K n t) := e ▸ qg_tup h hc hn hst
theorem qe_bm0K {o : Expr} {to : TE} {apos cpos : Pos} {T id : String} {name : Str} {r : V → List V → Hp → VK → Prop} (pa : PlainAttrs T) (slot : Slot T name id) (hty : typeOf (.builtin id) = pure (.type "method_descriptor")) (hm : MtR X id r) (ho : QE X o to) (e : X.K = K := by rfl)
    (hbase : attributeBase o name X.env (eval o X.env) = eval o X.env := by rfl) (hline : (apos.endLine == cpos.line) = true := by rfl) : QE X (.Call (.Attribute o name apos) [] [] cpos) (tBM0 K T r to) := e ▸ qe_bm0 pa slot hty hm ho hbase hline
end
end L2

set_option linter.all false
set_option maxRecDepth 100000
set_option maxHeartbeats 400000
namespace L2
open PySem PySem.Spec PyProof.Rows
/-! ### try, except: what may raise, and what is wanted then -/
/-- an exception has left a call that was made here, at σ -/
def XP (X : Cx) (pins : List (Addr × Obj)) (σ : St) (E : XK) (e : Value) (s' : Shared) : Prop := ∃ H1 s1, Inv X pins σ H1 s1 ∧ CXX X.prog X.w X.stack H1 s1 E e s'
abbrev TX := St → Hp → VK → XK → Prop
structure QX (X : Cx) (e : Expr) (t : TX) : Prop where
  h : ∀ (pins : List (Addr × Obj)) (s : Shared) (σ : St) (H : Hp) (Q : VK) (E : XK), Inv X pins σ H s → t σ H Q E → wpAny (model X.prog X.w) X.A (eval e X.env) (EP X pins σ Q) (XP X pins σ E) s
abbrev TY := Ends → (St → XK) → St → Hp → Prop
structure QY (X : Cx) (st : Stmt) (t : TY) : Prop where
  h : ∀ (pins : List (Addr × Obj)) (s : Shared) (σ : St) (H : Hp) (D : Ends) (E : St → XK), Inv X pins σ H s → t D E σ H → wpAny (model X.prog X.w) X.A (exec st X.env) (SP X pins D) (fun e s' => ∃ σ', XP X pins σ' (E σ') e s') s
structure QYs (X : Cx) (st : List Stmt) (t : TY) : Prop where
  h : ∀ (pins : List (Addr × Obj)) (s : Shared) (σ : St) (H : Hp) (D : Ends) (E : St → XK), Inv X pins σ H s → t D E σ H → wpAny (model X.prog X.w) X.A (execs st X.env) (SP X pins D) (fun e s' => ∃ σ', XP X pins σ' (E σ') e s') s
section
variable {X : Cx} {x : Str} {ps : List Str} {sp : Sp} {k : Nat} {e : Expr} {es : List Expr} {t : TA} {p pos : Pos}
def tCallX (sp : Sp) (t : TA) : TX := fun σ H Q E => t σ H fun vs H1 => sp (vs ++ []) H1 Q E
/-- the callee runs, and may raise -/
theorem run_fnX {pins : List (Addr × Obj)} {σ : St} {H : Hp} {s : Shared} {Q : VK} {E : XK} {us : List Value} {vs : List V} {f : Addr} {fd : FuncData} (F : FnOk X.prog X.w X.K X.mg X.base (CXX X.prog X.w) k f fd ps sp) (hr : Room k X.A) (hb : Binds X.K fd ps [])
    (I : Inv X pins σ H s) (r : Vals vs us) (h : sp (vs ++ []) H Q E) : wpAny (model X.prog X.w) X.A (call (.ref f) us) (EP X pins σ Q) (XP X pins σ E) s := by
  have r2 : Vals (vs ++ []) (us ++ []) := r.append .nil
  have hl : (us ++ ([] : List Value)).length = ps.length := r2.length.symm.trans (F.len _ _ _ _ h)
  refine wpAny_call (codeAny_mono (F.run X.A X.stack s H ⟨us, []⟩ _ _ Q E hr I.env0 (hb s us I.kIn hl) r2 h) fun r s' hq => ?_)
  match r, hq with
  | .error e, hq => exact ⟨H, s, I, hq⟩
  | .ok (.ret u), hq => exact I.after hq
  | .ok .next, hq => exact hq.elim
  | .ok .brk, hq => exact hq.elim
  | .ok .cont, hq => exact hq.elim
theorem qx_call (D : DefX X.prog X.w X.K X.mg X.base k x ps sp) (hr : Room k X.A) (ha : QA X.nox (e :: es) t) (hg : Gl X x := by rfl) (hdb : (x == ("__debug__" : Str)) = false := by decide)
    (he : starEach (e :: es) X.env = (false, eval e X.env) :: starEach es X.env := by rfl) (hpl : (backTo pos (starEach es X.env)).any (·.1) = false := by rfl) : QX X (.Call (.Name x p) (e :: es) [] pos) (tCallX sp t) := by
  obtain ⟨f, fd, hm, hk, hb, F⟩ := D
  refine ⟨fun pins s σ H Q E I h => wpAny_Call_Name_kw (ld_glob I hg hm ?_ hdb)⟩
  have B1 := ha.h pos pins s σ H _ (I.wish _) h
  refine PySem.W.callWith_K (h₀ := X.base) I.ok.mod.kin hk (wpAny_mono B1 (fun us s1 ⟨vs, H1, I1, r, q⟩ => ⟨I1.unwish.kIn, ?_⟩) fun _ _ z => z.elim) he hpl
  exact run_fnX F hr hb I1.unwish r q
/-! statements -/
variable {st : Stmt} {rs : List Stmt} {tx : TX} {ty tz : TY}
theorem qy_ret (h : QX X e tx) : QY X (.Return (some e) pos) (fun D E σ H => tx σ H D.rt (E σ)) :=
  ⟨fun pins s σ H D E I q => wpAny_Return_some (wpAny_mono (h.h pins s σ H _ _ I q) (fun v s1 ⟨y, H1, I1, r1, q1⟩ => ⟨y, σ, H1, I1, r1, q1⟩) fun _ _ z => ⟨σ, z⟩)⟩
theorem qys_one (h1 : QY X st ty) : QYs X [st] ty := by
  refine ⟨fun pins s σ H D E I h => wpAny_execs_cons (thn (h1.h pins s σ H D E I h) fun f s1 q => ?_)⟩
  match f, q with
  | .next, q => exact wpAny_execs_nil q
  | .brk, q => exact q
  | .cont, q => exact q
  | .ret _, q => exact q
end
/-! ### the except clause -/
/-- an exception that was caught: an object of its class -/
def excO (x : Addr) (cls : Value) : HO := .ext fun h => ∃ o, h.get? x = some o ∧ o.cls = cls
abbrev Cx.suite (X : Cx) (x : Addr) : Cx := { X with A := X.A.mark (some (.ref x)), calm := false, xe := fun _ _ => False }
theorem Inv.suite {X : Cx} {pins : List (Addr × Obj)} {σ : St} {H : Hp} {s : Shared} (I : Inv X pins σ H s) (x : Addr) : Inv (X.suite x) pins σ H s :=
  ⟨⟨I.ok.mod, I.ok.kind, I.ok.glob, I.ok.blt, I.ok.above, I.ok.inj, I.ok.has, I.ok.cab, (fun z => nomatch z), I.ok.frames, I.ok.stk, I.ok.exf, I.ok.bs, I.ok.bsz, I.ok.noex, I.ok.exfs, I.ok.funs, I.ok.frf⟩, I.os, I.bare, I.base, I.loc, I.cell, I.free, I.freeC, I.pin, I.hok, I.len⟩
theorem Inv.unsuite {X : Cx} {pins : List (Addr × Obj)} {σ : St} {H : Hp} {s : Shared} {x : Addr} (hc : X.calm = true → X.A.handled = none) (I : Inv (X.suite x) pins σ H s) : Inv X pins σ H s :=
  ⟨⟨I.ok.mod, I.ok.kind, I.ok.glob, I.ok.blt, I.ok.above, I.ok.inj, I.ok.has, I.ok.cab, hc, I.ok.frames, I.ok.stk, I.ok.exf, I.ok.bs, I.ok.bsz, I.ok.noex, I.ok.exfs, I.ok.funs, I.ok.frf⟩, I.os, I.bare, I.base, I.loc, I.cell, I.free, I.freeC, I.pin, I.hok, I.len⟩
section
variable {X : Cx} {pins : List (Addr × Obj)} {σ : St} {H1 H' : Hp} {s1 s' : Shared} {B h2 : Heap} {x C t : Addr}
/-- the exception stands still: the heap is as it was left, and the exception is tracked -/
theorem Inv.caught (I : Inv X pins σ H1 s1) (os : s'.os = s1.os) (bare : AllBare s'.gens) (un : Un (frs X.stack) [] H1 H' s1.heap s'.heap) (hok : HOk X.prog X.w H' s'.heap) (fl : Heap.FlyingW B X.stack x (.ref C) (.ref t) s'.heap)
    (c1 : ∀ b u, H' b = some u → ∃ o, B.get? b = some o) (c2 : ∀ b o, s1.heap.get? b = some o → b ∉ frs X.stack → ∃ o', B.get? b = some o' ∧ (H1 b = none → o' = o)) (fl2 : Heap.FlyingW B X.stack x (.ref C) (.ref t) h2) (up : s'.heap.UpToSlots h2) :
    H' x = none ∧ Inv X pins σ (upd H' x (excO x (.ref C))) { s' with heap := h2 } := by
  have hx : H' x = none := by
    cases e : H' x with
    | none => rfl
    | some u =>
      obtain ⟨o, ho⟩ := c1 x u e
      rw [fl.2.1] at ho
      cases ho
  obtain ⟨ox, hox, hcx⟩ := fl2.there
  have xd : ∃ vs, ox.data = .fields vs := by
    obtain ⟨oe, vs, hoe, _, hd, _⟩ := fl2.first
    rw [hox] at hoe
    cases hoe
    exact ⟨vs, hd⟩
  have xfr : x ∉ frs X.stack := fun z => by
    obtain ⟨_, o, ho, hn⟩ := fl2.2.2.1.mem z
    rw [hox] at ho
    cases ho
    obtain ⟨vs, hd⟩ := xd
    exact hn vs hd
  have xnew : ∀ o, s1.heap.get? x ≠ some o := fun o z => by
    obtain ⟨o', e1, _⟩ := c2 x o z xfr
    rw [fl.2.1] at e1
    cases e1
  have sl : ∀ b o, s1.heap.get? b = some o → H1 b = none → b ∈ frs X.stack → ∃ v, h2.get? b = some { o with slots := v } := fun b o q n hb => by
    obtain ⟨v2, e2⟩ := un.slot b o q n hb (fun z => nomatch z)
    have nf : ∀ vs, o.data ≠ .fields vs := by
      obtain ⟨_, o', ho', hn⟩ := I.stack.mem hb
      rw [q] at ho'
      cases ho'
      exact hn
    obtain ⟨v3, e3⟩ := up b _ e2 nf
    exact ⟨v3, e3⟩
  have un2 : Un (frs X.stack) [] H1 (upd H' x (excO x (.ref C))) s1.heap h2 := by
    have old : ∀ b u, H' b = some u → upd H' x (excO x (.ref C)) b = some u := fun b u z => by rw [upd_ne (ne_of_none z hx)]; exact z
    refine ⟨fun b o q n nb _ => ?_, fun b o q n hb _ => sl b o q n hb, fun b o q n _ => ?_, fun b o q _ => ?_, fun b xs z => old _ _ (un.tups b xs z), fun b o u z => old _ _ (un.frzs b o u z), fun b qs z => ?_⟩
    · obtain ⟨o', e1, e2⟩ := c2 b o q nb
      rw [← e2 n]
      exact fl2.1 b o' e1
    · rw [upd_ne (fun z => xnew o (by rw [← z]; exact q))]
      exact un.free b o q n (fun z => nomatch z)
    · by_cases hb : b ∈ frs X.stack
      · obtain ⟨v, e1⟩ := sl b o q (I.stkFree b hb) hb
        exact ⟨_, e1⟩
      · obtain ⟨o', e1, _⟩ := c2 b o q hb
        exact ⟨o', fl2.1 b o' e1⟩
    · obtain ⟨m, e⟩ := un.tbls b qs z
      exact ⟨m, old _ _ e⟩
  have hok2 : HOk X.prog X.w (upd H' x (excO x (.ref C))) h2 := fun b u z => by
    by_cases e : b = x
    · subst e
      rw [upd_same] at z
      cases z
      refine ⟨⟨ox, hox, hcx⟩, ⟨ox, hox⟩, fun ha hb ⟨o, h1, h3⟩ k => ⟨o, k o h1, h3⟩⟩
    · rw [upd_ne e] at z
      refine ((hok_B hok c1 fl.1 fl2.1) b u z).stay (fun _ _ _ q => q) (fun c q => ?_) fun c xs q => ?_
      · rw [upd_ne (ne_of_none q hx)]
        exact q
      · rw [upd_ne (ne_of_none q hx)]
        exact q
  exact ⟨hx, I.call' (s' := { s' with heap := h2 }) (ch := []) os un2 hok2 bare fun b z => nomatch z⟩
end
section
variable {X : Cx} {pins : List (Addr × Obj)} {σ : St} {H : Hp} {s : Shared}
/-- the frame's map has changed: nothing is known of the names -/
theorem Inv.gone {h' : Heap} {m' : Str → Option Value} {t' : Nat} (I : Inv X pins σ H s) (ns : h'.Ns X.env.locals m') (hs : Heap.SameBut X.env.locals s.heap h') : Inv X pins (List.replicate X.N.length none) H { s with heap := h', toks := t' } := by
  have neL : ∀ b o, X.s₀.heap.get? b = some o → b ≠ X.env.locals := fun b o e => Nat.ne_of_lt (Nat.lt_of_lt_of_le (Heap.lt_size e) I.ok.above)
  refine ⟨I.ok, I.os, I.bare, ⟨fun b o e n hb hx => (hs.2 b (neL b o e)).trans (I.base.keep b o e n hb hx), fun b o e n hb hx => ?_, I.base.free, fun b o e hx => ?_, I.base.tups, I.base.frzs, I.base.tbls⟩, ⟨m', ns, fun i y v _ e2 _ => ?_⟩, fun y c e => ?_, I.free, I.freeC, fun q hq => ?_, fun b u e => ?_, by simp⟩
  · obtain ⟨v, e1⟩ := I.base.slot b o e n hb hx
    exact ⟨v, (hs.2 b (neL b o e)).trans e1⟩
  · obtain ⟨o', e1⟩ := I.base.there b o e hx
    exact ⟨o', (hs.2 b (neL b o e)).trans e1⟩
  · rw [List.getElem?_replicate] at e2
    split at e2 <;> cases e2
  · obtain ⟨v, z⟩ := I.cell y c e
    exact ⟨v, z.sameBut hs (I.cne y c e)⟩
  · obtain ⟨e, n, ne, nf, d⟩ := I.pin q hq
    exact ⟨(hs.2 q.1 ne).trans e, n, ne, nf, d⟩
  · refine (I.hok b u e).stay (fun c v hc q => (hs.2 c ?_).trans q) (fun _ q => q) fun _ _ q => q
    rintro rfl
    rcases hc with rfl | hc
    · rw [I.free] at e
      cases e
    · rw [I.free] at hc
      cases hc
end
/-- try: .. except C as n: a suite that returns -/
def tTryAs (K : PySem.W.Frag) (cv : Value) (tb : TY) (ts : TS) (j : Nat) : TS := fun D σ H => tb D (fun σ' cls _ H' => PySem.W.exmOne K cls cv = some true ∧ ∀ x, H' x = none → ts { nx := fun _ _ => False, rt := D.rt } (σ'.set j (some (.ref x))) (upd H' x (excO x cls))) σ H
section
variable {X : Cx} {body suite : List Stmt} {b0 : Stmt} {c n : Str} {cv : Value} {tb : TY} {ts : TS} {np hp pos : Pos}
theorem qs_tryAs (j : Nat) (hN : X.N.Nodup) (hm : X.mg c = some cv) (hb : QYs X body tb) (hs : ∀ x, QSs (X.suite x) (b0 :: suite) ts) (hst : X.stack = X.env :: X.outer := by rfl) (hfr : X.env.frame = some X.env.locals := by rfl) (hcl : X.calm = true := by rfl) (hj : X.N[j]? = some n := by rfl)
    (hl : X.env.scope.names.lookup n = some .local := by rfl) (hg : Gl X c := by rfl) (hdb : (c == ("__debug__" : Str)) = false := by decide) : QS X (.Try body [.ExceptHandler (some (.Name c np)) (some n) (b0 :: suite) hp] [] [] pos) (tTryAs X.K cv tb ts j) := by
  refine ⟨fun pins s σ H D I h => wpAny_Try_except (wpAny_mono (hb.h pins s σ H D _ I h) (fun f s1 q => ?_) fun e s2 ⟨σ', H1, s1, I1, x, C, t, B, H', ex, os, bare, un, hok, fl, c1, c2, cm, hc⟩ => ?_)⟩
  · match f, q with
    | .next, q => exact wpAny_execs_nil q
    | .brk, q => exact q
    | .cont, q => exact q
    | .ret _, q => exact q
  · subst ex
    have hd := I.ok.hd hcl
    have fm := I.ok.frames
    rw [hst] at fm
    have fl0 := fl
    rw [hst] at fl
    refine wpAny_looks_onW fm hfr fl fun h4 held4 up4 => ?_
    refine wpAny_landsW held4 fun h5 fl5 up5 => ?_
    rw [← hst] at fl5
    obtain ⟨hx, I5⟩ := I1.caught os bare un hok fl0 c1 c2 fl5 (up4.trans up5)
    obtain ⟨ox, hox, hcx⟩ := fl5.there
    have J5 := I5.suite x
    refine wpAny_handleBy_cons (codeAny_handlers_test (ld_glob J5 hg hm ?_ hdb)) (by intro z; cases z)
    have lt : PySem.W.Looks (model X.prog X.w) h5 (typeOf (.ref x)) (.ref C) := hcx ▸ (PySem.W.Looks.ld hox).andThen .now
    refine (PySem.W.exm_one I5.kIn lt cm).here ?_
    refine codeAny_handlers_suite_as ?_
    refine lands_againW fl5 fun h6 fl6 up6 => ?_
    obtain ⟨_, I6⟩ := I1.caught os bare un hok fl0 c1 c2 fl6 ((up4.trans up5).trans up6)
    refine store_ok I6 hN hj (.inl hl) (v := .ref x) rfl (fun s7 I7 => ?_) (.inr hl)
    refine wpAny_mono ((hs x).h pins s7 _ _ _ (I7.suite x) (hc x hx)) (fun f s8 q => ?_) fun _ _ z => z.elim
    match f, q with
    | .next, q => obtain ⟨_, _, _, z⟩ := q; exact z.elim
    | .brk, q => obtain ⟨_, _, _, z⟩ := q; exact z.elim
    | .cont, q => obtain ⟨_, _, _, z⟩ := q; exact z.elim
    | .ret u, q =>
      obtain ⟨v, σ8, H8, I8, r8, q8⟩ := q
      have I8 := I8.unsuite fun _ => hd
      obtain ⟨m, ns, _⟩ := id I8.loc
      refine wpAny_nameGoes hl ns (by rw [I8.ok.kind]; rfl) fun h' m' ns' same => ?_
      exact ⟨v, _, H8, I8.gone ns' same, r8, q8⟩
end
end L2

set_option linter.all false
set_option maxRecDepth 100000
set_option maxHeartbeats 400000
namespace L2
open PySem PySem.Spec PyProof.Rows
/-! ### isinstance of a caught exception, where it is True -/
theorem isx_true {prog : Program} {w : World} {A : Around} {E : Value → Shared → Prop} {s : Shared} {Q : Value → Shared → Prop} {K : PySem.W.Frag} {x : Addr} {cls c : Value} {o : Obj} (KX : K.In s.heap) (ho : s.heap.get? x = some o) (hc : o.cls = cls) (e : PySem.W.kitOne K cls c = some true) (h : Q (.bool true) s) :
    wpAny (model prog w) A (call (.builtin "isinstance") [.ref x, c]) Q E s := by
  obtain ⟨hh, g, d, tt, os⟩ := s
  have LT : PySem.W.Looks (model prog w) hh (typeOf (.ref x)) cls := hc ▸ (PySem.W.Looks.ld ho).andThen .now
  refine call_isinstance_of ?_ (fun z => nomatch z)
  unfold Builtin.«isinstance.nested»; refine wpAny_bind (LT.at ?_)
  unfold PySem.W.kitOne at e
  by_cases q : (cls == c) = true
  · rw [if_pos q]
    first
      | exact wpAny_bind (wpAny_rule h)
      | exact wpAny_bind (wpAny_rule (wpAny_pure h))
  · rw [if_neg q] at e ⊢
    obtain ⟨hty, his, hsub⟩ := PySem.W.kit_cls (M := model prog w) KX e
    have LI : PySem.W.Looks (model prog w) hh (isInstance (.ref x) c) true := LT.andThen hsub
    refine wpAny_bind (hty.at ?_); rw [if_pos (by decide)]
    k_delta "plainIsInstance"
    refine wpAny_bind (wpAny_bind (his.at ?_)); simp only [Bool.not_true, Bool.false_eq_true, if_false]
    refine wpAny_bind (LI.at ?_); simp only [if_true]
    first
      | exact wpAny_pure h
      | exact wpAny_pure (wpAny_pure h)
      | exact wpAny_bind (wpAny_pure (wpAny_pure h))
section
variable {X : Cx}
theorem isx_ok {pins : List (Addr × Obj)} {σ : St} {H : Hp} {s : Shared} {x : Addr} {cls c : Value} {Q : VK} (I : Inv X pins σ H s) (hx : H x = some (excO x cls)) (e : PySem.W.kitOne X.K cls c = some true) (q : Q (.bl true) H) : wpAny (model X.prog X.w) X.A (call (.builtin "isinstance") [.ref x, c]) (EP X pins σ Q) X.xe s := by
  obtain ⟨⟨o, ho, hc⟩, _⟩ := (show ObjOk X.prog X.w H s.heap x (excO x cls) from I.hok x _ hx)
  exact isx_true I.kIn ho hc e ⟨.bl true, H, I, rfl, q⟩
theorem call_isXC {C : Addr} : CallR X (.builtin "isinstance") (fun xs H Q => ∃ x cls, xs = [.ref x, .ref C] ∧ H x = some (excO x cls) ∧ PySem.W.kitOne X.K cls (.ref C) = some true ∧ Q (.bl true) H) := by
  intro pins s σ H xs us Q I r h
  obtain ⟨x, cls, rfl, hx, e, q⟩ := h
  obtain ⟨u, w', rfl, ru, rw'⟩ := vals2 r
  cases rw'
  obtain rfl : u = Value.ref x := ru
  exact isx_ok I hx e q
theorem call_isXCK (K : PySem.W.Frag) {C : Addr} (e : X.K = K := by rfl) : CallR X (.builtin "isinstance") (fun xs H Q => ∃ x cls, xs = [.ref x, .ref C] ∧ H x = some (excO x cls) ∧ PySem.W.kitOne K cls (.ref C) = some true ∧ Q (.bl true) H) := e ▸ call_isXC
end
end L2

set_option linter.all false
set_option maxRecDepth 100000
set_option maxHeartbeats 400000
namespace L2
open PySem PySem.Spec PyProof.Rows
/-- an own exception, read off what the top has written -/
theorem exc_mk {K : PySem.W.Frag} {h : Heap} {mg : Str → Option Value} {x : Str} {C : Addr} (KX : K.In h) (G : h.Ns mainGlobals mg) (a : PySem.W.nsIn K mainGlobals x = some (some (.ref C)))
    (q : PySem.W.excIn K C [.type "ValueError", .type "Exception", .type "BaseException", .type "object"] "ValueError.__new__" = true) : ExcC K mg h x C := by
  refine ⟨⟨PySem.W.mg_of KX G a, ?_⟩⟩
  revert q
  unfold PySem.W.excIn
  split
  · split
    · rename_i dd cd sl lk _ _ C' bm k0 k1 k2 k3 n k5 hm hs
      intro q
      rw [Bool.and_eq_true, Bool.and_eq_true, Bool.and_eq_true, Bool.and_eq_true, Bool.and_eq_true] at q
      obtain ⟨⟨⟨⟨⟨q1, q2⟩, q3⟩, q4⟩, q5⟩, q6⟩ := q
      have q1 : C' = C := beq_iff_eq.mp q1
      have q2 : n = "ValueError.__new__" := beq_iff_eq.mp q2
      have q3 : cd.hasDel = false := by simpa using q3
      have q6 := beq_iff_eq.mp q6
      obtain ⟨l⟩ := sl
      have hs : l = _ := hs
      subst q1 q2 hs
      cases cd with
      | mk nm bs mro ns qn hd sn sub ab col del =>
        have hm : mro = _ := hm
        have q3 : del = false := q3
        subst hm q3
        exact ⟨bm, ns, nm, qn, bs, hd, sn, sub, ab, col, _, k0, k1, k2, k3, k5, _, KX _ _ lk, .of_isNs (PySem.W.isNs_of_in KX q5), PySem.W.nsMap_none_of_in KX q5 q6, PySem.W.tail_of_in KX q4⟩
    · intro q
      cases q
  · intro q
    cases q
end L2

set_option linter.all false
set_option maxRecDepth 100000
set_option maxHeartbeats 400000
namespace L2
open PySem PySem.Spec PyProof.Rows
/-! ### rules whose readings are short: no K in them, the ends of a loop's body as letters -/
def rIxL0 : R2 := fun x y H Q => ∃ p xs i v, x = .ref p ∧ y = .int i ∧ H p = some (.lst xs) ∧ atI xs i = some v ∧ Q v H
def rIxT0 : R2 := fun x y H Q => ∃ p xs i v, x = .ref p ∧ y = .int i ∧ H p = some (.tup xs) ∧ atI xs i = some v ∧ Q v H
def rLen0 : List V → Hp → VK → Prop := fun xs H Q => ∃ p ys, xs = [.ref p] ∧ H p = some (.lst ys) ∧ Q (.int ys.length) H
/-- o.append(e) -/
def tApp (to te : TE) : TE := fun σ H Q => to σ H fun x H1 => ∃ l xs, x = .ref l ∧ H1 l = some (.lst xs) ∧ te σ H1 fun y H2 => ∃ z ys, [y] = [z] ∧ H2 l = some (.lst ys) ∧ ys.length < sizeLine ∧ Q .non (upd H2 l (.lst (ys ++ [z])))
section
variable {X : Cx}
theorem ix_list0 : IxR X rIxL0 := by
  intro value slice pins s σ H x y v u Q I rx ry h
  obtain ⟨p, xs, i, z, e1, e2, e3, e4, q⟩ := h
  exact ix_list value slice pins s σ H x y v u Q I rx ry ⟨p, xs, i, z, e1, e2, SqL.of e3, e4, q⟩
theorem ix_tup0 : IxR X rIxT0 := by
  intro value slice pins s σ H x y v u Q I rx ry h
  obtain ⟨p, xs, i, z, e1, e2, e3, e4, q⟩ := h
  exact ix_tup value slice pins s σ H x y v u Q I rx ry ⟨p, xs, i, z, e1, e2, SqT.of e3, e4, q⟩
theorem call_len0 : CallR X (.builtin "len") rLen0 := by
  intro pins s σ H xs us Q I r h
  obtain ⟨p, ys, e1, e2, q⟩ := h
  exact call_len_seq pins s σ H xs us Q I r ⟨p, ys, e1, .inl (SqL.of e2), q⟩
theorem qe_app {o e : Expr} {to te : TE} {apos cpos : Pos} (ho : QE X o to) (he : QE X e te)
    (hbase : attributeBase o "append" X.env (eval o X.env) = eval o X.env := by rfl)
    (hfew : ((backTo cpos (starEach [e] X.env)).all (fun x => !x.1) && (backToKw cpos (keywordEach [] X.env)).all (fun x => x.1.isSome)
      && decide ([e].length + ([] : List Keyword).length + (if ([] : List Keyword).isEmpty then 0 else 1) < 30)) = true := by rfl)
    (hline : (apos.endLine == cpos.line) = true := by rfl) (hs : starEach [e] X.env = (false, eval e X.env) :: starEach [] X.env := by rfl) (hplain : (backTo cpos (starEach [] X.env)).any (·.1) = false := by rfl) :
    QE X (.Call (.Attribute o "append" apos) [e] [] cpos) (tApp to te) := by
  refine ⟨fun pins s σ H Q I h => ?_⟩
  refine wpAny_Call_method_late hbase hfew hline rfl (thn (ho.h pins s σ H _ I h) fun v s1 ⟨x, H1, I1, r1, l, xs, ex, hl, q1⟩ => ?_)
  subst ex
  obtain ⟨h1, h2⟩ := tyV_is (T := "list") I1 r1 (.inl ⟨rfl, xs, SqL.of hl⟩)
  refine ⟨"list", _, PySem.F.plainAttrs_list, PySem.F.slot_list_append, PySem.F.type_list_append, h1, h2, ?_⟩
  have hA := (qa_cons he qa_nil hs).h cpos pins s1 σ H1 (fun vs H2 => ∃ y ys, vs = [y] ∧ H2 l = some (.lst ys) ∧ ys.length < sizeLine ∧ Q .non (upd H2 l (.lst (ys ++ [y])))) I1 q1
  rw [hs] at hA ⊢
  refine Calls.callWith_builtin (by show (false || (backTo cpos (starEach [] X.env)).any (·.1)) = false; rw [hplain] <;> rfl) (Calls.evalArgs_plain ?_)
  exact thn hA fun us s2 ⟨vs, H2, I2, r2, y, ys, e1, e2, e3, q2⟩ => mt_append pins s2 σ H2 (.ref l) vs v us Q I2 r1 r2 ⟨l, ys, y, rfl, e1, e2, e3, q2⟩
end
/-! loops -/
theorem for_goesO {J : It} {n : Nat} {Ok : Hp → Prop} {Y : Nat → Hp → V → Prop} (G : Goes J n Ok Y) {g : TG} {tb : TS} {D : Ends} {σ : St} {H : Hp} (Pv : Nat → St → Hp → Prop) (h0 : Pv 0 σ H) (hl : ∀ i σ H, i ≤ n → Pv i σ H → Ok H)
    (hs : ∀ (Pw : Nat → St → Hp → Prop) (Rt : VK) (Bk : St → Hp → Prop), (∀ j σ H, Pv j σ H → Pw j σ H) → (∀ v H, D.rt v H → Rt v H) → ∀ i x σ H, i < n → Y i H x → Pv i σ H → g x σ H fun σ2 H2 => tb ⟨Pw (i + 1), Rt, Bk, Pw (i + 1)⟩ σ2 H2) (hd : ∀ σ H, Pv n σ H → D.nx σ H) :
    ∃ W : Nat → Nat → St → Hp → Prop, (∃ m, W 0 m σ H) ∧ ∀ i m σ H, W i m σ H →
      (J.stop i H ∧ D.nx σ H) ∨ (J.go i H ∧ ∃ N : St → Hp → Prop, (∀ σ' H', N σ' H' → ∃ m', m' < m ∧ W (i + 1) m' σ' H') ∧ ∀ x H', J.yld i H x H' → g x σ H' fun σ2 H2 => tb { D with nx := N, ct := N, bk := D.nx } σ2 H2) :=
  for_goes G Pv h0 hl (hs Pv D.rt D.nx (fun _ _ _ z => z) fun _ _ z => z) hd
theorem while_wO {c : TT} {tb : TS} {D : Ends} {σ : St} {H : Hp} (Pv : St → Hp → Prop) (μ : St → Hp → Nat) (h0 : Pv σ H)
    (hs : ∀ (De : St → Hp → Prop) (Rt : VK), (∀ σ H, D.nx σ H → De σ H) → (∀ v H, D.rt v H → Rt v H) → ∀ σ0 H0, Pv σ0 H0 → ∀ Nx : St → Hp → Prop, (∀ σ' H', Pv σ' H' → μ σ' H' < μ σ0 H0 → Nx σ' H') →
      c σ0 H0 fun b H1 => if b = true then ∃ N : St → Hp → Prop, (∀ σ' H', N σ' H' → Nx σ' H') ∧ tb ⟨N, Rt, De, N⟩ σ0 H1 else De σ0 H1) : tWhile c tb D σ H := by
  refine while_w Pv μ h0 fun σ0 H0 p => ?_
  have z := hs D.nx D.rt (fun _ _ z => z) (fun _ _ z => z) σ0 H0 p (fun σ' H' => ∃ m', m' < μ σ0 H0 ∧ m' = μ σ' H' ∧ Pv σ' H') fun σ' H' pv lt => ⟨_, lt, rfl, pv⟩
  exact z
end L2

set_option linter.all false
set_option maxRecDepth 100000
set_option maxHeartbeats 400000
namespace L2
open PySem PySem.Spec PyProof.Rows
section
variable {X : Cx}
end
end L2

set_option linter.all false
set_option maxRecDepth 100000
set_option maxHeartbeats 400000
namespace L2
open PySem PySem.Spec PyProof.Rows
/-! ### a class whose __init__ may raise; a sign times an int -/
section
variable {X : Cx} {k : Nat} {f C : Addr} {fd : FuncData} {ps : List Str} {sp : Sp} {x : Str} {p pos : Pos} {e : Expr} {es : List Expr} {t : TA}
end
end L2
namespace L2
open PySem PySem.Spec PyProof.Rows
end L2

set_option linter.all false
set_option maxRecDepth 100000
set_option maxHeartbeats 400000
namespace L2
open PySem PySem.Spec PyProof.Rows
/-! ### methods that may raise; a clause without a name; index of data -/
section
variable {P : Program} {w : World} {K : PySem.W.Frag} {mg : Str → Option Value} {base : Heap} {m qual : Str} {st : Stmt} {N ps : List Str} {k j : Nat} {sp : Sp} {C f : Addr} {fd : FuncData}
end
section
variable {X : Cx} {k : Nat} {C : Addr} {ps : List Str} {sp : Sp} {E : XK} {m : Str} {pos apos : Pos} {e o : Expr} {es : List Expr} {ta : TE} {t : TA}
end
section
variable {X : Cx} {body suite : List Stmt} {b0 : Stmt} {c : Str} {cv : Value} {tb : TY} {ts : TS} {np hp pos : Pos}
end
section
variable {X : Cx}
theorem mt_indexD (K : PySem.W.Frag) (hu : X.A.units + 65 < cLine) (eK : X.K = K := by rfl) : MtR X "list.index" (fun x vs H Q => ∃ l y xs ds d j, x = .ref l ∧ vs = [y] ∧ H l = some (.lst xs) ∧ RdsAll K H xs ds ∧ Rds K H y d ∧ SeqAt.shaped d = true ∧ SeqAt.shaped (.list ds) = true ∧ (∃ z, ds[j]? = some z ∧ PyData.eqv z d = true) ∧ (∀ m z, m < j → ds[m]? = some z → PyData.eqv z d = false) ∧ Q (.int (j : Nat)) H) := by
  subst eK
  intro pins s σ H x vs v us Q I rx rv h
  obtain ⟨l, y, xs, ds, d, j, rfl, rfl, hH, rd, ry, s1, s2, ⟨zj, hz, ez⟩, no, q⟩ := h
  cases rx
  obtain ⟨u, rfl, ru⟩ := vals1 rv
  obtain ⟨z, its, n, r, hl, e⟩ := I.lstM hH
  obtain ⟨as, r1⟩ := readsAll_of I rd its r
  obtain ⟨bs, r2⟩ := reads_of I ry u ru
  have cl := SeqAt.canLay_of_shaped s2
  have cd := SeqAt.canLay_of_shaped s1
  have mp := SeqAt.readsAll_map ds its as cl r1
  have hle : its.length = ds.length := by have := congrArg List.length mp; rwa [List.length_map] at this
  have at_ : ∀ (i : Nat) (hi : i < its.toArray.size) (dz : PyData), ds[i]? = some dz → SeqAt.readOf s.heap its.toArray[i] = dz := fun i hi dz hdz => by
    have hi' : i < its.length := by simpa using hi
    have z1 := congrArg (fun l => l[i]?) mp
    simp only [List.getElem?_map] at z1
    rw [List.getElem?_eq_getElem hi', hdz] at z1
    exact Option.some.inj z1
  have hj : j < its.toArray.size := by
    have := (List.getElem?_eq_some_iff.mp hz).1
    rw [List.size_toArray, hle]
    exact this
  have sm : (j : Int) < 2 ^ 63 - 1 := by
    have h2 := line63
    rw [List.size_toArray] at hj
    omega
  refine call_meets PySem.F.slot_list_index ⟨_, e, rfl⟩ PySem.F.entry_list_index (PySem.F.args_list_index_2 _ _) (SeqAt.list_indexAt l its.toArray n none #[] u (fun y => PyData.eqv (SeqAt.readOf s.heap y) d) j hj sm (by rw [at_ j hj zj hz]; exact ez) (fun m hm hmj => ?_)) ⟨e, SeqAt.items_eqAt (vs := its.toArray) r1 r2 cl cd ?_, ?_⟩
  · obtain ⟨zm, hzm⟩ : ∃ zm, ds[m]? = some zm := ⟨ds[m]'(by rw [← hle]; simpa using hm), List.getElem?_eq_getElem _⟩
    show PyData.eqv (SeqAt.readOf s.heap its.toArray[m]) d = false
    rw [at_ m hm zm hzm]
    exact no m zm hmj hzm
  · have h1 := SeqAt.depth_of_shaped s1
    have h2 : min (PyData.depthAll ds) d.depth ≤ d.depth := Nat.min_le_right _ _
    first
      | (show X.A.units + 1 + 1 + min (PyData.depthAll ds) d.depth < cLine; omega)
      | (show X.A.units + 1 + min (PyData.depthAll ds) d.depth < cLine; omega)
  · exact ⟨.int _, H, I.tok _, ⟨_, rfl⟩, q⟩
end
end L2

set_option linter.all false
namespace Sh
/-- a place -/
abbrev Pl := Int × Int
/-- near one another -/
def Nb (p q : Pl) : Prop :=
  (q.1 = p.1 - 1 ∧ q.2 = p.2) ∨ (q.1 = p.1 - 1 ∧ q.2 = p.2 + 1) ∨ (q.1 = p.1 ∧ q.2 = p.2 + 1) ∨ (q.1 = p.1 + 1 ∧ q.2 = p.2) ∨ (q.1 = p.1 + 1 ∧ q.2 = p.2 - 1) ∨ (q.1 = p.1 ∧ q.2 = p.2 - 1)
theorem Nb.symm {p q : Pl} (h : Nb p q) : Nb q p := by unfold Nb at *; omega
end Sh

set_option linter.all false
namespace Sh
abbrev Pr := Pl × Pl
/-- the hand whose place it is, on a full board of H rows and W columns with the stones f (true: north) -/
def shK (H W : Int) (f : Pl → Bool) (p : Pl) : Option Bool :=
  if 0 ≤ p.1 ∧ p.1 < H then
    if 0 ≤ p.2 ∧ p.2 < W then some (f p) else if p.2 = -1 ∨ p.2 = W then some false else none
  else if (p.1 = -1 ∧ 0 ≤ p.2 ∧ p.2 ≤ W) ∨ (p.1 = H ∧ -1 ≤ p.2 ∧ p.2 ≤ W - 1) then some true else none
def inB (H W : Int) (p : Pl) : Prop := 0 ≤ p.1 ∧ p.1 < H ∧ 0 ≤ p.2 ∧ p.2 < W
/-- the place ahead of a pair; the one behind it -/
def ahd (x : Pr) : Pl := (x.1.1 + x.1.2 - x.2.2, x.2.2 - x.1.1 + x.2.1)
def bhd (x : Pr) : Pl := (x.2.1 - x.1.2 + x.2.2, x.1.1 - x.2.1 + x.1.2)
def stp (K : Pl → Option Bool) (x : Pr) : Option Pr := match K (ahd x) with | some true => some (ahd x, x.2) | some false => some (x.1, ahd x) | none => none
def prv (K : Pl → Option Bool) (x : Pr) : Option Pr := match K (bhd x) with | some true => some (bhd x, x.2) | some false => some (x.1, bhd x) | none => none
structure Vld (K : Pl → Option Bool) (x : Pr) : Prop where
  n : K x.1 = some true
  w : K x.2 = some false
  nb : Nb x.2 x.1
/-- the place ahead is near both -/
theorem ahd_nb {a b : Pl} (nb : Nb b a) : Nb b (ahd (a, b)) ∧ Nb a (ahd (a, b)) := by
  obtain ⟨a1, a2⟩ := a
  obtain ⟨b1, b2⟩ := b
  unfold Nb at nb
  simp only at nb
  unfold Nb ahd
  simp only
  rcases nb with ⟨e1, e2⟩ | ⟨e1, e2⟩ | ⟨e1, e2⟩ | ⟨e1, e2⟩ | ⟨e1, e2⟩ | ⟨e1, e2⟩ <;> subst e1 e2
  all_goals
    constructor <;>
      first
        | exact .inl ⟨by omega, by omega⟩
        | exact .inr (.inl ⟨by omega, by omega⟩)
        | exact .inr (.inr (.inl ⟨by omega, by omega⟩))
        | exact .inr (.inr (.inr (.inl ⟨by omega, by omega⟩)))
        | exact .inr (.inr (.inr (.inr (.inl ⟨by omega, by omega⟩))))
        | exact .inr (.inr (.inr (.inr (.inr ⟨by omega, by omega⟩))))
theorem stp_ok {K : Pl → Option Bool} {x y : Pr} (v : Vld K x) (h : stp K x = some y) : Vld K y ∧ prv K y = some x ∧ (y.1 = x.1 ∨ Nb x.1 y.1) ∧ (y.2 = x.2 ∨ Nb x.2 y.2) := by
  obtain ⟨⟨a1, a2⟩, b1, b2⟩ := x
  obtain ⟨vn, vw, nb⟩ := v
  unfold stp at h
  simp only at vn vw nb
  obtain ⟨t1, t2⟩ := ahd_nb nb
  cases e : K (ahd ((a1, a2), b1, b2)) with
  | none => rw [e] at h; cases h
  | some k =>
    rw [e] at h
    cases k with
    | true =>
      simp only [Option.some.injEq] at h
      subst h
      refine ⟨⟨e, vw, ?_⟩, ?_, .inr ?_, .inl rfl⟩
      · exact t1
      · have eb : bhd (ahd ((a1, a2), b1, b2), b1, b2) = (a1, a2) := by unfold bhd ahd; simp only [Prod.mk.injEq]; omega
        unfold prv
        simp only [eb, vn]
      · exact t2
    | false =>
      simp only [Option.some.injEq] at h
      subst h
      refine ⟨⟨vn, e, ?_⟩, ?_, .inl rfl, .inr ?_⟩
      · exact t2.symm
      · have eb : bhd ((a1, a2), ahd ((a1, a2), b1, b2)) = (b1, b2) := by unfold bhd ahd; simp only [Prod.mk.injEq]; omega
        unfold prv
        simp only [eb, vw]
      · exact t1
def st0 : Pr := ((-1, 0), (0, -1))
/-- a walk, the newest pair first -/
inductive Wlk (K : Pl → Option Bool) : List Pr → Prop
  | one : Wlk K [st0]
  | more {x y : Pr} {l : List Pr} : Wlk K (x :: l) → stp K x = some y → Wlk K (y :: x :: l)
section
variable {H W : Int} {f : Pl → Bool}
theorem st0_ok (hH : 1 ≤ H) (hW : 1 ≤ W) : Vld (shK H W f) st0 ∧ prv (shK H W f) st0 = none := by
  refine ⟨⟨?_, ?_, ?_⟩, ?_⟩
  · show shK H W f (-1, 0) = _
    unfold shK
    rw [if_neg (by dsimp only; omega), if_pos (by dsimp only; omega)]
  · show shK H W f (0, -1) = _
    unfold shK
    rw [if_pos (by dsimp only; omega), if_neg (by dsimp only; omega), if_pos (by dsimp only; omega)]
  · unfold Nb st0; simp only; omega
  · have e : shK H W f (bhd st0) = none := by
      show shK H W f (0 - 0 + -1, -1 - 0 + 0) = none
      unfold shK
      rw [if_neg (by dsimp only; omega), if_neg (by dsimp only; omega)]
    unfold prv
    rw [e]
theorem Wlk.vld (hH : 1 ≤ H) (hW : 1 ≤ W) {l : List Pr} (h : Wlk (shK H W f) l) : ∀ x ∈ l, Vld (shK H W f) x := by
  induction h with
  | one => intro x hx; simp at hx; subst hx; exact (st0_ok hH hW).1
  | @more x y l _ hs ih =>
    intro z hz
    rcases List.mem_cons.mp hz with e | e
    · subst e; exact (stp_ok (ih x List.mem_cons_self) hs).1
    · exact ih z e
theorem Wlk.prev (hH : 1 ≤ H) (hW : 1 ≤ W) {l : List Pr} (h : Wlk (shK H W f) l) : ∀ y ∈ l, y = st0 ∨ ∃ z, prv (shK H W f) y = some z ∧ z ∈ l.tail := by
  induction h with
  | one => intro y hy; simp at hy; exact .inl hy
  | @more x y l h0 hs ih =>
    intro z hz
    rcases List.mem_cons.mp hz with e | e
    · subst e
      exact .inr ⟨x, (stp_ok (h0.vld hH hW x List.mem_cons_self) hs).2.1, by simp⟩
    · rcases ih z e with q | ⟨u, q1, q2⟩
      · exact .inl q
      · exact .inr ⟨u, q1, List.mem_of_mem_tail q2⟩
theorem Wlk.nodup (hH : 1 ≤ H) (hW : 1 ≤ W) {l : List Pr} (h : Wlk (shK H W f) l) : l.Nodup := by
  induction h with
  | one => simp
  | @more x y l h0 hs ih =>
    refine List.nodup_cons.mpr ⟨fun hy => ?_, ih⟩
    have e := (stp_ok (h0.vld hH hW x List.mem_cons_self) hs).2.1
    rcases h0.prev hH hW y hy with q | ⟨z, q1, q2⟩
    · rw [q, (st0_ok hH hW).2] at e; cases e
    · rw [e] at q1
      have q3 : x = z := Option.some.inj q1
      rw [← q3] at q2
      exact (List.nodup_cons.mp ih).1 q2
theorem shK_some (hH : 1 ≤ H) (hW : 1 ≤ W) {p : Pl} {k : Bool} (h : shK H W f p = some k) : -1 ≤ p.1 ∧ p.1 ≤ H ∧ -1 ≤ p.2 ∧ p.2 ≤ W := by
  unfold shK at h
  by_cases c1 : 0 ≤ p.1 ∧ p.1 < H
  · rw [if_pos c1] at h
    by_cases c2 : 0 ≤ p.2 ∧ p.2 < W
    · omega
    · rw [if_neg c2] at h
      by_cases c3 : p.2 = -1 ∨ p.2 = W
      · omega
      · rw [if_neg c3] at h; cases h
  · rw [if_neg c1] at h
    by_cases c2 : (p.1 = -1 ∧ 0 ≤ p.2 ∧ p.2 ≤ W) ∨ (p.1 = H ∧ -1 ≤ p.2 ∧ p.2 ≤ W - 1)
    · omega
    · rw [if_neg c2] at h; cases h
theorem nb_one {p q : Pl} (nb : Nb p q) : -1 ≤ p.1 - q.1 ∧ p.1 - q.1 ≤ 1 ∧ -1 ≤ p.2 - q.2 ∧ p.2 - q.2 ≤ 1 := by
  unfold Nb at nb
  rcases nb with ⟨e1, e2⟩ | ⟨e1, e2⟩ | ⟨e1, e2⟩ | ⟨e1, e2⟩ | ⟨e1, e2⟩ | ⟨e1, e2⟩ <;> rw [e1, e2] <;> exact ⟨by omega, by omega, by omega, by omega⟩
theorem rdx {n a b a' b' : Int} (h1 : 0 ≤ b) (h2 : b < n) (h3 : 0 ≤ b') (h4 : b' < n) (e : a * n + b = a' * n + b') : a = a' ∧ b = b' := by
  have q1 : (a * n + b) / n = a := by rw [Int.add_comm, Int.add_mul_ediv_right _ _ (by omega), Int.ediv_eq_zero_of_lt h1 h2, Int.zero_add]
  have q2 : (a' * n + b') / n = a' := by rw [Int.add_comm, Int.add_mul_ediv_right _ _ (by omega), Int.ediv_eq_zero_of_lt h3 h4, Int.zero_add]
  have q3 : a = a' := by rw [← q1, ← q2, e]
  subst q3
  exact ⟨rfl, by omega⟩
end
/-- different numbers below m are at most m -/
theorem nodup_lt : ∀ (m : Nat) (l : List Nat), l.Nodup → (∀ x ∈ l, x < m) → l.length ≤ m
  | 0, l, _, h => by
    cases l with
    | nil => exact Nat.le_refl _
    | cons a t => exact absurd (h a List.mem_cons_self) (Nat.not_lt_zero _)
  | m + 1, l, nd, h => by
    have hl : (l.erase m).length ≤ m := nodup_lt m (l.erase m) (nd.erase m) (fun x hx => by
      have h1 := (List.Nodup.mem_erase_iff nd).mp hx
      have h2 := h x h1.2
      have h3 := h1.1
      omega)
    have := List.length_erase (a := m) (l := l)
    split at this <;> omega
section
variable {H W : Int} {f : Pl → Bool}
end
end Sh

set_option linter.all false
namespace Sh
/-- the six places near p, in their order -/
def nbs (p : Pl) : List Pl := [(p.1 - 1, p.2), (p.1 - 1, p.2 + 1), (p.1, p.2 + 1), (p.1 + 1, p.2), (p.1 + 1, p.2 - 1), (p.1, p.2 - 1)]
/-- the rows of a board as lists of codes -/
abbrev Rws := List (List Nat)
def at2 (rows : Rws) (p : Pl) : Option Nat := if 0 ≤ p.1 ∧ 0 ≤ p.2 then (rows[p.1.toNat]?).bind fun r => r[p.2.toNat]? else none
structure Rect (rows : Rws) (H W : Nat) : Prop where
  len : rows.length = H
  wid : ∀ r ∈ rows, r.length = W
  h1 : 1 ≤ H
  h9 : H ≤ 9
  w1 : 1 ≤ W
  w9 : W ≤ 9
  sg : ∀ r ∈ rows, ∀ c ∈ r, c = 110 ∨ c = 119 ∨ c = 46
theorem Rect.at {rows : Rws} {H W : Nat} (R : Rect rows H W) {p : Pl} (b : inB H W p) : ∃ c, at2 rows p = some c ∧ (c = 110 ∨ c = 119 ∨ c = 46) := by
  obtain ⟨b1, b2, b3, b4⟩ := b
  have hr : p.1.toNat < rows.length := by rw [R.len]; omega
  have hm : rows[p.1.toNat] ∈ rows := List.getElem_mem hr
  have hc : p.2.toNat < rows[p.1.toNat].length := by rw [R.wid _ hm]; omega
  refine ⟨rows[p.1.toNat][p.2.toNat], ?_, R.sg _ hm _ (List.getElem_mem hc)⟩
  unfold at2
  rw [if_pos ⟨b1, b3⟩, List.getElem?_eq_getElem hr]
  show rows[p.1.toNat][p.2.toNat]? = _
  rw [List.getElem?_eq_getElem hc]
theorem Rect.inB {rows : Rws} {H W : Nat} (R : Rect rows H W) {p : Pl} {c : Nat} (h : at2 rows p = some c) : Sh.inB H W p := by
  unfold at2 at h
  by_cases b : 0 ≤ p.1 ∧ 0 ≤ p.2
  · rw [if_pos b] at h
    cases e : rows[p.1.toNat]? with
    | none => rw [e] at h; cases h
    | some r =>
      rw [e] at h
      have h' : r[p.2.toNat]? = some c := h
      obtain ⟨l1, e1⟩ := List.getElem?_eq_some_iff.mp e
      obtain ⟨l2, e2⟩ := List.getElem?_eq_some_iff.mp h'
      have hm : r ∈ rows := e1 ▸ List.getElem_mem l1
      rw [R.wid r hm] at l2
      rw [R.len] at l1
      refine ⟨b.1, ?_, b.2, ?_⟩ <;> omega
  · rw [if_neg b] at h; cases h
end Sh

set_option linter.all false
namespace Sh
/-- the other hand -/
def oth (h : Nat) : Nat := if h = 110 then 119 else if h = 119 then 110 else h
end Sh

set_option linter.all false
namespace Sh
section
variable {S src : Pl → Prop} {tr : List (Pl × Option Pl)}
end
end Sh

set_option linter.all false
set_option maxRecDepth 100000
set_option maxHeartbeats 400000
namespace Sw
open PySem L2 Sh
/-- no name of the text hides these built-ins -/
structure Bt (mg : Str → Option Value) : Prop where
  len : mg "len" = none
  range : mg "range" = none
  list : mg "list" = none
  int : mg "int" = none
  isinst : mg "isinstance" = none
  bool : mg "bool" = none
  tuple : mg "tuple" = none
  str : mg "str" = none
  set : mg "set" = none
  enum : mg "enumerate" = none
  rev : mg "reversed" = none
/-- what isinstance asks of built-in types -/
structure Kt (K : PySem.W.Frag) : Prop where
  ib : PySem.W.kitOne K (.type "int") (.type "bool") = some false
theorem n_eq : ("n" : Str) = ⟨#[110]⟩ := by decide +kernel
theorem w_eq : ("w" : Str) = ⟨#[119]⟩ := by decide +kernel
theorem d_eq : ("." : Str) = ⟨#[46]⟩ := by decide +kernel
/-- the rows' codes -/
abbrev rws (rows : List Str) : Rws := rows.map fun x => x.cps.toList
/-- a place as a tuple of the heap -/
def TupAt (H : Hp) (a : Addr) (p : Pl) : Prop := H a = some (.tup [.int p.1, .int p.2])
/-- a list of places -/
def ListPl (H : Hp) (l : Addr) (ps : List Pl) : Prop := ∃ as : List Addr, H l = some (.lst (as.map V.ref)) ∧ Paired (TupAt H) as ps
theorem paired_same {H H' : Hp} (s : Same H H') {as : List Addr} {ps : List Pl} (h : Paired (TupAt H) as ps) : Paired (TupAt H') as ps := Paired.mapP h fun a p z => s _ _ z
theorem paired_get {α β : Type} {F : α → β → Prop} : ∀ {as : List α} {bs : List β} {i : Nat} {b : β}, Paired F as bs → bs[i]? = some b → ∃ a, as[i]? = some a ∧ F a b
  | _, _, _, _, .nil, e => by simp at e
  | _, _, 0, _, .cons r _, e => by simp at e; subst e; exact ⟨_, rfl, r⟩
  | _, _, i + 1, b, .cons _ t, e => by
    obtain ⟨a, h1, h2⟩ := paired_get (i := i) (b := b) t (by simpa using e)
    exact ⟨a, by simpa using h1, h2⟩
theorem paired_get' {α β : Type} {F : α → β → Prop} : ∀ {as : List α} {bs : List β} {i : Nat} {a : α}, Paired F as bs → as[i]? = some a → ∃ b, bs[i]? = some b ∧ F a b
  | _, _, _, _, .nil, e => by simp at e
  | _, _, 0, _, .cons r _, e => by simp at e; subst e; exact ⟨_, rfl, r⟩
  | _, _, i + 1, a, .cons _ t, e => by
    obtain ⟨b, h1, h2⟩ := paired_get' (i := i) (a := a) t (by simpa using e)
    exact ⟨b, by simpa using h1, h2⟩
/-- a board: its attributes in the order in which __init__ stores them -/
def bfl (a : Addr) (h w : Int) : List (Str × V) := putF "width" (.int w) (putF "height" (.int h) (putF "rows" (.ref a) []))
theorem bfl_rows (a : Addr) (h w : Int) : (bfl a h w).lookup ("rows" : Str) = some (.ref a) := by
  unfold bfl
  rw [lookup_putF, if_neg (by decide +kernel), lookup_putF, if_neg (by decide +kernel), lookup_putF, if_pos rfl]
theorem bfl_height (a : Addr) (h w : Int) : (bfl a h w).lookup ("height" : Str) = some (.int h) := by
  unfold bfl
  rw [lookup_putF, if_neg (by decide +kernel), lookup_putF, if_pos rfl]
theorem bfl_width (a : Addr) (h w : Int) : (bfl a h w).lookup ("width" : Str) = some (.int w) := by
  unfold bfl
  rw [lookup_putF, if_pos rfl]
structure BoardAt (C : Addr) (H : Hp) (b : Addr) (rows : List Str) (h w : Nat) : Prop where
  ob : ∃ dx a, H b = some (.ins C dx (bfl a h w)) ∧ H a = some (.lst (rows.map V.str))
  rect : Rect (rws rows) h w
theorem BoardAt.same {C : Addr} {H H' : Hp} {b : Addr} {rows : List Str} {h w : Nat} (B : BoardAt C H b rows h w) (s : Same H H') : BoardAt C H' b rows h w :=
  ⟨let ⟨dx, a, h1, h2⟩ := B.ob; ⟨dx, a, s _ _ h1, s _ _ h2⟩, B.rect⟩
/-- the class Board -/
structure BoardC (K : PySem.W.Frag) (C : Addr) : Prop where
  cl : Cls K C
  nR : NoAttr K C "rows"
  nH : NoAttr K C "height"
  nW : NoAttr K C "width"
theorem le_line {n : Nat} (h : n ≤ 1000) : n ≤ sizeLine := Nat.le_of_lt (small1000 h)
theorem bl_eq {Q : VK} {H : Hp} {a b : Bool} (h : Q (.bl a) H) (e : a = b) : Q (.bl b) H := e ▸ h
theorem atI_of {α : Type} {xs : List α} {i : Int} {v : α} (h0 : 0 ≤ i) (h : xs[i.toNat]? = some v) : atI xs i = some v := by
  have e : i = ((i.toNat : Nat) : Int) := by omega
  rw [e]
  exact atI_nat h
/-- the sign of a cell on the board -/
theorem cell_in {rows : List Str} {h w : Nat} (R : Rect (rws rows) h w) {r c : Int} (b : inB h w (r, c)) :
    ∃ (row : Str) (ch : Nat), rows[r.toNat]? = some row ∧ row.cps.toList[c.toNat]? = some ch ∧ at2 (rws rows) (r, c) = some ch ∧ row.length = w := by
  obtain ⟨ch, e, _⟩ := R.at b
  have e0 := e
  unfold at2 at e
  rw [if_pos ⟨b.1, b.2.2.1⟩] at e
  simp only [List.getElem?_map] at e
  cases e1 : rows[r.toNat]? with
  | none => rw [e1] at e; cases e
  | some row =>
    rw [e1] at e
    refine ⟨row, ch, rfl, e, e0, ?_⟩
    have := R.wid row.cps.toList (List.mem_map.mpr ⟨row, List.mem_of_getElem? e1, rfl⟩)
    simpa [Str.length] using this
theorem str1_iff {a b : Nat} : (V.str ⟨#[a]⟩ = V.str ⟨#[b]⟩) ↔ a = b := by
  constructor
  · intro h
    injection h with h
    injection h with h
    simpa using h
  · intro h; rw [h]
/-- a list of places, as data -/
theorem rds_place {K : PySem.W.Frag} {H : Hp} {a : Addr} {p : Pl} (h : TupAt H a p) : Rds K H (.ref a) (pairD p) := .tup (SqT.of h) (.cons (.int _) (.cons (.int _) .nil))
theorem rds_paired {K : PySem.W.Frag} {H : Hp} : ∀ {as : List Addr} {ps : List Pl}, Paired (TupAt H) as ps → RdsAll K H (as.map V.ref) (ps.map pairD)
  | _, _, .nil => .nil
  | _, _, .cons r t => .cons (rds_place r) (rds_paired t)
theorem ListPl.rds {K : PySem.W.Frag} {H : Hp} {l : Addr} {ps : List Pl} (h : ListPl H l ps) : Rds K H (.ref l) (.list (ps.map pairD)) := by
  obtain ⟨as, h1, h2⟩ := h
  exact .lst (SqL.of h1) (rds_paired h2)
theorem ListPl.same {H H' : Hp} {l : Addr} {ps : List Pl} (h : ListPl H l ps) (s : Same H H') : ListPl H' l ps := by
  obtain ⟨as, h1, h2⟩ := h
  exact ⟨as, s _ _ h1, paired_same s h2⟩
/-- EXCHANGED -/
def xkv : List (Key × V) := [(.inr "n", .str "w"), (.inr "w", .str "n"), (.inr ".", .str ".")]
theorem xkv_at {c : Nat} (h : c = 110 ∨ c = 119 ∨ c = 46) : valV xkv (.inr ⟨#[c]⟩) = some (.str ⟨#[oth c]⟩) := by
  rcases h with rfl | rfl | rfl <;> decide +kernel
theorem xkv_mk {P : Program} {w : World} {K : PySem.W.Frag} {d : Addr} {t1 u1 t2 u2 t3 u3 : Tok} {n : Nat}
    (hl : K.lookup d = some ⟨.type "dict", none, .dict #[⟨PyData.keyHash w.params "n", .str "n" t1, .str "w" u1⟩, ⟨PyData.keyHash w.params "w", .str "w" t2, .str "n" u2⟩, ⟨PyData.keyHash w.params ".", .str "." t3, .str "." u3⟩] n, #[]⟩)
    (hd : (d == sysModules) = false) : KDic P w K d xkv := by
  refine ⟨hd, fun h kin => ⟨[(.inr "n", .str "w" u1), (.inr "w", .str "n" u2), (.inr ".", .str "." u3)], .cons ⟨rfl, _, rfl⟩ (.cons ⟨rfl, _, rfl⟩ (.cons ⟨rfl, _, rfl⟩ .nil)), _, _, _, kin d _ hl, ⟨rfl, rfl, rfl⟩, rfl, ?_, ?_, ?_⟩⟩
  · intro e he
    have he : e ∈ [(⟨PyData.keyHash w.params "n", .str "n" t1, .str "w" u1⟩ : DictEntry), ⟨PyData.keyHash w.params "w", .str "w" t2, .str "n" u2⟩, ⟨PyData.keyHash w.params ".", .str "." t3, .str "." u3⟩] := by simpa using he
    rcases List.mem_cons.mp he with rfl | he
    · exact ⟨.inr "n", mixKind_str P w _ _, rfl⟩
    · rcases List.mem_cons.mp he with rfl | he
      · exact ⟨.inr "w", mixKind_str P w _ _, rfl⟩
      · rcases List.mem_cons.mp he with rfl | he
        · exact ⟨.inr ".", mixKind_str P w _ _, rfl⟩
        · cases he
  · exact .cons (mixKind_str P w _ _) rfl (.cons (mixKind_str P w _ _) rfl (.cons (mixKind_str P w _ _) rfl .nil))
  · show ([.inr "n", .inr "w", .inr "."] : List Key).Nodup
    decide +kernel
end Sw

set_option linter.all false
set_option maxRecDepth 100000
set_option maxHeartbeats 400000
namespace Sw
open PySem L2 Sh
/-! ### a dict of places: what each was reached from -/
end Sw

set_option linter.all false
set_option maxRecDepth 100000
set_option maxHeartbeats 400000
namespace Sw
open PySem L2 Sh
section
variable {H0 H : Hp} {l d : Addr} {ps : List Pl} {kvs : List (List Key × V)} {tr : List (Pl × Option Pl)}
end
end Sw

set_option linter.all false
set_option maxRecDepth 100000
set_option maxHeartbeats 400000
namespace Sw
open PySem L2 Sh
/-! ### rows as lists of signs -/
theorem rect_set {rr : Rws} {h w : Nat} (R : Rect rr h w) {r c hd : Nat} {cs : List Nat} (hr : rr[r]? = some cs) (hh : hd = 110 ∨ hd = 119 ∨ hd = 46) : Rect (rr.set r (cs.set c hd)) h w := by
  have hm := List.mem_of_getElem? hr
  refine ⟨by rw [List.length_set]; exact R.len, fun x hx => ?_, R.h1, R.h9, R.w1, R.w9, fun x hx y hy => ?_⟩
  · rcases List.mem_or_eq_of_mem_set hx with z | z
    · exact R.wid x z
    · rw [z, List.length_set]; exact R.wid cs hm
  · rcases List.mem_or_eq_of_mem_set hx with z | z
    · exact R.sg x z y hy
    · rw [z] at hy
      rcases List.mem_or_eq_of_mem_set hy with u | u
      · exact R.sg cs hm y u
      · rw [u]; exact hh
/-- a board's rows: their sizes, their signs; full: none is empty -/
structure RowsOk (rows : List Str) (h w : Nat) (full : Bool) : Prop where
  rect : Rect (rws rows) h w
  full : full = true → ∀ r ∈ rws rows, ∀ c ∈ r, c ≠ 46
end Sw

set_option linter.all false
set_option maxRecDepth 100000
set_option maxHeartbeats 400000
namespace Sw
open PySem L2 Sh
/-! ### a flood: the cells seen (a dict's keys), the cells left (a list) -/
section
variable {H0 H : Hp} {l d : Addr} {ps ls : List Pl} {kvs : List (List Key × V)}
end
/-- the six steps, in the order of nbs -/
def dirs : List Pl := [(-1, 0), (-1, 1), (0, 1), (1, 0), (1, -1), (0, -1)]
theorem nbs_dirs (p : Pl) : nbs p = dirs.map fun d => (p.1 + d.1, p.2 + d.2) := by
  obtain ⟨a, b⟩ := p
  simp [nbs, dirs, Int.sub_eq_add_neg]
end Sw
namespace Sw
open PySem L2 Sh
theorem strOk_row {x : Str} (h : ∀ c ∈ x.cps.toList, c = 110 ∨ c = 119 ∨ c = 46) (hl : x.length ≤ 9) : PySem.PyData.strOk x = true := by
  unfold PySem.PyData.strOk
  rw [Array.all_eq_true']
  intro c hc
  have := h c (by simpa using hc)
  exact decide_eq_true (by omega)
theorem shaped_rows {rows : List Str} {h w : Nat} (R : Rect (rws rows) h w) : SeqAt.shaped (.list (rows.map PyData.str)) = true := by
  refine shaped_strs fun x hx => strOk_row (fun c hc => R.sg x.cps.toList (List.mem_map.mpr ⟨x, hx, rfl⟩) c hc) ?_
  have := R.wid x.cps.toList (List.mem_map.mpr ⟨x, hx, rfl⟩)
  have w9 := R.w9
  have : x.length = w := by simpa [Str.length] using this
  omega
theorem eqv_rows (xs ys : List Str) : PyData.eqv (.list (xs.map PyData.str)) (.list (ys.map PyData.str)) = decide (xs = ys) := by
  rw [← eqv_strs xs ys]
  simp only [PyData.eqv]
end Sw

set_option linter.all false
set_option maxRecDepth 100000
set_option maxHeartbeats 400000
namespace Sw
open PySem L2 Sh
/-! ### a stone laid; a board turned over; boards that agree -/
def layd (rr : Rws) (r c hd : Nat) : Rws := rr.set r ((rr.getD r []).set c hd)
theorem layd_rect {rr : Rws} {h w : Nat} (R : Rect rr h w) {r c hd : Nat} (hr : r < h) (hh : hd = 110 ∨ hd = 119 ∨ hd = 46) : Rect (layd rr r c hd) h w := by
  have hl : r < rr.length := by rw [R.len]; exact hr
  have e : rr[r]? = some (rr.getD r []) := by rw [List.getD_eq_getElem?_getD, List.getElem?_eq_getElem hl]; rfl
  exact rect_set R e hh
theorem at2_nat {rr : Rws} (r c : Nat) : at2 rr ((r : Int), (c : Int)) = (rr[r]?).bind fun x => x[c]? := by
  unfold at2
  rw [if_pos ⟨by omega, by omega⟩]
  simp
theorem at2_layd {rr : Rws} {h w : Nat} (R : Rect rr h w) {r c hd : Nat} (hr : r < h) (hc : c < w) (q : Pl) : at2 (layd rr r c hd) q = if q = ((r : Int), (c : Int)) then some hd else at2 rr q := by
  have hl : r < rr.length := by rw [R.len]; exact hr
  have e : rr[r]? = some rr[r] := List.getElem?_eq_getElem hl
  have eg : rr.getD r [] = rr[r] := by rw [List.getD_eq_getElem?_getD, e]; rfl
  have wl : rr[r].length = w := R.wid _ (List.getElem_mem hl)
  by_cases b : 0 ≤ q.1 ∧ 0 ≤ q.2
  · obtain ⟨a, ha⟩ := Int.eq_ofNat_of_zero_le b.1
    obtain ⟨d, hd'⟩ := Int.eq_ofNat_of_zero_le b.2
    have eq : q = ((a : Int), (d : Int)) := Prod.ext ha hd'
    subst eq
    rw [at2_nat, at2_nat]
    unfold layd
    by_cases ea : a = r
    · subst ea
      rw [List.getElem?_set_self hl, eg, e]
      show ((rr[a].set c hd)[d]?) = _
      by_cases ed : d = c
      · subst ed
        rw [List.getElem?_set_self (by rw [wl]; exact hc), if_pos rfl]
      · rw [List.getElem?_set_ne (fun z => ed z.symm), if_neg (fun z => ed (by injection z with _ z; omega))]
        rfl
    · rw [List.getElem?_set_ne (fun z => ea z.symm), if_neg (fun z => ea (by injection z with z _; omega))]
  · have n : ¬ q = ((r : Int), (c : Int)) := fun z => b (by rw [z]; exact ⟨by simp only; omega, by simp only; omega⟩)
    rw [if_neg n]
    unfold at2
    rw [if_neg b, if_neg b]
theorem Rect.sg2 {rr : Rws} {h w : Nat} (R : Rect rr h w) {p : Pl} {ch : Nat} (e : at2 rr p = some ch) : ch = 110 ∨ ch = 119 ∨ ch = 46 := by
  obtain ⟨c, e1, e2⟩ := R.at (R.inB e)
  rw [e] at e1
  rw [Option.some.inj e1]
  exact e2
theorem line_codes {x : Str} {c hd : Nat} (hc : c < x.cps.toList.length) : ((⟨(x.cps.toList.take c).toArray⟩ : Str) ++ (⟨#[hd]⟩ : Str) ++ (⟨(x.cps.toList.drop (c + 1)).toArray⟩ : Str)).cps.toList = x.cps.toList.set c hd := by
  show (((x.cps.toList.take c).toArray ++ #[hd]) ++ (x.cps.toList.drop (c + 1)).toArray).toList = _
  rw [List.set_eq_take_append_cons_drop, if_pos hc]
  simp
theorem map_set_codes (rows : List Str) (r : Nat) (x : Str) : rws (rows.set r x) = (rws rows).set r x.cps.toList := by
  unfold rws
  rw [List.map_set]
end Sw

set_option linter.all false
set_option maxRecDepth 100000
set_option maxHeartbeats 400000
namespace Sw
open PySem L2 Sh
/-! ### the empty cells, in order; who can win -/
def rowc (w : Nat) (r : Nat) : List Pl := (List.range w).map fun (c : Nat) => ((r : Int), (c : Int))
def cells (h w : Nat) : List Pl := (List.range h).flatMap (rowc w)
def isE (rr : Rws) (p : Pl) : Bool := decide (at2 rr p = some 46)
def emp (h w : Nat) (rr : Rws) : List Pl := (cells h w).filter (isE rr)
theorem mem_cells {h w : Nat} {p : Pl} : p ∈ cells h w ↔ inB h w p := by
  unfold cells rowc inB
  rw [List.mem_flatMap]
  constructor
  · rintro ⟨r, hr, hp⟩
    obtain ⟨c, hc, rfl⟩ := List.mem_map.mp hp
    have := List.mem_range.mp hr
    have := List.mem_range.mp hc
    exact ⟨by simp only; omega, by simp only; omega, by simp only; omega, by simp only; omega⟩
  · rintro ⟨b1, b2, b3, b4⟩
    refine ⟨p.1.toNat, List.mem_range.mpr (by omega), List.mem_map.mpr ⟨p.2.toNat, List.mem_range.mpr (by omega), ?_⟩⟩
    exact Prod.ext (Int.toNat_of_nonneg b1) (Int.toNat_of_nonneg b3)
theorem mem_emp {h w : Nat} {rr : Rws} (R : Rect rr h w) {p : Pl} : p ∈ emp h w rr ↔ at2 rr p = some 46 := by
  unfold emp isE
  rw [List.mem_filter, mem_cells, decide_eq_true_iff]
  exact ⟨fun z => z.2, fun z => ⟨R.inB z, z⟩⟩
end Sw

set_option linter.all false
set_option maxRecDepth 100000
set_option maxHeartbeats 400000
namespace Sw
open PySem L2 Sh
theorem paired_app {α β : Type} {F : α → β → Prop} {as bs : List α} {xs ys : List β} (h1 : Paired F as xs) (h2 : Paired F bs ys) : Paired F (as ++ bs) (xs ++ ys) := by
  induction h1 with
  | nil => exact h2
  | cons r _ ih => exact .cons r ih
section
variable {H0 H : Hp} {l d : Addr} {ps : List Pl} {ws : List (List Pl)} {kvs : List (List Key × V)}
end
end Sw

set_option linter.all false
set_option maxRecDepth 100000
set_option maxHeartbeats 400000
namespace Sw
open PySem L2 Sh
/-! ### games: a record of stones, and the boards behind each count of them -/
section
variable {G C : Addr} {H H' : Hp} {g lc lp : Addr} {h w : Nat} {ps : List Pl}
end
end Sw

set_option linter.all false
set_option maxRecDepth 100000
set_option maxHeartbeats 400000
namespace Sw
open PySem L2 Sh
/-! ### the walk -/
theorem nb_idx {c p : Pl} (nb : Nb c p) : ∃ j, j < 6 ∧ (nbs c)[j]? = some p ∧ (∀ m q, m < j → (nbs c)[m]? = some q → q ≠ p) ∧ (nbs c)[(j + 1) % 6]? = some (ahd (p, c)) := by
  obtain ⟨c1, c2⟩ := c
  obtain ⟨p1, p2⟩ := p
  unfold Nb at nb
  simp only at nb
  have pair : ∀ {a b a' b' : Int}, a = a' → b = b' → (a, b) = (a', b') := fun e1 e2 => by rw [e1, e2]
  have ne : ∀ {a b a' b' : Int}, (a ≠ a' ∨ b ≠ b') → (a, b) ≠ (a', b') := fun h e => by
    injection e with e1 e2
    rcases h with h | h
    · exact h e1
    · exact h e2
  rcases nb with ⟨e1, e2⟩ | ⟨e1, e2⟩ | ⟨e1, e2⟩ | ⟨e1, e2⟩ | ⟨e1, e2⟩ | ⟨e1, e2⟩ <;> rw [e1, e2]
  · exact ⟨0, by decide, rfl, fun m q h => absurd h (Nat.not_lt_zero _), congrArg some (pair (by show c1 - 1 = c1 - 1 + c2 - c2; omega) (by show c2 + 1 = c2 - (c1 - 1) + c1; omega))⟩
  · refine ⟨1, by decide, rfl, fun m q h e => ?_, congrArg some (pair (by show c1 = c1 - 1 + (c2 + 1) - c2; omega) (by show c2 + 1 = c2 - (c1 - 1) + c1; omega))⟩
    match m, h, e with
    | 0, _, e => cases e; exact ne (by omega)
  · refine ⟨2, by decide, rfl, fun m q h e => ?_, congrArg some (pair (by show c1 + 1 = c1 + (c2 + 1) - c2; omega) (by show c2 = c2 - c1 + c1; omega))⟩
    match m, h, e with
    | 0, _, e => cases e; exact ne (by omega)
    | 1, _, e => cases e; exact ne (by omega)
  · refine ⟨3, by decide, rfl, fun m q h e => ?_, congrArg some (pair (by show c1 + 1 = c1 + 1 + c2 - c2; omega) (by show c2 - 1 = c2 - (c1 + 1) + c1; omega))⟩
    match m, h, e with
    | 0, _, e => cases e; exact ne (by omega)
    | 1, _, e => cases e; exact ne (by omega)
    | 2, _, e => cases e; exact ne (by omega)
  · refine ⟨4, by decide, rfl, fun m q h e => ?_, congrArg some (pair (by show c1 = c1 + 1 + (c2 - 1) - c2; omega) (by show c2 - 1 = c2 - (c1 + 1) + c1; omega))⟩
    match m, h, e with
    | 0, _, e => cases e; exact ne (by omega)
    | 1, _, e => cases e; exact ne (by omega)
    | 2, _, e => cases e; exact ne (by omega)
    | 3, _, e => cases e; exact ne (by omega)
  · refine ⟨5, by decide, rfl, fun m q h e => ?_, congrArg some (pair (by show c1 - 1 = c1 + (c2 - 1) - c2; omega) (by show c2 = c2 - c1 + c1; omega))⟩
    match m, h, e with
    | 0, _, e => cases e; exact ne (by omega)
    | 1, _, e => cases e; exact ne (by omega)
    | 2, _, e => cases e; exact ne (by omega)
    | 3, _, e => cases e; exact ne (by omega)
    | 4, _, e => cases e; exact ne (by omega)
/-- a code below 7 (H + 2) (W + 2) for each pair -/
def cod7 (W : Int) (x : Pr) : Int := ((x.1.1 + 1) * (W + 2) + (x.1.2 + 1)) * 7 + (3 * (x.2.1 - x.1.1) + (x.2.2 - x.1.2) + 3)
theorem dir7 {p q : Pl} (nb : Nb q p) : 0 ≤ 3 * (q.1 - p.1) + (q.2 - p.2) + 3 ∧ 3 * (q.1 - p.1) + (q.2 - p.2) + 3 < 7 := by
  unfold Nb at nb
  rcases nb with ⟨e1, e2⟩ | ⟨e1, e2⟩ | ⟨e1, e2⟩ | ⟨e1, e2⟩ | ⟨e1, e2⟩ | ⟨e1, e2⟩ <;> rw [e1, e2] <;> exact ⟨by omega, by omega⟩
section
variable {H W : Int} {f : Pl → Bool}
theorem cod7_lt (hH : 1 ≤ H) (hW : 1 ≤ W) {x : Pr} (v : Vld (shK H W f) x) : 0 ≤ cod7 W x ∧ cod7 W x < 7 * (H + 2) * (W + 2) := by
  obtain ⟨a1, a2, a3, a4⟩ := shK_some hH hW v.n
  obtain ⟨d1, d2⟩ := dir7 v.nb
  unfold cod7
  have m1 : 0 ≤ (x.1.1 + 1) * (W + 2) := Int.mul_nonneg (by omega) (by omega)
  have m2 : (x.1.1 + 1) * (W + 2) ≤ (H + 1) * (W + 2) := Int.mul_le_mul_of_nonneg_right (by omega) (by omega)
  have m3 : 7 * (H + 2) * (W + 2) = ((H + 1) * (W + 2) + (W + 2)) * 7 := by
    rw [Int.mul_assoc, show (H + 2) * (W + 2) = (H + 1) * (W + 2) + (W + 2) by rw [show H + 2 = (H + 1) + 1 by omega, Int.add_mul (H + 1) 1, Int.one_mul]]
    omega
  rw [m3]
  generalize (x.1.1 + 1) * (W + 2) = A at *
  generalize (H + 1) * (W + 2) = C at *
  exact ⟨by omega, by omega⟩
theorem cod7_inj (hH : 1 ≤ H) (hW : 1 ≤ W) {x y : Pr} (v : Vld (shK H W f) x) (u : Vld (shK H W f) y) (e : cod7 W x = cod7 W y) : x = y := by
  obtain ⟨a1, a2, a3, a4⟩ := shK_some hH hW v.n
  obtain ⟨b1, b2, b3, b4⟩ := shK_some hH hW u.n
  obtain ⟨d1, d2⟩ := dir7 v.nb
  obtain ⟨c1, c2⟩ := dir7 u.nb
  obtain ⟨r1, r2, r3, r4⟩ := nb_one v.nb
  obtain ⟨t1, t2, t3, t4⟩ := nb_one u.nb
  unfold cod7 at e
  obtain ⟨e1, e2⟩ := rdx (n := 7) d1 d2 c1 c2 e
  obtain ⟨e3, e4⟩ := rdx (n := W + 2) (by omega) (by omega) (by omega) (by omega) e1
  have g1 : x.1.1 = y.1.1 := by omega
  have g2 : x.1.2 = y.1.2 := by omega
  exact Prod.ext (Prod.ext g1 g2) (Prod.ext (by omega) (by omega))
theorem Wlk.few (hH : 1 ≤ H) (hW : 1 ≤ W) {l : List Pr} (h : Wlk (shK H W f) l) : (l.length : Int) ≤ 7 * (H + 2) * (W + 2) := by
  have nd := h.nodup hH hW
  have v := h.vld hH hW
  have m0 : 0 ≤ 7 * (H + 2) * (W + 2) := Int.mul_nonneg (by omega) (by omega)
  have e : (l.map fun x => (cod7 W x).toNat).length ≤ (7 * (H + 2) * (W + 2)).toNat := nodup_lt _ _ (by
    refine List.Pairwise.map _ (R := fun a b => a ≠ b ∧ a ∈ l ∧ b ∈ l) ?_ ?_
    · intro a b hab q
      have z1 := (cod7_lt hH hW (v a hab.2.1)).1
      have z2 := (cod7_lt hH hW (v b hab.2.2)).1
      exact hab.1 (cod7_inj hH hW (v a hab.2.1) (v b hab.2.2) (by omega))
    · exact List.Pairwise.imp_of_mem (fun ha hb hne => ⟨hne, ha, hb⟩) nd) (fun x hx => by
      obtain ⟨y, hy, rfl⟩ := List.mem_map.mp hx
      have z := cod7_lt hH hW (v y hy)
      omega)
  rw [List.length_map] at e
  omega
end
/-- two walks: the shorter one is the beginning of the longer one -/
theorem wlk_pre {K : Pl → Option Bool} {l1 : List Pr} (h1 : Wlk K l1) : ∀ {l2 : List Pr}, Wlk K l2 → l1.length ≤ l2.length → ∃ pre, l2 = pre ++ l1 := by
  induction h1 with
  | one =>
    intro l2 h2 _
    have : ∀ {l : List Pr}, Wlk K l → ∃ pre, l = pre ++ [st0] := fun h => by
      induction h with
      | one => exact ⟨[], rfl⟩
      | @more x y l _ _ ih =>
        obtain ⟨pre, e⟩ := ih
        exact ⟨y :: pre, by rw [e]; rfl⟩
    exact this h2
  | @more x y l h0 hs ih =>
    intro l2 h2 le
    have le' : (x :: l).length ≤ l2.length := Nat.le_trans (Nat.le_succ _) le
    obtain ⟨pre, e⟩ := ih h2 le'
    have nx : ∀ {l : List Pr}, Wlk K l → ∀ {pre : List Pr} {z x : Pr} {r : List Pr}, l = pre ++ z :: x :: r → stp K x = some z := fun h => by
      induction h with
      | one =>
        intro pre z x r e
        have := congrArg List.length e
        simp at this
        omega
      | @more x' y' l' _ hs' ih' =>
        intro pre z x r e
        cases pre with
        | nil =>
          injection e with e1 e2
          injection e2 with e2 e3
          rw [← e1, ← e2]
          exact hs'
        | cons a t =>
          injection e with e1 e2
          exact ih' e2
    have hne : pre ≠ [] := fun z => by
      rw [z, List.nil_append] at e
      rw [e] at le
      simp at le
      omega
    refine ⟨pre.dropLast, ?_⟩
    have es := (List.dropLast_concat_getLast hne).symm
    rw [es, List.append_assoc] at e
    have z := nx h2 (show l2 = pre.dropLast ++ pre.getLast hne :: x :: l from e)
    rw [hs] at z
    have z := Option.some.inj z
    rw [e, z]
    rfl
theorem wlk_eq {K : Pl → Option Bool} {x1 x2 : Pr} {l1 l2 : List Pr} (h1 : Wlk K (x1 :: l1)) (h2 : Wlk K (x2 :: l2)) (e1 : stp K x1 = none) (e2 : stp K x2 = none) : x1 :: l1 = x2 :: l2 := by
  have hd : ∀ {l : List Pr}, Wlk K l → ∀ {pre : List Pr} {x : Pr} {r : List Pr}, l = pre ++ x :: r → stp K x = none → pre = [] := fun h => by
    induction h with
    | one =>
      intro pre x r e _
      cases pre with
      | nil => rfl
      | cons a t =>
        have := congrArg List.length e
        simp at this
    | @more x' y' l' _ hs' ih' =>
      intro pre x r e en
      cases pre with
      | nil => rfl
      | cons a t =>
        injection e with _ e2
        have := ih' e2 en
        subst this
        injection e2 with e3 _
        rw [← e3, hs'] at en
        cases en
  rcases Nat.le_total (x1 :: l1).length (x2 :: l2).length with le | le
  · obtain ⟨pre, e⟩ := wlk_pre h1 h2 le
    rw [hd h2 e e1] at e
    exact e.symm
  · obtain ⟨pre, e⟩ := wlk_pre h2 h1 le
    rw [hd h1 e e2] at e
    exact e
/-- whose place it is, read off the rows -/
def fN (rr : Rws) (p : Pl) : Bool := decide (at2 rr p = some 110)
abbrev shR (rr : Rws) (h w : Nat) : Pl → Option Bool := shK (h : Int) (w : Int) (fN rr)
/-- a pair of places in the heap -/
def PairAt (H : Hp) (t : Addr) (x : Pr) : Prop := ∃ a b, H t = some (.tup [.ref a, .ref b]) ∧ TupAt H a x.1 ∧ TupAt H b x.2
theorem PairAt.same {H H' : Hp} {t : Addr} {x : Pr} (p : PairAt H t x) (s : Same H H') : PairAt H' t x := by
  obtain ⟨a, b, e, e1, e2⟩ := p
  exact ⟨a, b, s _ _ e, s _ _ e1, s _ _ e2⟩
def ListPr (H : Hp) (l : Addr) (xs : List Pr) : Prop := ∃ as : List Addr, H l = some (.lst (as.map V.ref)) ∧ Paired (PairAt H) as xs
theorem ListPr.same {H H' : Hp} {l : Addr} {xs : List Pr} (L : ListPr H l xs) (s : Same H H') : ListPr H' l xs := by
  obtain ⟨as, e, p⟩ := L
  exact ⟨as, s _ _ e, Paired.mapP p fun _ _ z => z.same s⟩
/-- tuples stay where a list alone changes -/
theorem PairAt.keep {H H' : Hp} {l t : Addr} {xs : List V} {x : Pr} (p : PairAt H t x) (hl : H l = some (.lst xs)) (k : ∀ b o, H b = some o → b ≠ l → H' b = some o) : PairAt H' t x := by
  obtain ⟨a, b, e, e1, e2⟩ := p
  have e1' : H a = some _ := e1
  have e2' : H b = some _ := e2
  exact ⟨a, b, k _ _ e (ne_of e hl fun z => nomatch z), k _ _ e1' (ne_of e1' hl fun z => nomatch z), k _ _ e2' (ne_of e2' hl fun z => nomatch z)⟩
/-- the data of pairs -/
def pairD2 (x : Pr) : PyData := .tuple [pairD x.1, pairD x.2]
theorem PairAt.rds {K : PySem.W.Frag} {H : Hp} {t : Addr} {x : Pr} (p : PairAt H t x) : Rds K H (.ref t) (pairD2 x) := by
  obtain ⟨a, b, e, e1, e2⟩ := p
  exact .tup (SqT.of e) (.cons (rds_place e1) (.cons (rds_place e2) .nil))
theorem rds_pairs2 {K : PySem.W.Frag} {H : Hp} : ∀ {as : List Addr} {xs : List Pr}, Paired (PairAt H) as xs → RdsAll K H (as.map V.ref) (xs.map pairD2)
  | _, _, .nil => .nil
  | _, _, .cons r t => .cons r.rds (rds_pairs2 t)
theorem ListPr.rds {K : PySem.W.Frag} {H : Hp} {l : Addr} {xs : List Pr} (L : ListPr H l xs) : Rds K H (.ref l) (.list (xs.map pairD2)) := by
  obtain ⟨as, e, p⟩ := L
  exact .lst (SqL.of e) (rds_pairs2 p)
theorem eqv_pair2 (x : Pr) : PyData.eqv (pairD2 x) (pairD2 x) = true := by
  have e1 := eqv_pair x.1 x.1
  have e2 := eqv_pair x.2 x.2
  rw [decide_eq_true rfl] at e1 e2
  simp [pairD2, pairD, PyData.eqv, PyData.eqvAll]
theorem eqv_pairs2 : ∀ xs : List Pr, PyData.eqvAll (xs.map pairD2) (xs.map pairD2) = true
  | [] => by simp [PyData.eqvAll]
  | x :: r => by
    simp only [List.map_cons, PyData.eqvAll, eqv_pair2, eqv_pairs2 r]
    rfl
theorem lay_pairs2 : ∀ xs : List Pr, PyData.canLayAll0 (xs.map pairD2) = true ∧ PyData.depthAll (xs.map pairD2) ≤ 2
  | [] => by simp [PyData.canLayAll0, PyData.depthAll]
  | x :: r => by
    obtain ⟨a, b⟩ := lay_pairs2 r
    have h1 : PyData.canLay0 (pairD2 x) = true := by simp [pairD2, pairD, PyData.canLay0, PyData.canLayAll0]
    have h2 : PyData.depth (pairD2 x) ≤ 2 := by simp [pairD2, pairD, PyData.depth, PyData.depthAll]
    refine ⟨by simp only [List.map_cons, PyData.canLayAll0, h1, a]; rfl, ?_⟩
    simp only [List.map_cons, PyData.depthAll]
    exact Nat.max_le.mpr ⟨h2, b⟩
theorem shaped_pairs2 (xs : List Pr) : SeqAt.shaped (.list (xs.map pairD2)) = true := by
  obtain ⟨h1, h2⟩ := lay_pairs2 xs
  unfold SeqAt.shaped
  rw [Bool.and_eq_true]
  refine ⟨h1, decide_eq_true ?_⟩
  show PyData.depthAll (xs.map pairD2) + 1 ≤ 64
  omega
end Sw

set_option linter.all false
set_option maxRecDepth 100000
set_option maxHeartbeats 400000
namespace Sw
open PySem L2 Sh
def top (i : Nat) : Stmt := PySem.Challenge.pw_shoreways_k08_walks.main.body.getD i (.Pass ⟨0, 0, 0, 0⟩)
abbrev s_check_row : Stmt := top 10
abbrev s_check_rows : Stmt := top 11
abbrev s_Board_init : Stmt := inClass (top 12) 0
abbrev s_near : Stmt := top 13
abbrev s_has_cell : Stmt := top 14
abbrev s_empty : Stmt := top 15
abbrev s_check_full : Stmt := top 16
abbrev s_on_north_shore : Stmt := top 18
abbrev s_on_west_shore : Stmt := top 19
abbrev s_hand_at : Stmt := top 20
abbrev s_place_ahead : Stmt := top 21
abbrev s_next_pair : Stmt := top 22
abbrev s_walk : Stmt := top 23
abbrev s_l_cell_at : Stmt := top 25
abbrev s_l_mix : Stmt := top 26
abbrev s_l_whole : Stmt := top 27
abbrev s_l_rows_by : Stmt := top 28
abbrev s_l_size_by : Stmt := top 29
abbrev s_l_long_way : Stmt := top 30
abbrev s_l_places : Stmt := top 31
abbrev s_l_owner : Stmt := top 32
abbrev s_l_due : Stmt := top 33
abbrev s_l_met : Stmt := top 34
abbrev s_law : Stmt := top 35
end Sw

set_option linter.all false
set_option maxRecDepth 100000
set_option maxHeartbeats 400000
namespace Sw
open PySem L2 Sh
section
variable {P : Program} {w : World} {K : PySem.W.Frag} {mg : Str → Option Value} {base : Heap}
theorem sc_l_cell_at : FnScope ["script", "k"] ["script", "k"] (defScope s_l_cell_at) := ⟨rfl, rfl, rfl, by decide +kernel, rfl, by decide +kernel, by decide +kernel⟩
def sp_l_cell_at (K : PySem.W.Frag) : Sp := fun vs H Q _ => ∃ (a : Addr) (ns : List Int) (k : Int), vs = [.ref a, .int k] ∧ SqL K H a (ns.map V.int) ∧ 0 ≤ k ∧ Q (.int (ns.getD k.toNat 0)) H
theorem ok_l_cell_at (B : Bt mg) (F : Fn K mg "_law_cell_at" s_l_cell_at) : Def P w K mg base 1 "_law_cell_at" ["script", "k"] (sp_l_cell_at K) := by
  refine Def.by F sc_l_cell_at (fun _ _ _ _ _ _ us hl => match us, hl with | [_, _], _ => rfl) (fun vs H Q E h => ?_) (fun f cdv A outer s H vs Q E hr h => ?_)
  · obtain ⟨a, ns, k, rfl, _⟩ := h
    rfl
  obtain ⟨a, ns, k, rfl, hS, h0, q⟩ := h
  refine ⟨_, qss_cons (qs_if (qt_cmp op_lt (qv 1) (qe_callB call_len_seq B.len PySem.boot_len (qa_cons (qv 0) qa_nil))) (qss_one (qs_ret (qe_ix ix_list (qv 0) (qv 1)))) qss_nil) (qss_one (qs_ret qe_int)), ?_⟩
  refine ⟨_, rfl, _, rfl, a, _, rfl, .inl hS, _, _, rfl, rfl, _, rfl, ?_⟩
  refine ite2 (fun c => ?_) (fun c => ?_)
  · have c := of_decide_eq_true c
    rw [List.length_map] at c
    have hk : k.toNat < ns.length := by omega
    refine ⟨_, rfl, _, rfl, a, _, k, .int ns[k.toNat], rfl, rfl, hS, atI_of h0 (by rw [List.getElem?_map, List.getElem?_eq_getElem hk]; rfl), ?_⟩
    have e : ns.getD k.toNat 0 = ns[k.toNat] := by rw [List.getD_eq_getElem?_getD, List.getElem?_eq_getElem hk]; rfl
    rw [← e]
    exact q
  · have c := of_decide_eq_false (Bool.eq_false_iff.mpr c)
    rw [List.length_map] at c
    have e : ns.getD k.toNat 0 = 0 := by rw [List.getD_eq_getElem?_getD, List.getElem?_eq_none (by omega)]; rfl
    rw [e] at q
    exact q
end
end Sw

set_option linter.all false
set_option maxRecDepth 100000
set_option maxHeartbeats 400000
namespace Sw
open PySem L2 Sh
section
variable {P : Program} {w : World} {K : PySem.W.Frag} {mg : Str → Option Value} {base : Heap}
theorem sc_l_mix : FnScope ["cell", "k", "many", "some", "number"] ["cell", "k", "many"] (defScope s_l_mix) := ⟨rfl, rfl, rfl, by decide +kernel, rfl, by decide +kernel, by decide +kernel⟩
/-- a number below many -/
def sp_l_mix : Sp := fun vs H Q _ => ∃ (cell k many : Int), vs = [.int cell, .int k, .int many] ∧ 0 ≤ k ∧ k ≤ 1000000 ∧ 0 < many ∧ ∀ (z : Int) (H' : Hp), 0 ≤ z → z < many → Same H H' → Q (.int z) H'
def some13 : List Int := [48271, 69621, 16807, 39373, 30269, 40014, 40692, 50021, 61687, 71993, 83869, 95561, 30307]
theorem some13_small : ∀ v ∈ some13, 0 ≤ v ∧ v ≤ 100000 := by decide
theorem pick13 (k : Int) : ∃ v : Int, atI (some13.map V.int) (k % 13) = some (.int v) ∧ 0 ≤ v ∧ v ≤ 100000 := by
  have hk : (k % 13).toNat < some13.length := by
    show (k % 13).toNat < 13
    omega
  refine ⟨some13[(k % 13).toNat], ?_, some13_small _ (List.getElem_mem hk)⟩
  refine atI_of (by omega) ?_
  rw [List.getElem?_map, List.getElem?_eq_getElem hk]
  rfl
theorem ok_l_mix (F : Fn K mg "_law_mix" s_l_mix) : Def P w K mg base 1 "_law_mix" ["cell", "k", "many"] sp_l_mix := by
  refine Def.by F sc_l_mix (fun _ _ _ _ _ _ us hl => match us, hl with | [_, _, _], _ => rfl) (fun vs H Q E h => ?_) (fun f cdv A outer s H vs Q E hr h => ?_)
  · obtain ⟨cell, k, many, rfl, _⟩ := h
    rfl
  obtain ⟨cell, k, many, rfl, h0, h1, hm, q⟩ := h
  refine ⟨_, qss_cons (qs_set 3 sc_l_mix.nd (qe_lst (qa_cons qe_int (qa_cons qe_int (qa_cons qe_int (qa_cons qe_int (qa_cons qe_int (qa_cons qe_int (qa_cons qe_int (qa_cons qe_int (qa_cons qe_int (qa_cons qe_int (qa_cons qe_int (qa_cons qe_int (qa_cons qe_int qa_nil)))))))))))))))
    (qss_cons (qs_set 4 sc_l_mix.nd (qe_op op_mul (qe_op op_add (qe_op op_mod (qv 0) qe_int) qe_int) (qe_ix ix_list (qv 3) (qe_op op_mod (qv 1) qe_int))))
    (qss_cons (qs_set 4 sc_l_mix.nd (qe_op op_add (qe_op op_mul (qv 4) (qe_op op_add (qe_op op_mul qe_int (qe_op op_fdiv (qv 1) qe_int)) qe_int)) (qe_op op_mul qe_int (qv 1))))
    (qss_one (qs_ret (qe_op op_mod (qe_op op_fdiv (qe_op op_mod (qv 4) qe_int) qe_int) (qv 2)))))), ?_⟩
  refine ⟨(by show 13 ≤ sizeLine; decide), fun p hp => ?_⟩
  obtain ⟨v, hv, v0, v1⟩ := pick13 k
  refine ⟨_, rfl, _, _, rfl, rfl, (by show (0 : Int) < 2147483647; decide), _, _, rfl, rfl, _, rfl, _, rfl, _, _, rfl, rfl, (by show (0 : Int) < 13; decide), p, _, _, _, rfl, rfl, SqL.of upd_same, hv, _, _, rfl, rfl, .inr ⟨by omega, by omega⟩, ?_⟩
  refine ⟨_, rfl, _, rfl, _, _, rfl, rfl, ⟨by decide, by decide⟩, _, _, rfl, rfl, .inl ⟨by decide, by decide⟩, _, _, rfl, rfl, _, _, rfl, rfl, .inr ⟨by omega, by omega⟩, _, rfl, _, _, rfl, rfl, .inl ⟨by decide, by decide⟩, _, _, rfl, rfl, ?_⟩
  refine ⟨_, rfl, _, _, rfl, rfl, (by show (0 : Int) < 1000000007; decide), _, _, rfl, rfl, ⟨by decide, by decide⟩, _, rfl, _, _, rfl, rfl, hm, ?_⟩
  exact q _ _ (Int.emod_nonneg _ (by omega)) (Int.emod_lt_of_pos _ hm) (same_upd hp)
end
end Sw

set_option linter.all false
set_option maxRecDepth 100000
set_option maxHeartbeats 400000
namespace Sw
open PySem L2 Sh
section
variable {P : Program} {w : World} {K : PySem.W.Frag} {mg : Str → Option Value} {base : Heap}
theorem sc_l_whole : FnScope ["found"] ["found"] (defScope s_l_whole) := ⟨rfl, rfl, rfl, by decide +kernel, rfl, by decide +kernel, by decide +kernel⟩
def sp_l_whole : Sp := fun vs H Q _ => ∃ i : Int, vs = [.int i] ∧ Q (.bl true) H
theorem ok_l_whole (B : Bt mg) (Z : Kt K) (F : Fn K mg "_law_whole" s_l_whole) : Def P w K mg base 1 "_law_whole" ["found"] sp_l_whole := by
  refine Def.by F sc_l_whole (fun _ _ _ _ _ _ us hl => match us, hl with | [_], _ => rfl) (fun vs H Q E h => ?_) (fun f cdv A outer s H vs Q E hr h => ?_)
  · obtain ⟨i, rfl, _⟩ := h
    rfl
  obtain ⟨i, rfl, q⟩ := h
  refine ⟨_, qss_one (qs_ret (qe_and (qe_callB (call_isT (T := "int")) B.isinst PyProof.Rows.boot_isinstance (qa_cons (qv 0) (qa_cons (qe_bltn (v := .ty "int") B.int PyProof.Rows.boot_int rfl) qa_nil)))
    (qe_one (qe_not (qe_callB (call_isT (T := "bool")) B.isinst PyProof.Rows.boot_isinstance (qa_cons (qv 0) (qa_cons (qe_bltn (v := .ty "bool") B.bool PyProof.Rows.boot_bool rfl) qa_nil))))))), ?_⟩
  refine ⟨_, rfl, .int i, _, true, rfl, .int i, rfl, _, rfl, iteT ?_⟩
  exact ⟨_, rfl, .int i, _, false, rfl, .int i, Z.ib, _, rfl, q⟩
end
end Sw

set_option linter.all false
set_option maxRecDepth 100000
set_option maxHeartbeats 400000
namespace Sw
open PySem L2 Sh
section
variable {P : Program} {w : World} {K : PySem.W.Frag} {mg : Str → Option Value} {base : Heap}
theorem sc_l_size_by : FnScope ["script", "most"] ["script", "most"] (defScope s_l_size_by) := ⟨rfl, rfl, rfl, by decide +kernel, rfl, by decide +kernel, by decide +kernel⟩
def sp_l_size_by (K : PySem.W.Frag) : Sp := fun vs H Q _ => ∃ (a : Addr) (ns : List Int) (m : Int), vs = [.ref a, .int m] ∧ SqL K H a (ns.map V.int) ∧ 1 ≤ m ∧ ∀ (t : Addr) (h w : Nat) (H' : Hp), 1 ≤ h → (h : Int) ≤ m → 1 ≤ w → (w : Int) ≤ m → Same H H' → H' t = some (.tup [.int h, .int w]) → Q (.ref t) H'
theorem ok_l_size_by (D1 : Def P w K mg base 1 "_law_cell_at" ["script", "k"] (sp_l_cell_at K)) (F : Fn K mg "_law_size_by" s_l_size_by) : Def P w K mg base 2 "_law_size_by" ["script", "most"] (sp_l_size_by K) := by
  refine Def.by F sc_l_size_by (fun _ _ _ _ _ _ us hl => match us, hl with | [_, _], _ => rfl) (fun vs H Q E h => ?_) (fun f cdv A outer s H vs Q E hr h => ?_)
  · obtain ⟨a, ns, m, rfl, _⟩ := h
    rfl
  obtain ⟨a, ns, m, rfl, hS, hm, q⟩ := h
  refine ⟨_, qss_one (qs_ret (qe_tup (qa_cons (qe_op op_add qe_int (qe_op op_mod (qe_callD D1 hr (qa_cons (qv 0) (qa_cons qe_int qa_nil))) (qv 1))) (qa_cons (qe_op op_add qe_int (qe_op op_mod (qe_callD D1 hr (qa_cons (qv 0) (qa_cons qe_int qa_nil))) (qv 1))) qa_nil)))), ?_⟩
  refine ⟨_, rfl, a, ns, 0, rfl, hS, Int.le_refl _, _, rfl, _, _, rfl, rfl, hm, _, _, rfl, rfl, ?_⟩
  refine ⟨_, rfl, a, ns, 1, rfl, hS, by decide, _, rfl, _, _, rfl, rfl, hm, _, _, rfl, rfl, (by show 2 ≤ sizeLine; decide), fun t ht => ?_⟩
  have p0 := Int.emod_nonneg (ns.getD (0 : Int).toNat 0) (show m ≠ 0 by omega)
  have l0 := Int.emod_lt_of_pos (ns.getD (0 : Int).toNat 0) (show 0 < m by omega)
  have p1 := Int.emod_nonneg (ns.getD (1 : Int).toNat 0) (show m ≠ 0 by omega)
  have l1 := Int.emod_lt_of_pos (ns.getD (1 : Int).toNat 0) (show 0 < m by omega)
  refine q t (1 + ns.getD (0 : Int).toNat 0 % m).toNat (1 + ns.getD (1 : Int).toNat 0 % m).toNat _ (by omega) (by omega) (by omega) (by omega) (same_upd ht) ?_
  have e0 : (((1 + ns.getD (0 : Int).toNat 0 % m).toNat : Nat) : Int) = 1 + ns.getD (0 : Int).toNat 0 % m := by omega
  have e1 : (((1 + ns.getD (1 : Int).toNat 0 % m).toNat : Nat) : Int) = 1 + ns.getD (1 : Int).toNat 0 % m := by omega
  rw [upd_same, e0, e1]
end
end Sw

set_option linter.all false
set_option maxRecDepth 100000
set_option maxHeartbeats 400000
namespace Sw
open PySem L2 Sh
section
variable {P : Program} {w : World} {K : PySem.W.Frag} {mg : Str → Option Value} {base : Heap}
theorem sc_l_rows_by : FnScope ["script", "height", "width", "full", "rows", "r", "cell", "row", "c", "kind"] ["script", "height", "width", "full"] (defScope s_l_rows_by) := ⟨rfl, rfl, rfl, by decide +kernel, rfl, by decide +kernel, by decide +kernel⟩
theorem sign5 (k : Int) (h0 : 0 ≤ k) (h5 : k < 5) : ∃ c : Nat, atI ([.str "n", .str "w", .str "n", .str "w", .str "."] : List V) k = some (.str ⟨#[c]⟩) ∧ (c = 110 ∨ c = 119 ∨ c = 46) ∧ (k < 4 → c ≠ 46) := by
  have e : k = 0 ∨ k = 1 ∨ k = 2 ∨ k = 3 ∨ k = 4 := by omega
  rcases e with e | e | e | e | e <;> subst e
  · exact ⟨110, atI_nat (j := 0) (by rw [← n_eq]; rfl), .inl rfl, fun _ => by decide⟩
  · exact ⟨119, atI_nat (j := 1) (by rw [← w_eq]; rfl), .inr (.inl rfl), fun _ => by decide⟩
  · exact ⟨110, atI_nat (j := 2) (by rw [← n_eq]; rfl), .inl rfl, fun _ => by decide⟩
  · exact ⟨119, atI_nat (j := 3) (by rw [← w_eq]; rfl), .inr (.inl rfl), fun _ => by decide⟩
  · exact ⟨46, atI_nat (j := 4) (by rw [← d_eq]; rfl), .inr (.inr rfl), fun z => absurd z (by decide)⟩
theorem two54 (b : Bool) : atI ([.int 5, .int 4] : List V) (if b then 1 else 0) = some (.int (if b then 4 else 5)) := by
  cases b
  · exact atI_nat (j := 0) rfl
  · exact atI_nat (j := 1) rfl
def sp_l_rows_by (K : PySem.W.Frag) : Sp := fun vs H Q _ => ∃ (a : Addr) (ns : List Int) (h w : Nat) (full : Bool), vs = [.ref a, .int h, .int w, .bl full] ∧ SqL K H a (ns.map V.int) ∧ 1 ≤ h ∧ h ≤ 9 ∧ 1 ≤ w ∧ w ≤ 9 ∧
  ∀ (l : Addr) (rows : List Str) (H' : Hp), Same H H' → H l = none → H' l = some (.lst (rows.map V.str)) → RowsOk rows h w full → Q (.ref l) H'
/-- a row as it grows -/
structure RowUp (x : Str) (n : Nat) (full : Bool) : Prop where
  len : x.cps.toList.length = n
  sg : ∀ c ∈ x.cps.toList, c = 110 ∨ c = 119 ∨ c = 46
  full : full = true → ∀ c ∈ x.cps.toList, c ≠ 46
theorem RowUp.more {x : Str} {n : Nat} {full : Bool} (r : RowUp x n full) {c : Nat} (h1 : c = 110 ∨ c = 119 ∨ c = 46) (h2 : full = true → c ≠ 46) : RowUp (x ++ ⟨#[c]⟩) (n + 1) full := by
  have e : (x ++ (⟨#[c]⟩ : Str)).cps.toList = x.cps.toList ++ [c] := by
    show (x.cps ++ #[c]).toList = _
    simp
  refine ⟨by rw [e, List.length_append, r.len]; rfl, fun d hd => ?_, fun hf d hd => ?_⟩
  · rw [e] at hd
    rcases List.mem_append.mp hd with z | z
    · exact r.sg d z
    · rw [List.mem_singleton.mp z]; exact h1
  · rw [e] at hd
    rcases List.mem_append.mp hd with z | z
    · exact r.full hf d z
    · rw [List.mem_singleton.mp z]; exact h2 hf
theorem ok_l_rows_by (B : Bt mg) (D1 : Def P w K mg base 1 "_law_cell_at" ["script", "k"] (sp_l_cell_at K)) (D2 : Def P w K mg base 1 "_law_mix" ["cell", "k", "many"] sp_l_mix) (F : Fn K mg "_law_rows_by" s_l_rows_by) : Def P w K mg base 2 "_law_rows_by" ["script", "height", "width", "full"] (sp_l_rows_by K) := by
  refine Def.by F sc_l_rows_by (fun _ _ _ _ _ _ us hl => match us, hl with | [_, _, _, _], _ => rfl) (fun vs H Q E h => ?_) (fun f cdv A outer s H vs Q E hr h => ?_)
  · obtain ⟨a, ns, h, w, full, rfl, _⟩ := h
    rfl
  obtain ⟨a, ns, h, w, full, rfl, hS, h1, h9, w1, w9, q⟩ := h
  refine ⟨_, qss_cons (qs_set 4 sc_l_rows_by.nd (qe_lst qa_nil))
    (qss_cons (qs_for (qi_range1 B.range (qa_cons (qv 1) qa_nil)) (qg_name 5 sc_l_rows_by.nd)
      (qss_cons (qs_set 6 sc_l_rows_by.nd (qe_callD D1 hr (qa_cons (qv 0) (qa_cons (qe_op op_add qe_int (qv 5)) qa_nil))))
      (qss_cons (qs_set 7 sc_l_rows_by.nd qe_str)
      (qss_cons (qs_for (qi_range1 B.range (qa_cons (qv 2) qa_nil)) (qg_name 8 sc_l_rows_by.nd)
        (qss_cons (qs_set 9 sc_l_rows_by.nd (qe_callD D2 hr (qa_cons (qv 6) (qa_cons (qe_op op_add (qe_op op_mul qe_int (qv 5)) (qv 8)) (qa_cons (qe_ix ix_list0 (qe_lst (qa_cons qe_int (qa_cons qe_int qa_nil))) (qe_callTy call_int1 B.int PyProof.Rows.boot_int (qa_cons (qv 3) qa_nil))) qa_nil)))))
        (qss_one (qs_set 7 sc_l_rows_by.nd (qe_op op_add_str (qv 7) (qe_ix ix_list0 (qe_lst (qa_cons qe_str (qa_cons qe_str (qa_cons qe_str (qa_cons qe_str (qa_cons qe_str qa_nil)))))) (qv 9)))))))
      (qss_one (qs_expr (qe_app (qv 4) (qv 7))))))))
    (qss_one (qs_ret (qv 4)))), ?_⟩
  refine ⟨(by show 0 ≤ sizeLine; decide), fun l hl => ?_⟩
  refine ⟨_, rfl, (h : Int), rfl, by omega, by omega, ?_⟩
  refine for_goesO (n := h) (by rw [Int.toNat_natCast]; exact goes_range) (fun i σ H' => ∃ (rows : List Str) (v5 v6 v7 v8 v9 : Option V), σ = [some (.ref a), some (.int h), some (.int w), some (.bl full), some (.ref l), v5, v6, v7, v8, v9] ∧ Same H H' ∧ H' l = some (.lst (rows.map V.str)) ∧ rows.length = i ∧ ∀ x ∈ rows, RowUp x w full)
    ⟨[], none, none, none, none, none, rfl, same_upd hl, upd_same, rfl, fun _ z => nomatch z⟩ (fun _ _ _ _ _ => trivial) ?_ ?_
  · rintro Pw Rt Bk hw hrt i x σ H1 hi hy ⟨rows, v5, v6, v7, v8, v9, rfl, sm, hl1, hn, hr1⟩
    subst hy
    have hSl : SqL K H1 a (ns.map V.int) := sm.seq hS
    refine ⟨_, rfl, _, rfl, _, _, rfl, rfl, a, ns, _, rfl, hSl, by omega, ?_⟩
    refine ⟨_, rfl, (w : Int), rfl, by omega, by omega, ?_⟩
    refine for_goesO (n := w) (by rw [Int.toNat_natCast]; exact goes_range) (fun j σ H' => ∃ (x : Str) (v8 v9 : Option V) (ce : Int), σ = [some (.ref a), some (.int h), some (.int w), some (.bl full), some (.ref l), some (.int (0 + (i : Nat))), some (.int ce), some (.str x), v8, v9] ∧ Same H1 H' ∧ RowUp x j full)
      ⟨_, _, _, _, rfl, Same.refl _, ⟨rfl, (fun _ z => nomatch z), fun _ _ z => nomatch z⟩⟩ (fun _ _ _ _ _ => trivial) ?_ ?_
    · rintro Pw2 Rt2 Bk2 hw2 hrt2 j y σ H2 hj hy ⟨x, v8, v9, ce, rfl, sm2, ru⟩
      subst hy
      refine ⟨_, rfl, _, rfl, _, _, rfl, rfl, .inl ⟨by decide, by decide⟩, _, rfl, _, _, rfl, rfl, (by show 2 ≤ sizeLine; decide), fun p hp => ?_⟩
      refine ⟨_, rfl, .inr ⟨_, rfl, p, _, _, _, rfl, rfl, upd_same, two54 full, ce, _, _, rfl, by omega, by omega, (by cases full <;> decide), fun z H3 z0 z1 sm3 => ?_⟩⟩
      have z5 : z < 5 := by cases full <;> simp at z1 <;> omega
      obtain ⟨c, e1, e2, e3⟩ := sign5 z z0 z5
      refine ⟨_, rfl, (by show 5 ≤ sizeLine; decide), fun p2 hp2 => ?_⟩
      have xl := ru.len
      refine ⟨_, rfl, p2, _, z, _, rfl, rfl, upd_same, e1, _, _, rfl, rfl, ?_, ?_⟩
      · have : x.length = j := by rw [← xl]; simp [Str.length]
        show x.length + 1 ≤ sizeLine
        exact le_line (by omega)
      · refine hw2 _ _ _ ⟨_, _, _, _, rfl, (sm2.upd hp).trans (sm3.upd hp2), ru.more e2 fun hf => e3 ?_⟩
        rw [hf] at z1
        exact z1
    · rintro σ H2 ⟨x, v8, v9, ce, rfl, sm2, ru⟩
      have hl2 := sm2 _ _ hl1
      refine ⟨_, rfl, l, _, rfl, hl2, _, rfl, _, _, rfl, hl2, by rw [List.length_map]; exact small1000 (by omega), ?_⟩
      refine hw _ _ _ ⟨rows ++ [x], _, _, _, _, _, rfl, fun b o e => ?_, by rw [upd_same, List.map_append]; rfl, by rw [List.length_append, hn]; rfl, fun y hy => ?_⟩
      · rw [upd_ne (ne_of_none e hl)]
        exact sm2 _ _ (sm _ _ e)
      · rcases List.mem_append.mp hy with z | z
        · exact hr1 y z
        · rw [List.mem_singleton.mp z]; exact ru
  · rintro σ H1 ⟨rows, v5, v6, v7, v8, v9, rfl, sm, hl1, hn, hr1⟩
    refine ⟨_, rfl, q l rows H1 sm hl hl1 ⟨⟨by rw [List.length_map]; exact hn, fun r hr => ?_, h1, h9, w1, w9, fun r hr c hc => ?_⟩, fun hf r hr c hc => ?_⟩⟩
    · obtain ⟨x, hx, rfl⟩ := List.mem_map.mp hr
      exact (hr1 x hx).len
    · obtain ⟨x, hx, rfl⟩ := List.mem_map.mp hr
      exact (hr1 x hx).sg c hc
    · obtain ⟨x, hx, rfl⟩ := List.mem_map.mp hr
      exact (hr1 x hx).full hf c hc
end
end Sw

set_option linter.all false
set_option maxRecDepth 100000
set_option maxHeartbeats 400000
namespace Sw
open PySem L2 Sh
section
variable {P : Program} {w : World} {K : PySem.W.Frag} {mg : Str → Option Value} {base : Heap}
theorem sc_l_places : FnScope ["found", "many", "place"] ["found", "many"] (defScope s_l_places) := ⟨rfl, rfl, rfl, by decide +kernel, rfl, by decide +kernel, by decide +kernel⟩
def sp_l_places : Sp := fun vs H Q _ => ∃ (l : Addr) (ps : List Pl), vs = [.ref l, .int ps.length] ∧ ListPl H l ps ∧ Q (.bl true) H
theorem ok_l_places (B : Bt mg) (D1 : Def P w K mg base 1 "_law_whole" ["found"] sp_l_whole) (F : Fn K mg "_law_places" s_l_places) : Def P w K mg base 2 "_law_places" ["found", "many"] sp_l_places := by
  refine Def.by F sc_l_places (fun _ _ _ _ _ _ us hl => match us, hl with | [_, _], _ => rfl) (fun vs H Q E h => ?_) (fun f cdv A outer s H vs Q E hr h => ?_)
  · obtain ⟨l, ps, rfl, _⟩ := h
    rfl
  obtain ⟨l, ps, rfl, hL, q⟩ := h
  obtain ⟨as, h1, h2⟩ := hL
  have len : as.length = ps.length := Paired.length h2
  refine ⟨_, qss_cons (qs_if (qt_w (qw_or (qt_not (qt_val (qe_callB (call_isT (T := "list")) B.isinst PyProof.Rows.boot_isinstance (qa_cons (qv 0) (qa_cons (qe_bltn (v := .ty "list") B.list PyProof.Rows.boot_list rfl) qa_nil)))))
        (qw_or1 (qt_cmp op_ne (qe_callB call_len_seq B.len PySem.boot_len (qa_cons (qv 0) qa_nil)) (qv 1))))) (qss_one (qs_ret qe_bl)) qss_nil)
    (qss_cons (qs_for (qi_list (qv 0)) (qg_name 2 sc_l_places.nd)
      (qss_one (qs_if (qt_w (qw_or (qt_not (qt_val (qe_callB (call_isT (T := "tuple")) B.isinst PyProof.Rows.boot_isinstance (qa_cons (qv 2) (qa_cons (qe_bltn (v := .ty "tuple") B.tuple PyProof.Rows.boot_tuple rfl) qa_nil)))))
        (qw_or (qt_cmp op_ne (qe_callB call_len_seq B.len PySem.boot_len (qa_cons (qv 2) qa_nil)) qe_int)
        (qw_or (qt_not (qt_val (qe_callD D1 hr (qa_cons (qe_ix ix_tup0 (qv 2) qe_int) qa_nil))))
        (qw_or1 (qt_not (qt_val (qe_callD D1 hr (qa_cons (qe_ix ix_tup0 (qv 2) qe_int) qa_nil)))))))))
        (qss_one (qs_ret qe_bl)) qss_nil)))
    (qss_one (qs_ret qe_bl))), ?_⟩
  refine ⟨_, rfl, .ref l, _, true, rfl, .lst h1, rfl, _, rfl, iteF ?_⟩
  refine ⟨_, rfl, l, _, rfl, .inl (SqL.of h1), _, rfl, rfl, _, rfl, iteNS (by rw [List.length_map, len]) ?_⟩
  refine ⟨_, rfl, l, rfl, ⟨_, SqL.of h1⟩, ?_⟩
  refine for_goesO goes_list (fun i σ H' => ∃ v, σ = [some (.ref l), some (.int ps.length), v] ∧ H' = H) ⟨_, rfl, rfl⟩ (fun i σ H' _ z => by obtain ⟨_, _, rfl⟩ := z; exact SqL.of h1) ?_ ?_
  · rintro Pw Rt Bk hw hrt i x σ H' hi hy ⟨v, rfl, rfl⟩
    rw [List.getElem?_map] at hy
    cases e : as[i]? with
    | none => rw [e] at hy; cases hy
    | some a =>
      rw [e] at hy
      obtain rfl := Option.some.inj hy
      obtain ⟨p, e2, hp⟩ := paired_get' h2 e
      have hp : H' a = some (.tup [.int p.1, .int p.2]) := hp
      refine ⟨_, rfl, .ref a, _, true, rfl, .tup hp, rfl, _, rfl, iteF ?_⟩
      refine ⟨_, rfl, a, _, rfl, .inr (SqT.of hp), rfl, _, rfl, iteNS rfl ?_⟩
      refine ⟨_, rfl, a, _, 0, .int p.1, rfl, rfl, hp, rfl, _, rfl, _, rfl, iteF ?_⟩
      refine ⟨_, rfl, a, _, 1, .int p.2, rfl, rfl, hp, rfl, _, rfl, _, rfl, iteF ?_⟩
      exact hw _ _ _ ⟨_, rfl, rfl⟩
  · rintro σ H' ⟨v, rfl, rfl⟩
    exact q
end
end Sw

set_option linter.all false
set_option maxRecDepth 100000
set_option maxHeartbeats 400000
namespace Sw
open PySem L2 Sh
section
variable {P : Program} {w : World} {K : PySem.W.Frag} {mg : Str → Option Value} {base : Heap}
theorem sc_check_row : FnScope ["row", "width", "mark"] ["row", "width"] (defScope s_check_row) := ⟨rfl, rfl, rfl, by decide +kernel, rfl, by decide +kernel, by decide +kernel⟩
def sp_check_row : Sp := fun vs H Q _ => ∃ row : Str, vs = [.str row, .int row.length] ∧ 1 ≤ row.length ∧ row.length ≤ 9 ∧ (∀ c ∈ row.cps.toList, c = 110 ∨ c = 119 ∨ c = 46) ∧ Q .non H
theorem ok_check_row {dX : Addr} {tM : Tok} (B : Bt mg) (hM : mg "MOST" = some (.int 9 tM)) (hX : mg "EXCHANGED" = some (.ref dX)) (X : KDic P w K dX xkv) (F : Fn K mg "check_row" s_check_row) : Def P w K mg base 1 "check_row" ["row", "width"] sp_check_row := by
  refine Def.by F sc_check_row (fun _ _ _ _ _ _ us hl => match us, hl with | [_, _], _ => rfl) (fun vs H Q E h => ?_) (fun f cdv A outer s H vs Q E hr h => ?_)
  · obtain ⟨row, rfl, _⟩ := h
    rfl
  obtain ⟨row, rfl, h1, h9, sg, q⟩ := h
  have hz : row.length ≤ sizeLine := le_line (by omega)
  refine ⟨_, qss_cons (qs_if (qt_not (qt_chain op_le op_le qe_int (qe_callB call_len_str B.len PySem.boot_len (qa_cons (qv 0) qa_nil)) (qe_glob (v := .int 9) hM ⟨_, rfl⟩))) qss_never qss_nil)
    (qss_cons (qs_if (qt_cmp op_ne (qe_callB call_len_str B.len PySem.boot_len (qa_cons (qv 0) qa_nil)) (qv 1)) qss_never qss_nil)
    (qss_one (qs_for (qi_str (qv 0)) (qg_name 2 sc_check_row.nd)
      (qss_one (qs_if (qt_cmp (op_notInK X) (qv 2) (qe_glob (v := .ref dX) hX rfl)) qss_never qss_nil))))), ?_⟩
  refine ⟨_, rfl, row, rfl, hz, _, _, rfl, rfl, _, rfl, iteTb (decide_eq_true (by omega)) ?_⟩
  refine ⟨_, _, rfl, rfl, _, rfl, iteFb (by rw [decide_eq_true (by omega)]; rfl) ?_⟩
  refine ⟨_, rfl, row, rfl, hz, _, rfl, rfl, _, rfl, iteFb (by simp) ?_⟩
  refine ⟨_, rfl, row, rfl, ?_⟩
  refine for_goesO goes_str (fun i σ H' => ∃ v, σ = [some (.str row), some (.int row.length), v] ∧ H' = H) ⟨_, rfl, rfl⟩ (fun _ _ _ _ _ => trivial) ?_ ?_
  · rintro Pw Rt Bk hw hrt i x σ H' hi ⟨c, hc, rfl⟩ ⟨v, rfl, rfl⟩
    have hm : c ∈ row.cps.toList := by
      rw [← Array.getElem?_toList] at hc
      exact List.mem_of_getElem? hc
    refine ⟨_, rfl, .inr ⟨#[c]⟩, rfl, rfl, _, rfl, iteFb (by rw [xkv_at (sg c hm)]; rfl) ?_⟩
    exact hw _ _ _ ⟨_, rfl, rfl⟩
  · rintro σ H' ⟨v, rfl, rfl⟩
    exact q
end
end Sw

set_option linter.all false
set_option maxRecDepth 100000
set_option maxHeartbeats 400000
namespace Sw
open PySem L2 Sh
section
variable {P : Program} {w : World} {K : PySem.W.Frag} {mg : Str → Option Value} {base : Heap}
theorem sc_check_rows : FnScope ["rows", "row"] ["rows"] (defScope s_check_rows) := ⟨rfl, rfl, rfl, by decide +kernel, rfl, by decide +kernel, by decide +kernel⟩
def sp_check_rows (K : PySem.W.Frag) : Sp := fun vs H Q _ => ∃ (a : Addr) (rows : List Str) (h w : Nat), vs = [.ref a] ∧ SqL K H a (rows.map V.str) ∧ Rect (rws rows) h w ∧ Q .non H
theorem row_len {rows : List Str} {h w : Nat} (R : Rect (rws rows) h w) {x : Str} (hx : x ∈ rows) : x.length = w := by
  have := R.wid x.cps.toList (List.mem_map.mpr ⟨x, hx, rfl⟩)
  simpa [Str.length] using this
theorem ok_check_rows {tM : Tok} (B : Bt mg) (hM : mg "MOST" = some (.int 9 tM)) (D1 : Def P w K mg base 1 "check_row" ["row", "width"] sp_check_row) (F : Fn K mg "check_rows" s_check_rows) : Def P w K mg base 2 "check_rows" ["rows"] (sp_check_rows K) := by
  refine Def.by F sc_check_rows (fun _ _ _ _ _ _ us hl => match us, hl with | [_], _ => rfl) (fun vs H Q E h => ?_) (fun f cdv A outer s H vs Q E hr h => ?_)
  · obtain ⟨a, rows, h, w, rfl, _⟩ := h
    rfl
  obtain ⟨a, rows, h, w, rfl, hS, R, q⟩ := h
  have hlen : rows.length = h := by have := R.len; rwa [List.length_map] at this
  have h1 := R.h1
  have h9 := R.h9
  have w1 := R.w1
  have w9 := R.w9
  obtain ⟨r0, hr0⟩ : ∃ r0, rows[0]? = some r0 := ⟨rows[0], List.getElem?_eq_getElem (by omega)⟩
  have l0 : r0.length = w := row_len R (List.mem_of_getElem? hr0)
  refine ⟨_, qss_cons (qs_if (qt_not (qt_chain op_le op_le qe_int (qe_callB call_len_seq B.len PySem.boot_len (qa_cons (qv 0) qa_nil)) (qe_glob (v := .int 9) hM ⟨_, rfl⟩))) qss_never qss_nil)
    (qss_one (qs_for (qi_list (qv 0)) (qg_name 1 sc_check_rows.nd)
      (qss_one (qs_expr (qe_callD D1 hr (qa_cons (qv 1) (qa_cons (qe_callB call_len_str B.len PySem.boot_len (qa_cons (qe_ix ix_list (qv 0) qe_int) qa_nil)) qa_nil))))))), ?_⟩
  refine ⟨_, rfl, a, _, rfl, .inl hS, _, _, rfl, rfl, _, rfl, iteTb (decide_eq_true (by rw [List.length_map]; omega)) ?_⟩
  refine ⟨_, _, rfl, rfl, _, rfl, iteFb (by rw [decide_eq_true (by rw [List.length_map]; omega)]; rfl) ?_⟩
  refine ⟨_, rfl, a, rfl, ⟨_, hS⟩, ?_⟩
  refine for_goesO goes_list (fun i σ H' => ∃ v, σ = [some (.ref a), v] ∧ H' = H) ⟨_, rfl, rfl⟩ (fun i σ H' _ z => by obtain ⟨_, _, rfl⟩ := z; exact hS) ?_ ?_
  · rintro Pw Rt Bk hw hrt i x σ H' hi hy ⟨v, rfl, rfl⟩
    rw [List.getElem?_map] at hy
    cases e : rows[i]? with
    | none => rw [e] at hy; cases hy
    | some row =>
      rw [e] at hy
      obtain rfl := Option.some.inj hy
      have hm := List.mem_of_getElem? e
      have lr : row.length = w := row_len R hm
      refine ⟨_, rfl, _, rfl, a, _, 0, .str r0, rfl, rfl, hS, atI_of (by decide) (by rw [List.getElem?_map]; simp only [Int.toNat_zero]; rw [hr0]; rfl), r0, rfl, le_line (by omega), row, by rw [l0, lr]; rfl, by omega, by omega, fun c hc => R.sg _ (List.mem_map.mpr ⟨row, hm, rfl⟩) c hc, ?_⟩
      exact hw _ _ _ ⟨_, rfl, rfl⟩
  · rintro σ H' ⟨v, rfl, rfl⟩
    exact q
end
end Sw

set_option linter.all false
set_option maxRecDepth 100000
set_option maxHeartbeats 400000
namespace Sw
open PySem L2 Sh
section
variable {P : Program} {w : World} {K : PySem.W.Frag} {mg : Str → Option Value} {base : Heap}
theorem sc_Board_init : FnScope ["self", "rows"] ["self", "rows"] (defScope s_Board_init) := ⟨rfl, rfl, rfl, by decide +kernel, rfl, by decide +kernel, by decide +kernel⟩
def sp_Board_init (K : PySem.W.Frag) (C : Addr) : Sp := fun vs H Q _ => ∃ (p dx a : Addr) (rows : List Str) (h w : Nat), vs = [.ref p, .ref a] ∧ H p = some (.ins C dx []) ∧ SqL K H a (rows.map V.str) ∧ Rect (rws rows) h w ∧
  ∀ H', BoardAt C H' p rows h w → (∀ b o, H b = some o → b ≠ p → H' b = some o) → Q .non H'
/-- the class Board as it is called -/
structure BrdMk (P : Program) (w : World) (K : PySem.W.Frag) (mg : Str → Option Value) (base : Heap) (k : Nat) (C : Addr) : Prop where
  mC : mg "Board" = some (.ref C)
  ex : ∃ fI fd, Mk K C fI ∧ Binds K fd ["self", "rows"] [] ∧ FnOk P w K mg base CX0 k fI fd ["self", "rows"] (sp_Board_init K C)
theorem BrdMk.up {j k : Nat} {C : Addr} (M : BrdMk P w K mg base j C) (h : j ≤ k) : BrdMk P w K mg base k C :=
  ⟨M.mC, let ⟨fI, fd, a, b, c⟩ := M.ex; ⟨fI, fd, a, b, c.mono h⟩⟩
theorem ok_Board_init {C fI : Addr} {fd : FuncData} (B : Bt mg) (T : BoardC K C) (mC : mg "Board" = some (.ref C)) (M : Mk K C fI) (D1 : Def P w K mg base 2 "check_rows" ["rows"] (sp_check_rows K)) (F : Fun K "__init__" "Board.__init__" s_Board_init fI fd) : BrdMk P w K mg base 3 C := by
  refine ⟨mC, fI, fd, M, F.binds (ps := ["self", "rows"]) (fun _ _ _ _ _ _ us hl => match us, hl with | [_, _], _ => rfl), ?_⟩
  refine Law.by F sc_Board_init (fun vs H Q E h => ?_) (fun cdv A outer s H vs Q E hr h => ?_)
  · obtain ⟨p, dx, a, rows, h, w, rfl, _⟩ := h
    rfl
  obtain ⟨p, dx, a, rows, h, w, rfl, hp, hS, R, q⟩ := h
  have hlen : rows.length = h := by have := R.len; rwa [List.length_map] at this
  have h1 := R.h1
  have h9 := R.h9
  have w1 := R.w1
  have w9 := R.w9
  obtain ⟨r0, hr0⟩ : ∃ r0, rows[0]? = some r0 := ⟨rows[0], List.getElem?_eq_getElem (by omega)⟩
  have l0 : r0.length = w := row_len R (List.mem_of_getElem? hr0)
  refine ⟨_, qss_cons (qs_expr (qe_callD D1 hr (qa_cons (qv 1) qa_nil)))
    (qss_cons (qs_fld (qv 0) (qe_callTy call_list_of B.list PyProof.Rows.boot_list (qa_cons (qv 1) qa_nil)))
    (qss_cons (qs_fld (qv 0) (qe_callB call_len_seq B.len PySem.boot_len (qa_cons (qv 1) qa_nil)))
    (qss_one (qs_fld (qv 0) (qe_callB call_len_str B.len PySem.boot_len (qa_cons (qe_ix ix_list (qv 1) qe_int) qa_nil)))))), ?_⟩
  refine ⟨_, rfl, a, rows, h, w, rfl, hS, R, ?_⟩
  refine ⟨_, rfl, a, _, rfl, .inl hS, fun l hl => ?_⟩
  have npl : p ≠ l := ne_of_none hp hl
  refine ⟨_, rfl, p, C, dx, [], rfl, (by rw [upd_ne npl]; exact hp), T.cl, T.nR, (by show 0 < 1000; decide), ?_⟩
  have hS2 : ∀ fs, SqL K (upd (upd H l (.lst (rows.map V.str))) p (.ins C dx fs)) a (rows.map V.str) := fun fs => by
    rcases hS with z | z
    · refine .inl ?_
      rcases z with z | ⟨o, z⟩
      · refine .inl ?_
        rw [upd_ne (ne_of z hp (fun y => nomatch y)), upd_ne (ne_of_none z hl)]
        exact z
      · refine .inr ⟨o, ?_⟩
        rw [upd_ne (ne_of z hp (fun y => nomatch y)), upd_ne (ne_of_none z hl)]
        exact z
    · exact .inr z
  refine ⟨_, rfl, a, _, rfl, .inl (hS2 _), _, rfl, p, C, dx, _, rfl, upd_same, T.cl, T.nH, (by show 1 < 1000; decide), ?_⟩
  rw [upd_upd]
  refine ⟨_, rfl, a, _, 0, .str r0, rfl, rfl, hS2 _, atI_of (by decide) (by rw [List.getElem?_map]; simp only [Int.toNat_zero]; rw [hr0]; rfl), r0, rfl, le_line (by omega), _, rfl, p, C, dx, _, rfl, upd_same, T.cl, T.nW, ?_, ?_⟩
  · have e : putF "height" (V.int (List.map V.str rows).length) (putF "rows" (V.ref l) []) = ([("rows", V.ref l), ("height", V.int (List.map V.str rows).length)] : List (Str × V)) := by
      show (if ("rows" : Str) = "height" then _ else _) = _
      rw [if_neg (by decide +kernel)]
      rfl
    rw [e]
    show 2 < 1000
    decide
  · rw [upd_upd]
    refine q _ ⟨⟨dx, l, ?_, ?_⟩, R⟩ fun b o e nb => ?_
    · rw [upd_same, List.length_map, hlen, l0]
      rfl
    · rw [upd_ne npl.symm, upd_same]
    · rw [upd_ne nb, upd_ne (ne_of_none e hl)]
      exact e
/-- Board(e) -/
theorem qe_board {X : Cx} {k : Nat} {C : Addr} {e : Expr} {t : TA} {p pos : Pos} (M : BrdMk X.prog X.w X.K X.mg X.base k C) (hr : Room (k + 1) X.A) (ha : QA X [e] t) (hg : Gl X "Board" := by rfl)
    (he : starEach [e] X.env = [(false, eval e X.env)] := by rfl) : QE X (.Call (.Name "Board" p) [e] [] pos) (tMake C (sp_Board_init X.K C) [] E0 t) := by
  obtain ⟨fI, fd, a, b, c⟩ := M.ex
  exact ⟨pe_make a c hr hg M.mC b .nil pass0 ha.h (he := he) (hpl := rfl)⟩
/-- what stood ahead of the new board stands -/
theorem brd_same {C : Addr} {H H' : Hp} {x dx : Addr} (nx : H x = none) (ndx : H dx = none) (kp : ∀ b o, upd (upd H dx (.own x)) x (.ins C dx []) b = some o → b ≠ x → H' b = some o) : Same H H' := fun b o e => by
  refine kp b o ?_ (ne_of_none e nx)
  rw [upd_ne (ne_of_none e nx), upd_ne (ne_of_none e ndx)]
  exact e
end
end Sw

set_option linter.all false
set_option maxRecDepth 100000
set_option maxHeartbeats 400000
namespace Sw
open PySem L2 Sh
section
variable {P : Program} {w : World} {K : PySem.W.Frag} {mg : Str → Option Value} {base : Heap}
theorem sc_near : FnScope ["r", "c"] ["r", "c"] (defScope s_near) := ⟨rfl, rfl, rfl, by decide +kernel, rfl, by decide +kernel, by decide +kernel⟩
def sp_near : Sp := fun vs H Q _ => ∃ r c : Int, vs = [.int r, .int c] ∧ ∀ l H', Same H H' → H l = none → ListPl H' l (nbs (r, c)) → Q (.ref l) H'
theorem ok_near (F : Fn K mg "near" s_near) : Def P w K mg base 1 "near" ["r", "c"] sp_near := by
  refine Def.by F sc_near (fun _ _ _ _ _ _ us hl => match us, hl with | [_, _], _ => rfl) (fun vs H Q E h => ?_) (fun f cdv A outer s H vs Q E hr h => ?_)
  · obtain ⟨r, c, rfl, _⟩ := h
    rfl
  obtain ⟨r, c, rfl, q⟩ := h
  have t2 : 2 ≤ sizeLine := by decide
  refine ⟨_, qss_one (qs_ret (qe_lst (qa_cons (qe_tup (qa_cons (qe_op op_sub (qv 0) qe_int) (qa_cons (qv 1) qa_nil)))
    (qa_cons (qe_tup (qa_cons (qe_op op_sub (qv 0) qe_int) (qa_cons (qe_op op_add (qv 1) qe_int) qa_nil)))
    (qa_cons (qe_tup (qa_cons (qv 0) (qa_cons (qe_op op_add (qv 1) qe_int) qa_nil)))
    (qa_cons (qe_tup (qa_cons (qe_op op_add (qv 0) qe_int) (qa_cons (qv 1) qa_nil)))
    (qa_cons (qe_tup (qa_cons (qe_op op_add (qv 0) qe_int) (qa_cons (qe_op op_sub (qv 1) qe_int) qa_nil)))
    (qa_cons (qe_tup (qa_cons (qv 0) (qa_cons (qe_op op_sub (qv 1) qe_int) qa_nil))) qa_nil)))))))), ?_⟩
  refine ⟨_, rfl, _, _, rfl, rfl, _, rfl, t2, fun p1 h1 => ?_⟩
  refine ⟨_, rfl, _, _, rfl, rfl, _, rfl, _, _, rfl, rfl, t2, fun p2 h2 => ?_⟩
  refine ⟨_, rfl, _, rfl, _, _, rfl, rfl, t2, fun p3 h3 => ?_⟩
  refine ⟨_, rfl, _, _, rfl, rfl, _, rfl, t2, fun p4 h4 => ?_⟩
  refine ⟨_, rfl, _, _, rfl, rfl, _, rfl, _, _, rfl, rfl, t2, fun p5 h5 => ?_⟩
  refine ⟨_, rfl, _, rfl, _, _, rfl, rfl, t2, fun p6 h6 => ?_⟩
  refine ⟨(by show 6 ≤ sizeLine; decide), fun l hl => ?_⟩
  have g6 := same_upd (o := .lst [.ref p1, .ref p2, .ref p3, .ref p4, .ref p5, .ref p6]) hl
  have g5 := (same_upd h6).trans g6
  have g4 := (same_upd h5).trans g5
  have g3 := (same_upd h4).trans g4
  have g2 := (same_upd h3).trans g3
  have g1 := (same_upd h2).trans g2
  have g0 := (same_upd h1).trans g1
  refine q l _ g0 (((((((same_upd h1).trans (same_upd h2)).trans (same_upd h3)).trans (same_upd h4)).trans (same_upd h5)).trans (same_upd h6)).free hl) ⟨[p1, p2, p3, p4, p5, p6], upd_same, ?_⟩
  exact .cons (g1 _ _ upd_same) (.cons (g2 _ _ upd_same) (.cons (g3 _ _ upd_same) (.cons (g4 _ _ upd_same) (.cons (g5 _ _ upd_same) (.cons (g6 _ _ upd_same) .nil)))))
end
end Sw

set_option linter.all false
set_option maxRecDepth 100000
set_option maxHeartbeats 400000
namespace Sw
open PySem L2 Sh
section
variable {P : Program} {w : World} {K : PySem.W.Frag} {mg : Str → Option Value} {base : Heap}
theorem sc_has_cell : FnScope ["board", "r", "c"] ["board", "r", "c"] (defScope s_has_cell) := ⟨rfl, rfl, rfl, by decide +kernel, rfl, by decide +kernel, by decide +kernel⟩
def sp_has_cell (C : Addr) : Sp := fun vs H Q _ => ∃ (b : Addr) (rows : List Str) (h w : Nat) (r c : Int), vs = [.ref b, .int r, .int c] ∧ BoardAt C H b rows h w ∧ Q (.bl (decide (0 ≤ r ∧ r < h ∧ 0 ≤ c ∧ c < w))) H
theorem ok_has_cell {C : Addr} (T : BoardC K C) (F : Fn K mg "has_cell" s_has_cell) : Def P w K mg base 1 "has_cell" ["board", "r", "c"] (sp_has_cell C) := by
  refine Def.by F sc_has_cell (fun _ _ _ _ _ _ us hl => match us, hl with | [_, _, _], _ => rfl) (fun vs H Q E h => ?_) (fun f cdv A outer s H vs Q E hr h => ?_)
  · obtain ⟨b, rows, h, w, r, c, rfl, _⟩ := h
    rfl
  obtain ⟨b, rows, h, w, r, c, rfl, B, q⟩ := h
  obtain ⟨dx, a, hb, ha⟩ := B.ob
  refine ⟨_, qss_one (qs_ret (qe_and (qe_chain op_le op_lt qe_int (qv 1) (qe_fld (qv 0))) (qe_one (qe_chain op_le op_lt qe_int (qv 2) (qe_fld (qv 0)))))), ?_⟩
  refine ⟨_, rfl, _, _, rfl, rfl, _, rfl, ?_⟩
  refine ite2 (fun c1 => ?_) (fun c1 => ?_)
  · have c1 := of_decide_eq_true c1
    refine ⟨_, rfl, b, C, dx, _, _, rfl, hb, T.cl, T.nH, bfl_height _ _ _, _, _, rfl, rfl, _, rfl, ?_⟩
    refine ite2 (fun c2 => ?_) (fun c2 => ?_)
    · have c2 := of_decide_eq_true c2
      refine ⟨_, rfl, _, _, rfl, rfl, _, rfl, ?_⟩
      refine ite2 (fun c3 => ?_) (fun c3 => ?_)
      · have c3 := of_decide_eq_true c3
        refine ⟨_, rfl, b, C, dx, _, _, rfl, hb, T.cl, T.nW, bfl_width _ _ _, _, _, rfl, rfl, ?_⟩
        refine bl_eq q ?_
        rw [decide_eq_decide]
        constructor
        · intro z; exact z.2.2.2
        · intro z; exact ⟨c1, c2, c3, z⟩
      · have c3 := of_decide_eq_false (Bool.eq_false_iff.mpr c3)
        exact bl_eq q (decide_eq_false fun z => c3 z.2.2.1)
    · have c2 := of_decide_eq_false (Bool.eq_false_iff.mpr c2)
      exact bl_eq q (decide_eq_false fun z => c2 z.2.1)
  · have c1 := of_decide_eq_false (Bool.eq_false_iff.mpr c1)
    exact ⟨_, rfl, iteF (bl_eq q (decide_eq_false fun z => c1 z.1))⟩
end
end Sw

set_option linter.all false
set_option maxRecDepth 100000
set_option maxHeartbeats 400000
namespace Sw
open PySem L2 Sh
section
variable {P : Program} {w : World} {K : PySem.W.Frag} {mg : Str → Option Value} {base : Heap}
theorem sc_empty : FnScope ["board", "found", "r", "row", "c", "mark"] ["board"] (defScope s_empty) := ⟨rfl, rfl, rfl, by decide +kernel, rfl, by decide +kernel, by decide +kernel⟩
def sp_empty (C : Addr) : Sp := fun vs H Q _ => ∃ (b : Addr) (rows : List Str) (h w : Nat), vs = [.ref b] ∧ BoardAt C H b rows h w ∧ ∀ l H', Same H H' → H l = none → ListPl H' l (emp h w (rws rows)) → Q (.ref l) H'
theorem ok_empty {C : Addr} {tE : Tok} (B : Bt mg) (T : BoardC K C) (hEMPTY : mg "EMPTY" = some (.str "." tE)) (F : Fn K mg "empty" s_empty) : Def P w K mg base 1 "empty" ["board"] (sp_empty C) := by
  refine Def.by F sc_empty (fun _ _ _ _ _ _ us hl => match us, hl with | [_], _ => rfl) (fun vs H Q E h => ?_) (fun f cdv A outer s H vs Q E hr h => ?_)
  · obtain ⟨b, rows, h, w, rfl, _⟩ := h
    rfl
  obtain ⟨b, rows, h, w, rfl, Bd, q⟩ := h
  have R := Bd.rect
  have h9 := R.h9
  have w9 := R.w9
  obtain ⟨dx, a, hb, ha⟩ := Bd.ob
  have t2 : 2 ≤ sizeLine := by decide
  have hlen : rows.length = h := by have := R.len; rwa [List.length_map] at this
  refine ⟨_, qss_cons (qs_set 1 sc_empty.nd (qe_lst qa_nil))
    (qss_cons (qs_for (qi_enumL B.enum (qe_fld (qv 0))) (qg_tup (qgs_cons (qg_name 2 sc_empty.nd) (qgs_cons (qg_name 3 sc_empty.nd) qgs_nil))) (qss_one (qs_for (qi_enumS B.enum (qv 3)) (qg_tup (qgs_cons (qg_name 4 sc_empty.nd) (qgs_cons (qg_name 5 sc_empty.nd) qgs_nil))) (qss_one (qs_if (qt_cmp op_eq (qv 5) (qe_glob (v := .str ".") hEMPTY ⟨_, rfl⟩)) (qss_one (qs_expr (qe_app (qv 1) (qe_tup (qa_cons (qv 2) (qa_cons (qv 4) qa_nil)))))) qss_nil)))))
    (qss_one (qs_ret (qv 1)))), ?_⟩
  refine ⟨(by show 0 ≤ sizeLine; decide), fun l hl => ?_⟩
  refine ⟨_, rfl, b, C, dx, _, _, rfl, (by rw [upd_ne (ne_of_none hb hl)]; exact hb), T.cl, T.nR, bfl_rows _ _ _, a, rfl, ⟨_, SqL.of (show upd H l (.lst []) a = some (.lst (rows.map V.str)) by rw [upd_ne (ne_of_none ha hl)]; exact ha)⟩, ?_⟩
  have lenB : ∀ k : Nat, k ≤ h → ∀ m, m ≤ w → (((List.range k).flatMap (rowc w)).filter (isE (rws rows)) ++ ((List.range m).map fun (c : Nat) => ((k : Int), (c : Int))).filter (isE (rws rows))).length ≤ 162 := fun k hk m hm => by
    rw [List.length_append]
    have e1 : (((List.range k).flatMap (rowc w)).filter (isE (rws rows))).length ≤ 81 := by
      refine Nat.le_trans (List.length_filter_le _ _) ?_
      have : ((List.range k).flatMap (rowc w)).length = k * w := by
        rw [List.length_flatMap]
        have : (List.map (fun a => (rowc w a).length) (List.range k)) = List.replicate k w := by
          refine List.ext_getElem (by simp) fun i h1 h2 => ?_
          simp [rowc]
        rw [this]
        simp
      rw [this]
      exact Nat.le_trans (Nat.mul_le_mul (Nat.le_trans hk h9) w9) (by decide)
    have e2 : (((List.range m).map fun (c : Nat) => ((k : Int), (c : Int))).filter (isE (rws rows))).length ≤ 9 := by
      refine Nat.le_trans (List.length_filter_le _ _) ?_
      rw [List.length_map, List.length_range]
      omega
    omega
  refine for_enum (n := (rows.map V.str).length) goes_enumL (fun i σ H' => ∃ (v2 v3 v4 v5 : Option V) (as : List Addr), σ = [some (.ref b), some (.ref l), v2, v3, v4, v5] ∧ Same H H' ∧ H' l = some (.lst (as.map V.ref)) ∧ Paired (TupAt H') as (((List.range i).flatMap (rowc w)).filter (isE (rws rows))))
    ⟨_, _, _, _, [], rfl, same_upd hl, upd_same, .nil⟩ (fun i σ H' _ z => by obtain ⟨_, _, _, _, _, _, z, _⟩ := z; exact SqL.of (z _ _ ha)) ?_ ?_
  · rintro i y T' σ H1 hi hy hT ⟨v2, v3, v4, v5, as, rfl, sm, l1, pr⟩
    rw [List.length_map, hlen] at hi
    rw [List.getElem?_map] at hy
    cases e : rows[i]? with
    | none => rw [e] at hy; cases hy
    | some row =>
      rw [e] at hy
      obtain rfl := Option.some.inj hy
      have rl : row.cps.size = w := by
        have := R.wid row.cps.toList (List.mem_map.mpr ⟨row, List.mem_of_getElem? e, rfl⟩)
        simpa using this
      have sT := same_upd (o := .tup [.int i, .str row]) hT
      refine ⟨T', _, rfl, SqT.of upd_same, rfl, _, _, rfl, _, _, rfl, rfl, ?_⟩
      have l1' : upd H1 T' (.tup [.int i, .str row]) l = some (.lst (as.map V.ref)) := sT _ _ l1
      have pr' := Paired.mapP pr (G := TupAt (upd H1 T' (.tup [.int i, .str row]))) fun a' p' z => sT _ _ z
      have sm' := sm.trans sT
      generalize upd H1 T' (.tup [.int i, .str row]) = H2 at l1' pr' sm' ⊢
      refine ⟨_, rfl, row, rfl, ?_⟩
      refine for_enum (n := row.cps.size) goes_enumS (fun j σ H' => ∃ (v4 v5 : Option V) (as : List Addr), σ = [some (.ref b), some (.ref l), some (.int i), some (.str row), v4, v5] ∧ Same H H' ∧ H' l = some (.lst (as.map V.ref)) ∧ Paired (TupAt H') as (((List.range i).flatMap (rowc w)).filter (isE (rws rows)) ++ ((List.range j).map fun (c : Nat) => ((i : Int), (c : Int))).filter (isE (rws rows))))
        ⟨_, _, as, rfl, sm', l1', by simpa using pr'⟩ (fun _ _ _ _ _ => trivial) ?_ ?_
      · rintro j y T2 σ H3 hj ⟨ch, hch, rfl⟩ hT2 ⟨v4, v5, as3, rfl, sm3, l3, pr3⟩
        rw [rl] at hj
        have sT2 := same_upd (o := .tup [.int j, .str ⟨#[ch]⟩]) hT2
        refine ⟨T2, _, rfl, SqT.of upd_same, rfl, _, _, rfl, _, _, rfl, rfl, ?_⟩
        have l3' : upd H3 T2 (.tup [.int j, .str ⟨#[ch]⟩]) l = some (.lst (as3.map V.ref)) := sT2 _ _ l3
        have pr3' := Paired.mapP pr3 (G := TupAt (upd H3 T2 (.tup [.int j, .str ⟨#[ch]⟩]))) fun a' p' z => sT2 _ _ z
        have sm3' := sm3.trans sT2
        generalize upd H3 T2 (.tup [.int j, .str ⟨#[ch]⟩]) = H4 at l3' pr3' sm3' ⊢
        have ac : at2 (rws rows) ((i : Int), (j : Int)) = some ch := by
          rw [at2_nat, List.getElem?_map, e]
          show row.cps.toList[j]? = _
          rw [Array.getElem?_toList]
          exact hch
        have tk : (((List.range (j + 1)).map fun (c : Nat) => ((i : Int), (c : Int))).filter (isE (rws rows))) = ((List.range j).map fun (c : Nat) => ((i : Int), (c : Int))).filter (isE (rws rows)) ++ (if ch = 46 then [((i : Int), (j : Int))] else []) := by
          rw [List.range_succ, List.map_append, List.filter_append]
          congr 1
          show List.filter (isE (rws rows)) [((i : Int), (j : Int))] = _
          rw [List.filter_cons]
          unfold isE
          rw [ac]
          by_cases z : ch = 46
          · rw [if_pos z, if_pos (decide_eq_true (by rw [z]))]; rfl
          · rw [if_neg z, if_neg (by rw [decide_eq_true_iff]; intro y; exact z (Option.some.inj y))]; rfl
        refine ⟨_, rfl, rfl, _, rfl, ?_⟩
        refine ite2 (fun g => ?_) (fun g => ?_)
        · have g : ch = 46 := by
            have z := of_decide_eq_true g
            rw [d_eq, str1_iff] at z
            exact z
          have ln := lenB i (by omega) j (by omega)
          rw [← Paired.length pr3'] at ln
          refine ⟨_, rfl, l, _, rfl, l3', _, rfl, _, rfl, t2, fun t ht => ?_⟩
          have l4 : upd H4 t (.tup [.int i, .int j]) l = some (.lst (as3.map V.ref)) := by rw [upd_ne (ne_of_none l3' ht)]; exact l3'
          refine ⟨_, _, rfl, l4, by rw [List.length_map]; exact small1000 (by omega), _, _, as3 ++ [t], rfl, fun b' o z => ?_, by rw [upd_same, List.map_append]; rfl, ?_⟩
          · rw [upd_ne (ne_of_none z hl)]
            exact (sm3'.upd ht) _ _ z
          · rw [tk, if_pos g, ← List.append_assoc]
            refine Paired.snoc (Paired.mapP pr3' fun a' p' z => ?_) ?_
            · have z' : H4 a' = some _ := z
              show upd (upd H4 t _) l _ a' = _
              rw [upd_ne (ne_of z' l3' (fun y => nomatch y)), upd_ne (ne_of_none z' ht)]
              exact z'
            · show upd (upd H4 t _) l _ t = _
              rw [upd_ne (ne_of_none l3' ht).symm, upd_same]
        · have g : ¬ ch = 46 := fun z => g (decide_eq_true (by rw [d_eq, z]))
          refine ⟨_, _, as3, rfl, sm3', l3', ?_⟩
          rw [tk, if_neg g, List.append_nil]
          exact pr3'
      · rintro σ H3 ⟨v4, v5, as3, rfl, sm3, l3, pr3⟩
        refine ⟨_, _, _, _, as3, rfl, sm3, l3, ?_⟩
        rw [rl] at pr3
        rw [List.range_succ, List.flatMap_append, List.filter_append, List.flatMap_cons, List.flatMap_nil, List.append_nil]
        exact pr3
  · rintro σ H1 ⟨v2, v3, v4, v5, as, rfl, sm, l1, pr⟩
    rw [List.length_map, hlen] at pr
    exact ⟨_, rfl, q l H1 sm hl ⟨as, l1, pr⟩⟩
end
end Sw

set_option linter.all false
set_option maxRecDepth 100000
set_option maxHeartbeats 400000
namespace Sw
open PySem L2 Sh
section
variable {P : Program} {w : World} {K : PySem.W.Frag} {mg : Str → Option Value} {base : Heap}
theorem sc_check_full : FnScope ["board"] ["board"] (defScope s_check_full) := ⟨rfl, rfl, rfl, by decide +kernel, rfl, by decide +kernel, by decide +kernel⟩
def sp_check_full (C N : Addr) : Sp := fun vs H Q E => ∃ (b : Addr) (rows : List Str) (h w : Nat), vs = [.ref b] ∧ BoardAt C H b rows h w ∧
  (∀ H', Same H H' → (emp h w (rws rows)).length = 0 → Q .non H') ∧ ∀ H', Same H H' → 0 < (emp h w (rws rows)).length → E (.ref N) none H'
theorem ok_check_full {C N : Addr} (B : Bt mg) (O : ExcC K mg base "NotFull" N) (d_empty : Def P w K mg base 1 "empty" ["board"] (sp_empty C)) (F : Fn K mg "check_full" s_check_full) : DefX P w K mg base 2 "check_full" ["board"] (sp_check_full C N) := by
  refine DefX.by F sc_check_full (fun _ _ _ _ _ _ us hl => match us, hl with | [_], _ => rfl) (fun vs H Q E h => ?_) (fun f cdv A outer s H vs Q E hr h => ?_)
  · obtain ⟨b, rows, h, w, rfl, _⟩ := h
    rfl
  obtain ⟨b, rows, h, w, rfl, Bd, qf, qe⟩ := h
  refine ⟨_, qss_one (qs_if (qt_cmp op_gt (qe_callB (call_len_seqK K) B.len PySem.boot_len (qa_cons (qe_callD d_empty hr (qa_cons (qv 0) qa_nil)) qa_nil)) qe_int) (qss_one (qs_raise O hr.hd (qa_cons qe_str qa_nil))) qss_nil), ?_⟩
  refine ⟨_, rfl, b, rows, h, w, rfl, Bd, fun l H1 s1 n1 L1 => ?_⟩
  obtain ⟨as, l1, l2⟩ := L1
  have ll := Paired.length l2
  refine ⟨l, _, rfl, .inl (SqL.of l1), _, _, rfl, rfl, _, rfl, ?_⟩
  refine ite2 (fun g => ?_) (fun g => ?_)
  · have g := of_decide_eq_true g
    rw [List.length_map, ll] at g
    exact ⟨by show 1 ≤ sizeLine; decide, qe H1 s1 (by omega)⟩
  · have g := of_decide_eq_false (Bool.eq_false_iff.mpr g)
    rw [List.length_map, ll] at g
    exact qf H1 s1 (by omega)
end
end Sw

set_option linter.all false
set_option maxRecDepth 100000
set_option maxHeartbeats 400000
namespace Sw
open PySem L2 Sh
section
variable {P : Program} {w : World} {K : PySem.W.Frag} {mg : Str → Option Value} {base : Heap}
theorem sc_on_north_shore : FnScope ["board", "r", "c"] ["board", "r", "c"] (defScope s_on_north_shore) := ⟨rfl, rfl, rfl, by decide +kernel, rfl, by decide +kernel, by decide +kernel⟩
def sp_on_north_shore (C : Addr) : Sp := fun vs H Q _ => ∃ (b : Addr) (rows : List Str) (h w : Nat) (r c : Int), vs = [.ref b, .int r, .int c] ∧ BoardAt C H b rows h w ∧ Q (.bl (decide ((r = -1 ∧ 0 ≤ c ∧ c ≤ w) ∨ (r = h ∧ -1 ≤ c ∧ c < w)))) H
theorem ok_on_north_shore {C : Addr} (T : BoardC K C) (F : Fn K mg "on_north_shore" s_on_north_shore) : Def P w K mg base 1 "on_north_shore" ["board", "r", "c"] (sp_on_north_shore C) := by
  refine Def.by F sc_on_north_shore (fun _ _ _ _ _ _ us hl => match us, hl with | [_, _, _], _ => rfl) (fun vs H Q E h => ?_) (fun f cdv A outer s H vs Q E hr h => ?_)
  · obtain ⟨b, rows, h, w, r, c, rfl, _⟩ := h
    rfl
  obtain ⟨b, rows, h, w, r, c, rfl, Bd, q⟩ := h
  obtain ⟨dx, a, hb, ha⟩ := Bd.ob
  refine ⟨_, qss_one (qs_ret (qe_or (qe_and (qe_cmp op_eq (qv 1) (qe_un un_neg qe_int)) (qe_one (qe_chain op_le op_le qe_int (qv 2) (qe_fldK K (qv 0))))) (qe_one (qe_and (qe_cmp op_eq (qv 1) (qe_fldK K (qv 0))) (qe_one (qe_chain op_le op_lt (qe_un un_neg qe_int) (qv 2) (qe_fldK K (qv 0)))))))), ?_⟩
  refine ⟨_, rfl, _, rfl, rfl, _, rfl, ?_⟩
  refine ite2 (fun g1 => ?_) (fun g1 => ?_)
  · have g1 : r = -1 := by have z := of_decide_eq_true g1; injection z
    refine ⟨_, rfl, _, _, rfl, rfl, _, rfl, ?_⟩
    refine ite2 (fun g2 => ?_) (fun g2 => ⟨_, rfl, iteF ?_⟩)
    · refine ⟨_, rfl, b, C, dx, _, _, rfl, hb, T.cl, T.nW, bfl_width _ _ _, _, _, rfl, rfl, _, rfl, ?_⟩
      refine ite2 (fun g3 => bl_eq q ?_) (fun g3 => ?_)
      · exact decide_eq_true (.inl ⟨g1, of_decide_eq_true g2, of_decide_eq_true g3⟩)
      · refine ⟨_, rfl, _, rfl, b, C, dx, _, _, rfl, hb, T.cl, T.nH, bfl_height _ _ _, rfl, _, rfl, ?_⟩
        refine ite2 (fun k1 => ?_) (fun k1 => bl_eq q (decide_eq_false fun z => z.elim (fun z => g3 (decide_eq_true z.2.2)) fun z => of_decide_eq_false (Bool.eq_false_iff.mpr k1) (by rw [z.1])))
        have k1 : r = h := by have z := of_decide_eq_true k1; injection z
        refine ⟨_, rfl, _, rfl, _, _, rfl, rfl, _, rfl, ?_⟩
        refine ite2 (fun k2 => ?_) (fun k2 => bl_eq q (decide_eq_false fun z => z.elim (fun z => g3 (decide_eq_true z.2.2)) fun z => k2 (decide_eq_true z.2.1)))
        refine ⟨_, rfl, b, C, dx, _, _, rfl, hb, T.cl, T.nW, bfl_width _ _ _, _, _, rfl, rfl, bl_eq q ?_⟩
        rw [decide_eq_decide]
        exact ⟨fun z => z.elim (fun z => (g3 (decide_eq_true z.2.2)).elim) fun z => z.2.2, fun z => .inr ⟨k1, of_decide_eq_true k2, z⟩⟩
    · refine ⟨_, rfl, _, rfl, b, C, dx, _, _, rfl, hb, T.cl, T.nH, bfl_height _ _ _, rfl, _, rfl, ?_⟩
      refine ite2 (fun k1 => ?_) (fun k1 => bl_eq q (decide_eq_false fun z => z.elim (fun z => g2 (decide_eq_true z.2.1)) fun z => of_decide_eq_false (Bool.eq_false_iff.mpr k1) (by rw [z.1])))
      have k1 : r = h := by have z := of_decide_eq_true k1; injection z
      refine ⟨_, rfl, _, rfl, _, _, rfl, rfl, _, rfl, ?_⟩
      refine ite2 (fun k2 => ?_) (fun k2 => bl_eq q (decide_eq_false fun z => z.elim (fun z => g2 (decide_eq_true z.2.1)) fun z => k2 (decide_eq_true z.2.1)))
      refine ⟨_, rfl, b, C, dx, _, _, rfl, hb, T.cl, T.nW, bfl_width _ _ _, _, _, rfl, rfl, bl_eq q ?_⟩
      rw [decide_eq_decide]
      exact ⟨fun z => z.elim (fun z => (g2 (decide_eq_true z.2.1)).elim) fun z => z.2.2, fun z => .inr ⟨k1, of_decide_eq_true k2, z⟩⟩
  · refine ⟨_, rfl, iteF ?_⟩
    refine ⟨_, rfl, _, rfl, b, C, dx, _, _, rfl, hb, T.cl, T.nH, bfl_height _ _ _, rfl, _, rfl, ?_⟩
    refine ite2 (fun k1 => ?_) (fun k1 => bl_eq q (decide_eq_false fun z => z.elim (fun z => g1 (decide_eq_true (by rw [z.1]))) fun z => of_decide_eq_false (Bool.eq_false_iff.mpr k1) (by rw [z.1])))
    have k1 : r = h := by have z := of_decide_eq_true k1; injection z
    refine ⟨_, rfl, _, rfl, _, _, rfl, rfl, _, rfl, ?_⟩
    refine ite2 (fun k2 => ?_) (fun k2 => bl_eq q (decide_eq_false fun z => z.elim (fun z => g1 (decide_eq_true (by rw [z.1]))) fun z => k2 (decide_eq_true z.2.1)))
    refine ⟨_, rfl, b, C, dx, _, _, rfl, hb, T.cl, T.nW, bfl_width _ _ _, _, _, rfl, rfl, bl_eq q ?_⟩
    rw [decide_eq_decide]
    exact ⟨fun z => z.elim (fun z => (g1 (decide_eq_true (by rw [z.1]))).elim) fun z => z.2.2, fun z => .inr ⟨k1, of_decide_eq_true k2, z⟩⟩
end
end Sw

set_option linter.all false
set_option maxRecDepth 100000
set_option maxHeartbeats 400000
namespace Sw
open PySem L2 Sh
section
variable {P : Program} {w : World} {K : PySem.W.Frag} {mg : Str → Option Value} {base : Heap}
theorem sc_on_west_shore : FnScope ["board", "r", "c"] ["board", "r", "c"] (defScope s_on_west_shore) := ⟨rfl, rfl, rfl, by decide +kernel, rfl, by decide +kernel, by decide +kernel⟩
def sp_on_west_shore (C : Addr) : Sp := fun vs H Q _ => ∃ (b : Addr) (rows : List Str) (h w : Nat) (r c : Int), vs = [.ref b, .int r, .int c] ∧ BoardAt C H b rows h w ∧ Q (.bl (decide (0 ≤ r ∧ r < h ∧ (c = -1 ∨ c = w)))) H
theorem ok_on_west_shore {C : Addr} (T : BoardC K C) (F : Fn K mg "on_west_shore" s_on_west_shore) : Def P w K mg base 1 "on_west_shore" ["board", "r", "c"] (sp_on_west_shore C) := by
  refine Def.by F sc_on_west_shore (fun _ _ _ _ _ _ us hl => match us, hl with | [_, _, _], _ => rfl) (fun vs H Q E h => ?_) (fun f cdv A outer s H vs Q E hr h => ?_)
  · obtain ⟨b, rows, h, w, r, c, rfl, _⟩ := h
    rfl
  obtain ⟨b, rows, h, w, r, c, rfl, Bd, q⟩ := h
  obtain ⟨dx, a, hb, ha⟩ := Bd.ob
  refine ⟨_, qss_one (qs_ret (qe_and (qe_chain op_le op_lt qe_int (qv 1) (qe_fldK K (qv 0))) (qe_one (qe_or (qe_cmp op_eq (qv 2) (qe_un un_neg qe_int)) (qe_one (qe_cmp op_eq (qv 2) (qe_fldK K (qv 0)))))))), ?_⟩
  refine ⟨_, rfl, _, _, rfl, rfl, _, rfl, ?_⟩
  refine ite2 (fun g1 => ?_) (fun g1 => ⟨_, rfl, iteF (bl_eq q (decide_eq_false fun z => g1 (decide_eq_true z.1)))⟩)
  refine ⟨_, rfl, b, C, dx, _, _, rfl, hb, T.cl, T.nH, bfl_height _ _ _, _, _, rfl, rfl, _, rfl, ?_⟩
  refine ite2 (fun g2 => ?_) (fun g2 => bl_eq q ?_)
  rotate_left
  · exact decide_eq_false fun z => g2 (decide_eq_true z.2.1)
  refine ⟨_, rfl, _, rfl, rfl, _, rfl, ?_⟩
  refine ite2 (fun g3 => bl_eq q ?_) (fun g3 => ?_)
  · exact decide_eq_true ⟨of_decide_eq_true g1, of_decide_eq_true g2, .inl (by have z := of_decide_eq_true g3; injection z)⟩
  refine ⟨_, rfl, _, rfl, b, C, dx, _, _, rfl, hb, T.cl, T.nW, bfl_width _ _ _, rfl, bl_eq q ?_⟩
  rw [decide_eq_decide]
  constructor
  · rintro ⟨_, _, z | z⟩
    · exact absurd (decide_eq_true (by rw [z])) g3
    · rw [z]
  · intro z
    injection z with z
    exact ⟨of_decide_eq_true g1, of_decide_eq_true g2, .inr z⟩
end
end Sw

set_option linter.all false
set_option maxRecDepth 100000
set_option maxHeartbeats 400000
namespace Sw
open PySem L2 Sh
section
variable {P : Program} {w : World} {K : PySem.W.Frag} {mg : Str → Option Value} {base : Heap}
theorem sc_hand_at : FnScope ["board", "r", "c"] ["board", "r", "c"] (defScope s_hand_at) := ⟨rfl, rfl, rfl, by decide +kernel, rfl, by decide +kernel, by decide +kernel⟩
/-- the hand's letter, or None -/
def hndV : Option Bool → V
  | some true => .str ⟨#[110]⟩
  | some false => .str ⟨#[119]⟩
  | none => .non
def sp_hand_at (C : Addr) : Sp := fun vs H Q _ => ∃ (b : Addr) (rows : List Str) (h w : Nat) (r c : Int), vs = [.ref b, .int r, .int c] ∧ BoardAt C H b rows h w ∧ (emp h w (rws rows)).length = 0 ∧ Q (hndV (shR (rws rows) h w (r, c))) H
theorem full_sg {rr : Rws} {h w : Nat} (R : Rect rr h w) (e : (emp h w rr).length = 0) {p : Pl} {ch : Nat} (a : at2 rr p = some ch) : ch = 110 ∨ ch = 119 := by
  rcases Rect.sg2 R a with z | z | z
  · exact .inl z
  · exact .inr z
  · rw [z] at a
    have m := (mem_emp R).mpr a
    rw [List.eq_nil_of_length_eq_zero e] at m
    cases m
theorem ok_hand_at {C : Addr} {tN tW : Tok} (T : BoardC K C) (hNORTH : mg "NORTH" = some (.str "n" tN)) (hWEST : mg "WEST" = some (.str "w" tW)) (d_has_cell : Def P w K mg base 1 "has_cell" ["board", "r", "c"] (sp_has_cell C)) (d_on_north_shore : Def P w K mg base 1 "on_north_shore" ["board", "r", "c"] (sp_on_north_shore C)) (d_on_west_shore : Def P w K mg base 1 "on_west_shore" ["board", "r", "c"] (sp_on_west_shore C))
    (F : Fn K mg "hand_at" s_hand_at) : Def P w K mg base 2 "hand_at" ["board", "r", "c"] (sp_hand_at C) := by
  refine Def.by F sc_hand_at (fun _ _ _ _ _ _ us hl => match us, hl with | [_, _, _], _ => rfl) (fun vs H Q E h => ?_) (fun f cdv A outer s H vs Q E hr h => ?_)
  · obtain ⟨b, rows, h, w, r, c, rfl, _⟩ := h
    rfl
  obtain ⟨b, rows, h, w, r, c, rfl, Bd, e0, q⟩ := h
  have R := Bd.rect
  have w9 := R.w9
  obtain ⟨dx, a, hb, ha⟩ := id Bd.ob
  refine ⟨_, qss_cons (qs_if (qt_val (qe_callD d_has_cell hr (qa_cons (qv 0) (qa_cons (qv 1) (qa_cons (qv 2) qa_nil))))) (qss_one (qs_ret (qe_ix ix_str (qe_ix ix_list0 (qe_fldK K (qv 0)) (qv 1)) (qv 2)))) qss_nil)
    (qss_cons (qs_if (qt_val (qe_callD d_on_north_shore hr (qa_cons (qv 0) (qa_cons (qv 1) (qa_cons (qv 2) qa_nil))))) (qss_one (qs_ret (qe_glob (v := .str "n") hNORTH ⟨_, rfl⟩))) qss_nil)
    (qss_cons (qs_if (qt_val (qe_callD d_on_west_shore hr (qa_cons (qv 0) (qa_cons (qv 1) (qa_cons (qv 2) qa_nil))))) (qss_one (qs_ret (qe_glob (v := .str "w") hWEST ⟨_, rfl⟩))) qss_nil)
    (qss_one (qs_ret qe_non)))), ?_⟩
  refine ⟨_, rfl, _, rfl, _, rfl, b, rows, h, w, r, c, rfl, Bd, _, rfl, ?_⟩
  by_cases ib : 0 ≤ r ∧ r < h ∧ 0 ≤ c ∧ c < w
  · refine iteTb (decide_eq_true ib) ?_
    obtain ⟨row, ch, e1, e2, e3, e4⟩ := cell_in R (show inB h w (r, c) from ib)
    refine ⟨_, rfl, b, C, dx, _, _, rfl, hb, T.cl, T.nR, bfl_rows _ _ _, _, rfl, a, _, r, .str row, rfl, rfl, ha, atI_of ib.1 (by rw [List.getElem?_map, e1]; rfl), _, rfl, row, c, ch, rfl, rfl, le_line (by omega), atI_of ib.2.2.1 e2, ?_⟩
    have hs : shR (rws rows) h w (r, c) = some (decide (at2 (rws rows) (r, c) = some 110)) := by
      unfold shR shK
      rw [if_pos ⟨ib.1, ib.2.1⟩, if_pos ⟨ib.2.2.1, ib.2.2.2⟩]
      rfl
    rw [hs, e3] at q
    rcases full_sg R e0 e3 with rfl | rfl
    · rw [decide_eq_true rfl] at q
      exact q
    · rw [decide_eq_false (by decide)] at q
      exact q
  refine iteFb (decide_eq_false ib) ?_
  refine ⟨_, rfl, _, rfl, _, rfl, b, rows, h, w, r, c, rfl, Bd, _, rfl, ?_⟩
  by_cases n : (r = -1 ∧ 0 ≤ c ∧ c ≤ w) ∨ (r = h ∧ -1 ≤ c ∧ c < w)
  · refine iteTb (decide_eq_true n) ?_
    have hs : shR (rws rows) h w (r, c) = some true := by
      unfold shR shK
      rw [if_neg (by simp only; omega), if_pos (by simp only; omega)]
    rw [hs] at q
    rw [n_eq]
    exact q
  refine iteFb (decide_eq_false n) ?_
  refine ⟨_, rfl, _, rfl, _, rfl, b, rows, h, w, r, c, rfl, Bd, _, rfl, ?_⟩
  by_cases ww : 0 ≤ r ∧ r < h ∧ (c = -1 ∨ c = w)
  · refine iteTb (decide_eq_true ww) ?_
    have hs : shR (rws rows) h w (r, c) = some false := by
      unfold shR shK
      rw [if_pos ⟨ww.1, ww.2.1⟩, if_neg (by simp only; omega), if_pos ww.2.2]
    rw [hs] at q
    rw [w_eq]
    exact q
  · refine iteFb (decide_eq_false ww) ?_
    have hs : shR (rws rows) h w (r, c) = none := by
      unfold shR shK
      by_cases g : 0 ≤ r ∧ r < (h : Int)
      · rw [if_pos g, if_neg (by simp only; omega), if_neg (by simp only; omega)]
      · rw [if_neg g, if_neg (by simp only; omega)]
    rw [hs] at q
    exact q
end
end Sw

set_option linter.all false
set_option maxRecDepth 100000
set_option maxHeartbeats 400000
namespace Sw
open PySem L2 Sh
section
variable {P : Program} {w : World} {K : PySem.W.Frag} {mg : Str → Option Value} {base : Heap}
theorem sc_place_ahead : FnScope ["pair", "west", "places", "k"] ["pair"] (defScope s_place_ahead) := ⟨rfl, rfl, rfl, by decide +kernel, rfl, by decide +kernel, by decide +kernel⟩
def sp_place_ahead : Sp := fun vs H Q _ => ∃ (t : Addr) (x : Pr), vs = [.ref t] ∧ PairAt H t x ∧ Nb x.2 x.1 ∧ ∀ a H', Same H H' → TupAt H' a (ahd x) → Q (.ref a) H'
theorem ok_place_ahead (B : Bt mg) (d_near : Def P w K mg base 1 "near" ["r", "c"] sp_near) (F : Fn K mg "place_ahead" s_place_ahead) : Def P w K mg base 2 "place_ahead" ["pair"] sp_place_ahead := by
  refine Def.by F sc_place_ahead (fun _ _ _ _ _ _ us hl => match us, hl with | [_], _ => rfl) (fun vs H Q E h => ?_) (fun f cdv A outer s H vs Q E hr h => ?_)
  · obtain ⟨t, x, rfl, _⟩ := h
    rfl
  obtain ⟨t, ⟨p, c⟩, rfl, PA, nb, q⟩ := h
  obtain ⟨a, b, e, e1, e2⟩ := PA
  have e1 : H a = some (.tup [.int p.1, .int p.2]) := e1
  have e2 : H b = some (.tup [.int c.1, .int c.2]) := e2
  refine ⟨_, qss_cons (qs_set 1 sc_place_ahead.nd (qe_ix ix_tup0 (qv 0) qe_int))
    (qss_cons (qs_set 2 sc_place_ahead.nd (qe_callD d_near hr (qa_cons (qe_ix ix_tup0 (qv 1) qe_int) (qa_cons (qe_ix ix_tup0 (qv 1) qe_int) qa_nil))))
    (qss_cons (qs_set 3 sc_place_ahead.nd (qe_bmK K PySem.F.plainAttrs_list PySem.F.slot_list_index PySem.F.type_list_index (mt_indexD K hr.u65) (qv 2) (qa_cons (qe_ix ix_tup0 (qv 0) qe_int) qa_nil)))
    (qss_one (qs_ret (qe_ix ix_list0 (qv 2) (qe_op op_mod (qe_op op_add (qv 3) qe_int) (qe_callB call_len0 B.len PySem.boot_len (qa_cons (qv 2) qa_nil)))))))), ?_⟩
  refine ⟨_, rfl, t, _, 1, .ref b, rfl, rfl, e, rfl, ?_⟩
  refine ⟨_, rfl, b, _, 0, .int c.1, rfl, rfl, e2, rfl, _, rfl, b, _, 1, .int c.2, rfl, rfl, e2, rfl, c.1, c.2, rfl, fun l H1 s1 nl LP => ?_⟩
  obtain ⟨as, l1, l2⟩ := id LP
  obtain ⟨j, j6, ej, no, ea⟩ := nb_idx nb
  have hl := Paired.length l2
  have hl6 : as.length = 6 := by rw [hl]; rfl
  refine ⟨_, rfl, .inl ⟨rfl, _, SqL.of l1⟩, _, rfl, t, _, 0, .ref a, rfl, rfl, s1 _ _ e, rfl, l, .ref a, _, (nbs (c.1, c.2)).map pairD, pairD p, j, rfl, rfl, l1, rds_paired l2, rds_place (s1 _ _ e1), shaped_pair _, shaped_pairs _, ⟨pairD p, ?_, ?_⟩, fun m z hm hz => ?_, ?_⟩
  · rw [List.getElem?_map]
    rw [show (nbs (c.1, c.2))[j]? = some p from ej]
    rfl
  · rw [eqv_pair, decide_eq_true rfl]
  · rw [List.getElem?_map] at hz
    cases e' : (nbs (c.1, c.2))[m]? with
    | none => rw [e'] at hz; cases hz
    | some r =>
      rw [e'] at hz
      obtain rfl := Option.some.inj hz
      rw [eqv_pair, decide_eq_false (no m r hm e')]
  · obtain ⟨t', et, htp⟩ := paired_get l2 (show (nbs (c.1, c.2))[(j + 1) % 6]? = some _ from ea)
    refine ⟨_, rfl, _, rfl, _, _, rfl, rfl, _, rfl, l, _, rfl, l1, _, _, rfl, rfl, (by rw [List.length_map, hl6]; show (0 : Int) < 6; decide), ?_⟩
    refine ⟨l, _, _, .ref t', rfl, rfl, l1, ?_, q t' H1 s1 htp⟩
    rw [List.length_map, hl6]
    refine atI_of (by omega) ?_
    rw [show (((j : Nat) : Int) + 1) % ((6 : Nat) : Int) = (((j + 1) % 6 : Nat) : Int) by omega, Int.toNat_natCast, List.getElem?_map, et]
    rfl
end
end Sw

set_option linter.all false
set_option maxRecDepth 100000
set_option maxHeartbeats 400000
namespace Sw
open PySem L2 Sh
section
variable {P : Program} {w : World} {K : PySem.W.Frag} {mg : Str → Option Value} {base : Heap}
theorem sc_next_pair : FnScope ["board", "pair", "ahead", "hand"] ["board", "pair"] (defScope s_next_pair) := ⟨rfl, rfl, rfl, by decide +kernel, rfl, by decide +kernel, by decide +kernel⟩
def sp_next_pair (C : Addr) : Sp := fun vs H Q _ => ∃ (b t : Addr) (rows : List Str) (h w : Nat) (x : Pr), vs = [.ref b, .ref t] ∧ BoardAt C H b rows h w ∧ (emp h w (rws rows)).length = 0 ∧ PairAt H t x ∧ Nb x.2 x.1 ∧
  (∀ t' y H', Same H H' → stp (shR (rws rows) h w) x = some y → PairAt H' t' y → Q (.ref t') H') ∧ ∀ H', Same H H' → stp (shR (rws rows) h w) x = none → Q .non H'
theorem ok_next_pair {C : Addr} {tN tW : Tok} (hNORTH : mg "NORTH" = some (.str "n" tN)) (hWEST : mg "WEST" = some (.str "w" tW)) (d_place_ahead : Def P w K mg base 2 "place_ahead" ["pair"] sp_place_ahead) (d_hand_at : Def P w K mg base 2 "hand_at" ["board", "r", "c"] (sp_hand_at C)) (F : Fn K mg "next_pair" s_next_pair) : Def P w K mg base 3 "next_pair" ["board", "pair"] (sp_next_pair C) := by
  refine Def.by F sc_next_pair (fun _ _ _ _ _ _ us hl => match us, hl with | [_, _], _ => rfl) (fun vs H Q E h => ?_) (fun f cdv A outer s H vs Q E hr h => ?_)
  · obtain ⟨b, t, rows, h, w, x, rfl, _⟩ := h
    rfl
  obtain ⟨b, t, rows, h, w, x, rfl, Bd, e0, PA, nb, qy, qn⟩ := h
  have t2 : 2 ≤ sizeLine := by decide
  refine ⟨_, qss_cons (qs_set 2 sc_next_pair.nd (qe_callD d_place_ahead hr (qa_cons (qv 1) qa_nil)))
    (qss_cons (qs_set 3 sc_next_pair.nd (qe_callD d_hand_at hr (qa_cons (qv 0) (qa_cons (qe_ix ix_tup0 (qv 2) qe_int) (qa_cons (qe_ix ix_tup0 (qv 2) qe_int) qa_nil)))))
    (qss_cons (qs_if (qt_cmp op_eq (qv 3) (qe_glob (v := .str "n") hNORTH ⟨_, rfl⟩)) (qss_one (qs_ret (qe_tup (qa_cons (qv 2) (qa_cons (qe_ix ix_tup0 (qv 1) qe_int) qa_nil))))) qss_nil)
    (qss_cons (qs_if (qt_cmp op_eq (qv 3) (qe_glob (v := .str "w") hWEST ⟨_, rfl⟩)) (qss_one (qs_ret (qe_tup (qa_cons (qe_ix ix_tup0 (qv 1) qe_int) (qa_cons (qv 2) qa_nil))))) qss_nil)
    (qss_one (qs_ret qe_non))))), ?_⟩
  refine ⟨_, rfl, t, x, rfl, PA, nb, fun a H1 s1 ta => ?_⟩
  have ta' : H1 a = some (.tup [.int (ahd x).1, .int (ahd x).2]) := ta
  have PA1 := PA.same s1
  obtain ⟨n1, w1, e, en, ew⟩ := id PA1
  refine ⟨_, rfl, _, rfl, a, _, 0, .int (ahd x).1, rfl, rfl, ta', rfl, _, rfl, a, _, 1, .int (ahd x).2, rfl, rfl, ta', rfl, b, rows, h, w, (ahd x).1, (ahd x).2, rfl, Bd.same s1, e0, ?_⟩
  have es : ∀ k, shR (rws rows) h w ((ahd x).1, (ahd x).2) = k → shR (rws rows) h w (ahd x) = k := fun k z => z
  cases hk : shR (rws rows) h w ((ahd x).1, (ahd x).2) with
  | none =>
    have st : stp (shR (rws rows) h w) x = none := by unfold stp; rw [es _ hk]
    refine ⟨_, rfl, rfl, _, rfl, iteFb (decide_eq_false fun z => nomatch z) ?_⟩
    exact ⟨_, rfl, rfl, _, rfl, iteFb (decide_eq_false fun z => nomatch z) (qn H1 s1 st)⟩
  | some k =>
    cases k with
    | true =>
      have st : stp (shR (rws rows) h w) x = some (ahd x, x.2) := by unfold stp; rw [es _ hk]
      rw [n_eq]
      refine ⟨_, rfl, rfl, _, rfl, iteTb (decide_eq_true rfl) ?_⟩
      refine ⟨_, rfl, _, rfl, t, _, 1, .ref w1, rfl, rfl, e, rfl, t2, fun t' ht' => qy t' _ _ (s1.upd ht') st ?_⟩
      have s2 := same_upd (o := .tup [.ref a, .ref w1]) ht'
      exact ⟨a, w1, upd_same, s2 _ _ ta, s2 _ _ ew⟩
    | false =>
      have st : stp (shR (rws rows) h w) x = some (x.1, ahd x) := by unfold stp; rw [es _ hk]
      rw [n_eq, w_eq]
      refine ⟨_, rfl, rfl, _, rfl, iteFb (decide_eq_false fun z => absurd (str1_iff.mp z) (by decide)) ?_⟩
      refine ⟨_, rfl, rfl, _, rfl, iteTb (decide_eq_true rfl) ?_⟩
      refine ⟨_, rfl, t, _, 0, .ref n1, rfl, rfl, e, rfl, _, rfl, t2, fun t' ht' => qy t' _ _ (s1.upd ht') st ?_⟩
      have s2 := same_upd (o := .tup [.ref n1, .ref a]) ht'
      exact ⟨n1, a, upd_same, s2 _ _ en, s2 _ _ ta⟩
end
end Sw

set_option linter.all false
set_option maxRecDepth 100000
set_option maxHeartbeats 400000
namespace Sw
open PySem L2 Sh
section
variable {P : Program} {w : World} {K : PySem.W.Frag} {mg : Str → Option Value} {base : Heap}
theorem sc_walk : FnScope ["board", "pairs", "pair"] ["board"] (defScope s_walk) := ⟨rfl, rfl, rfl, by decide +kernel, rfl, by decide +kernel, by decide +kernel⟩
/-- xs is the whole walk -/
def IsWalk (rr : Rws) (h w : Nat) (xs : List Pr) : Prop := ∃ x l, xs = (x :: l).reverse ∧ Wlk (shR rr h w) (x :: l) ∧ stp (shR rr h w) x = none
theorem isWalk_eq {rr : Rws} {h w : Nat} {xs ys : List Pr} (a : IsWalk rr h w xs) (b : IsWalk rr h w ys) : xs = ys := by
  obtain ⟨x, l, rfl, h1, e1⟩ := a
  obtain ⟨y, m, rfl, h2, e2⟩ := b
  rw [wlk_eq h1 h2 e1 e2]
theorem walk_few {rr : Rws} {h w : Nat} (R : Rect rr h w) {l : List Pr} (W : Wlk (shR rr h w) l) : (l.length : Int) ≤ 7 * ((h : Int) + 2) * ((w : Int) + 2) ∧ l.length ≤ 847 := by
  have h1 := R.h1
  have h9 := R.h9
  have w1 := R.w1
  have w9 := R.w9
  have f := Wlk.few (by omega) (by omega) W
  have m1 : 7 * ((h : Int) + 2) * ((w : Int) + 2) ≤ 7 * 11 * ((w : Int) + 2) := Int.mul_le_mul_of_nonneg_right (by omega) (by omega)
  exact ⟨f, by omega⟩
def sp_walk (C N : Addr) : Sp := fun vs H Q E => ∃ (b : Addr) (rows : List Str) (h w : Nat), vs = [.ref b] ∧ BoardAt C H b rows h w ∧ (∀ l xs H', Same H H' → H l = none → (emp h w (rws rows)).length = 0 → ListPr H' l xs → IsWalk (rws rows) h w xs → Q (.ref l) H') ∧
  ∀ H', Same H H' → 0 < (emp h w (rws rows)).length → E (.ref N) none H'
def muW (l : Addr) (σ : St) (H : Hp) : Nat := 2 * (1000 - (match H l with
  | some (HO.lst xs) => xs.length
  | _ => 0)) + (match σ[2]? with
  | some (some (.ref _)) => 1
  | _ => 0)
theorem ok_walk {C N : Addr} (d_check_full : DefX P w K mg base 2 "check_full" ["board"] (sp_check_full C N)) (d_next_pair : Def P w K mg base 3 "next_pair" ["board", "pair"] (sp_next_pair C)) (F : Fn K mg "walk" s_walk) : DefX P w K mg base 4 "walk" ["board"] (sp_walk C N) := by
  refine DefX.by F sc_walk (fun _ _ _ _ _ _ us hl => match us, hl with | [_], _ => rfl) (fun vs H Q E h => ?_) (fun f cdv A outer s H vs Q E hr h => ?_)
  · obtain ⟨b, rows, h, w, rfl, _⟩ := h
    rfl
  obtain ⟨b, rows, h, w, rfl, Bd, q, qe⟩ := h
  have d_check_full := d_check_full.up (k := 3) (by decide)
  have R := Bd.rect
  have h1 := R.h1
  have w1 := R.w1
  have t2 : 2 ≤ sizeLine := by decide
  refine ⟨_, qss_cons (qs_expr (qe_callX d_check_full hr passX (qa_cons (qv 0) qa_nil)))
    (qss_cons (qs_set 1 sc_walk.nd (qe_lst qa_nil))
    (qss_cons (qs_set 2 sc_walk.nd (qe_tup (qa_cons (qe_tup (qa_cons (qe_un un_neg qe_int) (qa_cons qe_int qa_nil))) (qa_cons (qe_tup (qa_cons qe_int (qa_cons (qe_un un_neg qe_int) qa_nil))) qa_nil))))
    (qss_cons (qs_while (hp := PassesOwn.leaving) (qt_cmp op_notN (qv 2) qe_non) (qss_cons (qs_expr (qe_app (qv 1) (qv 2)))
    (qss_one (qs_set 2 sc_walk.nd (qe_callD d_next_pair hr (qa_cons (qv 0) (qa_cons (qv 2) qa_nil)))))))
    (qss_one (qs_ret (qv 1)))))), ?_⟩
  refine ⟨_, rfl, b, rows, h, w, rfl, Bd, fun H1 s1 e0 => ?_, qe⟩
  refine ⟨(by show 0 ≤ sizeLine; decide), fun l hl => ?_⟩
  have s2 := s1.upd (o := .lst []) hl
  have nl : H l = none := s1.free hl
  refine ⟨_, rfl, t2, fun p1 hp1 => ⟨_, rfl, t2, fun p2 hp2 => ⟨t2, fun p3 hp3 => ?_⟩⟩⟩
  have k3 := same_upd (o := .tup [.ref p1, .ref p2]) hp3
  have k2 := (same_upd (o := .tup [.int 0, .int (-1)]) hp2).trans k3
  have k1 := (same_upd (o := .tup [.int (-1), .int 0]) hp1).trans k2
  have PA0 : PairAt (upd (upd (upd (upd H1 l (.lst [])) p1 (.tup [.int (-1), .int 0])) p2 (.tup [.int 0, .int (-1)])) p3 (.tup [.ref p1, .ref p2])) p3 st0 := ⟨p1, p2, upd_same, k2 _ _ upd_same, k3 _ _ upd_same⟩
  have l3 := k1 _ _ (upd_same (H := H1) (a := l) (o := .lst []))
  have s3 := s2.trans k1
  generalize upd (upd (upd (upd H1 l (.lst [])) p1 (.tup [.int (-1), .int 0])) p2 (.tup [.int 0, .int (-1)])) p3 (.tup [.ref p1, .ref p2]) = H3 at PA0 l3 s3 ⊢
  clear k1 k2 k3 s2
  refine while_wO (fun σ H' => ∃ (xs : List Pr) (v : V), σ = [some (.ref b), some (.ref l), some v] ∧ Same H H' ∧ ListPr H' l xs.reverse ∧
      ((∃ t x, v = .ref t ∧ PairAt H' t x ∧ Wlk (shR (rws rows) h w) (x :: xs)) ∨ (v = .non ∧ ∃ x m, xs = x :: m ∧ Wlk (shR (rws rows) h w) xs ∧ stp (shR (rws rows) h w) x = none))) (muW l)
    ⟨[], .ref p3, rfl, s3, ⟨[], l3, .nil⟩, .inl ⟨p3, st0, rfl, PA0, .one⟩⟩ ?_
  rintro De Rt hde hrt σ H4 ⟨xs, v, rfl, s4, L4, cs⟩ Nx hnx
  obtain ⟨as, a1, a2⟩ := id L4
  have al := Paired.length a2
  rw [List.length_reverse] at al
  rcases cs with ⟨t, x, rfl, PA, W⟩ | ⟨rfl, x, m, rfl, W, st⟩
  · refine ⟨_, rfl, rfl, _, rfl, iteTb (by rw [decide_eq_false (fun z => nomatch z)]; rfl) ⟨Nx, fun _ _ z => z, ?_⟩⟩
    have few := (walk_few R W).2
    rw [List.length_cons] at few
    refine ⟨_, rfl, l, _, rfl, a1, _, rfl, _, _, rfl, a1, by rw [List.length_map]; exact small1000 (by omega), ?_⟩
    have k5 : ∀ b' o, H4 b' = some o → b' ≠ l → upd H4 l (.lst (as.map V.ref ++ [.ref t])) b' = some o := fun b' o z n => by rw [upd_ne n]; exact z
    have l5 : upd H4 l (.lst (as.map V.ref ++ [.ref t])) l = some (.lst ((as ++ [t]).map V.ref)) := by rw [upd_same, List.map_append]; rfl
    have s5 : Same H (upd H4 l (.lst (as.map V.ref ++ [.ref t]))) := fun b' o z => k5 _ _ (s4 _ _ z) (ne_of_none z nl)
    have P5 := PA.keep a1 k5
    have L5 : ListPr (upd H4 l (.lst (as.map V.ref ++ [.ref t]))) l (x :: xs).reverse := by
      refine ⟨as ++ [t], l5, ?_⟩
      rw [List.reverse_cons]
      exact Paired.snoc (Paired.mapP a2 fun _ _ z => z.keep a1 k5) P5
    have mu0 : muW l [some (.ref b), some (.ref l), some (.ref t)] H4 = 2 * (1000 - xs.length) + 1 := by
      unfold muW
      rw [a1]
      show 2 * (1000 - (as.map V.ref).length) + 1 = _
      rw [List.length_map, al]
    generalize upd H4 l (.lst (as.map V.ref ++ [.ref t])) = H5 at k5 l5 s5 P5 L5 ⊢
    have nb := (Wlk.vld (by omega) (by omega) W x List.mem_cons_self).nb
    refine ⟨_, rfl, _, rfl, b, t, rows, h, w, x, rfl, Bd.same s5, e0, P5, nb, fun t' y H6 s6 st P6 => ?_, fun H6 s6 st => ?_⟩
    · refine hnx _ _ ⟨x :: xs, .ref t', rfl, s5.trans s6, L5.same s6, .inl ⟨t', y, rfl, P6, .more W st⟩⟩ ?_
      rw [mu0]
      unfold muW
      rw [s6 _ _ l5]
      show 2 * (1000 - ((as ++ [t]).map V.ref).length) + 1 < _
      rw [List.length_map, List.length_append, al]
      show 2 * (1000 - (xs.length + 1)) + 1 < _
      omega
    · refine hnx _ _ ⟨x :: xs, .non, rfl, s5.trans s6, L5.same s6, .inr ⟨rfl, x, xs, rfl, W, st⟩⟩ ?_
      rw [mu0]
      unfold muW
      rw [s6 _ _ l5]
      show 2 * (1000 - ((as ++ [t]).map V.ref).length) + 0 < _
      rw [List.length_map, List.length_append, al]
      show 2 * (1000 - (xs.length + 1)) + 0 < _
      omega
  · refine ⟨_, rfl, rfl, _, rfl, iteFb (by rw [decide_eq_true rfl]; rfl) (hde _ _ ?_)⟩
    exact ⟨_, rfl, q l _ H4 s4 nl e0 L4 ⟨x, m, rfl, W, st⟩⟩
end
end Sw

set_option linter.all false
set_option maxRecDepth 100000
set_option maxHeartbeats 400000
namespace Sw
open PySem L2 Sh
section
variable {P : Program} {w : World} {K : PySem.W.Frag} {mg : Str → Option Value} {base : Heap}
theorem sc_l_met : FnScope ["board", "e"] ["board"] (defScope s_l_met) := ⟨rfl, rfl, rfl, by decide +kernel, rfl, by decide +kernel, by decide +kernel⟩
def sp_l_met (C : Addr) : Sp := fun vs H Q _ => ∃ (b : Addr) (rows : List Str) (h w : Nat), vs = [.ref b] ∧ BoardAt C H b rows h w ∧
  (∀ l xs H', Same H H' → H l = none → (emp h w (rws rows)).length = 0 → ListPr H' l xs → IsWalk (rws rows) h w xs → Q (.ref l) H') ∧ ∀ H', Same H H' → 0 < (emp h w (rws rows)).length → Q (.bl true) H'
theorem ok_l_met {C N S : Addr} (B : Bt mg) (mN : mg "NotFull" = some (.ref N)) (mS : mg "ShoreError" = some (.ref S)) (x1 : PySem.W.exmOne K (.ref N) (.ref N) = some true) (y1 : PySem.W.kitOne K (.ref N) (.ref S) = some true) (d_walk : DefX P w K mg base 4 "walk" ["board"] (sp_walk C N)) (F : Fn K mg "_law_met" s_l_met) : Def P w K mg base 5 "_law_met" ["board"] (sp_l_met C) := by
  refine Def.by F sc_l_met (fun _ _ _ _ _ _ us hl => match us, hl with | [_], _ => rfl) (fun vs H Q E h => ?_) (fun f cdv A outer s H vs Q E hr h => ?_)
  · obtain ⟨b, rows, h, w, rfl, _⟩ := h
    rfl
  obtain ⟨b, rows, h, w, rfl, Bd, qf, qe⟩ := h
  refine ⟨_, qss_one (qs_tryAs 1 sc_l_met.nd mN (qys_one (qy_ret (qx_call d_walk hr (qa_cons (qv 0) qa_nil)))) (fun x => qss_one (qs_ret (qe_callB (call_isXCK K (C := S)) B.isinst PyProof.Rows.boot_isinstance (qa_cons (qv 1) (qa_cons (qe_glob (v := .ref S) mS rfl) qa_nil)))))), ?_⟩
  refine ⟨_, rfl, b, rows, h, w, rfl, Bd, qf, fun H1 s1 pos => ⟨x1, fun x hx => ?_⟩⟩
  exact ⟨_, rfl, x, _, rfl, upd_same, y1, qe _ (s1.upd hx) pos⟩
end
end Sw

set_option linter.all false
set_option maxRecDepth 100000
set_option maxHeartbeats 400000
namespace Sw
open PySem L2 Sh
section
variable {P : Program} {w : World} {K : PySem.W.Frag} {mg : Str → Option Value} {base : Heap}
theorem sc_l_owner : FnScope ["rows", "place", "height", "width", "r", "c"] ["rows", "place"] (defScope s_l_owner) := ⟨rfl, rfl, rfl, by decide +kernel, rfl, by decide +kernel, by decide +kernel⟩
/-- the letter of whose place it is, or nothing -/
def ownS : Option Bool → Str
  | some true => ⟨#[110]⟩
  | some false => ⟨#[119]⟩
  | none => ""
def sp_l_owner : Sp := fun vs H Q _ => ∃ (a t : Addr) (rows : List Str) (h w : Nat) (p : Pl), vs = [.ref a, .ref t] ∧ H a = some (.lst (rows.map V.str)) ∧ Rect (rws rows) h w ∧ (emp h w (rws rows)).length = 0 ∧ TupAt H t p ∧ ∀ H', Same H H' → Q (.str (ownS (shR (rws rows) h w p))) H'
theorem ok_l_owner (B : Bt mg) (F : Fn K mg "_law_owner" s_l_owner) : Def P w K mg base 1 "_law_owner" ["rows", "place"] sp_l_owner := by
  refine Def.by F sc_l_owner (fun _ _ _ _ _ _ us hl => match us, hl with | [_, _], _ => rfl) (fun vs H Q E h => ?_) (fun f cdv A outer s H vs Q E hr h => ?_)
  · obtain ⟨a, t, rows, h, w, p, rfl, _⟩ := h
    rfl
  obtain ⟨a, t, rows, h, w, ⟨r, c⟩, rfl, ha, R, e0, tp, q⟩ := h
  have tp : H t = some (.tup [.int r, .int c]) := tp
  have h1 := R.h1
  have h9 := R.h9
  have w1 := R.w1
  have w9 := R.w9
  have t2 : 2 ≤ sizeLine := by decide
  have hlen : rows.length = h := by have := R.len; rwa [List.length_map] at this
  obtain ⟨r0, hr0⟩ : ∃ r0, rows[0]? = some r0 := ⟨rows[0]'(by omega), List.getElem?_eq_getElem (by omega)⟩
  have l0 : r0.length = w := row_len R (List.mem_of_getElem? hr0)
  refine split_at 3 (fun D t' => ∀ H', Same H H' → ¬ (0 ≤ r ∧ r < h ∧ 0 ≤ c ∧ c < w) → t' D [some (.ref a), some (.ref t), some (.int h), some (.int w), some (.int r), some (.int c)] H') ?_ fun t' hq ht => ?_
  · refine ⟨_, qss_cons (qs_if (qt_cmp (op_inDK K hr.u65) (qe_tup (qa_cons (qv 4) (qa_cons (qv 5) qa_nil))) (qe_op op_cat (qe_lcomp ["x"] [] [] (qi_range1 B.range (qa_cons (qe_op op_add (qv 3) qe_int) qa_nil)) (fun _ _ _ _ => qg_name 0 (by show List.Nodup ([("x" : Str)] ++ []); decide +kernel)) (fun _ _ _ _ => qts_nil) (fun _ _ _ _ => qe_tup (qa_cons (qe_un un_neg qe_int) (qa_cons (qv 0) qa_nil)))) (qe_lcomp ["x"] ["height"] [2] (qi_range2 B.range (qa_cons (qe_un un_neg qe_int) (qa_cons (qv 3) qa_nil))) (fun _ _ _ _ => qg_name 0 (by show List.Nodup ([("x" : Str)] ++ [("height" : Str)]); decide +kernel)) (fun _ _ _ _ => qts_nil) (fun _ _ _ _ => qe_tup (qa_cons (qv 1) (qa_cons (qv 0) qa_nil)))))) (qss_one (qs_ret qe_str)) qss_nil)
    (qss_cons (qs_if (qt_w (qw_and (qt_chain op_le op_lt qe_int (qv 4) (qv 2)) (qw_and1 (qt_w (qw_or (qt_cmp op_eq (qv 5) (qe_un un_neg qe_int)) (qw_or1 (qt_cmp op_eq (qv 5) (qv 3)))))))) (qss_one (qs_ret qe_str)) qss_nil)
    (qss_one (qs_ret qe_str))), fun H1 s1 nib => ?_⟩
    refine ⟨_, rfl, _, rfl, t2, fun u hu => ?_⟩
    have s2 := s1.upd (o := .tup [.int r, .int c]) hu
    have u2 := upd_same (H := H1) (a := u) (o := .tup [.int r, .int c])
    generalize upd H1 u (.tup [.int r, .int c]) = H2 at s2 u2 ⊢
    refine ⟨_, rfl, _, _, rfl, rfl, (w : Int) + 1, rfl, by omega, by omega, fun m hm => ?_⟩
    rw [show ((w : Int) + 1) = ((w + 1 : Nat) : Int) by omega, Int.toNat_natCast]
    refine comp_goes goes_range (fun j ys σ H' => (∃ v, σ = [v]) ∧ Same H2 H' ∧ H' m = some (.lst ys) ∧ ∃ bs : List Addr, ys = bs.map V.ref ∧ Paired (TupAt H') bs ((List.range j).map fun (x : Nat) => ((-1 : Int), (x : Int))))
      ⟨⟨_, rfl⟩, same_upd hm, upd_same, [], rfl, .nil⟩ (fun j ys σ H' _ z => ⟨trivial, z.2.2.1⟩) ?_ ?_
    · rintro j x' ys σ H3 hj hy ⟨⟨v, rfl⟩, sm, hm2, bs, rfl, pr2⟩
      subst hy
      have lb : bs.length ≤ 10 := by
        rw [Paired.length pr2, List.length_map, List.length_range]
        omega
      refine ⟨_, rfl, _, rfl, t2, fun t ht => ?_⟩
      refine ⟨by rw [upd_ne (ne_of_none hm2 ht)]; exact hm2, by rw [List.length_map]; exact small1000 (by omega), cnx hj ⟨⟨_, rfl⟩, fun b' o z => ?_, upd_same, bs ++ [t], by rw [List.map_append]; rfl, ?_⟩⟩
      · rw [upd_ne (ne_of_none z hm)]
        exact (sm.upd ht) _ _ z
      · rw [List.range_succ, List.map_append]
        refine Paired.snoc (Paired.mapP pr2 fun a' p' z => ?_) ?_
        · have z' : H3 a' = some _ := z
          show upd (upd H3 t _) m _ a' = _
          rw [upd_ne (ne_of z' hm2 (fun y => nomatch y)), upd_ne (ne_of_none z' ht)]
          exact z'
        · show upd (upd H3 t _) m _ t = _
          rw [upd_ne (ne_of_none hm2 ht).symm, upd_same, Int.zero_add]
    · rintro ys σ H3 ⟨_, sm3, hm3, bs, rfl, pr3⟩
      refine ⟨_, rfl, _, rfl, -1, (w : Int), rfl, ⟨by omega, by omega, by omega, by omega⟩, fun m4 hm4 => ?_⟩
      rw [show ((w : Int) - -1) = ((w + 1 : Nat) : Int) by omega, Int.toNat_natCast]
      refine comp_goes goes_range (fun j ys σ H' => (∃ v, σ = [v, some (.int h)]) ∧ Same H3 H' ∧ H' m4 = some (.lst ys) ∧ ∃ bs : List Addr, ys = bs.map V.ref ∧ Paired (TupAt H') bs ((List.range j).map fun (x : Nat) => ((h : Int), -1 + (x : Int))))
        ⟨⟨_, rfl⟩, same_upd hm4, upd_same, [], rfl, .nil⟩ (fun j ys σ H' _ z => ⟨trivial, z.2.2.1⟩) ?_ ?_
      · rintro j x' ys σ H4 hj hy ⟨⟨v, rfl⟩, sm, hm2, bs, rfl, pr2⟩
        subst hy
        have lb : bs.length ≤ 10 := by
          rw [Paired.length pr2, List.length_map, List.length_range]
          omega
        refine ⟨_, rfl, _, rfl, t2, fun t ht => ?_⟩
        refine ⟨by rw [upd_ne (ne_of_none hm2 ht)]; exact hm2, by rw [List.length_map]; exact small1000 (by omega), cnx hj ⟨⟨_, rfl⟩, fun b' o z => ?_, upd_same, bs ++ [t], by rw [List.map_append]; rfl, ?_⟩⟩
        · rw [upd_ne (ne_of_none z hm4)]
          exact (sm.upd ht) _ _ z
        · rw [List.range_succ, List.map_append]
          refine Paired.snoc (Paired.mapP pr2 fun a' p' z => ?_) ?_
          · have z' : H4 a' = some _ := z
            show upd (upd H4 t _) m4 _ a' = _
            rw [upd_ne (ne_of z' hm2 (fun y => nomatch y)), upd_ne (ne_of_none z' ht)]
            exact z'
          · show upd (upd H4 t _) m4 _ t = _
            rw [upd_ne (ne_of_none hm2 ht).symm, upd_same]
      · rintro ys σ H4 ⟨_, sm4, hm4', cs, rfl, pr4⟩
        have lb3 : bs.length = w + 1 := by rw [Paired.length pr3, List.length_map, List.length_range]
        have lb4 : cs.length = w + 1 := by rw [Paired.length pr4, List.length_map, List.length_range]
        refine ⟨m, m4, _, _, rfl, rfl, sm4 _ _ hm3, hm4', by rw [List.length_map, List.length_map, lb3, lb4]; exact le_line (by omega), fun m5 hm5 => ?_⟩
        have s5 := same_upd (o := .lst (bs.map V.ref ++ cs.map V.ref)) hm5
        have L5 : ListPl (upd H4 m5 (.lst (bs.map V.ref ++ cs.map V.ref))) m5 (((List.range (w + 1)).map fun (x : Nat) => ((-1 : Int), (x : Int))) ++ (List.range (w + 1)).map fun (x : Nat) => ((h : Int), -1 + (x : Int))) :=
          ⟨bs ++ cs, by rw [upd_same, List.map_append], paired_same s5 (paired_app (paired_same sm4 pr3) pr4)⟩
        have s25 := sm3.trans (sm4.trans s5)
        have s15 := s2.trans s25
        have u5 := s25 _ _ u2
        generalize upd H4 m5 (.lst (bs.map V.ref ++ cs.map V.ref)) = H5 at L5 s25 s15 u5 ⊢
        refine ⟨_, _, rds_place (p := (r, c)) u5, L5.rds, shaped_pair _, shaped_pairs _, _, rfl, ?_⟩
        have mem : (r, c) ∈ (((List.range (w + 1)).map fun (x : Nat) => ((-1 : Int), (x : Int))) ++ (List.range (w + 1)).map fun (x : Nat) => ((h : Int), -1 + (x : Int))) ↔ (r = -1 ∧ 0 ≤ c ∧ c ≤ w) ∨ (r = h ∧ -1 ≤ c ∧ c < w) := by
          rw [List.mem_append, List.mem_map, List.mem_map]
          constructor
          · rintro (⟨x, hx, e⟩ | ⟨x, hx, e⟩)
            · have hx := List.mem_range.mp hx
              injection e with e1 e2
              omega
            · have hx := List.mem_range.mp hx
              injection e with e1 e2
              omega
          · rintro (⟨e1, e2, e3⟩ | ⟨e1, e2, e3⟩)
            · exact .inl ⟨c.toNat, List.mem_range.mpr (by omega), by rw [e1, Int.toNat_of_nonneg e2]⟩
            · exact .inr ⟨(c + 1).toNat, List.mem_range.mpr (by omega), by rw [e1, Int.toNat_of_nonneg (by omega)]; congr 1; omega⟩
        rw [any_pairs]
        have q5 := q H5 s15
        by_cases n : (r = -1 ∧ 0 ≤ c ∧ c ≤ w) ∨ (r = h ∧ -1 ≤ c ∧ c < w)
        · refine iteTb (decide_eq_true (mem.mpr n)) ?_
          have hs : shR (rws rows) h w (r, c) = some true := by
            unfold shR shK
            rw [if_neg (by simp only; omega), if_pos (by simp only; omega)]
          rw [hs] at q5
          rw [n_eq]
          exact q5
        refine iteFb (decide_eq_false fun z => n (mem.mp z)) ?_
        have nn : ¬ (0 ≤ r ∧ r < h ∧ (c = -1 ∨ c = w)) → ownS (shR (rws rows) h w (r, c)) = "" := fun ww => by
          have hs : shR (rws rows) h w (r, c) = none := by
            unfold shR shK
            by_cases g : 0 ≤ r ∧ r < (h : Int)
            · rw [if_pos g, if_neg (by simp only; omega), if_neg (by simp only; omega)]
            · rw [if_neg g, if_neg (by simp only; omega)]
          rw [hs]
          rfl
        have yy : 0 ≤ r ∧ r < h ∧ (c = -1 ∨ c = w) → ownS (shR (rws rows) h w (r, c)) = ⟨#[119]⟩ := fun ww => by
          have hs : shR (rws rows) h w (r, c) = some false := by
            unfold shR shK
            rw [if_pos ⟨ww.1, ww.2.1⟩, if_neg (by simp only; omega), if_pos ww.2.2]
          rw [hs]
          rfl
        refine ⟨_, rfl, _, _, rfl, rfl, _, rfl, ?_⟩
        refine ite2 (fun g1 => ?_) (fun g1 => ⟨_, rfl, iteF (iteF (by rw [nn fun z => g1 (decide_eq_true z.1)] at q5; exact q5))⟩)
        refine ⟨_, rfl, _, _, rfl, rfl, _, rfl, ?_⟩
        refine ite2 (fun g2 => ?_) (fun g2 => iteF (by rw [nn fun z => g2 (decide_eq_true z.2.1)] at q5; exact q5))
        have g1 := of_decide_eq_true g1
        have g2 := of_decide_eq_true g2
        refine ⟨_, rfl, _, rfl, rfl, _, rfl, ?_⟩
        refine ite2 (fun g3 => iteT ?_) (fun g3 => ?_)
        · have g3 : c = -1 := by have z := of_decide_eq_true g3; injection z
          rw [yy ⟨g1, g2, .inl g3⟩] at q5
          rw [w_eq]
          exact q5
        have g3 : c ≠ -1 := fun z => g3 (decide_eq_true (by rw [z]))
        refine ⟨_, rfl, _, rfl, rfl, _, rfl, ?_⟩
        refine ite2 (fun g4 => ?_) (fun g4 => ?_)
        · have g4 : c = w := by have z := of_decide_eq_true g4; injection z
          rw [yy ⟨g1, g2, .inr g4⟩] at q5
          rw [w_eq]
          exact q5
        · have g4 : c ≠ w := fun z => g4 (decide_eq_true (by rw [z]))
          rw [nn fun z => z.2.2.elim g3 g4] at q5
          exact q5
  · refine ⟨_, qss_cons (qs_asg (qe_tup (qa_cons (qe_callB call_len0 B.len PySem.boot_len (qa_cons (qv 0) qa_nil)) (qa_cons (qe_callB call_len_str B.len PySem.boot_len (qa_cons (qe_ix ix_list0 (qv 0) qe_int) qa_nil)) qa_nil))) (qg_tupK K (qgs_cons (qg_name 2 sc_l_owner.nd) (qgs_cons (qg_name 3 sc_l_owner.nd) qgs_nil))))
    (qss_cons (qs_asg (qv 1) (qg_tupK K (qgs_cons (qg_name 4 sc_l_owner.nd) (qgs_cons (qg_name 5 sc_l_owner.nd) qgs_nil))))
    (qss_cons (qs_if (qt_w (qw_and (qt_chain op_le op_lt qe_int (qv 4) (qv 2)) (qw_and1 (qt_chain op_le op_lt qe_int (qv 5) (qv 3))))) (qss_one (qs_ret (qe_ix ix_str (qe_ix ix_list0 (qv 0) (qv 4)) (qv 5)))) qss_nil) hq)), ?_⟩
    refine ⟨_, rfl, a, _, rfl, ha, _, rfl, a, _, 0, .str r0, rfl, rfl, ha, atI_of (by decide) (by rw [List.getElem?_map]; simp only [Int.toNat_zero]; rw [hr0]; rfl), r0, rfl, le_line (by omega), t2, fun p0 hp0 => ?_⟩
    refine ⟨p0, _, rfl, SqT.of upd_same, rfl, _, _, rfl, _, _, rfl, rfl, ?_⟩
    rw [List.length_map, hlen, l0]
    have s1 := same_upd (o := .tup [.int h, .int w]) hp0
    generalize upd H p0 (.tup [.int h, .int w]) = H1 at s1 ⊢
    refine ⟨_, rfl, t, _, rfl, SqT.of (s1 _ _ tp), rfl, _, _, rfl, _, _, rfl, rfl, ?_⟩
    refine ⟨_, rfl, _, _, rfl, rfl, _, rfl, ?_⟩
    refine ite2 (fun g1 => ?_) (fun g1 => ⟨_, rfl, iteF (iteF (ht H1 s1 fun z => g1 (decide_eq_true z.1)))⟩)
    refine ⟨_, rfl, _, _, rfl, rfl, _, rfl, ?_⟩
    refine ite2 (fun g2 => ?_) (fun g2 => iteF (ht H1 s1 fun z => g2 (decide_eq_true z.2.1)))
    refine ⟨_, rfl, _, _, rfl, rfl, _, rfl, ?_⟩
    refine ite2 (fun g3 => ?_) (fun g3 => ⟨_, rfl, iteF (ht H1 s1 fun z => g3 (decide_eq_true z.2.2.1))⟩)
    refine ⟨_, rfl, _, _, rfl, rfl, _, rfl, ?_⟩
    refine ite2 (fun g4 => ?_) (fun g4 => ht H1 s1 fun z => g4 (decide_eq_true z.2.2.2))
    have ib : 0 ≤ r ∧ r < h ∧ 0 ≤ c ∧ c < w := ⟨of_decide_eq_true g1, of_decide_eq_true g2, of_decide_eq_true g3, of_decide_eq_true g4⟩
    obtain ⟨row, ch, e1, e2, e3, e4⟩ := cell_in R (show inB h w (r, c) from ib)
    refine ⟨_, rfl, _, rfl, a, _, r, .str row, rfl, rfl, s1 _ _ ha, atI_of ib.1 (by rw [List.getElem?_map, e1]; rfl), _, rfl, row, c, ch, rfl, rfl, le_line (by omega), atI_of ib.2.2.1 e2, ?_⟩
    have q1 := q H1 s1
    have hs : shR (rws rows) h w (r, c) = some (decide (at2 (rws rows) (r, c) = some 110)) := by
      unfold shR shK
      rw [if_pos ⟨ib.1, ib.2.1⟩, if_pos ⟨ib.2.2.1, ib.2.2.2⟩]
      rfl
    rw [hs, e3] at q1
    rcases full_sg R e0 e3 with rfl | rfl
    · rw [decide_eq_true rfl] at q1
      exact q1
    · rw [decide_eq_false (by decide)] at q1
      exact q1
end
end Sw

set_option linter.all false
set_option maxRecDepth 100000
set_option maxHeartbeats 400000
namespace Sw
open PySem L2 Sh
section
variable {P : Program} {w : World} {K : PySem.W.Frag} {mg : Str → Option Value} {base : Heap}
theorem sc_l_due : FnScope ["rows", "steps", "one", "two", "found", "turn", "k", "step", "ahead", "hand"] ["rows"] (defScope s_l_due) := ⟨rfl, rfl, rfl, by decide +kernel, rfl, by decide +kernel, by decide +kernel⟩
def sp_l_due : Sp := fun vs H Q _ => ∃ (a : Addr) (rows : List Str) (h w : Nat), vs = [.ref a] ∧ H a = some (.lst (rows.map V.str)) ∧ Rect (rws rows) h w ∧ (emp h w (rws rows)).length = 0 ∧ ∀ l xs H', Same H H' → ListPr H' l xs → IsWalk (rws rows) h w xs → Q (.ref l) H'
theorem dir_idx {c p : Pl} (nb : Nb c p) : ∃ j δ, j < 6 ∧ dirs[j]? = some (p.1 - c.1, p.2 - c.2) ∧ (∀ m q, m < j → dirs[m]? = some q → q ≠ (p.1 - c.1, p.2 - c.2)) ∧ dirs[(j + 1) % 6]? = some δ ∧ (c.1 + δ.1, c.2 + δ.2) = ahd (p, c) := by
  obtain ⟨j, j6, ej, no, ea⟩ := nb_idx nb
  rw [nbs_dirs] at ej ea no
  have at_ : ∀ {i : Nat} {q : Pl}, (dirs.map fun d => (c.1 + d.1, c.2 + d.2))[i]? = some q → ∃ δ, dirs[i]? = some δ ∧ (c.1 + δ.1, c.2 + δ.2) = q := fun {i q} e => by
    rw [List.getElem?_map] at e
    cases e1 : dirs[i]? with
    | none => rw [e1] at e; cases e
    | some δ => rw [e1] at e; exact ⟨δ, rfl, Option.some.inj e⟩
  obtain ⟨δ, d1, d2⟩ := at_ ej
  obtain ⟨ε, d3, d4⟩ := at_ ea
  have ed : δ = (p.1 - c.1, p.2 - c.2) := by
    obtain ⟨δ1, δ2⟩ := δ
    rw [← d2]
    show (δ1, δ2) = (c.1 + δ1 - c.1, c.2 + δ2 - c.2)
    congr 1 <;> omega
  refine ⟨j, ε, j6, by rw [d1, ed], fun m q hm hq z => ?_, d3, d4⟩
  refine no m (c.1 + q.1, c.2 + q.2) hm (by rw [List.getElem?_map, hq]; rfl) ?_
  rw [z]
  show (c.1 + (p.1 - c.1), c.2 + (p.2 - c.2)) = p
  obtain ⟨p1, p2⟩ := p
  congr 1 <;> simp only <;> omega
theorem own_e {k : Option Bool} : decide (V.str (ownS k) = V.str "") = decide (k = none) := by
  rcases k with _ | _ | _ <;> decide +kernel
theorem own_n {k : Bool} : decide (V.str (ownS (some k)) = V.str "n") = k := by
  cases k <;> decide +kernel
theorem ok_l_due (B : Bt mg) (d_l_owner : Def P w K mg base 1 "_law_owner" ["rows", "place"] sp_l_owner) (F : Fn K mg "_law_due" s_l_due) : Def P w K mg base 2 "_law_due" ["rows"] sp_l_due := by
  refine Def.by F sc_l_due (fun _ _ _ _ _ _ us hl => match us, hl with | [_], _ => rfl) (fun vs H Q E h => ?_) (fun f cdv A outer s H vs Q E hr h => ?_)
  · obtain ⟨a, rows, h, w, rfl, _⟩ := h
    rfl
  obtain ⟨a, rows, h, w, rfl, ha, R, e0, q⟩ := h
  have h1 := R.h1
  have h9 := R.h9
  have w1 := R.w1
  have w9 := R.w9
  have t2 : 2 ≤ sizeLine := by decide
  have hlen : rows.length = h := by have := R.len; rwa [List.length_map] at this
  obtain ⟨r0, hr0⟩ : ∃ r0, rows[0]? = some r0 := ⟨rows[0]'(by omega), List.getElem?_eq_getElem (by omega)⟩
  have l0 : r0.length = w := row_len R (List.mem_of_getElem? hr0)
  refine ⟨_, qss_cons (qs_set 1 sc_l_due.nd (qe_lst (qa_cons (qe_tup (qa_cons (qe_un un_neg qe_int) (qa_cons qe_int qa_nil))) (qa_cons (qe_tup (qa_cons (qe_un un_neg qe_int) (qa_cons qe_int qa_nil))) (qa_cons (qe_tup (qa_cons qe_int (qa_cons qe_int qa_nil))) (qa_cons (qe_tup (qa_cons qe_int (qa_cons qe_int qa_nil))) (qa_cons (qe_tup (qa_cons qe_int (qa_cons (qe_un un_neg qe_int) qa_nil))) (qa_cons (qe_tup (qa_cons qe_int (qa_cons (qe_un un_neg qe_int) qa_nil))) qa_nil))))))))
    (qss_cons (qs_asg (qe_tup (qa_cons (qe_tup (qa_cons (qe_un un_neg qe_int) (qa_cons qe_int qa_nil))) (qa_cons (qe_tup (qa_cons qe_int (qa_cons (qe_un un_neg qe_int) qa_nil))) qa_nil))) (qg_tupK K (qgs_cons (qg_name 2 sc_l_due.nd) (qgs_cons (qg_name 3 sc_l_due.nd) qgs_nil))))
    (qss_cons (qs_set 4 sc_l_due.nd (qe_lst (qa_cons (qe_tup (qa_cons (qv 2) (qa_cons (qv 3) qa_nil))) qa_nil)))
    (qss_cons (qs_for (qi_range1 B.range (qa_cons (qe_op op_mul (qe_op op_mul qe_int (qe_op op_add (qe_callB call_len0 B.len PySem.boot_len (qa_cons (qv 0) qa_nil)) qe_int)) (qe_op op_add (qe_callB call_len_str B.len PySem.boot_len (qa_cons (qe_ix ix_list0 (qv 0) qe_int) qa_nil)) qe_int)) qa_nil)) (qg_name 5 sc_l_due.nd) (qss_cons (qs_set 6 sc_l_due.nd (qe_bmK K PySem.F.plainAttrs_list PySem.F.slot_list_index PySem.F.type_list_index (mt_indexD K hr.u65) (qv 1) (qa_cons (qe_tup (qa_cons (qe_op op_sub (qe_ix ix_tup0 (qv 2) qe_int) (qe_ix ix_tup0 (qv 3) qe_int)) (qa_cons (qe_op op_sub (qe_ix ix_tup0 (qv 2) qe_int) (qe_ix ix_tup0 (qv 3) qe_int)) qa_nil))) qa_nil)))
    (qss_cons (qs_set 7 sc_l_due.nd (qe_ix ix_list0 (qv 1) (qe_op op_mod (qe_op op_add (qv 6) qe_int) qe_int)))
    (qss_cons (qs_set 8 sc_l_due.nd (qe_tup (qa_cons (qe_op op_add (qe_ix ix_tup0 (qv 3) qe_int) (qe_ix ix_tup0 (qv 7) qe_int)) (qa_cons (qe_op op_add (qe_ix ix_tup0 (qv 3) qe_int) (qe_ix ix_tup0 (qv 7) qe_int)) qa_nil))))
    (qss_cons (qs_set 9 sc_l_due.nd (qe_callD d_l_owner hr (qa_cons (qv 0) (qa_cons (qv 8) qa_nil))))
    (qss_cons (qs_if (qt_cmp op_eq (qv 9) qe_str) (qss_one (qs_ret (qv 4))) qss_nil)
    (qss_cons (qs_if (qt_cmp op_eq (qv 9) qe_str) (qss_one (qs_set 2 sc_l_due.nd (qv 8))) (qss_one (qs_set 3 sc_l_due.nd (qv 8))))
    (qss_one (qs_expr (qe_app (qv 4) (qe_tup (qa_cons (qv 2) (qa_cons (qv 3) qa_nil)))))))))))))
    (qss_one (qs_ret (qe_lst qa_nil)))))), ?_⟩
  refine ⟨_, rfl, t2, fun p1 hp1 => ⟨_, rfl, t2, fun p2 hp2 => ⟨t2, fun p3 hp3 => ⟨t2, fun p4 hp4 => ⟨_, rfl, t2, fun p5 hp5 => ⟨_, rfl, t2, fun p6 hp6 => ⟨(by show 6 ≤ sizeLine; decide), fun ls hls => ?_⟩⟩⟩⟩⟩⟩⟩
  have k7 := same_upd (o := .lst [.ref p1, .ref p2, .ref p3, .ref p4, .ref p5, .ref p6]) hls
  have k6 := (same_upd (o := .tup [.int 0, .int (-1)]) hp6).trans k7
  have k5 := (same_upd (o := .tup [.int 1, .int (-1)]) hp5).trans k6
  have k4 := (same_upd (o := .tup [.int 1, .int 0]) hp4).trans k5
  have k3 := (same_upd (o := .tup [.int 0, .int 1]) hp3).trans k4
  have k2 := (same_upd (o := .tup [.int (-1), .int 1]) hp2).trans k3
  have k1 := (same_upd (o := .tup [.int (-1), .int 0]) hp1).trans k2
  have LS : ListPl (upd (upd (upd (upd (upd (upd (upd H p1 (.tup [.int (-1), .int 0])) p2 (.tup [.int (-1), .int 1])) p3 (.tup [.int 0, .int 1])) p4 (.tup [.int 1, .int 0])) p5 (.tup [.int 1, .int (-1)])) p6 (.tup [.int 0, .int (-1)])) ls (.lst [.ref p1, .ref p2, .ref p3, .ref p4, .ref p5, .ref p6])) ls dirs :=
    ⟨[p1, p2, p3, p4, p5, p6], upd_same, .cons (k2 _ _ upd_same) (.cons (k3 _ _ upd_same) (.cons (k4 _ _ upd_same) (.cons (k5 _ _ upd_same) (.cons (k6 _ _ upd_same) (.cons (k7 _ _ upd_same) .nil)))))⟩
  generalize upd (upd (upd (upd (upd (upd (upd H p1 (.tup [.int (-1), .int 0])) p2 (.tup [.int (-1), .int 1])) p3 (.tup [.int 0, .int 1])) p4 (.tup [.int 1, .int 0])) p5 (.tup [.int 1, .int (-1)])) p6 (.tup [.int 0, .int (-1)])) ls (.lst [.ref p1, .ref p2, .ref p3, .ref p4, .ref p5, .ref p6]) = H1 at k1 LS ⊢
  clear k2 k3 k4 k5 k6 k7
  have LS0 := LS
  refine ⟨_, rfl, t2, fun o1 ho1 => ⟨_, rfl, t2, fun o2 ho2 => ⟨t2, fun o0 ho0 => ⟨o0, _, rfl, SqT.of upd_same, rfl, _, _, rfl, _, _, rfl, rfl, ?_⟩⟩⟩⟩
  have j0 := same_upd (o := .tup [.ref o1, .ref o2]) ho0
  have j2 := (same_upd (o := .tup [.int 0, .int (-1)]) ho2).trans j0
  have j1 := (same_upd (o := .tup [.int (-1), .int 0]) ho1).trans j2
  have T1 : TupAt (upd (upd (upd H1 o1 (.tup [.int (-1), .int 0])) o2 (.tup [.int 0, .int (-1)])) o0 (.tup [.ref o1, .ref o2])) o1 st0.1 := j2 _ _ upd_same
  have T2 : TupAt (upd (upd (upd H1 o1 (.tup [.int (-1), .int 0])) o2 (.tup [.int 0, .int (-1)])) o0 (.tup [.ref o1, .ref o2])) o2 st0.2 := j0 _ _ upd_same
  generalize upd (upd (upd H1 o1 (.tup [.int (-1), .int 0])) o2 (.tup [.int 0, .int (-1)])) o0 (.tup [.ref o1, .ref o2]) = H2 at j1 T1 T2 ⊢
  clear j2 j0
  refine ⟨_, rfl, _, rfl, t2, fun o3 ho3 => ⟨(by show 1 ≤ sizeLine; decide), fun l hl => ?_⟩⟩
  have m2 := same_upd (o := .lst [.ref o3]) hl
  have m1 := (same_upd (o := .tup [.ref o1, .ref o2]) ho3).trans m2
  have L3 : ListPr (upd (upd H2 o3 (.tup [.ref o1, .ref o2])) l (.lst [.ref o3])) l [st0] := ⟨[o3], upd_same, .cons ⟨o1, o2, m2 _ _ upd_same, m1 _ _ T1, m1 _ _ T2⟩ .nil⟩
  have nl1 : H1 l = none := j1.free ((same_upd ho3).free hl)
  have nl : H l = none := k1.free nl1
  have T1 := m1 _ _ T1
  have T2 := m1 _ _ T2
  have s3 := k1.trans (j1.trans m1)
  have LS := LS.same (j1.trans m1)
  have lsl : ls ≠ l := by
    obtain ⟨_, z, _⟩ := LS0
    exact ne_of_none z nl1
  generalize upd (upd H2 o3 (.tup [.ref o1, .ref o2])) l (.lst [.ref o3]) = H3 at L3 T1 T2 s3 LS ⊢
  clear m1 m2 j1
  refine ⟨_, rfl, a, _, rfl, s3 _ _ ha, _, _, rfl, rfl, _, _, rfl, rfl, .inl ⟨by decide, by decide⟩, _, rfl, a, _, 0, .str r0, rfl, rfl, s3 _ _ ha, atI_of (by decide) (by rw [List.getElem?_map]; simp only [Int.toNat_zero]; rw [hr0]; rfl), r0, rfl, le_line (by omega), _, _, rfl, rfl, _, _, rfl, rfl, ?_, ?_⟩
  · exact .inr ⟨by omega, by omega⟩
  have m0 : 0 ≤ 7 * ((h : Int) + 2) * ((w : Int) + 2) := Int.mul_nonneg (by omega) (by omega)
  have m8 : 7 * ((h : Int) + 2) * ((w : Int) + 2) ≤ 7 * 11 * ((w : Int) + 2) := Int.mul_le_mul_of_nonneg_right (by omega) (by omega)
  refine ⟨7 * ((h : Int) + 2) * ((w : Int) + 2), by rw [List.length_map, hlen, l0], by omega, by omega, ?_⟩
  obtain ⟨n, hn⟩ := Int.eq_ofNat_of_zero_le m0
  rw [hn, Int.toNat_natCast]
  refine for_goesO goes_range (fun i σ H' => ∃ (v5 v6 v7 v8 v9 : Option V) (c1 c2 : Addr) (x : Pr) (m : List Pr), σ = [some (.ref a), some (.ref ls), some (.ref c1), some (.ref c2), some (.ref l), v5, v6, v7, v8, v9] ∧ Same H H' ∧ ListPl H' ls dirs ∧ TupAt H' c1 x.1 ∧ TupAt H' c2 x.2 ∧ ListPr H' l (x :: m).reverse ∧ Wlk (shR (rws rows) h w) (x :: m) ∧ m.length = i)
    ⟨_, _, _, _, _, o1, o2, st0, [], rfl, s3, LS, T1, T2, L3, .one, rfl⟩ (fun _ _ _ _ _ => trivial) ?_ ?_
  · rintro Pw Rt Bk hw hrt i y σ H4 hi hy ⟨v5, v6, v7, v8, v9, c1, c2, x, m, rfl, s4, LS4, t1, t2', L4, W, ml⟩
    subst hy
    have nb := (Wlk.vld (by omega) (by omega) W x List.mem_cons_self).nb
    have few := (walk_few R W).2
    rw [List.length_cons] at few
    obtain ⟨j, δ, j6, ej, no, ed, eδ⟩ := dir_idx nb
    obtain ⟨ss, l1, l2⟩ := id LS4
    have ssl := Paired.length l2
    have t1 : H4 c1 = some (.tup [.int x.1.1, .int x.1.2]) := t1
    have t2' : H4 c2 = some (.tup [.int x.2.1, .int x.2.2]) := t2'
    refine ⟨_, rfl, .inl ⟨rfl, _, SqL.of l1⟩, _, rfl, c1, _, 0, .int x.1.1, rfl, rfl, t1, rfl, _, rfl, c2, _, 0, .int x.2.1, rfl, rfl, t2', rfl, _, _, rfl, rfl, _, rfl, c1, _, 1, .int x.1.2, rfl, rfl, t1, rfl, _, rfl, c2, _, 1, .int x.2.2, rfl, rfl, t2', rfl, _, _, rfl, rfl, t2, fun u hu => ?_⟩
    have s5 := same_upd (o := .tup [.int (x.1.1 - x.2.1), .int (x.1.2 - x.2.2)]) hu
    have u5 := upd_same (H := H4) (a := u) (o := .tup [.int (x.1.1 - x.2.1), .int (x.1.2 - x.2.2)])
    generalize upd H4 u (.tup [.int (x.1.1 - x.2.1), .int (x.1.2 - x.2.2)]) = H5 at s5 u5 ⊢
    refine ⟨ls, .ref u, _, dirs.map pairD, pairD (x.1.1 - x.2.1, x.1.2 - x.2.2), j, rfl, rfl, s5 _ _ l1, rds_paired (paired_same s5 l2), rds_place (p := (x.1.1 - x.2.1, x.1.2 - x.2.2)) u5, shaped_pair _, shaped_pairs _, ⟨pairD (x.1.1 - x.2.1, x.1.2 - x.2.2), by rw [List.getElem?_map, ej]; rfl, by rw [eqv_pair, decide_eq_true rfl]⟩, fun m' z hm hz => ?_, ?_⟩
    · rw [List.getElem?_map] at hz
      cases e' : dirs[m']? with
      | none => rw [e'] at hz; cases hz
      | some r =>
        rw [e'] at hz
        obtain rfl := Option.some.inj hz
        rw [eqv_pair, decide_eq_false (no m' r hm e')]
    obtain ⟨sd, et, htp⟩ := paired_get l2 ed
    have htp : H4 sd = some (.tup [.int δ.1, .int δ.2]) := htp
    refine ⟨_, rfl, _, rfl, _, _, rfl, rfl, _, _, rfl, rfl, (by show (0 : Int) < 6; decide), ls, _, _, .ref sd, rfl, rfl, s5 _ _ l1, atI_of (by omega) (by rw [show ((((j : Nat) : Int) + 1) % 6) = (((j + 1) % 6 : Nat) : Int) by omega, Int.toNat_natCast, List.getElem?_map, et]; rfl), ?_⟩
    refine ⟨_, rfl, c2, _, 0, .int x.2.1, rfl, rfl, s5 _ _ t2', rfl, _, rfl, sd, _, 0, .int δ.1, rfl, rfl, s5 _ _ htp, rfl, _, _, rfl, rfl, _, rfl, c2, _, 1, .int x.2.2, rfl, rfl, s5 _ _ t2', rfl, _, rfl, sd, _, 1, .int δ.2, rfl, rfl, s5 _ _ htp, rfl, _, _, rfl, rfl, t2, fun g hg => ?_⟩
    have s6 := s5.trans (same_upd (o := .tup [.int (x.2.1 + δ.1), .int (x.2.2 + δ.2)]) hg)
    have g6 : TupAt (upd H5 g (.tup [.int (x.2.1 + δ.1), .int (x.2.2 + δ.2)])) g (ahd x) := by
      have e : (x.2.1 + δ.1, x.2.2 + δ.2) = ahd x := eδ
      rw [← e]
      exact upd_same
    generalize upd H5 g (.tup [.int (x.2.1 + δ.1), .int (x.2.2 + δ.2)]) = H6 at s6 g6 ⊢
    have s46 := s4.trans s6
    refine ⟨_, rfl, _, rfl, a, g, rows, h, w, ahd x, rfl, s46 _ _ ha, R, e0, g6, fun H7 s7 => ?_⟩
    have s47 := s6.trans s7
    have s07 := s46.trans s7
    have L7 := L4.same s47
    have g7 : TupAt H7 g (ahd x) := s7 _ _ g6
    obtain ⟨fs, f1, f2⟩ := id L7
    have fl := Paired.length f2
    rw [List.length_reverse, List.length_cons] at fl
    refine ⟨_, rfl, rfl, _, rfl, ?_⟩
    rw [own_e]
    cases hk : shR (rws rows) h w (ahd x) with
    | none =>
      refine iteTb (decide_eq_true rfl) ⟨_, rfl, hrt _ _ (q l _ H7 s07 L7 ⟨x, m, rfl, W, by unfold stp; rw [hk]⟩)⟩
    | some k =>
      refine iteFb (decide_eq_false fun z => nomatch z) ?_
      refine ⟨_, rfl, rfl, _, rfl, ?_⟩
      rw [own_n]
      -- the next pair is told
      have app : ∀ (d1 d2 : Addr) (y : Pr), stp (shR (rws rows) h w) x = some y → TupAt H7 d1 y.1 → TupAt H7 d2 y.2 → ∀ (o : Addr), H7 o = none → ∀ v5 v6 v7 v8 v9, Pw (i + 1) [some (.ref a), some (.ref ls), some (.ref d1), some (.ref d2), some (.ref l), v5, v6, v7, v8, v9] (upd (upd H7 o (.tup [.ref d1, .ref d2])) l (.lst (fs.map V.ref ++ [.ref o]))) := fun d1 d2 y st z1 z2 o ho v5 v6 v7 v8 v9 => by
        have s8 := same_upd (o := .tup [.ref d1, .ref d2]) ho
        have f8 := s8 _ _ f1
        have k9 : ∀ b' o', upd H7 o (.tup [.ref d1, .ref d2]) b' = some o' → b' ≠ l → upd (upd H7 o (.tup [.ref d1, .ref d2])) l (.lst (fs.map V.ref ++ [.ref o])) b' = some o' := fun b' o' z n => by rw [upd_ne n]; exact z
        have tu : ∀ {d : Addr} {p : Pl}, TupAt H7 d p → TupAt (upd (upd H7 o (.tup [.ref d1, .ref d2])) l (.lst (fs.map V.ref ++ [.ref o]))) d p := fun {d p} z => by
          have z8 := s8 _ _ (show H7 d = some _ from z)
          exact k9 _ _ z8 (ne_of z8 f8 fun z => nomatch z)
        obtain ⟨ss7, q1, q2⟩ := LS4.same s47
        refine hw _ _ _ ⟨v5, v6, v7, v8, v9, d1, d2, y, x :: m, rfl, fun b' o' z => k9 _ _ (s8 _ _ (s07 _ _ z)) (ne_of_none z nl), ⟨ss7, k9 _ _ (s8 _ _ q1) lsl, Paired.mapP q2 fun _ _ z => tu z⟩, tu z1, tu z2, ⟨fs ++ [o], by rw [upd_same, List.map_append]; rfl, ?_⟩, .more W st, by rw [List.length_cons, ml]⟩
        rw [List.reverse_cons]
        refine Paired.snoc (Paired.mapP f2 fun _ _ z => (z.same s8).keep f8 k9) ⟨d1, d2, ?_, tu z1, tu z2⟩
        exact k9 _ _ upd_same (ne_of upd_same f8 fun z => nomatch z)
      cases k with
      | true =>
        refine iteT ⟨_, rfl, ?_⟩
        refine ⟨_, rfl, l, _, rfl, f1, _, rfl, _, rfl, t2, fun o ho => ?_⟩
        refine ⟨_, _, rfl, by rw [upd_ne (ne_of_none f1 ho)]; exact f1, by rw [List.length_map]; exact small1000 (by omega), ?_⟩
        exact app g c2 (ahd x, x.2) (by unfold stp; rw [hk]) g7 (s47 _ _ t2') o ho _ _ _ _ _
      | false =>
        refine iteF ⟨_, rfl, ?_⟩
        refine ⟨_, rfl, l, _, rfl, f1, _, rfl, _, rfl, t2, fun o ho => ?_⟩
        refine ⟨_, _, rfl, by rw [upd_ne (ne_of_none f1 ho)]; exact f1, by rw [List.length_map]; exact small1000 (by omega), ?_⟩
        exact app c1 g (x.1, ahd x) (by unfold stp; rw [hk]) (s47 _ _ t1) g7 o ho _ _ _ _ _
  · rintro σ H4 ⟨v5, v6, v7, v8, v9, c1, c2, x, m, rfl, s4, LS4, t1, t2', L4, W, ml⟩
    exfalso
    have few := (walk_few R W).1
    rw [List.length_cons, hn] at few
    omega
end
end Sw

set_option linter.all false
set_option maxRecDepth 100000
set_option maxHeartbeats 400000
namespace Sw
open PySem L2 Sh
section
variable {P : Program} {w : World} {K : PySem.W.Frag} {mg : Str → Option Value} {base : Heap}
/-- the law's own promise: a list of at most 63 ints is handed in, True comes out -/
def sp_law (K : PySem.W.Frag) : Sp := fun vs H Q _ => ∃ (a : Addr) (ns : List Int), vs = [.ref a] ∧ SqL K H a (ns.map V.int) ∧ ns.length ≤ 63 ∧ ∀ H', Q (.bl true) H'
end
end Sw

set_option linter.all false
set_option maxRecDepth 100000
set_option maxHeartbeats 400000
namespace Sw
open PySem L2 Sh
section
variable {P : Program} {w : World} {K : PySem.W.Frag} {mg : Str → Option Value} {base : Heap}
theorem sc_law : FnScope ["script", "height", "width", "rows", "r", "c", "board", "due", "lap", "found", "pair"] ["script"] (defScope s_law) := ⟨rfl, rfl, rfl, by decide +kernel, rfl, by decide +kernel, by decide +kernel⟩
theorem kit_selfT (K : PySem.W.Frag) (T : String) : PySem.W.kitOne K (.type T) (.type T) = some true := by
  unfold PySem.W.kitOne
  rw [if_pos (beq_self_eq_true _)]
theorem full_emp {rr : Rws} {h w : Nat} (R : Rect rr h w) (full : ∀ r ∈ rr, ∀ c ∈ r, c ≠ 46) : (emp h w rr).length = 0 := by
  cases e : emp h w rr with
  | nil => rfl
  | cons p t =>
    exfalso
    have m : p ∈ emp h w rr := by rw [e]; exact List.mem_cons_self
    have z := (mem_emp R).mp m
    obtain ⟨b1, b2, b3, b4⟩ := R.inB z
    unfold at2 at z
    rw [if_pos ⟨b1, b3⟩] at z
    cases e1 : rr[p.1.toNat]? with
    | none => rw [e1] at z; cases z
    | some r =>
      rw [e1] at z
      have z : r[p.2.toNat]? = some 46 := z
      exact full r (List.mem_of_getElem? e1) 46 (List.mem_of_getElem? z) rfl
theorem eqv_list2 (xs : List Pr) : PyData.eqv (.list (xs.map pairD2)) (.list (xs.map pairD2)) = true := by
  simp only [PyData.eqv]
  exact eqv_pairs2 xs
theorem ok_law {C : Addr} (B : Bt mg) (T : BoardC K C) (d_l_cell_at : Def P w K mg base 1 "_law_cell_at" ["script", "k"] (sp_l_cell_at K)) (d_l_size_by : Def P w K mg base 2 "_law_size_by" ["script", "most"] (sp_l_size_by K)) (d_l_rows_by : Def P w K mg base 2 "_law_rows_by" ["script", "height", "width", "full"] (sp_l_rows_by K))
    (d_l_places : Def P w K mg base 2 "_law_places" ["found", "many"] sp_l_places) (M : BrdMk P w K mg base 3 C) (d_l_due : Def P w K mg base 2 "_law_due" ["rows"] sp_l_due) (d_l_met : Def P w K mg base 5 "_law_met" ["board"] (sp_l_met C))
    {f : Addr} {fd : FuncData} (F : Fun K "law" "law" s_law f fd) : FnOk P w K mg base CX0 6 f fd ["script"] (sp_law K) := by
  refine Law.by F sc_law (fun vs H Q E h => ?_) (fun cdv A outer s H vs Q E hr h => ?_)
  · obtain ⟨a, ns, rfl, _⟩ := h
    rfl
  obtain ⟨a, ns, rfl, hS, hlen, q⟩ := h
  have d_l_cell_at := d_l_cell_at.up (k := 5) (by decide)
  have d_l_size_by := d_l_size_by.up (k := 5) (by decide)
  have d_l_rows_by := d_l_rows_by.up (k := 5) (by decide)
  have d_l_places := d_l_places.up (k := 5) (by decide)
  have d_l_due := d_l_due.up (k := 5) (by decide)
  have M := M.up (k := 4) (by decide)
  have t2 : 2 ≤ sizeLine := by decide
  refine split_at 3 (fun D t => ∀ (l : Addr) (rows : List Str) (h w : Nat) (H' : Hp), Same H H' → H' l = some (.lst (rows.map V.str)) → RowsOk rows h w true → t D [some (.ref a), some (.int h), some (.int w), some (.ref l), none, none, none, none, none, none, none] H') ?_ fun t hq ht => ?_
  · refine ⟨_, qss_cons (qs_set 6 sc_law.nd (qe_board M hr (qa_cons (qe_callTy (call_list_ofK K) B.list PyProof.Rows.boot_list (qa_cons (qv 3) qa_nil)) qa_nil)))
    (qss_cons (qs_set 7 sc_law.nd (qe_callD d_l_due hr (qa_cons (qv 3) qa_nil)))
    (qss_cons (qs_for (qi_range1 B.range (qa_cons qe_int qa_nil)) (qg_name 8 sc_law.nd) (qss_cons (qs_set 9 sc_law.nd (qe_callD d_l_met hr (qa_cons (qv 6) qa_nil)))
    (qss_cons (qs_if (qt_w (qw_or (qt_not (qt_val (qe_callB (call_isT (T := "list")) B.isinst PyProof.Rows.boot_isinstance (qa_cons (qv 9) (qa_cons (qe_bltn (v := .ty "list") B.list PyProof.Rows.boot_list rfl) qa_nil))))) (qw_or1 (qt_cmp op_ne (qe_callB call_len0 B.len PySem.boot_len (qa_cons (qv 9) qa_nil)) (qe_callB call_len0 B.len PySem.boot_len (qa_cons (qv 7) qa_nil)))))) (qss_one (qs_ret qe_bl)) qss_nil)
    (qss_cons (qs_for (qi_listK K (qv 9)) (qg_name 10 sc_law.nd) (qss_one (qs_if (qt_w (qw_or (qt_not (qt_val (qe_callB (call_isT (T := "tuple")) B.isinst PyProof.Rows.boot_isinstance (qa_cons (qv 10) (qa_cons (qe_bltn (v := .ty "tuple") B.tuple PyProof.Rows.boot_tuple rfl) qa_nil))))) (qw_or1 (qt_not (qt_val (qe_callD d_l_places hr (qa_cons (qe_callTy (call_list_ofK K) B.list PyProof.Rows.boot_list (qa_cons (qv 10) qa_nil)) (qa_cons qe_int qa_nil)))))))) (qss_one (qs_ret qe_bl)) qss_nil)))
    (qss_cons (qs_if (qt_cmp (op_neDK K hr.u64) (qv 9) (qv 7)) (qss_one (qs_ret qe_bl)) qss_nil)
    (qss_one (qs_expr (qe_bm0K K PySem.F.plainAttrs_list PySem.F.slot_list_clear PySem.F.type_list_clear mt_clear (qv 9)))))))))
    (qss_one (qs_ret (qe_cmp (op_eqDK K hr.u64) (qe_fldK K (qv 6)) (qv 3)))))), fun l rows h w H1 s1 hl RO => ?_⟩
    have R := RO.rect
    have e0 := full_emp R (RO.full rfl)
    refine ⟨_, rfl, l, _, rfl, .inl (SqL.of hl), fun l2 hl2 => ?_⟩
    have hl2' : upd H1 l2 (.lst (rows.map V.str)) l = some (.lst (rows.map V.str)) := by rw [upd_ne (ne_of_none hl hl2)]; exact hl
    intro x dx nx ndx nex
    refine ⟨x, dx, l2, rows, h, w, rfl, upd_same, ?_, R, fun H2 Bd kp => ⟨rfl, ?_⟩⟩
    · refine SqL.of ?_
      rw [upd_ne (ne_of_none upd_same nx), upd_ne (ne_of_none upd_same ndx), upd_same]
    have hl3 : H2 l = some (.lst (rows.map V.str)) := brd_same nx ndx kp _ _ hl2'
    clear kp
    refine ⟨_, rfl, l, rows, h, w, rfl, hl3, R, e0, fun ld ds H3 s3 LD ID => ?_⟩
    have Bd3 := Bd.same s3
    have hl4 := s3 _ _ hl3
    refine ⟨2, rfl, by decide, by decide, ?_⟩
    refine for_goesO (n := 2) (by exact goes_range) (fun i σ H' => ∃ v8 v9 v10, σ = [some (.ref a), some (.int h), some (.int w), some (.ref l), none, none, some (.ref x), some (.ref ld), v8, v9, v10] ∧ Same H3 H') ⟨_, _, _, rfl, fun _ _ z => z⟩ (fun _ _ _ _ _ => trivial) ?_ ?_
    · rintro Pw Rt Bk hw hrt i y σ H4 hi hy ⟨v8, v9, v10, rfl, s4⟩
      subst hy
      refine ⟨_, rfl, x, rows, h, w, rfl, Bd3.same s4, fun lf xs H5 s5 nlf _ L5 IW => ?_, fun _ _ z => by omega⟩
      have ex := isWalk_eq IW ID
      subst ex
      obtain ⟨fs, f1, f2⟩ := id L5
      have LD5 := LD.same (s4.trans s5)
      obtain ⟨gs, g1, g2⟩ := id LD5
      have fl := Paired.length f2
      have gl := Paired.length g2
      refine ⟨_, rfl, .ref lf, _, true, rfl, .lst f1, kit_selfT K "list", _, rfl, iteF ?_⟩
      refine ⟨_, rfl, lf, _, rfl, f1, _, rfl, ld, _, rfl, g1, rfl, _, rfl, iteFb (by rw [List.length_map, List.length_map, fl, gl, decide_eq_true rfl]; rfl) ?_⟩
      refine ⟨_, rfl, lf, rfl, ⟨_, SqL.of f1⟩, ?_⟩
      refine for_goesO goes_list (fun i' σ H' => ∃ v10, σ = [some (.ref a), some (.int h), some (.int w), some (.ref l), none, none, some (.ref x), some (.ref ld), some (.int (0 + (i : Int))), some (.ref lf), v10] ∧ Same H5 H') ⟨_, rfl, fun _ _ z => z⟩ (fun i' σ H' _ z => by obtain ⟨_, _, z⟩ := z; exact SqL.of (z _ _ f1)) ?_ ?_
      · rintro Pw2 Rt2 Bk2 hw2 hrt2 i' y σ H6 hi' hy ⟨v10', rfl, s6⟩
        rw [List.getElem?_map] at hy
        cases e : fs[i']? with
        | none => rw [e] at hy; cases hy
        | some t =>
          rw [e] at hy
          obtain rfl := Option.some.inj hy
          obtain ⟨z, _, PA⟩ := paired_get' f2 e
          obtain ⟨p1, p2, ep, ep1, ep2⟩ := PA.same s6
          refine ⟨_, rfl, .ref t, _, true, rfl, .tup ep, kit_selfT K "tuple", _, rfl, iteF ?_⟩
          refine ⟨_, rfl, t, _, rfl, .inr (SqT.of ep), fun lq hlq => ?_⟩
          have s7 := same_upd (o := .lst [.ref p1, .ref p2]) hlq
          refine ⟨lq, [z.1, z.2], rfl, ⟨[p1, p2], upd_same, .cons (s7 _ _ ep1) (.cons (s7 _ _ ep2) .nil)⟩, _, rfl, iteF ?_⟩
          exact hw2 _ _ _ ⟨_, rfl, s6.trans s7⟩
      · rintro σ H6 ⟨v10', rfl, s6⟩
        refine ⟨_, rfl, _, rfl, _, _, (L5.same s6).rds, (LD5.same s6).rds, shaped_pairs2 _, shaped_pairs2 _, _, rfl, iteFb (by rw [eqv_list2]; rfl) ?_⟩
        have f6 := s6 _ _ f1
        refine ⟨_, rfl, .inl ⟨rfl, _, SqL.of f6⟩, lf, _, rfl, rfl, f6, hw _ _ _ ⟨_, _, _, rfl, fun b o z => ?_⟩⟩
        have z4 := s4 _ _ z
        rw [upd_ne (ne_of_none z4 nlf)]
        exact s6 _ _ (s5 _ _ z4)
    · rintro σ H4 ⟨v8, v9, v10, rfl, s4⟩
      obtain ⟨dx2, a2, hb2, ha2⟩ := (Bd3.same s4).ob
      refine ⟨_, rfl, x, C, dx2, _, _, rfl, hb2, T.cl, T.nR, bfl_rows _ _ _, _, rfl, _, _, .lst (SqL.of ha2) (rds_strs rows), .lst (SqL.of (s4 _ _ hl4)) (rds_strs rows), shaped_rows R, shaped_rows R, ?_⟩
      rw [eqv_rows, decide_eq_true rfl]
      exact q _
  · refine ⟨_, qss_cons (qs_asg (qe_callD d_l_size_by hr (qa_cons (qv 0) (qa_cons qe_int qa_nil))) (qg_tupK K (qgs_cons (qg_name 1 sc_law.nd) (qgs_cons (qg_name 2 sc_law.nd) qgs_nil))))
    (qss_cons (qs_set 3 sc_law.nd (qe_callD d_l_rows_by hr (qa_cons (qv 0) (qa_cons (qv 1) (qa_cons (qv 2) (qa_cons qe_bl qa_nil))))))
    (qss_cons (qs_if (qt_cmp op_eq (qe_op op_mod (qe_callD d_l_cell_at hr (qa_cons (qv 0) (qa_cons qe_int qa_nil))) qe_int) qe_int) (qss_cons (qs_par 4 5 sc_law.nd (qa_cons (qe_op op_mod (qe_op op_fdiv (qe_callD d_l_cell_at hr (qa_cons (qv 0) (qa_cons qe_int qa_nil))) qe_int) (qv 1)) (qa_cons (qe_op op_mod (qe_callD d_l_cell_at hr (qa_cons (qv 0) (qa_cons qe_int qa_nil))) (qv 2)) qa_nil)))
    (qss_cons (qs_asg (qe_op op_add_str (qe_op op_add_str (qe_slice sl_str (qe_ix (ix_listK K) (qv 3) (qv 4)) qo_none (qo_some (qv 5))) qe_str) (qe_slice sl_str (qe_ix (ix_listK K) (qv 3) (qv 4)) (qo_some (qe_op op_add (qv 5) qe_int)) qo_none)) (qg_sub (qv 3) (qv 4) set_list))
    (qss_one (qs_ret (qe_cmp op_isB (qe_callD d_l_met hr (qa_cons (qe_board M hr (qa_cons (qv 3) qa_nil)) qa_nil)) qe_bl))))) qss_nil) hq)), ?_⟩
    refine ⟨_, rfl, a, ns, 9, rfl, hS, by decide, fun t' h w H1 h1 h9 w1 w9 s1 ht' => ?_⟩
    refine ⟨t', _, rfl, SqT.of ht', rfl, _, _, rfl, _, _, rfl, rfl, ?_⟩
    have hS1 := s1.seq hS
    refine ⟨_, rfl, _, rfl, _, rfl, a, ns, h, w, true, rfl, hS1, h1, by omega, w1, by omega, fun l rows H2 s2 nl hl RO => ?_⟩
    have hS2 := s2.seq hS1
    have R := RO.rect
    have hlen : rows.length = h := by have := R.len; rwa [List.length_map] at this
    have h9' := R.h9
    have w9' := R.w9
    refine ⟨_, rfl, a, ns, 13, rfl, hS2, by decide, _, _, rfl, rfl, (by show (0 : Int) < 6; decide), rfl, _, rfl, ?_⟩
    refine ite2 (fun _ => ?_) (fun _ => ht l rows h w H2 (s1.trans s2) hl RO)
    have r0 := Int.emod_nonneg (ns.getD (13 : Int).toNat 0 / 6) (show (h : Int) ≠ 0 by omega)
    have r1 := Int.emod_lt_of_pos (ns.getD (13 : Int).toNat 0 / 6) (show (0 : Int) < (h : Int) by omega)
    have c0 := Int.emod_nonneg (ns.getD (14 : Int).toNat 0) (show (w : Int) ≠ 0 by omega)
    have c1 := Int.emod_lt_of_pos (ns.getD (14 : Int).toNat 0) (show (0 : Int) < (w : Int) by omega)
    obtain ⟨r, er⟩ := Int.eq_ofNat_of_zero_le r0
    obtain ⟨c, ec⟩ := Int.eq_ofNat_of_zero_le c0
    refine ⟨_, rfl, a, ns, 13, rfl, hS2, by decide, _, _, rfl, rfl, ⟨by decide, by decide⟩, _, rfl, _, _, rfl, rfl, (by show (0 : Int) < (h : Int); omega), ?_⟩
    refine ⟨_, rfl, a, ns, 14, rfl, hS2, by decide, _, rfl, _, _, rfl, rfl, (by show (0 : Int) < (w : Int); omega), .int r, .int c, (by show ([V.int (ns.getD (13 : Int).toNat 0 / 6 % h), V.int (ns.getD (14 : Int).toNat 0 % w)] : List V) = _; rw [er, ec]), ?_⟩
    rw [er] at r1
    rw [ec] at c1
    have hrh : r < h := by omega
    have hcw : c < w := by omega
    obtain ⟨x, hx⟩ : ∃ x, rows[r]? = some x := ⟨rows[r]'(by omega), List.getElem?_eq_getElem (by omega)⟩
    have xl : x.cps.toList.length = w := R.wid _ (List.mem_map.mpr ⟨x, List.mem_of_getElem? hx, rfl⟩)
    have xl' : x.length = w := by simpa [Str.length] using xl
    have at' : atI (rows.map V.str) (r : Int) = some (.str x) := atI_of (by omega) (by rw [Int.toNat_natCast, List.getElem?_map, hx]; rfl)
    have sl1 := Txt.slice_le x none (some (c : Int))
    have sl2 := Txt.slice_le x (some ((c : Int) + 1)) none
    rw [d_eq]
    have l1 : (Txt.slice x none (some (c : Int)) ++ (⟨#[46]⟩ : Str)).length = (Txt.slice x none (some (c : Int))).length + 1 := by
      show ((Txt.slice x none (some (c : Int))).cps ++ #[46]).size = _
      rw [Array.size_append]
      rfl
    refine ⟨_, rfl, _, rfl, l, _, r, .str x, rfl, rfl, SqL.of hl, at', _, rfl, _, rfl, x, rfl, le_line (by omega), _, _, rfl, rfl, le_line (by show (Txt.slice x none (some (c : Int))).length + 1 ≤ 1000; omega), ?_⟩
    refine ⟨_, rfl, _, rfl, l, _, r, .str x, rfl, rfl, SqL.of hl, at', _, rfl, _, _, rfl, rfl, _, rfl, x, rfl, le_line (by omega), _, _, rfl, rfl, le_line (by rw [l1]; show (Txt.slice x none (some (c : Int))).length + 1 + (Txt.slice x (some ((c : Int) + 1)) none).length ≤ 1000; omega), ?_⟩
    refine ⟨_, rfl, _, rfl, l, _, r, r, rfl, rfl, hl, ?_, ?_⟩
    · rw [List.length_map, hlen]
      unfold ixN
      rw [if_pos (by omega), if_pos (by omega), Int.toNat_natCast]
    rw [slice_to (by omega), show (c : Int) + 1 = ((c + 1 : Nat) : Int) by omega, slice_from (by omega)]
    have lc := line_codes (x := x) (c := c) (hd := 46) (by omega)
    generalize ((⟨(x.cps.toList.take c).toArray⟩ : Str) ++ (⟨#[46]⟩ : Str) ++ (⟨(x.cps.toList.drop (c + 1)).toArray⟩ : Str)) = y at lc ⊢
    have em : (rows.map V.str).set r (.str y) = (rows.set r y).map V.str := by rw [List.map_set]
    rw [em]
    have er' : rws (rows.set r y) = layd (rws rows) r c 46 := by
      rw [map_set_codes, lc]
      unfold layd
      congr 1
      rw [List.getD_eq_getElem?_getD, List.getElem?_map, hx]
      rfl
    have R' : Rect (rws (rows.set r y)) h w := by rw [er']; exact layd_rect R hrh (by omega)
    have pos : 0 < (emp h w (rws (rows.set r y))).length := by
      refine List.length_pos_of_mem ((mem_emp R' (p := ((r : Int), (c : Int)))).mpr ?_)
      rw [er', at2_layd R hrh hcw, if_pos rfl]
    have hl2 : upd H2 l (.lst ((rows.set r y).map V.str)) l = some (.lst ((rows.set r y).map V.str)) := upd_same
    generalize upd H2 l (.lst ((rows.set r y).map V.str)) = H3 at hl2 ⊢
    generalize rows.set r y = rows2 at hl2 R' pos ⊢
    refine ⟨_, rfl, fun p dp np ndp nep => ⟨p, dp, l, rows2, h, w, rfl, upd_same, SqL.of ?_, R', fun H4 Bd kp => ⟨rfl, ?_⟩⟩⟩
    · rw [upd_ne (ne_of_none hl2 np), upd_ne (ne_of_none hl2 ndp)]
      exact hl2
    exact ⟨p, rows2, h, w, rfl, Bd, fun _ _ _ _ _ z => by omega, fun H7 s7 _ => ⟨true, true, rfl, rfl, q _⟩⟩
end
end Sw

set_option linter.all false
set_option maxRecDepth 100000
set_option maxHeartbeats 400000
namespace Sw
open PySem L2 Sh
theorem all_mk {l : PySem.W.OpenLaw} {w : World} {K : PySem.W.Frag} {h : Heap} {mg : Str → Option Value} {fa : Addr} (X : K.In h) (G_ : h.Ns mainGlobals mg) (hfa : mg "law" = some (.ref fa))
    {C : Addr}
    {fBI : Addr} {odBI anBI : Option Addr} {slBI : Array (Option Value)} {ocBI kVBI dcBI pmBI cdBI ctBI : Value}
    {tNORTH : Tok}
    {tWEST : Tok}
    {tEMPTY : Tok}
    {tMOST : Tok}
    {dX : Addr}
    {xt1 xu1 xt2 xu2 xt3 xu3 : Tok} {xn : Nat}
    {C_NotFull : Addr}
    {C_ShoreError : Addr}
    {f_l_cell_at : Addr} {od_l_cell_at an_l_cell_at : Option Addr} {sl_l_cell_at : Array (Option Value)} {oc_l_cell_at kV_l_cell_at dc_l_cell_at pm_l_cell_at cd_l_cell_at ct_l_cell_at : Value}
    {f_l_mix : Addr} {od_l_mix an_l_mix : Option Addr} {sl_l_mix : Array (Option Value)} {oc_l_mix kV_l_mix dc_l_mix pm_l_mix cd_l_mix ct_l_mix : Value}
    {f_l_whole : Addr} {od_l_whole an_l_whole : Option Addr} {sl_l_whole : Array (Option Value)} {oc_l_whole kV_l_whole dc_l_whole pm_l_whole cd_l_whole ct_l_whole : Value}
    {f_l_size_by : Addr} {od_l_size_by an_l_size_by : Option Addr} {sl_l_size_by : Array (Option Value)} {oc_l_size_by kV_l_size_by dc_l_size_by pm_l_size_by cd_l_size_by ct_l_size_by : Value}
    {f_l_rows_by : Addr} {od_l_rows_by an_l_rows_by : Option Addr} {sl_l_rows_by : Array (Option Value)} {oc_l_rows_by kV_l_rows_by dc_l_rows_by pm_l_rows_by cd_l_rows_by ct_l_rows_by : Value}
    {f_l_places : Addr} {od_l_places an_l_places : Option Addr} {sl_l_places : Array (Option Value)} {oc_l_places kV_l_places dc_l_places pm_l_places cd_l_places ct_l_places : Value}
    {f_check_row : Addr} {od_check_row an_check_row : Option Addr} {sl_check_row : Array (Option Value)} {oc_check_row kV_check_row dc_check_row pm_check_row cd_check_row ct_check_row : Value}
    {f_check_rows : Addr} {od_check_rows an_check_rows : Option Addr} {sl_check_rows : Array (Option Value)} {oc_check_rows kV_check_rows dc_check_rows pm_check_rows cd_check_rows ct_check_rows : Value}
    {f_near : Addr} {od_near an_near : Option Addr} {sl_near : Array (Option Value)} {oc_near kV_near dc_near pm_near cd_near ct_near : Value}
    {f_has_cell : Addr} {od_has_cell an_has_cell : Option Addr} {sl_has_cell : Array (Option Value)} {oc_has_cell kV_has_cell dc_has_cell pm_has_cell cd_has_cell ct_has_cell : Value}
    {f_empty : Addr} {od_empty an_empty : Option Addr} {sl_empty : Array (Option Value)} {oc_empty kV_empty dc_empty pm_empty cd_empty ct_empty : Value}
    {f_check_full : Addr} {od_check_full an_check_full : Option Addr} {sl_check_full : Array (Option Value)} {oc_check_full kV_check_full dc_check_full pm_check_full cd_check_full ct_check_full : Value}
    {f_on_north_shore : Addr} {od_on_north_shore an_on_north_shore : Option Addr} {sl_on_north_shore : Array (Option Value)} {oc_on_north_shore kV_on_north_shore dc_on_north_shore pm_on_north_shore cd_on_north_shore ct_on_north_shore : Value}
    {f_on_west_shore : Addr} {od_on_west_shore an_on_west_shore : Option Addr} {sl_on_west_shore : Array (Option Value)} {oc_on_west_shore kV_on_west_shore dc_on_west_shore pm_on_west_shore cd_on_west_shore ct_on_west_shore : Value}
    {f_hand_at : Addr} {od_hand_at an_hand_at : Option Addr} {sl_hand_at : Array (Option Value)} {oc_hand_at kV_hand_at dc_hand_at pm_hand_at cd_hand_at ct_hand_at : Value}
    {f_place_ahead : Addr} {od_place_ahead an_place_ahead : Option Addr} {sl_place_ahead : Array (Option Value)} {oc_place_ahead kV_place_ahead dc_place_ahead pm_place_ahead cd_place_ahead ct_place_ahead : Value}
    {f_next_pair : Addr} {od_next_pair an_next_pair : Option Addr} {sl_next_pair : Array (Option Value)} {oc_next_pair kV_next_pair dc_next_pair pm_next_pair cd_next_pair ct_next_pair : Value}
    {f_walk : Addr} {od_walk an_walk : Option Addr} {sl_walk : Array (Option Value)} {oc_walk kV_walk dc_walk pm_walk cd_walk ct_walk : Value}
    {f_l_met : Addr} {od_l_met an_l_met : Option Addr} {sl_l_met : Array (Option Value)} {oc_l_met kV_l_met dc_l_met pm_l_met cd_l_met ct_l_met : Value}
    {f_l_owner : Addr} {od_l_owner an_l_owner : Option Addr} {sl_l_owner : Array (Option Value)} {oc_l_owner kV_l_owner dc_l_owner pm_l_owner cd_l_owner ct_l_owner : Value}
    {f_l_due : Addr} {od_l_due an_l_due : Option Addr} {sl_l_due : Array (Option Value)} {oc_l_due kV_l_due dc_l_due pm_l_due cd_l_due ct_l_due : Value}
    {f_law : Addr} {od_law an_law : Option Addr} {sl_law : Array (Option Value)} {oc_law kV_law dc_law pm_law cd_law ct_law : Value}
    (z_len : PySem.W.nsIn K mainGlobals "len" = some none)
    (z_range : PySem.W.nsIn K mainGlobals "range" = some none)
    (z_list : PySem.W.nsIn K mainGlobals "list" = some none)
    (z_int : PySem.W.nsIn K mainGlobals "int" = some none)
    (z_isinst : PySem.W.nsIn K mainGlobals "isinstance" = some none)
    (z_bool : PySem.W.nsIn K mainGlobals "bool" = some none)
    (z_tuple : PySem.W.nsIn K mainGlobals "tuple" = some none)
    (z_str : PySem.W.nsIn K mainGlobals "str" = some none)
    (z_set : PySem.W.nsIn K mainGlobals "set" = some none)
    (z_enum : PySem.W.nsIn K mainGlobals "enumerate" = some none)
    (z_rev : PySem.W.nsIn K mainGlobals "reversed" = some none)
    (y_ib : PySem.W.kitOne K (.type "int") (.type "bool") = some false)
    (aC : PySem.W.nsIn K mainGlobals "Board" = some (some (.ref C)))
    (aBI : PySem.W.findIn K (.ref C) "__init__" = some (some (.ref fBI))) (iBI : PySem.W.isFn K (.ref fBI) = true)
    (lBI : K.lookup fBI = some ⟨ocBI, odBI, .func (PySem.W.fnOf "__init__" "Board.__init__" (defArgs s_Board_init) (defBody s_Board_init) (defScope s_Board_init) .none kVBI dcBI pmBI anBI cdBI ctBI), slBI⟩)
    (cBI : PySem.W.codeIn K cdBI "Board.__init__" = true)
    (kBI : PySem.W.keepIn K (.ref fBI) = true)
    (pg : PySem.W.plainGet K C Str.empty = true)
    (hd : PySem.W.hasDictIn K C = true)
    (po : PySem.W.plainOver K C = true)
    (sa : PySem.W.findIn K (.ref C) "__setattr__" = some (some (.builtin "object.__setattr__")))
    (mk : PySem.W.makesIn K C = true)
    (kc : PySem.W.keepIn K (.ref C) = true)
    (nR : PySem.W.findIn K (.ref C) "rows" = some none)
    (nH : PySem.W.findIn K (.ref C) "height" = some none)
    (nW : PySem.W.findIn K (.ref C) "width" = some none)
    (gNORTH : PySem.W.nsIn K mainGlobals "NORTH" = some (some (.str "n" tNORTH)))
    (gWEST : PySem.W.nsIn K mainGlobals "WEST" = some (some (.str "w" tWEST)))
    (gEMPTY : PySem.W.nsIn K mainGlobals "EMPTY" = some (some (.str "." tEMPTY)))
    (gMOST : PySem.W.nsIn K mainGlobals "MOST" = some (some (.int 9 tMOST)))
    (gX : PySem.W.nsIn K mainGlobals "EXCHANGED" = some (some (.ref dX)))
    (lX : K.lookup dX = some ⟨.type "dict", none, .dict #[⟨PyData.keyHash w.params "n", .str "n" xt1, .str "w" xu1⟩, ⟨PyData.keyHash w.params "w", .str "w" xt2, .str "n" xu2⟩, ⟨PyData.keyHash w.params ".", .str "." xt3, .str "." xu3⟩] xn, #[]⟩)
    (sX : (dX == sysModules) = false)
    (aE_NotFull : PySem.W.nsIn K mainGlobals "NotFull" = some (some (.ref C_NotFull)))
    (q_NotFull : PySem.W.excIn K C_NotFull [.type "ValueError", .type "Exception", .type "BaseException", .type "object"] "ValueError.__new__" = true)
    (aE_ShoreError : PySem.W.nsIn K mainGlobals "ShoreError" = some (some (.ref C_ShoreError)))
    (y_NotFull_ShoreError : PySem.W.kitOne K (.ref C_NotFull) (.ref C_ShoreError) = some true)
    (x_NotFull_NotFull : PySem.W.exmOne K (.ref C_NotFull) (.ref C_NotFull) = some true)
    (a_l_cell_at : PySem.W.nsIn K mainGlobals "_law_cell_at" = some (some (.ref f_l_cell_at)))
    (l_l_cell_at : K.lookup f_l_cell_at = some ⟨oc_l_cell_at, od_l_cell_at, .func (PySem.W.fnOf "_law_cell_at" "_law_cell_at" (defArgs s_l_cell_at) (defBody s_l_cell_at) (defScope s_l_cell_at) .none kV_l_cell_at dc_l_cell_at pm_l_cell_at an_l_cell_at cd_l_cell_at ct_l_cell_at), sl_l_cell_at⟩)
    (c_l_cell_at : PySem.W.codeIn K cd_l_cell_at "_law_cell_at" = true)
    (k_l_cell_at : PySem.W.keepIn K (.ref f_l_cell_at) = true)
    (a_l_mix : PySem.W.nsIn K mainGlobals "_law_mix" = some (some (.ref f_l_mix)))
    (l_l_mix : K.lookup f_l_mix = some ⟨oc_l_mix, od_l_mix, .func (PySem.W.fnOf "_law_mix" "_law_mix" (defArgs s_l_mix) (defBody s_l_mix) (defScope s_l_mix) .none kV_l_mix dc_l_mix pm_l_mix an_l_mix cd_l_mix ct_l_mix), sl_l_mix⟩)
    (c_l_mix : PySem.W.codeIn K cd_l_mix "_law_mix" = true)
    (k_l_mix : PySem.W.keepIn K (.ref f_l_mix) = true)
    (a_l_whole : PySem.W.nsIn K mainGlobals "_law_whole" = some (some (.ref f_l_whole)))
    (l_l_whole : K.lookup f_l_whole = some ⟨oc_l_whole, od_l_whole, .func (PySem.W.fnOf "_law_whole" "_law_whole" (defArgs s_l_whole) (defBody s_l_whole) (defScope s_l_whole) .none kV_l_whole dc_l_whole pm_l_whole an_l_whole cd_l_whole ct_l_whole), sl_l_whole⟩)
    (c_l_whole : PySem.W.codeIn K cd_l_whole "_law_whole" = true)
    (k_l_whole : PySem.W.keepIn K (.ref f_l_whole) = true)
    (a_l_size_by : PySem.W.nsIn K mainGlobals "_law_size_by" = some (some (.ref f_l_size_by)))
    (l_l_size_by : K.lookup f_l_size_by = some ⟨oc_l_size_by, od_l_size_by, .func (PySem.W.fnOf "_law_size_by" "_law_size_by" (defArgs s_l_size_by) (defBody s_l_size_by) (defScope s_l_size_by) .none kV_l_size_by dc_l_size_by pm_l_size_by an_l_size_by cd_l_size_by ct_l_size_by), sl_l_size_by⟩)
    (c_l_size_by : PySem.W.codeIn K cd_l_size_by "_law_size_by" = true)
    (k_l_size_by : PySem.W.keepIn K (.ref f_l_size_by) = true)
    (a_l_rows_by : PySem.W.nsIn K mainGlobals "_law_rows_by" = some (some (.ref f_l_rows_by)))
    (l_l_rows_by : K.lookup f_l_rows_by = some ⟨oc_l_rows_by, od_l_rows_by, .func (PySem.W.fnOf "_law_rows_by" "_law_rows_by" (defArgs s_l_rows_by) (defBody s_l_rows_by) (defScope s_l_rows_by) .none kV_l_rows_by dc_l_rows_by pm_l_rows_by an_l_rows_by cd_l_rows_by ct_l_rows_by), sl_l_rows_by⟩)
    (c_l_rows_by : PySem.W.codeIn K cd_l_rows_by "_law_rows_by" = true)
    (k_l_rows_by : PySem.W.keepIn K (.ref f_l_rows_by) = true)
    (a_l_places : PySem.W.nsIn K mainGlobals "_law_places" = some (some (.ref f_l_places)))
    (l_l_places : K.lookup f_l_places = some ⟨oc_l_places, od_l_places, .func (PySem.W.fnOf "_law_places" "_law_places" (defArgs s_l_places) (defBody s_l_places) (defScope s_l_places) .none kV_l_places dc_l_places pm_l_places an_l_places cd_l_places ct_l_places), sl_l_places⟩)
    (c_l_places : PySem.W.codeIn K cd_l_places "_law_places" = true)
    (k_l_places : PySem.W.keepIn K (.ref f_l_places) = true)
    (a_check_row : PySem.W.nsIn K mainGlobals "check_row" = some (some (.ref f_check_row)))
    (l_check_row : K.lookup f_check_row = some ⟨oc_check_row, od_check_row, .func (PySem.W.fnOf "check_row" "check_row" (defArgs s_check_row) (defBody s_check_row) (defScope s_check_row) .none kV_check_row dc_check_row pm_check_row an_check_row cd_check_row ct_check_row), sl_check_row⟩)
    (c_check_row : PySem.W.codeIn K cd_check_row "check_row" = true)
    (k_check_row : PySem.W.keepIn K (.ref f_check_row) = true)
    (a_check_rows : PySem.W.nsIn K mainGlobals "check_rows" = some (some (.ref f_check_rows)))
    (l_check_rows : K.lookup f_check_rows = some ⟨oc_check_rows, od_check_rows, .func (PySem.W.fnOf "check_rows" "check_rows" (defArgs s_check_rows) (defBody s_check_rows) (defScope s_check_rows) .none kV_check_rows dc_check_rows pm_check_rows an_check_rows cd_check_rows ct_check_rows), sl_check_rows⟩)
    (c_check_rows : PySem.W.codeIn K cd_check_rows "check_rows" = true)
    (k_check_rows : PySem.W.keepIn K (.ref f_check_rows) = true)
    (a_near : PySem.W.nsIn K mainGlobals "near" = some (some (.ref f_near)))
    (l_near : K.lookup f_near = some ⟨oc_near, od_near, .func (PySem.W.fnOf "near" "near" (defArgs s_near) (defBody s_near) (defScope s_near) .none kV_near dc_near pm_near an_near cd_near ct_near), sl_near⟩)
    (c_near : PySem.W.codeIn K cd_near "near" = true)
    (k_near : PySem.W.keepIn K (.ref f_near) = true)
    (a_has_cell : PySem.W.nsIn K mainGlobals "has_cell" = some (some (.ref f_has_cell)))
    (l_has_cell : K.lookup f_has_cell = some ⟨oc_has_cell, od_has_cell, .func (PySem.W.fnOf "has_cell" "has_cell" (defArgs s_has_cell) (defBody s_has_cell) (defScope s_has_cell) .none kV_has_cell dc_has_cell pm_has_cell an_has_cell cd_has_cell ct_has_cell), sl_has_cell⟩)
    (c_has_cell : PySem.W.codeIn K cd_has_cell "has_cell" = true)
    (k_has_cell : PySem.W.keepIn K (.ref f_has_cell) = true)
    (a_empty : PySem.W.nsIn K mainGlobals "empty" = some (some (.ref f_empty)))
    (l_empty : K.lookup f_empty = some ⟨oc_empty, od_empty, .func (PySem.W.fnOf "empty" "empty" (defArgs s_empty) (defBody s_empty) (defScope s_empty) .none kV_empty dc_empty pm_empty an_empty cd_empty ct_empty), sl_empty⟩)
    (c_empty : PySem.W.codeIn K cd_empty "empty" = true)
    (k_empty : PySem.W.keepIn K (.ref f_empty) = true)
    (a_check_full : PySem.W.nsIn K mainGlobals "check_full" = some (some (.ref f_check_full)))
    (l_check_full : K.lookup f_check_full = some ⟨oc_check_full, od_check_full, .func (PySem.W.fnOf "check_full" "check_full" (defArgs s_check_full) (defBody s_check_full) (defScope s_check_full) .none kV_check_full dc_check_full pm_check_full an_check_full cd_check_full ct_check_full), sl_check_full⟩)
    (c_check_full : PySem.W.codeIn K cd_check_full "check_full" = true)
    (k_check_full : PySem.W.keepIn K (.ref f_check_full) = true)
    (a_on_north_shore : PySem.W.nsIn K mainGlobals "on_north_shore" = some (some (.ref f_on_north_shore)))
    (l_on_north_shore : K.lookup f_on_north_shore = some ⟨oc_on_north_shore, od_on_north_shore, .func (PySem.W.fnOf "on_north_shore" "on_north_shore" (defArgs s_on_north_shore) (defBody s_on_north_shore) (defScope s_on_north_shore) .none kV_on_north_shore dc_on_north_shore pm_on_north_shore an_on_north_shore cd_on_north_shore ct_on_north_shore), sl_on_north_shore⟩)
    (c_on_north_shore : PySem.W.codeIn K cd_on_north_shore "on_north_shore" = true)
    (k_on_north_shore : PySem.W.keepIn K (.ref f_on_north_shore) = true)
    (a_on_west_shore : PySem.W.nsIn K mainGlobals "on_west_shore" = some (some (.ref f_on_west_shore)))
    (l_on_west_shore : K.lookup f_on_west_shore = some ⟨oc_on_west_shore, od_on_west_shore, .func (PySem.W.fnOf "on_west_shore" "on_west_shore" (defArgs s_on_west_shore) (defBody s_on_west_shore) (defScope s_on_west_shore) .none kV_on_west_shore dc_on_west_shore pm_on_west_shore an_on_west_shore cd_on_west_shore ct_on_west_shore), sl_on_west_shore⟩)
    (c_on_west_shore : PySem.W.codeIn K cd_on_west_shore "on_west_shore" = true)
    (k_on_west_shore : PySem.W.keepIn K (.ref f_on_west_shore) = true)
    (a_hand_at : PySem.W.nsIn K mainGlobals "hand_at" = some (some (.ref f_hand_at)))
    (l_hand_at : K.lookup f_hand_at = some ⟨oc_hand_at, od_hand_at, .func (PySem.W.fnOf "hand_at" "hand_at" (defArgs s_hand_at) (defBody s_hand_at) (defScope s_hand_at) .none kV_hand_at dc_hand_at pm_hand_at an_hand_at cd_hand_at ct_hand_at), sl_hand_at⟩)
    (c_hand_at : PySem.W.codeIn K cd_hand_at "hand_at" = true)
    (k_hand_at : PySem.W.keepIn K (.ref f_hand_at) = true)
    (a_place_ahead : PySem.W.nsIn K mainGlobals "place_ahead" = some (some (.ref f_place_ahead)))
    (l_place_ahead : K.lookup f_place_ahead = some ⟨oc_place_ahead, od_place_ahead, .func (PySem.W.fnOf "place_ahead" "place_ahead" (defArgs s_place_ahead) (defBody s_place_ahead) (defScope s_place_ahead) .none kV_place_ahead dc_place_ahead pm_place_ahead an_place_ahead cd_place_ahead ct_place_ahead), sl_place_ahead⟩)
    (c_place_ahead : PySem.W.codeIn K cd_place_ahead "place_ahead" = true)
    (k_place_ahead : PySem.W.keepIn K (.ref f_place_ahead) = true)
    (a_next_pair : PySem.W.nsIn K mainGlobals "next_pair" = some (some (.ref f_next_pair)))
    (l_next_pair : K.lookup f_next_pair = some ⟨oc_next_pair, od_next_pair, .func (PySem.W.fnOf "next_pair" "next_pair" (defArgs s_next_pair) (defBody s_next_pair) (defScope s_next_pair) .none kV_next_pair dc_next_pair pm_next_pair an_next_pair cd_next_pair ct_next_pair), sl_next_pair⟩)
    (c_next_pair : PySem.W.codeIn K cd_next_pair "next_pair" = true)
    (k_next_pair : PySem.W.keepIn K (.ref f_next_pair) = true)
    (a_walk : PySem.W.nsIn K mainGlobals "walk" = some (some (.ref f_walk)))
    (l_walk : K.lookup f_walk = some ⟨oc_walk, od_walk, .func (PySem.W.fnOf "walk" "walk" (defArgs s_walk) (defBody s_walk) (defScope s_walk) .none kV_walk dc_walk pm_walk an_walk cd_walk ct_walk), sl_walk⟩)
    (c_walk : PySem.W.codeIn K cd_walk "walk" = true)
    (k_walk : PySem.W.keepIn K (.ref f_walk) = true)
    (a_l_met : PySem.W.nsIn K mainGlobals "_law_met" = some (some (.ref f_l_met)))
    (l_l_met : K.lookup f_l_met = some ⟨oc_l_met, od_l_met, .func (PySem.W.fnOf "_law_met" "_law_met" (defArgs s_l_met) (defBody s_l_met) (defScope s_l_met) .none kV_l_met dc_l_met pm_l_met an_l_met cd_l_met ct_l_met), sl_l_met⟩)
    (c_l_met : PySem.W.codeIn K cd_l_met "_law_met" = true)
    (k_l_met : PySem.W.keepIn K (.ref f_l_met) = true)
    (a_l_owner : PySem.W.nsIn K mainGlobals "_law_owner" = some (some (.ref f_l_owner)))
    (l_l_owner : K.lookup f_l_owner = some ⟨oc_l_owner, od_l_owner, .func (PySem.W.fnOf "_law_owner" "_law_owner" (defArgs s_l_owner) (defBody s_l_owner) (defScope s_l_owner) .none kV_l_owner dc_l_owner pm_l_owner an_l_owner cd_l_owner ct_l_owner), sl_l_owner⟩)
    (c_l_owner : PySem.W.codeIn K cd_l_owner "_law_owner" = true)
    (k_l_owner : PySem.W.keepIn K (.ref f_l_owner) = true)
    (a_l_due : PySem.W.nsIn K mainGlobals "_law_due" = some (some (.ref f_l_due)))
    (l_l_due : K.lookup f_l_due = some ⟨oc_l_due, od_l_due, .func (PySem.W.fnOf "_law_due" "_law_due" (defArgs s_l_due) (defBody s_l_due) (defScope s_l_due) .none kV_l_due dc_l_due pm_l_due an_l_due cd_l_due ct_l_due), sl_l_due⟩)
    (c_l_due : PySem.W.codeIn K cd_l_due "_law_due" = true)
    (k_l_due : PySem.W.keepIn K (.ref f_l_due) = true)
    (a_law : PySem.W.nsIn K mainGlobals "law" = some (some (.ref f_law)))
    (l_law : K.lookup f_law = some ⟨oc_law, od_law, .func (PySem.W.fnOf "law" "law" (defArgs s_law) (defBody s_law) (defScope s_law) .none kV_law dc_law pm_law an_law cd_law ct_law), sl_law⟩)
    (c_law : PySem.W.codeIn K cd_law "law" = true)
    (k_law : PySem.W.keepIn K (.ref f_law) = true)
    : ∃ fd : FuncData, (∀ (s : Shared) (v : Value), BindsTo s fd ⟨[v], []⟩ [("script", v)]) ∧ ∀ base : Heap, K.In base → base.Ns mainGlobals mg → FnOk l.prog w K mg base CX0 6 fa fd ["script"] (sp_law K) := by
  have e := hfa.symm.trans (PySem.W.mg_of X G_ a_law)
  cases e
  have B : Bt mg := ⟨PySem.W.mg_none_of X G_ z_len, PySem.W.mg_none_of X G_ z_range, PySem.W.mg_none_of X G_ z_list, PySem.W.mg_none_of X G_ z_int, PySem.W.mg_none_of X G_ z_isinst, PySem.W.mg_none_of X G_ z_bool, PySem.W.mg_none_of X G_ z_tuple, PySem.W.mg_none_of X G_ z_str, PySem.W.mg_none_of X G_ z_set, PySem.W.mg_none_of X G_ z_enum, PySem.W.mg_none_of X G_ z_rev⟩
  have Z : Kt K := ⟨y_ib⟩
  have T : BoardC K C := ⟨⟨pg, hd, po, sa⟩, nR, nH, nW⟩
  have M : Mk K C fBI := ⟨mk, aBI, iBI, kc⟩
  have FBI := fun_mk (st := s_Board_init) lBI cBI kBI
  have mC := PySem.W.mg_of X G_ aC
  have hNORTH := PySem.W.mg_of X G_ gNORTH
  have hWEST := PySem.W.mg_of X G_ gWEST
  have hEMPTY := PySem.W.mg_of X G_ gEMPTY
  have hMOST := PySem.W.mg_of X G_ gMOST
  have hX := PySem.W.mg_of X G_ gX
  have XX : KDic l.prog w K dX xkv := xkv_mk lX sX
  have m_NotFull := PySem.W.mg_of X G_ aE_NotFull
  have m_ShoreError := PySem.W.mg_of X G_ aE_ShoreError
  refine ⟨PySem.W.fnOf "law" "law" (defArgs s_law) (defBody s_law) (defScope s_law) .none kV_law dc_law pm_law an_law cd_law ct_law, fun s v => .of_eq rfl, fun base kb nb => ?_⟩
  have O_NotFull := L2.exc_mk kb nb aE_NotFull q_NotFull
  have F_l_cell_at := L2.fn_mk (st := s_l_cell_at) X G_ a_l_cell_at l_l_cell_at c_l_cell_at k_l_cell_at
  have F_l_mix := L2.fn_mk (st := s_l_mix) X G_ a_l_mix l_l_mix c_l_mix k_l_mix
  have F_l_whole := L2.fn_mk (st := s_l_whole) X G_ a_l_whole l_l_whole c_l_whole k_l_whole
  have F_l_size_by := L2.fn_mk (st := s_l_size_by) X G_ a_l_size_by l_l_size_by c_l_size_by k_l_size_by
  have F_l_rows_by := L2.fn_mk (st := s_l_rows_by) X G_ a_l_rows_by l_l_rows_by c_l_rows_by k_l_rows_by
  have F_l_places := L2.fn_mk (st := s_l_places) X G_ a_l_places l_l_places c_l_places k_l_places
  have F_check_row := L2.fn_mk (st := s_check_row) X G_ a_check_row l_check_row c_check_row k_check_row
  have F_check_rows := L2.fn_mk (st := s_check_rows) X G_ a_check_rows l_check_rows c_check_rows k_check_rows
  have F_near := L2.fn_mk (st := s_near) X G_ a_near l_near c_near k_near
  have F_has_cell := L2.fn_mk (st := s_has_cell) X G_ a_has_cell l_has_cell c_has_cell k_has_cell
  have F_empty := L2.fn_mk (st := s_empty) X G_ a_empty l_empty c_empty k_empty
  have F_check_full := L2.fn_mk (st := s_check_full) X G_ a_check_full l_check_full c_check_full k_check_full
  have F_on_north_shore := L2.fn_mk (st := s_on_north_shore) X G_ a_on_north_shore l_on_north_shore c_on_north_shore k_on_north_shore
  have F_on_west_shore := L2.fn_mk (st := s_on_west_shore) X G_ a_on_west_shore l_on_west_shore c_on_west_shore k_on_west_shore
  have F_hand_at := L2.fn_mk (st := s_hand_at) X G_ a_hand_at l_hand_at c_hand_at k_hand_at
  have F_place_ahead := L2.fn_mk (st := s_place_ahead) X G_ a_place_ahead l_place_ahead c_place_ahead k_place_ahead
  have F_next_pair := L2.fn_mk (st := s_next_pair) X G_ a_next_pair l_next_pair c_next_pair k_next_pair
  have F_walk := L2.fn_mk (st := s_walk) X G_ a_walk l_walk c_walk k_walk
  have F_l_met := L2.fn_mk (st := s_l_met) X G_ a_l_met l_l_met c_l_met k_l_met
  have F_l_owner := L2.fn_mk (st := s_l_owner) X G_ a_l_owner l_l_owner c_l_owner k_l_owner
  have F_l_due := L2.fn_mk (st := s_l_due) X G_ a_l_due l_l_due c_l_due k_l_due
  have d_l_cell_at := ok_l_cell_at (P := l.prog) (w := w) (base := base) B F_l_cell_at
  have d_l_mix := ok_l_mix (P := l.prog) (w := w) (base := base) F_l_mix
  have d_l_whole := ok_l_whole (P := l.prog) (w := w) (base := base) B Z F_l_whole
  have d_l_size_by := ok_l_size_by (P := l.prog) (w := w) (base := base) d_l_cell_at F_l_size_by
  have d_l_rows_by := ok_l_rows_by (P := l.prog) (w := w) (base := base) B d_l_cell_at d_l_mix F_l_rows_by
  have d_l_places := ok_l_places (P := l.prog) (w := w) (base := base) B d_l_whole F_l_places
  have d_check_row := ok_check_row (P := l.prog) (w := w) (base := base) B hMOST hX XX F_check_row
  have d_check_rows := ok_check_rows (P := l.prog) (w := w) (base := base) B hMOST d_check_row F_check_rows
  have d_Board_init := ok_Board_init (P := l.prog) (w := w) (base := base) B T mC M d_check_rows FBI
  have d_near := ok_near (P := l.prog) (w := w) (base := base) F_near
  have d_has_cell := ok_has_cell (P := l.prog) (w := w) (base := base) T F_has_cell
  have d_empty := ok_empty (P := l.prog) (w := w) (base := base) B T hEMPTY F_empty
  have d_check_full := ok_check_full (P := l.prog) (w := w) (base := base) B O_NotFull d_empty F_check_full
  have d_on_north_shore := ok_on_north_shore (P := l.prog) (w := w) (base := base) T F_on_north_shore
  have d_on_west_shore := ok_on_west_shore (P := l.prog) (w := w) (base := base) T F_on_west_shore
  have d_hand_at := ok_hand_at (P := l.prog) (w := w) (base := base) T hNORTH hWEST d_has_cell d_on_north_shore d_on_west_shore F_hand_at
  have d_place_ahead := ok_place_ahead (P := l.prog) (w := w) (base := base) B d_near F_place_ahead
  have d_next_pair := ok_next_pair (P := l.prog) (w := w) (base := base) hNORTH hWEST d_place_ahead d_hand_at F_next_pair
  have d_walk := ok_walk (P := l.prog) (w := w) (base := base) d_check_full d_next_pair F_walk
  have d_l_met := ok_l_met (P := l.prog) (w := w) (base := base) B m_NotFull m_ShoreError x_NotFull_NotFull y_NotFull_ShoreError d_walk F_l_met
  have d_l_owner := ok_l_owner (P := l.prog) (w := w) (base := base) B F_l_owner
  have d_l_due := ok_l_due (P := l.prog) (w := w) (base := base) B d_l_owner F_l_due
  exact ok_law B T d_l_cell_at d_l_size_by d_l_rows_by d_l_places d_Board_init d_l_due d_l_met (fun_mk l_law c_law k_law)
end Sw
open PySem PySem.W PyProof.Rows
set_option maxRecDepth 100000 in
set_option maxHeartbeats 0 in
theorem PySem.Challenge.cw_shoreways_k08_walks_holds : PySem.Challenge.rw_shoreways_k08_walks.Holds := by
  w_on; o_law; k_head; (case hw => w_witness2)
  k_fill
  refine L2.walk_ofK (l := PySem.Challenge.rw_shoreways_k08_walks) (n := 63) (k := 6) (x := "script") (CX := L2.CX0) (sp := Sw.sp_law) rfl (by decide) rfl ⟨rfl, by decide, by decide⟩ (fun w h Y => PySem.W.kIn_of Y) ?F (fun K H a ns hl _ hS => ⟨a, ns, rfl, hS, hl, fun _ => rfl⟩) fun _ _ _ _ z => z
  case F =>
    intro w mg fa h KX G hmg
    refine' Sw.all_mk KX G hmg ?z_len ?z_range ?z_list ?z_int ?z_isinst ?z_bool ?z_tuple ?z_str ?z_set ?z_enum ?z_rev ?y_ib ?aC ?aBI ?iBI ?lBI ?cBI ?kBI ?pg ?hd ?po ?sa ?mk ?kc ?nR ?nH ?nW ?gNORTH ?gWEST ?gEMPTY ?gMOST ?gX ?lX ?sX ?aE_NotFull ?q_NotFull ?aE_ShoreError ?y_NotFull_ShoreError ?x_NotFull_NotFull ?a_l_cell_at ?l_l_cell_at ?c_l_cell_at ?k_l_cell_at ?a_l_mix ?l_l_mix ?c_l_mix ?k_l_mix ?a_l_whole ?l_l_whole ?c_l_whole ?k_l_whole ?a_l_size_by ?l_l_size_by ?c_l_size_by ?k_l_size_by ?a_l_rows_by ?l_l_rows_by ?c_l_rows_by ?k_l_rows_by ?a_l_places ?l_l_places ?c_l_places ?k_l_places ?a_check_row ?l_check_row ?c_check_row ?k_check_row ?a_check_rows ?l_check_rows ?c_check_rows ?k_check_rows ?a_near ?l_near ?c_near ?k_near ?a_has_cell ?l_has_cell ?c_has_cell ?k_has_cell ?a_empty ?l_empty ?c_empty ?k_empty ?a_check_full ?l_check_full ?c_check_full ?k_check_full ?a_on_north_shore ?l_on_north_shore ?c_on_north_shore ?k_on_north_shore ?a_on_west_shore ?l_on_west_shore ?c_on_west_shore ?k_on_west_shore ?a_hand_at ?l_hand_at ?c_hand_at ?k_hand_at ?a_place_ahead ?l_place_ahead ?c_place_ahead ?k_place_ahead ?a_next_pair ?l_next_pair ?c_next_pair ?k_next_pair ?a_walk ?l_walk ?c_walk ?k_walk ?a_l_met ?l_l_met ?c_l_met ?k_l_met ?a_l_owner ?l_l_owner ?c_l_owner ?k_l_owner ?a_l_due ?l_l_due ?c_l_due ?k_l_due ?a_law ?l_law ?c_law ?k_law
    (case z_len => k_is)
    (case z_range => k_is)
    (case z_list => k_is)
    (case z_int => k_is)
    (case z_isinst => k_is)
    (case z_bool => k_is)
    (case z_tuple => k_is)
    (case z_str => k_is)
    (case z_set => k_is)
    (case z_enum => k_is)
    (case z_rev => k_is)
    (case y_ib => first | kit_is | rfl)
    (case aC => k_is)
    (case aBI => k_is)
    (case iBI => k_is)
    (case lBI => k_is)
    (case cBI => k_is)
    (case kBI => k_is)
    (case pg => k_is)
    (case hd => k_is)
    (case po => k_is)
    (case sa => k_is)
    (case mk => k_is)
    (case kc => k_is)
    (case nR => k_is)
    (case nH => k_is)
    (case nW => k_is)
    (case gNORTH => k_is)
    (case gWEST => k_is)
    (case gEMPTY => k_is)
    (case gMOST => k_is)
    (case gX => k_is)
    (case lX => k_is)
    (case sX => first | rfl | decide)
    (case aE_NotFull => k_is)
    (case q_NotFull => k_exc)
    (case aE_ShoreError => k_is)
    (case y_NotFull_ShoreError => first | kit_is | rfl)
    (case x_NotFull_NotFull => kts_exm)
    (case a_l_cell_at => k_is)
    (case l_l_cell_at => k_is)
    (case c_l_cell_at => k_is)
    (case k_l_cell_at => k_is)
    (case a_l_mix => k_is)
    (case l_l_mix => k_is)
    (case c_l_mix => k_is)
    (case k_l_mix => k_is)
    (case a_l_whole => k_is)
    (case l_l_whole => k_is)
    (case c_l_whole => k_is)
    (case k_l_whole => k_is)
    (case a_l_size_by => k_is)
    (case l_l_size_by => k_is)
    (case c_l_size_by => k_is)
    (case k_l_size_by => k_is)
    (case a_l_rows_by => k_is)
    (case l_l_rows_by => k_is)
    (case c_l_rows_by => k_is)
    (case k_l_rows_by => k_is)
    (case a_l_places => k_is)
    (case l_l_places => k_is)
    (case c_l_places => k_is)
    (case k_l_places => k_is)
    (case a_check_row => k_is)
    (case l_check_row => k_is)
    (case c_check_row => k_is)
    (case k_check_row => k_is)
    (case a_check_rows => k_is)
    (case l_check_rows => k_is)
    (case c_check_rows => k_is)
    (case k_check_rows => k_is)
    (case a_near => k_is)
    (case l_near => k_is)
    (case c_near => k_is)
    (case k_near => k_is)
    (case a_has_cell => k_is)
    (case l_has_cell => k_is)
    (case c_has_cell => k_is)
    (case k_has_cell => k_is)
    (case a_empty => k_is)
    (case l_empty => k_is)
    (case c_empty => k_is)
    (case k_empty => k_is)
    (case a_check_full => k_is)
    (case l_check_full => k_is)
    (case c_check_full => k_is)
    (case k_check_full => k_is)
    (case a_on_north_shore => k_is)
    (case l_on_north_shore => k_is)
    (case c_on_north_shore => k_is)
    (case k_on_north_shore => k_is)
    (case a_on_west_shore => k_is)
    (case l_on_west_shore => k_is)
    (case c_on_west_shore => k_is)
    (case k_on_west_shore => k_is)
    (case a_hand_at => k_is)
    (case l_hand_at => k_is)
    (case c_hand_at => k_is)
    (case k_hand_at => k_is)
    (case a_place_ahead => k_is)
    (case l_place_ahead => k_is)
    (case c_place_ahead => k_is)
    (case k_place_ahead => k_is)
    (case a_next_pair => k_is)
    (case l_next_pair => k_is)
    (case c_next_pair => k_is)
    (case k_next_pair => k_is)
    (case a_walk => k_is)
    (case l_walk => k_is)
    (case c_walk => k_is)
    (case k_walk => k_is)
    (case a_l_met => k_is)
    (case l_l_met => k_is)
    (case c_l_met => k_is)
    (case k_l_met => k_is)
    (case a_l_owner => k_is)
    (case l_l_owner => k_is)
    (case c_l_owner => k_is)
    (case k_l_owner => k_is)
    (case a_l_due => k_is)
    (case l_l_due => k_is)
    (case c_l_due => k_is)
    (case k_l_due => k_is)
    (case a_law => k_is)
    (case l_law => k_is)
    (case c_law => k_is)
    (case k_law => k_is)
