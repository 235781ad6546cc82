import PyProof.Rows.All
import Wide.All
import OpenK.AllK
import Wide.FinOn
import Lean
import PyProof.EqAt
import PyProof.EqKinds
import PyProof.TupleCall
import PySem.Challenge.RW_stayprice_k34_whole_dearer_nights
set_option Elab.async false
set_option linter.all false
set_option maxRecDepth 100000
/-! THE HAND LAYER, for ints, bools, texts, own classes, LISTS and tuples (index, slices, in, append, pop ..), calls, loops. Paste it whole ahead of your own text; what your proof does not reach may be deleted. -/
namespace L2
open PySem PySem.Spec PyProof.Rows

/-- a key: an int or a str -/
abbrev Key := Sum Int Str
def keyIs : Key → Value → Bool
  | .inl k, v => Value.isInt k v
  | .inr x, v => Value.isStrOf x v
def keyH (w : World) : Key → Int
  | .inl k => hashInt k
  | .inr x => hashStr w x
theorem keyIs_shape : ∀ {k : Key} {v : Value}, keyIs k v = true → (∃ i t, k = Sum.inl i ∧ v = Value.int i t) ∨ (∃ x t, k = Sum.inr x ∧ v = Value.str x t)
  | .inl i, v, h => by
    obtain ⟨t, e⟩ := Value.isInt_shape (k := i) (v := v) h
    exact .inl ⟨i, t, rfl, e⟩
  | .inr x, v, h => by
    obtain ⟨t, e⟩ := Value.isStrOf_shape (x := x) (v := v) h
    exact .inr ⟨x, t, rfl, e⟩
theorem key_ll (a b : Int) : decide ((Sum.inl a : Key) = Sum.inl b) = (a == b) := by
  by_cases e : a = b
  · subst e; simp
  · have h : ¬ (Sum.inl a : Key) = Sum.inl b := fun q => e (Sum.inl.inj q)
    rw [decide_eq_false h]
    exact (beq_eq_false_iff_ne.mpr e).symm
theorem key_rr (a b : Str) : decide ((Sum.inr a : Key) = Sum.inr b) = decide (a = b) := by
  by_cases e : a = b
  · subst e; simp
  · have h : ¬ (Sum.inr a : Key) = Sum.inr b := fun q => e (Sum.inr.inj q)
    rw [decide_eq_false h, decide_eq_false e]
theorem key_lr (a : Int) (b : Str) : decide ((Sum.inl a : Key) = Sum.inr b) = false := decide_eq_false (fun q => nomatch q)
theorem key_rl (a : Str) (b : Int) : decide ((Sum.inr a : Key) = Sum.inl b) = false := decide_eq_false (fun q => nomatch q)

def mixKind (prog : Program) (w : World) : PySem.KeyKind prog w Key where
  is := keyIs
  hash := keyH w
  inj := fun v a b ha hb => by
    rcases keyIs_shape ha with ⟨i, t, rfl, rfl⟩ | ⟨x, t, rfl, rfl⟩
    · rcases keyIs_shape hb with ⟨j, u, rfl, e⟩ | ⟨y, u, rfl, e⟩
      · injection e with e1 _; rw [e1]
      · exact nomatch e
    · rcases keyIs_shape hb with ⟨j, u, rfl, e⟩ | ⟨y, u, rfl, e⟩
      · exact nomatch e
      · injection e with e1 _; rw [e1]
  byValue := fun k v h => by
    rcases keyIs_shape h with ⟨i, t, rfl, rfl⟩ | ⟨x, t, rfl, rfl⟩ <;> rfl
  pyHash := fun hv h => by
    rcases keyIs_shape hv with ⟨i, t, rfl, rfl⟩ | ⟨x, t, rfl, rfl⟩
    · exact wpAny_pyHash_int h
    · exact wpAny_pyHash_str h
  eqBool := fun hu hv h => by
    rcases keyIs_shape hu with ⟨i, t, rfl, rfl⟩ | ⟨x, t, rfl, rfl⟩
    · rcases keyIs_shape hv with ⟨j, u, rfl, rfl⟩ | ⟨y, u, rfl, rfl⟩
      · rw [key_ll] at h; exact wpAny_eqBool_int h
      · rw [key_lr] at h; exact SeqAt.EqAt.int_str i t y u _ _ _ _ h
    · rcases keyIs_shape hv with ⟨j, u, rfl, rfl⟩ | ⟨y, u, rfl, rfl⟩
      · rw [key_rl] at h; exact SeqAt.EqAt.str_int x t j u _ _ _ _ h
      · rw [key_rr] at h; exact wpAny_eqBool_str h
  «strs» := fun k x t v h => by
    rcases keyIs_shape h with ⟨i, u, rfl, e⟩ | ⟨y, u, rfl, e⟩
    · exact nomatch e
    · injection e with e1 _
      subst e1
      cases v <;> rfl

end L2

namespace L2
open PySem PySem.Spec PyProof.Rows

/-- a value, without the heap -/
inductive V where
  | non | bl (b : Bool) | int (i : Int) | str (x : Str) | byt (b : Array UInt8) | flt (b : UInt64) | ref (a : Addr) | ty (n : String)
  deriving DecidableEq

def RelV : V → Value → Prop
  | .non, u => u = Value.none
  | .bl b, u => u = Value.bool b
  | .int i, u => ∃ t, u = Value.int i t
  | .str x, u => ∃ t, u = Value.str x t
  | .byt b, u => ∃ t, u = Value.bytes b t
  | .flt b, u => ∃ t, u = Value.float b t
  | .ref a, u => u = Value.ref a
  | .ty n, u => u = Value.type n

abbrev Vals : List V → List Value → Prop := Paired RelV
theorem Vals.length {xs : List V} {us : List Value} (r : Vals xs us) : xs.length = us.length := Paired.length r
theorem Vals.get : ∀ {xs : List V} {us : List Value} {i : Nat} {x : V}, Vals xs us → xs[i]? = some x → ∃ u, us[i]? = some u ∧ RelV x u
  | _, _, _, _, .nil, e => by simp at e
  | _, _, 0, _, .cons r _, e => by simp at e; subst e; exact ⟨_, rfl, r⟩
  | _, _, i + 1, x, .cons _ t, e => by
    obtain ⟨u, h1, h2⟩ := Vals.get (i := i) (x := x) t (by simpa using e)
    exact ⟨u, by simpa using h1, h2⟩
theorem Vals.set {x : V} {u : Value} (r : RelV x u) : ∀ {xs : List V} {us : List Value} (i : Nat), Vals xs us → Vals (xs.set i x) (us.set i u)
  | _, _, _, .nil => .nil
  | _, _, 0, .cons _ t => .cons r t
  | _, _, i + 1, .cons q t => .cons q (Vals.set r i t)
theorem Vals.append : ∀ {xs ys : List V} {us ws : List Value}, Vals xs us → Vals ys ws → Vals (xs ++ ys) (us ++ ws)
  | _, _, _, _, .nil, s => s
  | _, _, _, _, .cons r t, s => .cons r (Vals.append t s)
theorem Vals.take : ∀ {xs : List V} {us : List Value} (n : Nat), Vals xs us → Vals (xs.take n) (us.take n)
  | _, _, 0, _ => .nil
  | _, _, _ + 1, .nil => .nil
  | _, _, n + 1, .cons r t => .cons r (Vals.take n t)
theorem Vals.drop : ∀ {xs : List V} {us : List Value} (n : Nat), Vals xs us → Vals (xs.drop n) (us.drop n)
  | _, _, 0, r => r
  | _, _, _ + 1, .nil => .nil
  | _, _, n + 1, .cons _ t => Vals.drop n t
def RelO : Option V → Option Value → Prop
  | some v, some u => RelV v u
  | none, none => True
  | _, _ => False
def KV {κ : Type} : List (κ × V) → List (κ × Value) → Prop := Paired fun (p : κ × V) (q : κ × Value) => p.1 = q.1 ∧ RelV p.2 q.2

/-- a key of a dict (00_mix): an int or a text -/
def kV : Key → V
  | .inl i => .int i
  | .inr x => .str x

/-- what stands at a tracked address -/
inductive HO where
  /-- a list -/
  | lst (xs : List V)
  /-- a tuple (never changes) -/
  | tup (xs : List V)
  /-- a dict whose keys are ints and texts; one whose keys are tuples of ints and texts (the empty one is both) -/
  | dK (kvs : List (Key × V)) | dT (kvs : List (List Key × V))
  /-- a set of ints: its members, its size -/
  | set (S : Int → Bool) (n : Nat)
  /-- an instance of the class at C, its dict at dx, its attributes -/
  | ins (C dx : Addr) (fs : List (Str × V))
  /-- the dict of the instance at x -/
  | own (x : Addr)
  /-- the dict of an exception -/
  | xd (fs : List (Str × V))
  /-- a bound method, f of x -/
  | met (f x : Addr)
  /-- a range object lo, lo + 1, .. below hi -/
  | rng (lo hi : Int)
  /-- a thing that is known to the object (the script; a dict while a loop walks it): read, never written while it is so -/
  | frz (o : Obj) (u : HO)
  /-- a code object's table -/
  | tbl (ps : Array Value)
  /-- any other thing, by what is true of its one object (a def of one's own: SetO a S n := HO.ext fun h => ..) -/
  | ext (φ : Heap → Prop)

abbrev Hp := Addr → Option HO
def upd (H : Hp) (a : Addr) (o : HO) : Hp := fun b => if b = a then some o else H b
theorem upd_same {H : Hp} {a : Addr} {o : HO} : upd H a o a = some o := by unfold upd; rw [if_pos rfl]
theorem upd_ne {H : Hp} {a b : Addr} {o : HO} (h : b ≠ a) : upd H a o b = H b := by unfold upd; rw [if_neg h]
theorem upd_upd {H : Hp} {a : Addr} {o u : HO} : upd (upd H a o) a u = upd H a u := by
  funext b; unfold upd; split <;> rfl
/-- two objects of different content stand apart -/
theorem ne_of {H : Hp} {a b : Addr} {o u : HO} (h : H a = some o) (h' : H b = some u) (d : o ≠ u) : a ≠ b := by
  intro e; subst e; rw [h] at h'; exact d (Option.some.inj h')
theorem ne_of_none {H : Hp} {a b : Addr} {o : HO} (h : H a = some o) (h' : H b = none) : a ≠ b := by
  intro e; subst e; rw [h] at h'; cases h'

section
variable (P : Program) (w : World)
def ObjOk (H : Hp) (h : Heap) (a : Addr) : HO → Prop
  | .lst xs => xs.length ≤ sizeLine ∧ ∃ (its : List Value) (n : Nat), Vals xs its ∧ h.get? a = some { cls := .type "list", data := .seq its.toArray n }
  | .tup xs => xs.length ≤ sizeLine ∧ ∃ its : List Value, Vals xs its ∧ IsTup h a its.toArray
  | .dK kvs => kvs.length ≤ sizeLine ∧ (a == sysModules) = false ∧ ∃ vs, KV kvs vs ∧ h.DictOf (mixKind P w) a vs
  | .dT kvs => kvs.length ≤ sizeLine ∧ (a == sysModules) = false ∧ ∃ xs : List (List Key × Addr × Value),
      Paired (fun (p : List Key × V) (q : List Key × Addr × Value) => p.1 = q.1 ∧ H q.2.1 = some (.tup (p.1.map kV)) ∧ RelV p.2 q.2.2) kvs xs ∧
      ∃ o es ep, h.get? a = some o ∧ o.ExactDict ∧ o.data = .dict es ep ∧ es.toList = xs.map (entryOfKey (tupleKind (mixKind P w))) ∧ (xs.map (·.1)).Nodup
  | .set S n => h.SetOf (intKind P w) a S n
  | .ins C dx fs => H dx = some (.own a) ∧ fs.length ≤ 1000 ∧ dx ≠ a ∧ h.get? a = some (PySem.W.instObj C dx) ∧
      ∃ mA, h.Ns1 dx mA ∧ (∀ f, RelO (fs.lookup f) (mA f)) ∧ PySem.Within mA (fs.map (·.1))
  | .own _ => ∃ o, h.get? a = some o
  | .xd fs => ∃ mA, h.Ns1 a mA ∧ ∀ f, RelO (fs.lookup f) (mA f)
  | .rng lo hi => ∃ t u v, h.get? a = some { cls := .type "range", data := .fields #[.int lo t, .int hi u, .int 1 v] }
  | .frz o u => h.get? a = some o ∧ ObjOk H h a u
  | .tbl ps => h.get? a = some { cls := .none, data := .fields ps }
  | .met f x => h.get? a = some (PySem.W.methodObj (.ref f) (.ref x))
  | .ext φ => φ h ∧ (∃ o, h.get? a = some o) ∧ ∀ h1 h2 : Heap, φ h1 → (∀ o, h1.get? a = some o → h2.get? a = some o) → φ h2
/-- the abstract heap is held -/
def HOk (H : Hp) (h : Heap) : Prop := ∀ a o, H a = some o → ObjOk P w H h a o
end

section
variable {P : Program} {w : World} {H H' : Hp} {h h' : Heap} {a : Addr} {o : HO}
theorem ObjOk.lt (x : ObjOk P w H h a o) : a < h.objs.size := by
  cases o with
  | lst xs => obtain ⟨_, _, _, _, e⟩ := x; exact Heap.lt_size e
  | tup xs => obtain ⟨_, _, _, p⟩ := x; exact p.lt
  | dK kvs => obtain ⟨_, _, _, _, o, _, _, e, _⟩ := x; exact Heap.lt_size e
  | dT kvs => obtain ⟨_, _, _, _, o, _, _, e, _⟩ := x; exact Heap.lt_size e
  | set S n => obtain ⟨o, _, _, _, e, _⟩ := x; exact Heap.lt_size e
  | ins C dx fs => obtain ⟨_, _, _, e, _⟩ := x; exact Heap.lt_size e
  | own y => obtain ⟨_, e⟩ := x; exact Heap.lt_size e
  | xd fs => obtain ⟨_, ⟨_, _, _, e, _⟩, _⟩ := x; exact Heap.lt_size e
  | rng lo hi => obtain ⟨_, _, _, e⟩ := x; exact Heap.lt_size e
  | frz ob u => obtain ⟨e, _⟩ := x; exact Heap.lt_size e
  | tbl ps => exact Heap.lt_size (show h.get? a = some _ from x)
  | met f y => exact Heap.lt_size (show h.get? a = some _ from x)
  | ext φ => obtain ⟨_, ⟨_, e⟩, _⟩ := x; exact Heap.lt_size e
theorem Paired.mapP {α β : Type} {F G : α → β → Prop} : ∀ {l₁ : List α} {l₂ : List β}, Paired F l₁ l₂ → (∀ a b, F a b → G a b) → Paired G l₁ l₂
  | _, _, .nil, _ => .nil
  | _, _, .cons r t, f => .cons (f _ _ r) (Paired.mapP t f)
/-- what an object's description leans on: its own object, its own dict, the tuples -/
theorem ObjOk.stay (x : ObjOk P w H h a o) (k : ∀ b u, (b = a ∨ H b = some (.own a)) → h.get? b = some u → h'.get? b = some u)
    (ho : ∀ b, H b = some (.own a) → H' b = some (.own a)) (ht : ∀ b xs, H b = some (.tup xs) → H' b = some (.tup xs)) : ObjOk P w H' h' a o := by
  induction o with
  | lst xs => obtain ⟨z, its, n, r, e⟩ := x; exact ⟨z, its, n, r, k _ _ (.inl rfl) e⟩
  | tup xs => obtain ⟨z, its, r, ob, e, c⟩ := x; exact ⟨z, its, r, ob, k _ _ (.inl rfl) e, c⟩
  | dK kvs => obtain ⟨z, y, vs, r, ob, es, ep, e, c⟩ := x; exact ⟨z, y, vs, r, ob, es, ep, k _ _ (.inl rfl) e, c⟩
  | dT kvs =>
    obtain ⟨z, y, xs, r, ob, es, ep, e, c⟩ := x
    exact ⟨z, y, xs, Paired.mapP r fun p q z => ⟨z.1, ht _ _ z.2.1, z.2.2⟩, ob, es, ep, k _ _ (.inl rfl) e, c⟩
  | set S n => obtain ⟨ob, es, ep, t, e, c⟩ := x; exact ⟨ob, es, ep, t, k _ _ (.inl rfl) e, c⟩
  | ins C dx fs =>
    obtain ⟨d, z, ne, e, mA, ⟨od, es, ep, e2, c⟩, r⟩ := x
    exact ⟨ho _ d, z, ne, k _ _ (.inl rfl) e, mA, ⟨od, es, ep, k _ _ (.inr d) e2, c⟩, r⟩
  | own y => obtain ⟨ob, e⟩ := x; exact ⟨ob, k _ _ (.inl rfl) e⟩
  | xd fs => obtain ⟨mA, ⟨od, es, ep, e, c⟩, r⟩ := x; exact ⟨mA, ⟨od, es, ep, k _ _ (.inl rfl) e, c⟩, r⟩
  | rng lo hi => obtain ⟨t, u, v, e⟩ := x; exact ⟨t, u, v, k _ _ (.inl rfl) e⟩
  | frz ob u ih => obtain ⟨e, q⟩ := x; exact ⟨k _ _ (.inl rfl) e, ih q⟩
  | tbl ps =>
    have e : h.get? a = some { cls := .none, data := .fields ps } := x
    show h'.get? a = some { cls := .none, data := .fields ps }
    exact k a _ (.inl rfl) e
  | met f y =>
    have e : h.get? a = some (PySem.W.methodObj (.ref f) (.ref y)) := x
    show h'.get? a = some (PySem.W.methodObj (.ref f) (.ref y))
    exact k a _ (.inl rfl) e
  | ext φ => obtain ⟨p, ⟨o, e⟩, st⟩ := x; exact ⟨st _ _ p fun o q => k _ _ (.inl rfl) q, ⟨o, k _ _ (.inl rfl) e⟩, st⟩
theorem HOk.lt (x : HOk P w H h) (e : H a = some o) : a < h.objs.size := (x a o e).lt
theorem HOk.fresh (x : HOk P w H h) (e : h.objs.size ≤ a) : H a = none := by
  cases q : H a with
  | none => rfl
  | some u => exact absurd (Nat.lt_of_lt_of_le (x.lt q) e) (Nat.lt_irrefl _)
/-- every object of the heap is kept -/
theorem HOk.kept (x : HOk P w H h) (k : ∀ b u, h.get? b = some u → h'.get? b = some u) : HOk P w H h' := fun a o e =>
  (x a o e).stay (fun b u _ q => k b u q) (fun _ q => q) fun _ _ q => q
/-- a new object is laid and tracked -/
theorem HOk.laid (x : HOk P w H h) (k : ∀ b u, h.get? b = some u → h'.get? b = some u) (hp : h.objs.size ≤ a) (new : ObjOk P w (upd H a o) h' a o) : HOk P w (upd H a o) h' := fun b u e => by
  have hn := x.fresh hp
  by_cases hb : b = a
  · subst hb; rw [upd_same] at e; cases e; exact new
  · rw [upd_ne hb] at e
    exact (x b u e).stay (fun c v _ q => k c v q) (fun c q => by rw [upd_ne (ne_of_none q hn)]; exact q) fun c xs q => by rw [upd_ne (ne_of_none q hn)]; exact q
end

/-- what may be read as u: it is u, or a known u -/
def Rd (H : Hp) (a : Addr) (u : HO) : Prop := H a = some u ∨ ∃ o, H a = some (.frz o u)
theorem Rd.ok {P : Program} {w : World} {H : Hp} {h : Heap} {a : Addr} {u : HO} (r : Rd H a u) (x : HOk P w H h) : ObjOk P w H h a u := by
  rcases r with r | ⟨o, r⟩
  · exact x a u r
  · obtain ⟨_, q⟩ := x a _ r
    exact q
/-- what may be written -/
def Mut : Option HO → Prop
  | some (.lst _) => True
  | some (.dK _) => True
  | some (.dT _) => True
  | some (.set _ _) => True
  | some (.ins _ _ _) => True
  | some (.ext _) => True
  | _ => False
section
variable {P : Program} {w : World} {H : Hp} {h h' : Heap} {x e : Addr} {o' : HO}
/-- the object at e is changed: x itself, or the dict of the instance x -/
theorem HOk.write (ok : HOk P w H h) (mu : Mut (H x)) (he : e = x ∨ H e = some (.own x)) (k : ∀ b u, b ≠ e → h.get? b = some u → h'.get? b = some u) (heo : ∃ u, h'.get? e = some u)
    (new : ObjOk P w (upd H x o') h' x o') : HOk P w (upd H x o') h' := fun b u q => by
  have nown : ∀ c y, H c = some (.own y) → c ≠ x := fun c y r z => by subst z; rw [r] at mu; exact mu
  have ntup : ∀ c xs, H c = some (.tup xs) → c ≠ x := fun c xs r z => by subst z; rw [r] at mu; exact mu
  by_cases hb : b = x
  · subst hb; rw [upd_same] at q; cases q; exact new
  · rw [upd_ne hb] at q
    by_cases hbe : b = e
    · have q' : H b = some (.own x) := by
        rcases he with z | z
        · exact absurd (hbe.trans z) hb
        · rw [hbe]; exact z
      rw [q] at q'; cases q'
      obtain ⟨v, hv⟩ := heo
      exact ⟨v, by rw [hbe]; exact hv⟩
    · refine (ok b u q).stay (fun c v hc r => k c v ?_ r) (fun c r => by rw [upd_ne (nown c b r)]; exact r) fun c xs r => by rw [upd_ne (ntup c xs r)]; exact r
      rcases hc with rfl | hc
      · exact hbe
      · rintro rfl
        rcases he with z | z
        · exact nown c b hc z
        · rw [hc] at z; cases z; exact hb rfl
end

/-! ### kept unless tracked; of the frames at fs (the callers') the slots may change (an exception that passes writes there); of the records at ex (iterators) nothing is said -/
structure Un (fs ex : List Addr) (H H' : Hp) (h h' : Heap) : Prop where
  keep : ∀ b o, h.get? b = some o → H b = none → b ∉ fs → b ∉ ex → h'.get? b = some o
  slot : ∀ b o, h.get? b = some o → H b = none → b ∈ fs → b ∉ ex → ∃ sl, h'.get? b = some { o with slots := sl }
  free : ∀ b o, h.get? b = some o → H b = none → b ∉ ex → H' b = none
  there : ∀ b o, h.get? b = some o → b ∉ ex → ∃ o', h'.get? b = some o'
  tups : ∀ b xs, H b = some (.tup xs) → H' b = some (.tup xs)
  frzs : ∀ b o u, H b = some (.frz o u) → H' b = some (.frz o u)
  tbls : ∀ b ps, H b = some (.tbl ps) → ∃ more, H' b = some (.tbl (ps ++ more))
section
variable {fs fs' ex ex' : List Addr} {H H1 H2 : Hp} {h h1 h2 h' : Heap} {a x e : Addr} {o : HO}
theorem Un.any (u : Un fs ex H H1 h h1) {b : Addr} {ob : Obj} (q : h.get? b = some ob) (n : H b = none) (hx : b ∉ ex) : ∃ sl, h1.get? b = some { ob with slots := sl } := by
  by_cases hb : b ∈ fs
  · exact u.slot b ob q n hb hx
  · exact ⟨ob.slots, u.keep b ob q n hb hx⟩
theorem Un.kept (k : ∀ b u, h.get? b = some u → h'.get? b = some u) : Un fs ex H H h h' :=
  ⟨fun b ob q _ _ _ => k b ob q, fun b ob q _ _ _ => ⟨ob.slots, k b ob q⟩, fun _ _ _ n _ => n, fun b ob q _ => ⟨ob, k b ob q⟩, fun _ _ q => q, fun _ _ _ q => q, fun _ ps q => ⟨#[], by rw [q]; simp⟩⟩
theorem Un.refl : Un fs ex H H h h := Un.kept fun _ _ q => q
theorem Un.laid (k : ∀ b u, h.get? b = some u → h'.get? b = some u) (hp : h.objs.size ≤ a) (hn : H a = none) : Un fs ex H (upd H a o) h h' where
  keep := fun b u q _ _ _ => k b u q
  slot := fun b u q _ _ _ => ⟨u.slots, k b u q⟩
  free := fun b u q n _ => by rw [upd_ne (Nat.ne_of_lt (Nat.lt_of_lt_of_le (Heap.lt_size q) hp))]; exact n
  there := fun b u q _ => ⟨u, k b u q⟩
  tups := fun b xs q => by rw [upd_ne (ne_of_none q hn)]; exact q
  frzs := fun b u xs q => by rw [upd_ne (ne_of_none q hn)]; exact q
  tbls := fun b ps q => ⟨#[], by rw [upd_ne (ne_of_none q hn), q]; simp⟩
theorem Un.write (mu : Mut (H x)) (he : e = x ∨ H e = some (.own x)) (k : ∀ b u, b ≠ e → h.get? b = some u → h'.get? b = some u) (heo : ∃ u, h'.get? e = some u) : Un fs ex H (upd H x o) h h' := by
  have hx : ∀ b, H b = none → b ≠ x := fun b n z => by subst z; rw [n] at mu; exact mu
  have hb : ∀ b, H b = none → b ≠ e := fun b n z => by
    subst z
    rcases he with r | r
    · exact hx b n r
    · rw [n] at r; cases r
  have hm : ∀ b u, H b = some u → ¬ Mut (some u) → b ≠ x := fun b u q nm z => by subst z; rw [q] at mu; exact nm mu
  refine ⟨fun b u q n _ _ => k b u (hb b n) q, fun b u q n _ _ => ⟨u.slots, k b u (hb b n) q⟩, fun b u q n _ => by rw [upd_ne (hx b n)]; exact n, fun b u q _ => ?_,
    fun b xs q => by rw [upd_ne (hm b _ q fun z => z)]; exact q, fun b u xs q => by rw [upd_ne (hm b _ q fun z => z)]; exact q, fun b ps q => ⟨#[], by rw [upd_ne (hm b _ q fun z => z), q]; simp⟩⟩
  by_cases hbe : b = e
  · subst hbe; exact heo
  · exact ⟨u, k b u hbe q⟩
end

/-! ### the heap without what is tracked -/
def trk (h : Heap) (H : Hp) : List Addr := (List.range h.objs.size).filter fun a => (H a).isSome
def hidT (h : Heap) (H : Hp) : Heap := PySem.W.hideAll h (trk h H)
theorem hidT_size (h : Heap) (H : Hp) : (hidT h H).objs.size = h.objs.size := PySem.W.hideAll_size _ _
theorem hidT_get {h : Heap} {H : Hp} {b : Addr} {o : Obj} (e : h.get? b = some o) (n : H b = none) : (hidT h H).get? b = some o :=
  PySem.W.hideAll_get _ e fun hm => by
    have q : (H b).isSome = true := (List.mem_filter.mp hm).2
    rw [n] at q; simp at q
theorem of_hidT {h : Heap} {H : Hp} {b : Addr} {o : Obj} (e : (hidT h H).get? b = some o) : h.get? b = some o ∧ H b = none := by
  have e' : h.get? b = some o := PySem.W.of_hideAll (trk h H) e
  refine ⟨e', ?_⟩
  cases q : H b with
  | none => rfl
  | some x =>
    have hm : b ∈ trk h H := List.mem_filter.mpr ⟨List.mem_range.mpr (Heap.lt_size e'), by simp [q]⟩
    have z : (hidT h H).get? b = none := PySem.W.hideAll_none (trk h H) hm
    rw [z] at e; cases e

/-! ### OpenK's ledger, filled with every new object but one -/
def allNews (g h : Heap) (L : Addr) : List (Addr × Obj) := (List.range h.objs.size).filterMap fun a => if a = L ∨ (g.get? a).isSome = true then none else (h.get? a).map fun o => (a, o)
def rest (g h : Heap) (L d : Addr) : List (Addr × Obj) := (allNews g h L).filter fun p => decide (p.1 ≠ d)
end L2

namespace L2
open PySem PySem.Spec PyProof.Rows

/-- the module's facts, over the base: the heap at the law's entry without what is tracked there -/
structure Mod (K : PySem.W.Frag) (mg : Str → Option Value) (base : Heap) : Prop where
  kin : K.In base
  glob : base.Ns mainGlobals mg
  blt : ∃ mb, base.Ns builtinsNs mb ∧ ∀ x : Str, x ≠ "__name__" → mb x = bootBuiltins x
  nolimit : base.NoLimit

/-- the context: a def's body (or a comprehension's block) running. base: fixed through the whole law; s₀, H₀: the entry; outer: the frames whose slots others may change (a def's callers); stack: all frames that run;
   ex: iterators that were made ahead of the entry and are walked here (a comprehension's); fn: the names whose cells were made at the entry (a def: all; a comprehension's block: its own); calm: not within an except suite; pn: pins that every state bears; xe: what is wanted of an exception that leaves the code -/
structure Cx where
  prog : Program
  w : World
  K : PySem.W.Frag
  mg : Str → Option Value
  base : Heap
  A : Around
  N : List Str
  s₀ : Shared
  H₀ : Hp
  env : Env
  outer : List Env
  stack : List Env
  ex : List Addr
  fn : Str → Bool
  calm : Bool
  pn : List (Addr × Obj)
  xe : Value → Shared → Prop
/-- the callers' frames -/
def frs (l : List Env) : List Addr := l.filterMap (·.frame)
abbrev Cx.fs (X : Cx) : List Addr := frs X.outer

def Vis (sc : Scope) (x : Str) : Prop := sc.names.lookup x = some .local ∨ sc.names.lookup x = some .cell ∨ sc.names.lookup x = some .free
def Loc (sc : Scope) (x : Str) : Prop := sc.names.lookup x = some .local ∨ sc.names.lookup x = some .cell
def Look (env : Env) (h : Heap) (m : Str → Option Value) (x : Str) (u : Value) : Prop :=
  (env.kindOf x = some .local ∧ m x = some u) ∨ ((env.kindOf x = some .cell ∨ env.kindOf x = some .free) ∧ ∃ c, env.cells.lookup x = some c ∧ h.IsCell c (some u))

structure Cx.Ok (X : Cx) : Prop where
  mod : Mod X.K X.mg X.base
  kind : X.env.scope.kind = .function
  glob : X.env.globals = mainGlobals
  blt : X.env.builtins = builtinsNs
  above : X.s₀.heap.objs.size ≤ X.env.locals
  inj : ∀ x y c, X.env.cells.lookup x = some c → X.env.cells.lookup y = some c → x = y
  has : ∀ x, (X.env.kindOf x = some .cell ∨ X.env.kindOf x = some .free) → ∃ c, X.env.cells.lookup x = some c
  cab : ∀ x c, X.fn x = true → X.env.cells.lookup x = some c → X.s₀.heap.objs.size ≤ c
  hd : X.calm = true → X.A.handled = none
  frames : X.A.frames = some X.stack
  stk : X.stack = X.outer ∨ (X.stack = X.env :: X.outer ∧ X.env.frame = some X.env.locals)
  exf : ∀ b ∈ X.ex, b ≠ X.env.locals ∧ ∀ x c, X.env.cells.lookup x = some c → c ≠ b
  bs : ∀ b o, X.base.get? b = some o → X.s₀.heap.get? b = some o ∧ X.H₀ b = none
  bsz : X.base.objs.size ≤ X.s₀.heap.objs.size
  noex : ∀ b o, X.base.get? b = some o → b ∉ X.ex
  exfs : ∀ b ∈ X.ex, b ∉ X.fs
  funs : X.s₀.heap.FunFrames X.base X.outer
  frf : ∀ b ∈ X.fs, X.H₀ b = none

structure Inv (X : Cx) (pins : List (Addr × Obj)) (σ : List (Option V)) (H : Hp) (s : Shared) : Prop where
  ok : X.Ok
  os : s.os = X.s₀.os
  bare : AllBare s.gens
  base : Un X.fs X.ex X.H₀ H X.s₀.heap s.heap
  loc : ∃ m, s.heap.Ns X.env.locals m ∧ ∀ (i : Nat) (x : Str) (v : V), X.N[i]? = some x → σ[i]? = some (some v) → Vis X.env.scope x → ∃ u, RelV v u ∧ Look X.env s.heap m x u
  cell : ∀ x c, X.env.cells.lookup x = some c → ∃ v, s.heap.IsCell c v
  free : H X.env.locals = none
  freeC : ∀ x c, X.env.cells.lookup x = some c → H c = none
  pin : ∀ p ∈ X.pn ++ pins, s.heap.get? p.1 = some p.2 ∧ H p.1 = none ∧ p.1 ≠ X.env.locals ∧ p.1 ∉ X.fs ∧ ∀ v, p.2.data ≠ .cell v
  hok : HOk X.prog X.w H s.heap
  len : σ.length = X.N.length

section
variable {X : Cx} {pins : List (Addr × Obj)} {σ : List (Option V)} {H H' : Hp} {s : Shared} {h' : Heap}

theorem Cx.Ok.nofr (ok : X.Ok) {b : Addr} {o : Obj} (e : X.base.get? b = some o) : b ∉ X.fs := fun hb => by
  have := (ok.funs.mem hb).1
  rw [e] at this; cases this
theorem Inv.bs (I : Inv X pins σ H s) : ∀ b o, X.base.get? b = some o → s.heap.get? b = some o ∧ H b = none := fun b o e =>
  ⟨I.base.keep b o (I.ok.bs b o e).1 (I.ok.bs b o e).2 (I.ok.nofr e) (I.ok.noex b o e), I.base.free b o (I.ok.bs b o e).1 (I.ok.bs b o e).2 (I.ok.noex b o e)⟩
theorem Inv.bk (I : Inv X pins σ H s) : ∀ b o, X.base.get? b = some o → s.heap.get? b = some o := fun b o e => (I.bs b o e).1
theorem Inv.mod (I : Inv X pins σ H s) : Mod X.K X.mg X.base := I.ok.mod
theorem Inv.kIn (I : Inv X pins σ H s) : X.K.In s.heap := I.ok.mod.kin.keeps I.bk
theorem Inv.lt (I : Inv X pins σ H s) : X.env.locals < s.heap.objs.size := let ⟨_, hn, _⟩ := I.loc; hn.lt
theorem Inv.sz (I : Inv X pins σ H s) : X.s₀.heap.objs.size ≤ s.heap.objs.size := Nat.le_trans I.ok.above (Nat.le_of_lt I.lt)
theorem Inv.nofs (I : Inv X pins σ H s) {a : Addr} (h : s.heap.objs.size ≤ a) : a ∉ X.fs := fun hb => by
  obtain ⟨_, o, ho, _⟩ := I.ok.funs.mem hb
  exact absurd (Nat.lt_of_lt_of_le (Heap.lt_size ho) (Nat.le_trans I.sz h)) (Nat.lt_irrefl _)
theorem Inv.cne (I : Inv X pins σ H s) : ∀ x c, X.env.cells.lookup x = some c → c ≠ X.env.locals := fun x c e z => by
  obtain ⟨v, o, ho, hd⟩ := I.cell x c e
  obtain ⟨m, ⟨o', es, ep, ho', hd', _⟩, _⟩ := I.loc
  rw [z, ho'] at ho; cases ho; rw [hd'] at hd; cases hd
theorem Inv.funs (I : Inv X pins σ H s) : s.heap.FunFrames X.base X.outer := by
  have all : ∀ (l : List Env), (∀ b ∈ frs l, b ∈ X.fs) → X.s₀.heap.FunFrames X.base l → s.heap.FunFrames X.base l := by
    intro l
    induction l with
    | nil => intro _ _; trivial
    | cons env r ih =>
      intro hs hl
      obtain ⟨hk, ⟨L, o, hf, hn, ho, hd⟩, hr⟩ := hl
      have hL : L ∈ X.fs := hs L (by unfold frs; rw [List.filterMap_cons, hf]; exact List.mem_cons_self)
      obtain ⟨sl, e⟩ := I.base.slot L o ho (I.ok.frf L hL) hL fun z => I.ok.exfs L z hL
      exact ⟨hk, ⟨L, _, hf, hn, e, hd⟩, ih (fun b hb => hs b (by unfold frs; rw [List.filterMap_cons, hf]; exact List.mem_cons_of_mem _ hb)) hr⟩
  exact all X.outer (fun _ hb => hb) I.ok.funs

/-- the frames that run, for a call -/
theorem Inv.stack (I : Inv X pins σ H s) : s.heap.FunFrames X.base X.stack := by
  rcases I.ok.stk with e | ⟨e, hf⟩
  · rw [e]; exact I.funs
  · rw [e]
    obtain ⟨m, hn, _⟩ := I.loc
    refine .cons (by rw [I.ok.kind]; decide) hf hn ?_ I.funs
    exact Heap.get?_none_of_le (Nat.le_trans I.ok.bsz I.ok.above)
theorem Inv.stkSub (I : Inv X pins σ H s) : ∀ b ∈ frs X.stack, b ∈ X.env.locals :: X.fs := fun b hb => by
  rcases I.ok.stk with e | ⟨e, hf⟩
  · rw [e] at hb; exact List.mem_cons_of_mem _ hb
  · rw [e] at hb
    unfold frs at hb
    rw [List.filterMap_cons, hf] at hb
    exact hb
theorem Inv.stkFree (I : Inv X pins σ H s) : ∀ b ∈ frs X.stack, H b = none := fun b hb => by
  rcases List.mem_cons.mp (I.stkSub b hb) with e | hb
  · rw [e]; exact I.free
  · obtain ⟨_, o, ho, _⟩ := I.ok.funs.mem hb
    exact I.base.free b o ho (I.ok.frf b hb) fun z => I.ok.exfs b z hb

/-- THE STEP: the untracked objects but the frame and the records at ch are kept (the callers' frames up to slots), the frame's map is kept, the new abstract heap is held -/
theorem Inv.step {g' : Array GenState} {t' : Nat} {d' : Drawn} {ch : List Addr} (I : Inv X pins σ H s)
    (hch : ∀ b ∈ ch, (b ∈ X.ex ∨ X.s₀.heap.objs.size ≤ b) ∧ b ≠ X.env.locals ∧ (∀ x c, X.env.cells.lookup x = some c → c ≠ b) ∧ ∀ p ∈ X.pn ++ pins, p.1 ≠ b)
    (keep : ∀ b o, b ≠ X.env.locals → b ∉ X.fs → b ∉ ch → s.heap.get? b = some o → H b = none → h'.get? b = some o)
    (slot : ∀ b o, b ≠ X.env.locals → b ∈ X.fs → b ∉ ch → s.heap.get? b = some o → H b = none → ∃ sl, h'.get? b = some { o with slots := sl }) (free : ∀ b o, b ∉ ch → s.heap.get? b = some o → H b = none → H' b = none)
    (there : ∀ b o, b ∉ ch → s.heap.get? b = some o → ∃ o', h'.get? b = some o')
    (tups : ∀ b xs, H b = some (.tup xs) → H' b = some (.tup xs)) (frzs : ∀ b o u, H b = some (.frz o u) → H' b = some (.frz o u)) (tbls : ∀ b ps, H b = some (.tbl ps) → ∃ more, H' b = some (.tbl (ps ++ more)))
    (ns : ∀ m, s.heap.Ns X.env.locals m → h'.Ns X.env.locals m) (hok : HOk X.prog X.w H' h') (hg : AllBare g') :
    Inv X pins σ H' { s with heap := h', gens := g', drawn := d', toks := t' } := by
  have neL : ∀ b o, X.s₀.heap.get? b = some o → b ≠ X.env.locals := fun b o e => Nat.ne_of_lt (Nat.lt_of_lt_of_le (Heap.lt_size e) I.ok.above)
  have neC : ∀ b o, X.s₀.heap.get? b = some o → b ∉ X.ex → b ∉ ch := fun b o e hx hb => by
    rcases (hch b hb).1 with z | z
    · exact hx z
    · exact absurd (Nat.lt_of_lt_of_le (Heap.lt_size e) z) (Nat.lt_irrefl _)
  have cellK : ∀ x c, X.env.cells.lookup x = some c → ∀ v, s.heap.IsCell c v → h'.IsCell c v := fun x c e v ⟨o, ho, hd⟩ => by
    have nch : c ∉ ch := fun z => (hch c z).2.2.1 x c e rfl
    by_cases hc : c ∈ X.fs
    · obtain ⟨sl, q⟩ := slot c o (I.cne x c e) hc nch ho (I.freeC x c e)
      exact ⟨_, q, hd⟩
    · exact ⟨o, keep c o (I.cne x c e) hc nch ho (I.freeC x c e), hd⟩
  refine ⟨I.ok, I.os, hg, ⟨fun b o e n hb hx => ?_, fun b o e n hb hx => ?_, fun b o e n hx => ?_, fun b o e hx => ?_, fun b xs e => tups b xs (I.base.tups b xs e), fun b o xs e => frzs b o xs (I.base.frzs b o xs e), fun b ps e => ?_⟩, ?_, fun x c e => ?_, ?_, fun x c e => ?_, fun p hp => ?_, hok, I.len⟩
  · exact keep b o (neL b o e) hb (neC b o e hx) (I.base.keep b o e n hb hx) (I.base.free b o e n hx)
  · obtain ⟨sl, e1⟩ := I.base.slot b o e n hb hx
    obtain ⟨sl', e2⟩ := slot b _ (neL b o e) hb (neC b o e hx) e1 (I.base.free b o e n hx)
    exact ⟨sl', e2⟩
  · obtain ⟨o', e1⟩ := I.base.there b o e hx
    exact free b o' (neC b o e hx) e1 (I.base.free b o e n hx)
  · obtain ⟨o', e1⟩ := I.base.there b o e hx
    exact there b o' (neC b o e hx) e1
  · obtain ⟨m1, e1⟩ := I.base.tbls b ps e
    obtain ⟨m2, e2⟩ := tbls b _ e1
    exact ⟨m1 ++ m2, by rw [e2, Array.append_assoc]⟩
  · obtain ⟨m, hn, hl⟩ := I.loc
    refine ⟨m, ns m hn, fun i x v e1 e2 e3 => ?_⟩
    obtain ⟨u, r, l⟩ := hl i x v e1 e2 e3
    refine ⟨u, r, ?_⟩
    rcases l with l | ⟨k, c, e, z⟩
    · exact .inl l
    · exact .inr ⟨k, c, e, cellK x c e _ z⟩
  · obtain ⟨v, z⟩ := I.cell x c e
    exact ⟨v, cellK x c e v z⟩
  · obtain ⟨m, ⟨o, _, _, ho, _⟩, _⟩ := I.loc
    exact free _ o (fun z => (hch _ z).2.1 rfl) ho I.free
  · obtain ⟨v, o, ho, hd⟩ := I.cell x c e
    exact free c o (fun z => (hch c z).2.2.1 x c e rfl) ho (I.freeC x c e)
  · obtain ⟨e, n, ne, nf, d⟩ := I.pin p hp
    have nch : p.1 ∉ ch := fun z => (hch p.1 z).2.2.2 p hp rfl
    exact ⟨keep p.1 p.2 ne nf nch e n, free p.1 p.2 nch e n, ne, nf, d⟩
/-- .. where the frame's own object is kept too -/
theorem Inv.un {t' : Nat} (I : Inv X pins σ H s) (u : Un X.fs [] H H' s.heap h') (hok : HOk X.prog X.w H' h') : Inv X pins σ H' { s with heap := h', toks := t' } := by
  obtain ⟨m, ⟨o, es, ep, ho, r⟩, _⟩ := id I.loc
  obtain ⟨sl, hL⟩ := u.any ho I.free (by simp)
  exact I.step (g' := s.gens) (d' := s.drawn) (ch := []) (fun _ z => nomatch z) (fun b o _ hb _ e n => u.keep b o e n hb (by simp)) (fun b o _ hb _ e n => u.slot b o e n hb (by simp)) (fun b o _ e n => u.free b o e n (by simp)) (fun b o _ e => u.there b o e (by simp)) u.tups u.frzs u.tbls (fun m' hm => by
    obtain ⟨o', es', ep', ho', r'⟩ := hm
    rw [ho] at ho'; cases ho'
    exact ⟨_, es', ep', hL, r'⟩) hok I.bare
/-- behind a call (or a comprehension's block): the slots of this frame may have changed too, the records at ch may have turned -/
theorem Inv.call {g' : Array GenState} {t' : Nat} {d' : Drawn} {ch : List Addr} (I : Inv X pins σ H s) (u : Un (frs X.stack) ch H H' s.heap h') (hok : HOk X.prog X.w H' h') (hg : AllBare g')
    (hch : ∀ b ∈ ch, (b ∈ X.ex ∨ X.s₀.heap.objs.size ≤ b) ∧ b ≠ X.env.locals ∧ (∀ x c, X.env.cells.lookup x = some c → c ≠ b) ∧ ∀ p ∈ X.pn ++ pins, p.1 ≠ b) :
    Inv X pins σ H' { s with heap := h', gens := g', drawn := d', toks := t' } := by
  obtain ⟨m, ⟨o, es, ep, ho, r⟩, _⟩ := id I.loc
  obtain ⟨sl, hL⟩ := u.any ho I.free fun z => (hch _ z).2.1 rfl
  exact I.step (ch := ch) hch (fun b o hL hb hc e n => u.keep b o e n (fun z => (List.mem_cons.mp (I.stkSub b z)).elim hL hb) hc) (fun b o _ _ hc e n => u.any e n hc) (fun b o hc e n => u.free b o e n hc) (fun b o hc e => u.there b o e hc) u.tups u.frzs u.tbls (fun m' hm => by
    obtain ⟨o', es', ep', ho', r'⟩ := hm
    rw [ho] at ho'; cases ho'
    exact ⟨_, es', ep', hL, r'⟩) hok hg
/-- an untracked record of ours (an iterator) has turned -/
theorem Inv.turned {t' : Nat} {it : Addr} (I : Inv X pins σ H s) (k : ∀ b o, b ≠ it → s.heap.get? b = some o → h'.get? b = some o) (hn : H it = none) (hL : it ≠ X.env.locals)
    (h1 : it ∈ X.ex ∨ X.s₀.heap.objs.size ≤ it) (h2 : ∀ x c, X.env.cells.lookup x = some c → c ≠ it) (h3 : ∀ p ∈ X.pn ++ pins, p.1 ≠ it) : Inv X pins σ H { s with heap := h', toks := t' } := by
  have nit : ∀ b u, H b = some u → b ≠ it := fun b u e z => by rw [z, hn] at e; cases e
  refine I.step (g' := s.gens) (d' := s.drawn) (ch := [it]) (fun b hb => ?_) (fun b o _ _ hc e _ => k b o (fun z => hc (by simp [z])) e) (fun b o _ _ hc e _ => ⟨o.slots, k b o (fun z => hc (by simp [z])) e⟩) (fun _ _ _ _ n => n)
    (fun b o hc e => ⟨o, k b o (fun z => hc (by simp [z])) e⟩) (fun _ _ e => e) (fun _ _ _ e => e) (fun b ps e => ⟨#[], by rw [e]; simp⟩) (fun m hm => ?_) (fun b u e => ?_) I.bare
  · have e : b = it := by simpa using hb
    subst e
    exact ⟨h1, hL, h2, h3⟩
  · obtain ⟨o, es, ep, ho, r⟩ := hm
    exact ⟨o, es, ep, k _ o (Ne.symm hL) ho, r⟩
  · refine (I.hok b u e).stay (fun c v hc q => k c v ?_ q) (fun _ q => q) fun _ _ q => q
    rcases hc with z | z
    · rw [z]; exact nit b u e
    · exact nit c _ z
theorem Inv.tok (I : Inv X pins σ H s) (t : Nat) : Inv X pins σ H { s with toks := t } := I.un (h' := s.heap) (t' := t) Un.refl I.hok
/-- all objects kept -/
theorem Inv.kept {t' : Nat} (I : Inv X pins σ H s) (k : ∀ b u, s.heap.get? b = some u → h'.get? b = some u) : Inv X pins σ H { s with heap := h', toks := t' } := I.un (Un.kept k) (I.hok.kept k)
/-- a new object laid and tracked -/
theorem Inv.laid {a : Addr} {o : HO} {t' : Nat} (I : Inv X pins σ H s) (k : ∀ b u, s.heap.get? b = some u → h'.get? b = some u) (hp : s.heap.objs.size ≤ a) (new : ObjOk X.prog X.w (upd H a o) h' a o) :
    Inv X pins σ (upd H a o) { s with heap := h', toks := t' } := I.un (Un.laid k hp (I.hok.fresh hp)) (I.hok.laid k hp new)
/-- an object written -/
theorem Inv.write {x e : Addr} {o : HO} {t' : Nat} (I : Inv X pins σ H s) (mu : Mut (H x)) (he : e = x ∨ H e = some (.own x)) (k : ∀ b u, b ≠ e → s.heap.get? b = some u → h'.get? b = some u) (heo : ∃ u, h'.get? e = some u)
    (new : ObjOk X.prog X.w (upd H x o) h' x o) : Inv X pins σ (upd H x o) { s with heap := h', toks := t' } := I.un (Un.write mu he k heo) (I.hok.write mu he k heo new)
theorem Inv.pins_of {pins' : List (Addr × Obj)} (I : Inv X pins σ H s) (h : ∀ p ∈ pins', s.heap.get? p.1 = some p.2 ∧ H p.1 = none ∧ p.1 ≠ X.env.locals ∧ p.1 ∉ X.fs ∧ ∀ v, p.2.data ≠ .cell v) : Inv X pins' σ H s :=
  ⟨I.ok, I.os, I.bare, I.base, I.loc, I.cell, I.free, I.freeC, fun p hp => (List.mem_append.mp hp).elim (fun z => I.pin p (List.mem_append_left _ z)) (h p), I.hok, I.len⟩

theorem nodup_ix {N : List Str} (hN : N.Nodup) {i j : Nat} {x : Str} (a : N[i]? = some x) (b : N[j]? = some x) : i = j := by
  obtain ⟨h1, e1⟩ := List.getElem?_eq_some_iff.mp a
  obtain ⟨h2, e2⟩ := List.getElem?_eq_some_iff.mp b
  exact (List.getElem_inj hN).mp (e1.trans e2.symm)

/-- a name is stored; what changed -/
theorem store_ok2 {M : Model} {A : Around} {E : Value → Shared → Prop} {i : Nat} {x : Str} {v : V} {u : Value} {Q : Unit → Shared → Prop} (I : Inv X pins σ H s) (hN : X.N.Nodup) (hi : X.N[i]? = some x) (hx : Loc X.env.scope x) (r : RelV v u)
    (h : ∀ s', Inv X pins (σ.set i (some v)) H s' → (∃ a, Heap.SameBut a s.heap s'.heap ∧ (a = X.env.locals ∨ X.env.cells.lookup x = some a)) → Q () s') (hf : X.fn x = true ∨ X.env.scope.names.lookup x = some .local := by first | exact .inl rfl | exact .inr rfl | assumption) : wpAny M A (storeName X.env x u) Q E s := by
  obtain ⟨m, hn, hl⟩ := id I.loc
  have hcls : (X.env.scope.kind == .class || (X.env.scope.kind == .module && X.env.locals != X.env.globals)) = false := by rw [I.ok.kind]; rfl
  have hiσ : i < σ.length := by rw [I.len]; exact (List.getElem?_eq_some_iff.mp hi).1
  have cne := I.cne
  have tracked : ∀ {a : Addr} {h' : Heap}, (∃ o, s.heap.get? a = some o ∧ H a = none) → Heap.SameBut a s.heap h' → HOk X.prog X.w H h' := fun {a h'} ha hs b ob e => by
    obtain ⟨_, _, hfree⟩ := ha
    refine (I.hok b ob e).stay (fun c w' hc q => (hs.2 c ?_).trans q) (fun _ q => q) fun _ _ q => q
    rintro rfl
    rcases hc with rfl | hc
    · rw [hfree] at e; cases e
    · rw [hfree] at hc; cases hc
  rcases hx with hk | hk
  · refine wpAny_storeName_local hk hn (fun h' hn' hs => ?_) hcls
    obtain ⟨oL, _, _, hoL, _⟩ := id hn
    refine h _ ⟨I.ok, I.os, I.bare, ⟨fun b o e n hb hx => ?_, fun b o e n hb hx => ?_, I.base.free, fun b o e hx => ?_, I.base.tups, I.base.frzs, I.base.tbls⟩, ⟨_, hn', fun j y v' e1 e2 e3 => ?_⟩, fun y c e => ?_, I.free, I.freeC, fun p hp => ?_, tracked ⟨oL, hoL, I.free⟩ hs, by simpa using I.len⟩ ⟨_, hs, .inl rfl⟩
    · exact (hs.2 b (Nat.ne_of_lt (Nat.lt_of_lt_of_le (Heap.lt_size e) I.ok.above))).trans (I.base.keep b o e n hb hx)
    · obtain ⟨sl, e1⟩ := I.base.slot b o e n hb hx
      exact ⟨sl, (hs.2 b (Nat.ne_of_lt (Nat.lt_of_lt_of_le (Heap.lt_size e) I.ok.above))).trans e1⟩
    · obtain ⟨o', e1⟩ := I.base.there b o e hx
      exact ⟨o', (hs.2 b (Nat.ne_of_lt (Nat.lt_of_lt_of_le (Heap.lt_size e) I.ok.above))).trans e1⟩
    · by_cases hj : j = i
      · subst hj
        rw [hi] at e1; cases e1
        rw [List.getElem?_set_self hiσ] at e2
        cases e2
        exact ⟨u, r, .inl ⟨hk, by simp⟩⟩
      · rw [List.getElem?_set_ne (Ne.symm hj)] at e2
        obtain ⟨u', r', q⟩ := hl j y v' e1 e2 e3
        refine ⟨u', r', ?_⟩
        rcases q with ⟨k, e⟩ | ⟨k, c, e, z⟩
        · refine .inl ⟨k, ?_⟩
          have : y ≠ x := fun e => hj (nodup_ix hN e1 (e ▸ hi))
          simp [this, e]
        · exact .inr ⟨k, c, e, z.sameBut hs (cne y c e)⟩
    · obtain ⟨w', z⟩ := I.cell y c e
      exact ⟨w', z.sameBut hs (cne y c e)⟩
    · obtain ⟨e, n, ne, nf, d⟩ := I.pin p hp
      exact ⟨(hs.2 p.1 ne).trans e, n, ne, nf, d⟩
  · have hfn : X.fn x = true := by
      rcases hf with z | z
      · exact z
      · rw [z] at hk; cases hk
    obtain ⟨c, hc⟩ := I.ok.has x (.inl hk)
    obtain ⟨w', z⟩ := I.cell x c hc
    refine wpAny_storeName_cell I.ok.kind hk hc z (fun h' hc' hs => ?_)
    obtain ⟨oc, hoc, hocd⟩ := id z
    refine h { s with heap := h' } ⟨I.ok, I.os, I.bare, ⟨fun b o e n hb hx => ?_, fun b o e n hb hx => ?_, I.base.free, fun b o e hx => ?_, I.base.tups, I.base.frzs, I.base.tbls⟩, ⟨m, hn.sameBut hs (Ne.symm (cne x c hc)), fun j y v' e1 e2 e3 => ?_⟩, fun y c' e => ?_, I.free, I.freeC, fun p hp => ?_, tracked ⟨oc, hoc, I.freeC x c hc⟩ hs, by simpa using I.len⟩ ⟨c, hs, .inr hc⟩
    · exact (hs.2 b (Nat.ne_of_lt (Nat.lt_of_lt_of_le (Heap.lt_size e) (I.ok.cab x c hfn hc)))).trans (I.base.keep b o e n hb hx)
    · obtain ⟨sl, e1⟩ := I.base.slot b o e n hb hx
      exact ⟨sl, (hs.2 b (Nat.ne_of_lt (Nat.lt_of_lt_of_le (Heap.lt_size e) (I.ok.cab x c hfn hc)))).trans e1⟩
    · obtain ⟨o', e1⟩ := I.base.there b o e hx
      exact ⟨o', (hs.2 b (Nat.ne_of_lt (Nat.lt_of_lt_of_le (Heap.lt_size e) (I.ok.cab x c hfn hc)))).trans e1⟩
    · by_cases hj : j = i
      · subst hj
        rw [hi] at e1; cases e1
        rw [List.getElem?_set_self hiσ] at e2
        cases e2
        exact ⟨u, r, .inr ⟨.inl hk, c, hc, hc'⟩⟩
      · rw [List.getElem?_set_ne (Ne.symm hj)] at e2
        obtain ⟨u', r', q⟩ := hl j y v' e1 e2 e3
        refine ⟨u', r', ?_⟩
        rcases q with q | ⟨k, c', e, z'⟩
        · exact .inl q
        · refine .inr ⟨k, c', e, z'.sameBut hs ?_⟩
          rintro rfl
          exact hj (nodup_ix hN e1 (I.ok.inj _ _ _ e hc ▸ hi))
    · by_cases hcc : c' = c
      · subst hcc; exact ⟨_, hc'⟩
      · obtain ⟨w2, z2⟩ := I.cell y c' e
        exact ⟨w2, z2.sameBut hs hcc⟩
    · obtain ⟨e, n, ne, nf, d⟩ := I.pin p hp
      refine ⟨(hs.2 p.1 ?_).trans e, n, ne, nf, d⟩
      intro q
      rw [q, hoc] at e
      have q' : oc = p.2 := Option.some.inj e
      exact d w' (by rw [← q']; exact hocd)
theorem store_ok {M : Model} {A : Around} {E : Value → Shared → Prop} {i : Nat} {x : Str} {v : V} {u : Value} {Q : Unit → Shared → Prop} (I : Inv X pins σ H s) (hN : X.N.Nodup) (hi : X.N[i]? = some x) (hx : Loc X.env.scope x) (r : RelV v u)
    (h : ∀ s', Inv X pins (σ.set i (some v)) H s' → Q () s') (hf : X.fn x = true ∨ X.env.scope.names.lookup x = some .local := by first | exact .inl rfl | exact .inr rfl | assumption) : wpAny M A (storeName X.env x u) Q E s :=
  store_ok2 I hN hi hx r (fun s' I' _ => h s' I') hf
/-- behind a call or a block, the state as it is -/
theorem Inv.call' {s' : Shared} {ch : List Addr} (I : Inv X pins σ H s) (ho : s'.os = s.os) (u : Un (frs X.stack) ch H H' s.heap s'.heap) (hok : HOk X.prog X.w H' s'.heap) (hg : AllBare s'.gens)
    (hch : ∀ b ∈ ch, (b ∈ X.ex ∨ X.s₀.heap.objs.size ≤ b) ∧ b ≠ X.env.locals ∧ (∀ x c, X.env.cells.lookup x = some c → c ≠ b) ∧ ∀ p ∈ X.pn ++ pins, p.1 ≠ b) : Inv X pins σ H' s' := by
  obtain ⟨h', g', d', t', o'⟩ := s'
  have e : o' = s.os := ho
  subst e
  exact I.call (g' := g') (t' := t') (d' := d') u hok hg hch
end

/-! ### the judgements -/
/-- an exception: its class, its own dict's address (where it has one), the abstract heap behind it -/
abbrev XK := Value → Option Addr → Hp → Prop
abbrev St := List (Option V)
abbrev VK := V → Hp → Prop
/-- an expression's reading; a test's; an argument list's -/
abbrev TE := St → Hp → VK → Prop
abbrev TT := St → Hp → (Bool → Hp → Prop) → Prop
abbrev TA := St → Hp → (List V → Hp → Prop) → Prop
/-- what is wanted behind a statement -/
structure Ends where
  nx : St → Hp → Prop
  rt : VK
  bk : St → Hp → Prop := fun _ _ => False
  ct : St → Hp → Prop := fun _ _ => False
abbrev TS := Ends → St → Hp → Prop

def EP (X : Cx) (pins : List (Addr × Obj)) (σ : St) (Q : VK) (u : Value) (s' : Shared) : Prop := ∃ v H', Inv X pins σ H' s' ∧ RelV v u ∧ Q v H'
def TP (X : Cx) (pins : List (Addr × Obj)) (σ : St) (Q : Bool → Hp → Prop) (b : Bool) (s' : Shared) : Prop := ∃ H', Inv X pins σ H' s' ∧ Q b H'
def AP (X : Cx) (pins : List (Addr × Obj)) (σ : St) (Q : List V → Hp → Prop) (us : List Value) (s' : Shared) : Prop := ∃ vs H', Inv X pins σ H' s' ∧ Vals vs us ∧ Q vs H'
def SP (X : Cx) (pins : List (Addr × Obj)) (D : Ends) (f : Flow) (s' : Shared) : Prop :=
  match f with
  | .next => ∃ σ' H', Inv X pins σ' H' s' ∧ D.nx σ' H'
  | .brk => ∃ σ' H', Inv X pins σ' H' s' ∧ D.bk σ' H'
  | .cont => ∃ σ' H', Inv X pins σ' H' s' ∧ D.ct σ' H'
  | .ret u => ∃ v σ' H', Inv X pins σ' H' s' ∧ RelV v u ∧ D.rt v H'

def PE (X : Cx) (e : Expr) (t : TE) : Prop :=
  ∀ (pins : List (Addr × Obj)) (s : Shared) (σ : St) (H : Hp) (Q : VK), Inv X pins σ H s → t σ H Q → wpAny (model X.prog X.w) X.A (eval e X.env) (EP X pins σ Q) X.xe s
def PT (X : Cx) (e : Expr) (t : TT) : Prop :=
  ∀ (pins : List (Addr × Obj)) (s : Shared) (σ : St) (H : Hp) (Q : Bool → Hp → Prop), Inv X pins σ H s → t σ H Q → wpAny (model X.prog X.w) X.A (isTrue e X.env (eval e X.env)) (TP X pins σ Q) X.xe s
/-- a test whatever its 'whole' is (and, or) -/
def PW (X : Cx) (e : Expr) (t : TT) : Prop :=
  ∀ (whole : Sem Value) (pins : List (Addr × Obj)) (s : Shared) (σ : St) (H : Hp) (Q : Bool → Hp → Prop), Inv X pins σ H s → t σ H Q → wpAny (model X.prog X.w) X.A (isTrue e X.env whole) (TP X pins σ Q) X.xe s
theorem PW.pt {X : Cx} {e : Expr} {t : TT} (h : PW X e t) : PT X e t := h _
/-- an argument list (no star), from the left -/
def PA (X : Cx) (es : List Expr) (t : TA) : Prop :=
  ∀ (pos : Pos) (pins : List (Addr × Obj)) (s : Shared) (σ : St) (H : Hp) (Q : List V → Hp → Prop), Inv X pins σ H s → t σ H Q → wpAny (model X.prog X.w) X.A (spliced (backTo pos (starEach es X.env))) (AP X pins σ Q) X.xe s
def PS (X : Cx) (st : Stmt) (t : TS) : Prop :=
  ∀ (pins : List (Addr × Obj)) (s : Shared) (σ : St) (H : Hp) (D : Ends), Inv X pins σ H s → t D σ H → wpAny (model X.prog X.w) X.A (exec st X.env) (SP X pins D) X.xe s
def PSs (X : Cx) (st : List Stmt) (t : TS) : Prop :=
  ∀ (pins : List (Addr × Obj)) (s : Shared) (σ : St) (H : Hp) (D : Ends), Inv X pins σ H s → t D σ H → wpAny (model X.prog X.w) X.A (execs st X.env) (SP X pins D) X.xe s
/-- weaken the end -/
theorem thn {α : Type} {t : Sem α} {Q Q' : α → Shared → Prop} {M : Model} {A : Around} {E : Value → Shared → Prop} {s : Shared} (h : wpAny M A t Q E s) (hQ : ∀ a s, Q a s → Q' a s) : wpAny M A t Q' E s := wpAny_mono h hQ fun _ _ x => x
end L2

namespace L2
open PySem PySem.Spec PyProof.Rows
section
variable {X : Cx}

/-- two expressions in a row -/
theorem bin {a b : Expr} {ta tb : TE} (ha : PE X a ta) (hb : PE X b tb) {pins : List (Addr × Obj)} {s : Shared} {σ : St} {H : Hp} {R : V → V → Hp → Prop} (I : Inv X pins σ H s) (h : ta σ H fun x H1 => tb σ H1 fun y H2 => R x y H2)
    {α : Type} {Q : α → Shared → Prop} {f : Value → Value → Sem α}
    (hf : ∀ v u s2 x y H2, Inv X pins σ H2 s2 → RelV x v → RelV y u → R x y H2 → wpAny (model X.prog X.w) X.A (f v u) Q X.xe s2) :
    wpAny (model X.prog X.w) X.A (eval a X.env) (fun v s₁ => wpAny (model X.prog X.w) X.A (eval b X.env) (fun u s₂ => wpAny (model X.prog X.w) X.A (f v u) Q X.xe s₂) X.xe s₁) X.xe s := by
  refine thn (ha pins s σ H _ I h) fun v s1 ⟨x, H1, I1, r1, q1⟩ => ?_
  refine thn (hb pins s1 σ H1 _ I1 q1) fun u s2 ⟨y, H2, I2, r2, q2⟩ => ?_
  exact hf v u s2 x y H2 I2 r1 r2 q2

/-! ### names and constants -/
def tVar (i : Nat) : TE := fun σ H Q => ∃ v, σ[i]? = some (some v) ∧ Q v H
def tC (v : V) : TE := fun _ H Q => Q v H
theorem pe_var {i : Nat} {x : Str} {pos : Pos} (hN : X.N[i]? = some x) (hv : Vis X.env.scope x) (hd : (x == ("__debug__" : Str)) = false := by decide) (hcd : (x == ("__classdict__" : Str)) = false := by decide) : PE X (.Name x pos) (tVar i) := by
  intro pins s σ H Q I h
  obtain ⟨v, e, h⟩ := h
  obtain ⟨m, hn, hl⟩ := I.loc
  obtain ⟨u, r, l⟩ := hl i x v hN e hv
  have fin : EP X pins σ Q u s := ⟨v, H, I, r, h⟩
  rcases l with ⟨hk, hm⟩ | ⟨hk, c, hc, hcell⟩
  · exact wpAny_Name (wpAny_loadName_local I.ok.kind hk hn hm fin) hd
  · rcases hk with hk | hk
    · exact wpAny_Name (wpAny_loadName_cell I.ok.kind hk hc hcell fin) hd
    · exact wpAny_Name (wpAny_loadName_free I.ok.kind hk hc hcell fin hcd) hd
theorem pe_int {i j pos} : PE X (.Constant (.int i) j pos) (tC (.int i)) := fun _ _ _ H _ I h => wpAny_Constant_int ⟨.int i, H, I.tok _, ⟨_, rfl⟩, h⟩
theorem pe_bl {b j pos} : PE X (.Constant (.bool b) j pos) (tC (.bl b)) := fun _ _ _ H _ I h => Constant_bool ⟨.bl b, H, I, rfl, h⟩
theorem pe_non {j pos} : PE X (.Constant .none j pos) (tC .non) := fun _ _ _ H _ I h => Constant_none ⟨.non, H, I, rfl, h⟩
theorem pe_str {x j pos} : PE X (.Constant (.str x) j pos) (tC (.str x)) := fun _ _ _ H _ I h => Calls.Constant_str ⟨.str x, H, I.tok _, ⟨_, rfl⟩, h⟩

/-- a global name of the def -/
def Gl (X : Cx) (x : Str) : Prop := X.env.kindOf x = some .globalImplicit
theorem ld_glob {E : Value → Shared → Prop} {pins : List (Addr × Obj)} {s : Shared} {σ : St} {H : Hp} {x : Str} {u : Value} {pos : Pos} {Q : Value → Shared → Prop} (I : Inv X pins σ H s) (hg : Gl X x) (hm : X.mg x = some u) (h : Q u s)
    (hd : (x == ("__debug__" : Str)) = false := by decide) : wpAny (model X.prog X.w) X.A (eval (.Name x pos) X.env) Q E s :=
  Calls.Name_function_global I.ok.kind hg (Calls.loadGlobal_global (by rw [I.ok.glob]; exact I.mod.glob.keeps I.bk) hm h) hd
theorem ld_blt {E : Value → Shared → Prop} {pins : List (Addr × Obj)} {s : Shared} {σ : St} {H : Hp} {x : Str} {u : Value} {pos : Pos} {Q : Value → Shared → Prop} (I : Inv X pins σ H s) (hg : Gl X x) (hm : X.mg x = none) (hv : bootBuiltins x = some u) (h : Q u s)
    (hn : x ≠ "__name__" := by decide) (hd : (x == ("__debug__" : Str)) = false := by decide) : wpAny (model X.prog X.w) X.A (eval (.Name x pos) X.env) Q E s := by
  obtain ⟨mb, h1, h2⟩ := I.mod.blt
  exact Calls.Name_function_global I.ok.kind hg (Calls.loadGlobal_builtin (by rw [I.ok.glob]; exact I.mod.glob.keeps I.bk) hm (by rw [I.ok.blt]; exact h1.keeps I.bk) ((h2 x hn).trans hv) h) hd
/-- a module's constant, a class, a function, as a value -/
theorem pe_glob {x : Str} {v : V} {u : Value} {pos : Pos} (hg : Gl X x) (hm : X.mg x = some u) (r : RelV v u) (hd : (x == ("__debug__" : Str)) = false := by decide) : PE X (.Name x pos) (tC v) :=
  fun _ _ _ H _ I h => ld_glob I hg hm ⟨v, H, I, r, h⟩ hd
theorem pe_bltn {x : Str} {v : V} {u : Value} {pos : Pos} (hg : Gl X x) (hm : X.mg x = none) (hv : bootBuiltins x = some u) (r : RelV v u) (hn : x ≠ "__name__" := by decide) (hd : (x == ("__debug__" : Str)) = false := by decide) : PE X (.Name x pos) (tC v) :=
  fun _ _ _ H _ I h => ld_blt I hg hm hv ⟨v, H, I, r, h⟩ hn hd

/-! ### arithmetic -/
/-- two ints -/
def t2I (ta tb : TE) (k : Int → Int → Hp → Prop) : St → Hp → Prop := fun σ H => ta σ H fun x H1 => tb σ H1 fun y H2 => ∃ i j, x = .int i ∧ y = .int j ∧ k i j H2
def tAdd (ta tb : TE) : TE := fun σ H Q => t2I ta tb (fun i j H2 => Q (.int (i + j)) H2) σ H
def tSub (ta tb : TE) : TE := fun σ H Q => t2I ta tb (fun i j H2 => Q (.int (i - j)) H2) σ H
/-- the left factor below 2^64 -/
def tMul (ta tb : TE) : TE := fun σ H Q => t2I ta tb (fun i j H2 => (-(2 ^ 64) < i ∧ i < 2 ^ 64) ∧ Q (.int (i * j)) H2) σ H
variable {a b : Expr} {ta tb : TE} {pos : Pos}
/-! ### comparisons -/
def PC (X : Cx) (op : CmpOp) (a b : Expr) (t : TE) : Prop :=
  ∀ (pins : List (Addr × Obj)) (s : Shared) (σ : St) (H : Hp) (Q : VK), Inv X pins σ H s → t σ H Q →
    wpAny (model X.prog X.w) X.A (eval a X.env) (fun v s₁ => wpAny (model X.prog X.w) X.A (eval b X.env) (fun u s₂ => wpAny (model X.prog X.w) X.A (compareOp op v u) (EP X pins σ Q) X.xe s₂) X.xe s₁) X.xe s
def tCmp (p : Int → Int → Bool) (ta tb : TE) : TE := fun σ H Q => t2I ta tb (fun i j H2 => Q (.bl (p i j)) H2) σ H
abbrev tLt : TE → TE → TE := tCmp fun i j => decide (i < j)
abbrev tLe : TE → TE → TE := tCmp fun i j => decide (i ≤ j)
abbrev tGt : TE → TE → TE := tCmp fun i j => decide (j < i)
abbrev tGe : TE → TE → TE := tCmp fun i j => decide (j ≤ i)
abbrev tEqI : TE → TE → TE := tCmp fun i j => decide (i = j)
abbrev tNeI : TE → TE → TE := tCmp fun i j => !decide (i = j)
/-- is None -/
def tIsN (ta : TE) : TE := fun σ H Q => ta σ H fun x H1 => Q (.bl (decide (x = .non))) H1
def tNotN (ta : TE) : TE := fun σ H Q => ta σ H fun x H1 => Q (.bl (!decide (x = .non))) H1
/-- a comparison as a value, as a test -/
def tB (t : TE) : TT := fun σ H Q => t σ H fun x H1 => ∃ c, x = .bl c ∧ Q c H1
theorem pt_cmp {op : CmpOp} {t : TE} (h : PC X op a b t) (h1 : behindInMarks op b = false := by first | exact nobehind _ (by decide) (by decide) | rfl) : PT X (.Compare a [op] [b] pos) (tB t) := by
  intro pins s σ H Q I hw
  refine wpAny_isTrue_Compare1 (thn (h pins s σ H _ I hw) fun v s1 h1 => thn h1 fun u s2 h2 => thn h2 fun c s3 ⟨x, H1, I1, r1, q1⟩ => ?_) h1
  obtain ⟨d, rfl, q⟩ := q1
  cases r1
  exact wpAny_truthy_bool ⟨H1, I1, q⟩
/-- an expression whose value is a bool, as a test -/
theorem pt_val {e : Expr} {t : TE} (h : PE X e t) (he : ∀ whole, isTrue e X.env whole = (do let v ← whole; standAt e.pos; holding [v] (truthy v)) := by intro _; rfl) : PT X e (tB t) := by
  intro pins s σ H Q I hw
  refine isTrue_plain (thn (h pins s σ H _ I hw) fun v s1 ⟨x, H1, I1, r1, q1⟩ => ?_) (he _)
  obtain ⟨d, rfl, q⟩ := q1
  cases r1
  exact wpAny_truthy_bool ⟨H1, I1, q⟩

/-! ### and, or, not -/
variable {tA tB' : TT} {rest : List Expr}
def tAnd (t u : TT) : TT := fun σ H Q => t σ H fun c H1 => if c = true then u σ H1 Q else Q false H1
def tOr (t u : TT) : TT := fun σ H Q => t σ H fun c H1 => if c = true then Q true H1 else u σ H1 Q
def tNot (t : TT) : TT := fun σ H Q => t σ H fun c H1 => Q (!c) H1
theorem pw_and1 (ha : PT X a tA) : PW X (.BoolOp .And [a] pos) tA := by
  intro wh pins s σ H Q I h
  refine isTrue_and (thn (ha pins s σ H Q I h) fun c s1 e => ?_)
  cases c with
  | true => exact isTrue_and_nil e
  | false => exact e
theorem pw_or1 (ha : PT X a tA) : PW X (.BoolOp .Or [a] pos) tA := by
  intro wh pins s σ H Q I h
  refine isTrue_or (thn (ha pins s σ H Q I h) fun c s1 e => ?_)
  cases c with
  | false => exact isTrue_or_nil e
  | true => exact e
theorem pw_and (ha : PT X a tA) (hb : PW X (.BoolOp .And (b :: rest) pos) tB') : PW X (.BoolOp .And (a :: b :: rest) pos) (tAnd tA tB') := by
  intro wh pins s σ H Q I h
  refine isTrue_and (thn (ha pins s σ H _ I h) fun c s1 ⟨H1, I1, q1⟩ => ?_)
  cases c with
  | true => exact hb wh pins s1 σ H1 Q I1 q1
  | false => exact ⟨H1, I1, q1⟩
theorem pw_or (ha : PT X a tA) (hb : PW X (.BoolOp .Or (b :: rest) pos) tB') : PW X (.BoolOp .Or (a :: b :: rest) pos) (tOr tA tB') := by
  intro wh pins s σ H Q I h
  refine isTrue_or (thn (ha pins s σ H _ I h) fun c s1 ⟨H1, I1, q1⟩ => ?_)
  cases c with
  | true => exact ⟨H1, I1, q1⟩
  | false => exact hb wh pins s1 σ H1 Q I1 q1
theorem pt_not (ha : PT X a tA) : PT X (.UnaryOp .Not a pos) (tNot tA) := by
  intro pins s σ H Q I h
  exact isTrue_not (ha pins s σ H (fun c H1 => Q (!c) H1) I h)
/-- .. as values (bools) -/
def tAndV (ta tb : TE) : TE := fun σ H Q => ta σ H fun x H1 => ∃ c, x = .bl c ∧ if c = true then tb σ H1 Q else Q (.bl false) H1
def tOrV (ta tb : TE) : TE := fun σ H Q => ta σ H fun x H1 => ∃ c, x = .bl c ∧ if c = true then Q (.bl true) H1 else tb σ H1 Q
def tNotV (ta : TE) : TE := fun σ H Q => ta σ H fun x H1 => ∃ c, x = .bl c ∧ Q (.bl (!c)) H1
theorem pe_one {op} {t : TE} (h : PE X a t) : PE X (.BoolOp op [a] pos) t := fun pins s σ H Q I hw => BoolOp_one (h pins s σ H Q I hw)
theorem pe_and (ha : PE X a ta) (hb : PE X (.BoolOp .And (b :: rest) pos) tb) : PE X (.BoolOp .And (a :: b :: rest) pos) (tAndV ta tb) := by
  intro pins s σ H Q I h
  refine BoolOp_and (thn (ha pins s σ H _ I h) fun v s1 ⟨x, H1, I1, r1, q1⟩ => ?_)
  obtain ⟨c, rfl, q1⟩ := q1
  cases r1
  refine wpAny_truthy_bool ?_
  cases c with
  | true => exact hb pins s1 σ H1 Q I1 q1
  | false => exact ⟨.bl false, H1, I1, rfl, q1⟩
theorem pe_or (ha : PE X a ta) (hb : PE X (.BoolOp .Or (b :: rest) pos) tb) : PE X (.BoolOp .Or (a :: b :: rest) pos) (tOrV ta tb) := by
  intro pins s σ H Q I h
  refine BoolOp_or (thn (ha pins s σ H _ I h) fun v s1 ⟨x, H1, I1, r1, q1⟩ => ?_)
  obtain ⟨c, rfl, q1⟩ := q1
  cases r1
  refine wpAny_truthy_bool ?_
  cases c with
  | false => exact hb pins s1 σ H1 Q I1 q1
  | true => exact ⟨.bl true, H1, I1, rfl, q1⟩
theorem pe_not (ha : PE X a ta) : PE X (.UnaryOp .Not a pos) (tNotV ta) := by
  intro pins s σ H Q I h
  refine UnaryOp_ (thn (ha pins s σ H _ I h) fun v s1 ⟨x, H1, I1, r1, q1⟩ => ?_)
  obtain ⟨c, rfl, q1⟩ := q1
  cases r1
  exact not_of (wpAny_truthy_bool ⟨.bl (!c), H1, I1, rfl, q1⟩)
/-- a if t else b -/
def tIf (t : TT) (ta tb : TE) : TE := fun σ H Q => t σ H fun c H1 => if c = true then ta σ H1 Q else tb σ H1 Q
theorem pe_ifExp {c : Expr} (hc : PT X c tA) (ha : PE X a ta) (hb : PE X b tb) : PE X (.IfExp c a b pos) (tIf tA ta tb) := by
  intro pins s σ H Q I h
  refine wpAny_IfExp (thn (hc pins s σ H _ I h) fun d s1 ⟨H1, I1, q1⟩ => ?_)
  cases d with
  | true => exact ha pins s1 σ H1 Q I1 q1
  | false => exact hb pins s1 σ H1 Q I1 q1
end
end L2

namespace L2
open PySem PySem.Spec PyProof.Rows

/-! ### a list, a tuple that is read: tracked, frozen, or an object of the module -/
def SqL (K : PySem.W.Frag) (H : Hp) (a : Addr) (xs : List V) : Prop :=
  Rd H a (.lst xs) ∨
    ∃ (o : Obj) (its : Array Value) (n : Nat), K.lookup a = some o ∧ o.cls = .type "list" ∧ o.dict = none ∧ o.data = .seq its n ∧ its.size ≤ sizeLine ∧ Vals xs its.toList
def SqT (K : PySem.W.Frag) (H : Hp) (a : Addr) (xs : List V) : Prop :=
  Rd H a (.tup xs) ∨
    ∃ (o : Obj) (its : Array Value) (n : Nat), K.lookup a = some o ∧ o.cls = .type "tuple" ∧ o.data = .seq its n ∧ its.size ≤ sizeLine ∧ Vals xs its.toList
def absV : Value → Option V
  | .none => some .non
  | .bool b => some (.bl b)
  | .int i _ => some (.int i)
  | .str x _ => some (.str x)
  | .bytes b _ => some (.byt b)
  | .float b _ => some (.flt b)
  | .ref a => some (.ref a)
  | .type n => some (.ty n)
  | _ => none
theorem RelV.abs {x : V} {u : Value} (r : RelV x u) : absV u = some x := by
  cases x with
  | non => cases r; rfl
  | bl _ => cases r; rfl
  | int _ => obtain ⟨t, rfl⟩ := r; rfl
  | str _ => obtain ⟨t, rfl⟩ := r; rfl
  | byt _ => obtain ⟨t, rfl⟩ := r; rfl
  | flt _ => obtain ⟨t, rfl⟩ := r; rfl
  | ref _ => cases r; rfl
  | ty _ => cases r; rfl
theorem RelV.inj {x y : V} {u : Value} (r : RelV x u) (q : RelV y u) : x = y := Option.some.inj (r.abs.symm.trans q.abs)
theorem Vals.inj : ∀ {xs ys : List V} {us : List Value}, Vals xs us → Vals ys us → xs = ys
  | _, _, _, .nil, .nil => rfl
  | _, _, _, .cons r t, .cons r' t' => by rw [r.inj r', Vals.inj t t']
section
variable {X : Cx} {pins : List (Addr × Obj)} {σ : St} {H : Hp} {s : Shared} {a : Addr} {xs ys : List V}
theorem SqL.of {K : PySem.W.Frag} (h : H a = some (.lst xs)) : SqL K H a xs := .inl (.inl h)
theorem SqT.of {K : PySem.W.Frag} (h : H a = some (.tup xs)) : SqT K H a xs := .inl (.inl h)
theorem Inv.list (I : Inv X pins σ H s) (h : SqL X.K H a xs) : ∃ its : List Value, Vals xs its ∧ PlainL s.heap a its.toArray ∧ xs.length ≤ sizeLine := by
  rcases h with h | ⟨o, its, n, hk, hc, hd, hs, hz, r⟩
  · obtain ⟨z, its, n, r, e⟩ := h.ok I.hok
    exact ⟨its, r, ⟨_, n, e, rfl, rfl, rfl⟩, z⟩
  · refine ⟨its.toList, r, ⟨o, n, I.kIn a o hk, hc, hd, by simpa using hs⟩, ?_⟩
    have e := r.length
    simp only [Array.length_toList] at e
    omega
theorem Inv.tuple (I : Inv X pins σ H s) (h : SqT X.K H a xs) : ∃ its : List Value, Vals xs its ∧ IsTup s.heap a its.toArray ∧ xs.length ≤ sizeLine := by
  rcases h with h | ⟨o, its, n, hk, hc, hs, hz, r⟩
  · obtain ⟨z, its, r, p⟩ := h.ok I.hok
    exact ⟨its, r, p, z⟩
  · refine ⟨its.toList, r, ⟨o, I.kIn a o hk, hc, n, by simpa using hs⟩, ?_⟩
    have e := r.length
    simp only [Array.length_toList] at e
    omega
theorem Inv.list_inj (I : Inv X pins σ H s) (h : SqL X.K H a xs) (h' : SqL X.K H a ys) : xs = ys := by
  obtain ⟨its, r, ⟨o, n, e, _, _, d⟩, _⟩ := I.list h
  obtain ⟨its', r', ⟨o', n', e', _, _, d'⟩, _⟩ := I.list h'
  rw [e] at e'; cases e'
  rw [d] at d'
  injection d' with d1 _
  have : its = its' := by simpa using congrArg Array.toList d1
  subst this
  exact r.inj r'
end

/-! ### another wish about exceptions -/
abbrev Cx.wish (X : Cx) (E : Value → Shared → Prop) : Cx := { X with xe := E }
/-- no exception leaves -/
abbrev Cx.nox (X : Cx) : Cx := X.wish fun _ _ => False
theorem Cx.Ok.wish {X : Cx} (ok : X.Ok) (E : Value → Shared → Prop) : (X.wish E).Ok :=
  ⟨ok.mod, ok.kind, ok.glob, ok.blt, ok.above, ok.inj, ok.has, ok.cab, ok.hd, ok.frames, ok.stk, ok.exf, ok.bs, ok.bsz, ok.noex, ok.exfs, ok.funs, ok.frf⟩
theorem Cx.Ok.unwish {X : Cx} {E : Value → Shared → Prop} (ok : (X.wish E).Ok) : X.Ok :=
  ⟨ok.mod, ok.kind, ok.glob, ok.blt, ok.above, ok.inj, ok.has, ok.cab, ok.hd, ok.frames, ok.stk, ok.exf, ok.bs, ok.bsz, ok.noex, ok.exfs, ok.funs, ok.frf⟩
section
variable {X : Cx} {pins : List (Addr × Obj)} {σ : St} {H : Hp} {s : Shared} {E : Value → Shared → Prop}
theorem Inv.wish (I : Inv X pins σ H s) (E : Value → Shared → Prop) : Inv (X.wish E) pins σ H s := ⟨I.ok.wish E, I.os, I.bare, I.base, I.loc, I.cell, I.free, I.freeC, I.pin, I.hok, I.len⟩
theorem Inv.unwish (I : Inv (X.wish E) pins σ H s) : Inv X pins σ H s := ⟨I.ok.unwish, I.os, I.bare, I.base, I.loc, I.cell, I.free, I.freeC, I.pin, I.hok, I.len⟩
theorem SP.unwish {D : Ends} {f : Flow} {s' : Shared} (h : SP (X.wish E) pins D f s') : SP X pins D f s' := by
  cases f with
  | next => obtain ⟨σ', H', I, q⟩ := h; exact ⟨σ', H', I.unwish, q⟩
  | brk => obtain ⟨σ', H', I, q⟩ := h; exact ⟨σ', H', I.unwish, q⟩
  | cont => obtain ⟨σ', H', I, q⟩ := h; exact ⟨σ', H', I.unwish, q⟩
  | ret u => obtain ⟨v, σ', H', I, r, q⟩ := h; exact ⟨v, σ', H', I.unwish, r, q⟩
theorem PSs.nox {st : List Stmt} {t : TS} (h : PSs X.nox st t) : PSs X st t := fun pins s σ H D I hw =>
  wpAny_mono (h pins s σ H D (I.wish _) hw) (fun _ _ q => q.unwish) fun _ _ z => False.elim z
end

/-! ### blocks and small statements -/
section
variable {X : Cx} {st : Stmt} {rest : List Stmt} {t u : TS} {e : Expr} {te : TE} {pos : Pos}
def tNext : TS := fun D σ H => D.nx σ H
def tSeq (t u : TS) : TS := fun D σ H => t { D with nx := u D } σ H
theorem pss_nil : PSs X [] tNext := fun _ _ σ H _ I h => wpAny_execs_nil ⟨σ, H, I, h⟩
theorem pss_cons (h1 : PS X st t) (h2 : PSs X rest u) : PSs X (st :: rest) (tSeq t u) := by
  intro pins s σ H D I h
  refine wpAny_execs_cons (thn (h1 pins s σ H { D with nx := u D } I h) fun f s1 q => ?_)
  cases f with
  | next =>
    obtain ⟨σ', H', I', q⟩ := q
    exact h2 pins s1 σ' H' D I' q
  | ret v => exact q
  | brk => exact q
  | cont => exact q
theorem pss_one (h1 : PS X st t) : PSs X [st] t := by
  intro pins s σ H D I h
  refine wpAny_execs_cons (thn (h1 pins s σ H D I h) fun f s1 q => ?_)
  cases f with
  | next => exact wpAny_execs_nil q
  | ret v => exact q
  | brk => exact q
  | cont => exact q
def tBreak : TS := fun D σ H => D.bk σ H
def tCont : TS := fun D σ H => D.ct σ H
/-- in a def's body nothing is shown -/
theorem Inv.quiet {pins : List (Addr × Obj)} {σ : St} {H : Hp} {s : Shared} (I : Inv X pins σ H s) : interactive X.env = false := by simp [interactive, I.ok.kind]
/-- an expression whose value is dropped -/
def tDrop (te : TE) : TS := fun D σ H => te σ H fun _ H1 => D.nx σ H1
theorem ps_expr (he : PE X e te) (hs : swapsWith e none pos.line X.env = pure false := by rfl) : PS X (.Expr e pos) (tDrop te) := by
  intro pins s σ H D I h
  exact wpAny_Expr_any (thn (he pins s σ H _ I h) fun v s1 ⟨x, H1, I1, r1, q1⟩ => ⟨σ, H1, I1, q1⟩) I.quiet hs
def tRet (te : TE) : TS := fun D σ H => te σ H D.rt
theorem ps_ret (he : PE X e te) : PS X (.Return (some e) pos) (tRet te) := by
  intro pins s σ H D I h
  exact wpAny_Return_some (thn (he pins s σ H _ I h) fun v s1 ⟨x, H1, I1, r1, q1⟩ => ⟨x, σ, H1, I1, r1, q1⟩)
def tRetN : TS := fun D _ H => D.rt .non H
def tIfS (c : TT) (t u : TS) : TS := fun D σ H => c σ H fun b H1 => if b = true then t D σ H1 else u D σ H1
theorem ps_if {c : Expr} {a b : List Stmt} {tc : TT} (hc : PT X c tc) (ha : PSs X a t) (hb : PSs X b u) : PS X (.If c a b pos) (tIfS tc t u) := by
  intro pins s σ H D I h
  refine wpAny_If (thn (hc pins s σ H _ I h) fun d s1 ⟨H1, I1, q1⟩ => ?_)
  cases d with
  | true => exact ha pins s1 σ H1 D I1 q1
  | false => exact hb pins s1 σ H1 D I1 q1
/-- code that the proof never comes to -/
def tNever : TS := fun _ _ _ => False
end

/-! ### targets -/
abbrev TG := V → St → Hp → (St → Hp → Prop) → Prop
abbrev TGs := List V → St → Hp → (St → Hp → Prop) → Prop
def PG (X : Cx) (target : Expr) (t : TG) : Prop :=
  ∀ (pins : List (Addr × Obj)) (s : Shared) (σ : St) (H : Hp) (v : V) (u : Value) (Q : St → Hp → Prop), Inv X pins σ H s → RelV v u → t v σ H Q →
    wpAny (model X.prog X.w) X.A (assign target X.env u) (fun _ s' => ∃ σ' H', Inv X pins σ' H' s' ∧ Q σ' H') X.xe s
/-- several targets, one after another -/
def PGs (X : Cx) (ts : List Expr) (t : TGs) : Prop :=
  ∀ (pins : List (Addr × Obj)) (s : Shared) (σ : St) (H : Hp) (vs : List V) (us : List Value) (Q : St → Hp → Prop), Inv X pins σ H s → Vals vs us → t vs σ H Q →
    wpAny (model X.prog X.w) X.A (assignInOrder ((assignEach ts X.env).map (·.2)) us) (fun _ s' => ∃ σ' H', Inv X pins σ' H' s' ∧ Q σ' H') X.xe s
/-- o[i] = v, by values -/
abbrev TSet := V → V → V → Hp → (Hp → Prop) → Prop
def PSet (X : Cx) (t : TSet) : Prop :=
  ∀ (pins : List (Addr × Obj)) (s : Shared) (σ : St) (H : Hp) (o i v : V) (ov iv u : Value) (Q : Hp → Prop), Inv X pins σ H s → RelV o ov → RelV i iv → RelV v u → t o i v H Q →
    wpAny (model X.prog X.w) X.A (setItem ov iv u) (fun _ s' => ∃ H', Inv X pins σ H' s' ∧ Q H') X.xe s
/-- a op= b, by values -/
abbrev TIp := V → V → Hp → VK → Prop
def PIp (X : Cx) (op : Operator) (t : TIp) : Prop :=
  ∀ (pins : List (Addr × Obj)) (s : Shared) (σ : St) (H : Hp) (x y : V) (v u : Value) (Q : VK), Inv X pins σ H s → RelV x v → RelV y u → t x y H Q →
    wpAny (model X.prog X.w) X.A (inplaceOp op v u) (EP X pins σ Q) X.xe s
section
variable {X : Cx} {pos : Pos}
def gName (i : Nat) : TG := fun v σ H Q => Q (σ.set i (some v)) H
theorem pg_name {i : Nat} {x : Str} (hN : X.N.Nodup) (hi : X.N[i]? = some x) (hx : Loc X.env.scope x) (hf : X.fn x = true ∨ X.env.scope.names.lookup x = some .local := by first | exact .inl rfl | exact .inr rfl | assumption) : PG X (.Name x pos) (gName i) := by
  intro pins s σ H v u Q I r h
  exact wpAny_assign_Name (store_ok I hN hi hx r (fun s' I' => ⟨_, H, I', h⟩) hf)
def gNil : TGs := fun vs σ H Q => vs = [] ∧ Q σ H
def gCons (t : TG) (u : TGs) : TGs := fun vs σ H Q => ∃ v r, vs = v :: r ∧ t v σ H fun σ' H' => u r σ' H' Q
theorem pgs_nil : PGs X [] gNil := by
  intro pins s σ H vs us Q I r h
  obtain ⟨e, h⟩ := h
  subst e
  cases r
  exact assignInOrder_nil ⟨σ, H, I, h⟩
theorem pgs_cons {e : Expr} {es : List Expr} {t : TG} {u : TGs} (h1 : PG X e t) (h2 : PGs X es u)
    (hs : (assignEach (e :: es) X.env).map (·.2) = assign e X.env :: (assignEach es X.env).map (·.2) := by rfl) : PGs X (e :: es) (gCons t u) := by
  intro pins s σ H vs us Q I r h
  obtain ⟨v, vr, e1, h⟩ := h
  subst e1
  cases r with
  | cons r rr =>
    rw [hs]
    refine assignInOrder_cons (thn (h1 pins s σ H _ _ _ I r h) fun _ s1 ⟨σ1, H1, I1, q1⟩ => ?_)
    exact h2 pins s1 σ1 H1 _ _ Q I1 rr q1
/-- (a, b, ..) = a tuple of that length -/
def gTup (K : PySem.W.Frag) (n : Nat) (t : TGs) : TG := fun v σ H Q => ∃ a xs, v = .ref a ∧ SqT K H a xs ∧ xs.length = n ∧ t xs σ H Q
theorem pg_tup {es : List Expr} {k : Nat} {t : TGs} {n : Nat} (hc : X.calm = true) (h : PGs X es t)
    (hn : (assignEach es X.env).length = n := by rfl) (hst : (assignEach es X.env).findIdx? (·.1) = none := by rfl) : PG X (.Tuple es k pos) (gTup X.K n t) := by
  intro pins s σ H v u Q I r hw
  obtain ⟨a, xs, e1, hq, hl, hw⟩ := hw
  subst e1
  cases r
  obtain ⟨its, rv, ht, hz⟩ := I.tuple hq
  refine assign_Tuple_tuple (I.ok.hd hc) ht (by simp [hn, ← hl, rv.length]) hst fun h' hx => ?_
  have I1 : Inv X pins σ H { s with heap := h' } := I.kept (t' := s.toks) fun b o e => hx b o (Nat.ne_of_lt (Heap.lt_size e)) e
  exact h pins _ σ H xs _ Q I1 (by simpa using rv) hw
/-- o[i] = .. -/
def gSub (to ti : TE) (t : TSet) : TG := fun v σ H Q => to σ H fun o H1 => ti σ H1 fun i H2 => t o i v H2 fun H3 => Q σ H3
theorem pg_sub {o i : Expr} {to ti : TE} {t : TSet} (ho : PE X o to) (hi : PE X i ti) (hs : PSet X t)
    (ha : ∀ v, assign (.Subscript o i pos) X.env v = (do
      let ov ← holding [v] (eval o X.env)
      let iv ← holding [v, ov] (eval i X.env)
      standAt pos
      holding [v, ov, iv] (setItem ov iv v)
      release [v, ov, iv] []) := by intro _; rfl) : PG X (.Subscript o i pos) (gSub to ti t) := by
  intro pins s σ H v u Q I r h
  rw [ha]
  refine wpAny_bind (wpAny_holding (thn (ho pins s σ H _ I h) fun ov s1 ⟨x, H1, I1, r1, q1⟩ => ?_))
  refine wpAny_bind (wpAny_holding (thn (hi pins s1 σ H1 _ I1 q1) fun iv s2 ⟨y, H2, I2, r2, q2⟩ => ?_))
  refine wpAny_bind (wpAny_standAt (wpAny_bind (wpAny_holding (thn (hs pins s2 σ H2 x y v ov iv u _ I2 r1 r2 r q2) fun _ s3 ⟨H3, I3, q3⟩ => ?_))))
  exact wpAny_release ⟨σ, H3, I3, q3⟩
/-- target = value -/
def tAsg (te : TE) (g : TG) : TS := fun D σ H => te σ H fun x H1 => g x σ H1 D.nx
theorem ps_asg {tg e : Expr} {te : TE} {g : TG} (he : PE X e te) (hg : PG X tg g) (hs : swapsWithSole [tg] e pos.line X.env = pure false := by rfl) (hw : swappedStores [tg] e X.env = pure none := by rfl)
    (h1 : (assignEach [tg] X.env).map (·.2) = [assign tg X.env] := by rfl) : PS X (.Assign [tg] e pos) (tAsg te g) := by
  intro pins s σ H D I h
  refine wpAny_Assign_stores (thn (he pins s σ H _ I h) fun v s1 ⟨x, H1, I1, r1, q1⟩ => ?_) hs hw
  rw [h1]
  exact thn (hg pins s1 σ H1 x v _ I1 r1 q1) fun _ s2 q => q
/-- name = value -/
theorem ps_set {i : Nat} {x : Str} {e : Expr} {te : TE} {pos' : Pos} (hN : X.N.Nodup) (hi : X.N[i]? = some x) (hx : Loc X.env.scope x) (he : PE X e te) (hs : swapsWith e (some (.Name x pos')) pos.line X.env = pure false := by rfl) (hf : X.fn x = true ∨ X.env.scope.names.lookup x = some .local := by first | exact .inl rfl | exact .inr rfl | assumption) :
    PS X (.Assign [.Name x pos'] e pos) (tAsg te (gName i)) := by
  intro pins s σ H D I h
  refine wpAny_Assign_Name (thn (he pins s σ H _ I h) fun v s1 ⟨y, H1, I1, r1, q1⟩ => ?_) hs
  exact store_ok I1 hN hi hx r1 (fun s2 I2 => ⟨_, H1, I2, q1⟩) hf
/-- a, b = x, y with plain local names: stored from the right; the pair itself is not tracked (the opening rows as in PyProof/Rows/TupAssign.lean:23) -/
def tPar (i j : Nat) (ta : TA) : TS := fun D σ H => ta σ H fun vs H1 => ∃ v w, vs = [v, w] ∧ D.nx ((σ.set i (some v)).set j (some w)) H1
/-- name op= e -/
def tAug (i : Nat) (te : TE) (ti : TIp) : TS := fun D σ H => ∃ x, σ[i]? = some (some x) ∧ te σ H fun y H1 => ti x y H1 fun z H2 => D.nx (σ.set i (some z)) H2
/-- o[i] op= e -/
def tAugS (to ti te : TE) (tget : V → V → Hp → VK → Prop) (tip : TIp) (tset : TSet) : TS := fun D σ H => to σ H fun o H1 => ti σ H1 fun i H2 => tget o i H2 fun x H3 => te σ H3 fun y H4 => tip x y H4 fun z H5 => tset o i z H5 fun H6 => D.nx σ H6
/-- o[i], by values -/
def PGet (X : Cx) (t : V → V → Hp → VK → Prop) : Prop :=
  ∀ (pins : List (Addr × Obj)) (s : Shared) (σ : St) (H : Hp) (o i : V) (ov iv : Value) (Q : VK), Inv X pins σ H s → RelV o ov → RelV i iv → t o i H Q →
    wpAny (model X.prog X.w) X.A (getItem ov iv) (EP X pins σ Q) X.xe s
/-- ints -/
def ipI (f : Int → Int → Int) : TIp := fun x y H Q => ∃ i j, x = .int i ∧ y = .int j ∧ Q (.int (f i j)) H
end

/-! ### while -/
section
variable {X : Cx} {pos : Pos}
/-- the invariant W with its measure -/
def tWhile (c : TT) (tb : TS) : TS := fun D σ H => ∃ W : Nat → St → Hp → Prop, (∃ m, W m σ H) ∧ ∀ m σ H, W m σ H →
  c σ H fun b H1 => if b = true then ∃ N : St → Hp → Prop, (∀ σ' H', N σ' H' → ∃ m', m' < m ∧ W m' σ' H') ∧ tb { D with nx := N, ct := N, bk := D.nx } σ H1 else D.nx σ H1
theorem ps_while {c : Expr} {body : List Stmt} {tc : TT} {tb : TS} (hp : PassesOwn (model X.prog X.w) X.A X.env X.xe) (hc : PT X c tc) (hb : PSs X body tb) : PS X (.While c body [] pos) (tWhile tc tb) := by
  intro pins s σ H D I h
  obtain ⟨W, ⟨m0, w0⟩, turn⟩ := h
  refine wpAny_While (codeAny_whileLoop (fun n s' => ∃ σ' H', Inv X pins σ' H' s' ∧ W n σ' H') ?_ m0 ⟨σ, H, I, w0⟩)
  rintro n s1 ⟨σ1, H1, I1, w1⟩
  refine wpAny_passesOwn hp (thn (hc pins s1 σ1 H1 _ I1 (turn n σ1 H1 w1)) fun b s2 ⟨H2, I2, q2⟩ => ?_)
  cases b with
  | true =>
    obtain ⟨N, hN, q2⟩ := q2
    rw [if_pos rfl]
    refine wpAny_passesOwn hp (thn (hb pins s2 σ1 H2 _ I2 q2) fun f s3 q3 => ?_)
    cases f with
    | next =>
      obtain ⟨σ3, H3, I3, n3⟩ := q3
      obtain ⟨m', hm, w3⟩ := hN σ3 H3 n3
      exact ⟨m', hm, σ3, H3, I3, w3⟩
    | cont =>
      obtain ⟨σ3, H3, I3, n3⟩ := q3
      obtain ⟨m', hm, w3⟩ := hN σ3 H3 n3
      exact ⟨m', hm, σ3, H3, I3, w3⟩
    | brk => exact q3
    | ret v => exact q3
  | false =>
    rw [if_neg Bool.false_ne_true]
    exact wpAny_execs_nil ⟨σ1, H2, I2, q2⟩
end

/-! ### what a loop or a comprehension walks -/
/-- at turn i: it yields x (the heap may grow), or it stops -/
structure It where
  go : Nat → Hp → Prop
  yld : Nat → Hp → V → Hp → Prop
  stop : Nat → Hp → Prop
/-- the iterator's own objects may turn: they are not the frame's, not pinned, younger than the entry (or a comprehension's own) -/
def FpOk (X : Cx) (pins : List (Addr × Obj)) (H : Hp) (b : Addr) : Prop :=
  H b = none ∧ b ≠ X.env.locals ∧ b ∉ X.fs ∧ (b ∈ X.ex ∨ X.s₀.heap.objs.size ≤ b) ∧ (∀ x c, X.env.cells.lookup x = some c → c ≠ b) ∧ ∀ p ∈ X.pn ++ pins, p.1 ≠ b
theorem Inv.fpOk {X : Cx} {pins : List (Addr × Obj)} {σ : St} {H H' : Hp} {s : Shared} {b : Addr} (I : Inv X pins σ H s) (hb : s.heap.objs.size ≤ b) (hn : H' b = none) : FpOk X pins H' b := by
  refine ⟨hn, Nat.ne_of_gt (Nat.lt_of_lt_of_le I.lt hb), I.nofs hb, .inr (Nat.le_trans I.sz hb), fun x c e z => ?_, fun p hp z => ?_⟩
  · obtain ⟨v, q⟩ := I.cell x c e
    exact absurd (Nat.lt_of_lt_of_le q.lt (by rw [z]; exact hb)) (Nat.lt_irrefl _)
  · exact absurd (Nat.lt_of_lt_of_le (Heap.lt_size (I.pin p hp).1) (by rw [z]; exact hb)) (Nat.lt_irrefl _)
structure Turn (P : Program) (w : World) (K : PySem.W.Frag) (tg : Expr) (J : It) (fp : List Addr) (it : Addr) (tn : Nat → Heap → Prop) : Prop where
  mem : it ∈ fp
  obj : ∀ i h, tn i h → ∀ b ∈ fp, ∃ o, h.get? b = some o ∧ ∀ v, o.data ≠ .cell v
  keep : ∀ i h h', tn i h → (∀ b ∈ fp, ∀ o, h.get? b = some o → h'.get? b = some o) → tn i h'
  item : ∀ (X : Cx), X.prog = P → X.w = w → X.K = K → X.calm = true → ∀ (i : Nat) (pins : List (Addr × Obj)) (s : Shared) (σ : St) (H : Hp) (E : Value → Shared → Prop), Inv X pins σ H s → (∀ b ∈ fp, FpOk X pins H b) → tn i s.heap → J.go i H →
    wpAny (model P w) X.A (pyNext (.ref it)) (fun r s1 => ∃ u, r = some u ∧
      wpAny (model P w) X.A (letOwnedTupleGo tg (.ref it) u) (fun _ s2 => ∃ x H', Inv X pins σ H' s2 ∧ RelV x u ∧ J.yld i H x H' ∧ tn (i + 1) s2.heap ∧ ∀ b ∈ fp, H' b = none) E s1) E s
  done : ∀ (X : Cx), X.prog = P → X.w = w → X.K = K → X.calm = true → ∀ (i : Nat) (pins : List (Addr × Obj)) (s : Shared) (σ : St) (H : Hp) (E : Value → Shared → Prop), Inv X pins σ H s → (∀ b ∈ fp, FpOk X pins H b) → tn i s.heap → J.stop i H →
    wpAny (model P w) X.A (pyNext (.ref it)) (fun r s1 => r = none ∧ Inv X pins σ H s1) E s
  self : ∀ (A : Around) (i : Nat) (s : Shared) (Q : Value → Shared → Prop) (E : Value → Shared → Prop), tn i s.heap → Q (.ref it) s → wpAny (model P w) A (pyIter (.ref it)) Q E s
abbrev TI := St → Hp → (It → Hp → Prop) → Prop
/-- an iterator has come -/
def PIE (X : Cx) (pins : List (Addr × Obj)) (σ : St) (tg : Expr) (R : It → Hp → Prop) (itv : Value) (s2 : Shared) : Prop :=
  ∃ (it : Addr) (fp : List Addr) (tn : Nat → Heap → Prop) (J : It) (H' : Hp), itv = .ref it ∧ Inv X pins σ H' s2 ∧ Turn X.prog X.w X.K tg J fp it tn ∧ tn 0 s2.heap ∧ (∀ b ∈ fp, FpOk X pins H' b) ∧ R J H'
def PI (X : Cx) (tg iter : Expr) (wi : TI) : Prop :=
  ∀ (pins : List (Addr × Obj)) (s : Shared) (σ : St) (H : Hp) (R : It → Hp → Prop), Inv X pins σ H s → wi σ H R →
    wpAny (model X.prog X.w) X.A (eval iter X.env) (fun v s1 => wpAny (model X.prog X.w) X.A (pyIter v) (PIE X pins σ tg R) X.xe s1) X.xe s

/-- the step ahead of the store is nothing for an iterator that keeps no tuple -/
theorem go_of {M : Model} {A : Around} {E : Value → Shared → Prop} {s : Shared} {tg : Expr} {it : Addr} {u : Value} {o : Obj} {n : String} {vs : Array Value} {Q : Unit → Shared → Prop} (ho : s.heap.get? it = some o) (hc : o.cls = .type n) (hd : o.data = .fields vs)
    (hn : ["enumerate", "zip", "dict_itemiterator", "dict_reverseitemiterator", "odict_iterator", "itertools.zip_longest", "itertools.pairwise"].contains n = false) (hQ : Q () s) : wpAny M A (letOwnedTupleGo tg (.ref it) u) Q E s := by
  unfold letOwnedTupleGo
  cases tg <;> first
    | exact wpAny_pure hQ
    | (cases u <;> first
        | exact wpAny_pure hQ
        | (refine wpAny_bind (wpAny_load ho ?_)
           rw [hc, hd]
           show wpAny M A (if (["enumerate", "zip", "dict_itemiterator", "dict_reverseitemiterator", "odict_iterator", "itertools.zip_longest", "itertools.pairwise"].contains n && vs[0]? == some (rawInt _)) = true then _ else _) Q E s
           rw [if_neg (by intro h; rw [hn, Bool.false_and] at h; cases h)]
           exact wpAny_pure hQ))

/-- the list at a, as it stands at each turn (a loop may append to it) -/
def Itl (K : PySem.W.Frag) (a : Addr) : It :=
  ⟨fun i H => ∃ xs x, SqL K H a xs ∧ xs[i]? = some x, fun i H x H' => H' = H ∧ ∀ xs, SqL K H a xs → xs[i]? = some x, fun i H => ∃ xs, SqL K H a xs ∧ xs.length ≤ i⟩
def Itt (K : PySem.W.Frag) (a : Addr) : It :=
  ⟨fun i H => ∃ xs x, SqT K H a xs ∧ xs[i]? = some x, fun i H x H' => H' = H ∧ ∀ xs, SqT K H a xs → xs[i]? = some x, fun i H => ∃ xs, SqT K H a xs ∧ xs.length ≤ i⟩
/-- lo, lo + 1, .. (n of them) -/
def Itr (lo : Int) (n : Nat) : It := ⟨fun i _ => i < n, fun i H x H' => H' = H ∧ x = .int (lo + i), fun i _ => n ≤ i⟩
theorem turn_list {P : Program} {w : World} {K : PySem.W.Frag} {tg : Expr} (a it : Addr) : Turn P w K tg (Itl K a) [it] it (fun i h => h.IsListIter it a i) where
  mem := by simp
  obj := fun i h st b hb => by
    have e : b = it := by simpa using hb
    subst e
    obtain ⟨o, e, c, d⟩ := st
    exact ⟨o, e, fun v z => by rw [d] at z; cases z⟩
  keep := fun i h h' st k => st.at fun o e => k it (by simp) o e
  item := by
    intro X hP hw hK hc i pins s σ H E I hf st hg
    subst hP hw hK
    obtain ⟨xs, x, hq, hx⟩ := hg
    obtain ⟨its, rv, p, hz⟩ := I.list hq
    obtain ⟨u, hu, ru⟩ := rv.get hx
    obtain ⟨f0, f1, f2, f3, f4, f5⟩ := hf it (by simp)
    refine wpAny_pyNext_list_item st p.isList (x := u) (by simpa using hu) fun h' st' sb => ?_
    have I1 : Inv X pins σ H { s with heap := h' } := I.turned (t' := s.toks) (fun b o hb e => (sb.2 b hb).trans e) f0 f1 f3 f4 f5
    obtain ⟨o, e, c, d⟩ := id st'
    exact ⟨u, rfl, go_of (s := { s with heap := h' }) e c d (by decide) ⟨x, H, I1, ru, ⟨rfl, fun ys hy => by rw [I.list_inj hy hq]; exact hx⟩, st', fun b hb => (hf b hb).1⟩⟩
  done := by
    intro X hP hw hK hc i pins s σ H E I hf st hg
    subst hP hw hK
    obtain ⟨xs, hq, hx⟩ := hg
    obtain ⟨its, rv, p, hz⟩ := I.list hq
    obtain ⟨f0, f1, f2, f3, f4, f5⟩ := hf it (by simp)
    have hl := rv.length
    exact wpAny_pyNext_list_end (I.ok.hd hc) st p.isList (by simp; omega) fun h' eb => ⟨rfl, I.turned (t' := s.toks) (fun b o hb e => eb b o hb e) f0 f1 f3 f4 f5⟩
  self := fun _ _ _ _ _ st h => wpAny_pyIter_listiter st h
theorem turn_range {P : Program} {w : World} {K : PySem.W.Frag} {tg : Expr} (it : Addr) (lo : Int) (n : Nat) : Turn P w K tg (Itr lo n) [it] it (fun i h => IsRangeIter h it (lo + (i : Nat) * 1) ((n : Int) - (i : Nat)) 1) where
  mem := by simp
  obj := fun i h st b hb => by
    have e : b = it := by simpa using hb
    subst e
    exact ⟨_, st, fun v z => by
      have z' : Data.fields _ = Data.cell v := z
      cases z'⟩
  keep := fun i h h' st k => k it (by simp) _ st
  item := by
    intro X hP hw hK hc i pins s σ H E I hf st hg
    subst hP hw hK
    obtain ⟨f0, f1, f2, f3, f4, f5⟩ := hf it (by simp)
    have W := Walks.range (prog := X.prog) (w := X.w) (I.ok.hd hc) it lo 1 n
    refine W.item i s _ _ hg st fun v h' tk hv st' kk => ?_
    obtain ⟨t, rfl⟩ := hv
    have I1 : Inv X pins σ H { s with heap := h', toks := tk } := I.turned (fun b o hb e => kk b o (by simpa using hb) e) f0 f1 f3 f4 f5
    refine ⟨_, rfl, go_of (s := { s with heap := h', toks := tk }) (n := "range_iterator") st' rfl rfl (by decide) ⟨.int (lo + i), H, I1, ⟨t, ?_⟩, ⟨rfl, rfl⟩, st', fun b hb => (hf b hb).1⟩⟩
    rw [Int.mul_one]
  done := by
    intro X hP hw hK hc i pins s σ H E I hf st hg
    subst hP hw hK
    obtain ⟨f0, f1, f2, f3, f4, f5⟩ := hf it (by simp)
    exact wpAny_pyNext_range_end (I.ok.hd hc) st (by have : n ≤ i := hg; omega) fun h' eb => ⟨rfl, I.turned (t' := s.toks) (fun b o hb e => eb b o hb e) f0 f1 f3 f4 f5⟩
  self := fun _ _ _ _ _ st h => wpAny_pyIter_rangeiter st h
end L2

namespace L2
open PySem PySem.Spec PyProof.Rows
section
variable {X : Cx} {tg : Expr}
def iList (K : PySem.W.Frag) (tl : TE) : TI := fun σ H R => tl σ H fun x H1 => ∃ a, x = .ref a ∧ (∃ xs, SqL K H1 a xs) ∧ R (Itl K a) H1
def iTup (K : PySem.W.Frag) (tl : TE) : TI := fun σ H R => tl σ H fun x H1 => ∃ a, x = .ref a ∧ (∃ xs, SqT K H1 a xs) ∧ R (Itt K a) H1
theorem pi_list {l : Expr} {tl : TE} (hl : PE X l tl) : PI X tg l (iList X.K tl) := by
  intro pins s σ H R I h
  refine thn (hl pins s σ H _ I h) fun v s1 ⟨x, H1, I1, r1, q1⟩ => ?_
  obtain ⟨a, e, ⟨xs, hq⟩, q⟩ := q1
  subst e
  cases r1
  obtain ⟨its, rv, p, hz⟩ := I1.list hq
  refine wpAny_pyIter_list p.isList ?_
  refine ⟨s1.heap.objs.size, [s1.heap.objs.size], _, _, H1, rfl, I1.kept (t' := s1.toks) fun b o e => Heap.get?_push_of_some _ e, turn_list a _, ⟨_, Heap.get?_push_size _ rfl, rfl, rfl⟩, fun b hb => ?_, q⟩
  have e : b = s1.heap.objs.size := by simpa using hb
  subst e
  exact I1.fpOk (Nat.le_refl _) (I1.hok.fresh (Nat.le_refl _))
/-- a range object just made, walked -/
theorem range_it {pins : List (Addr × Obj)} {σ : St} {H : Hp} {s : Shared} {R : It → Hp → Prop} {E : Value → Shared → Prop} {lo hi : Int} {t u v : Tok} {tk : Nat} (I : Inv X pins σ H s) (h1 : -(2 ^ 62) ≤ lo) (h2 : lo < 2 ^ 62) (h3 : -(2 ^ 62) ≤ hi) (h4 : hi < 2 ^ 62)
    (q : R (Itr lo (hi - lo).toNat) H) : wpAny (model X.prog X.w) X.A (pyIter (.ref s.heap.objs.size)) (PIE X pins σ tg R) E { s with heap := s.heap.push { cls := .type "range", data := .fields #[.int lo t, .int hi u, .int 1 v] }, toks := tk } := by
  refine wpAny_pyIter_range (IsRange.new ..) (small_one h1 h2 h3 h4) ?_
  have I1 : Inv X pins σ H { s with heap := s.heap.push { cls := .type "range", data := .fields #[.int lo t, .int hi u, .int 1 v] }, toks := tk } := I.kept fun b o e => Heap.get?_push_of_some _ e
  refine ⟨(s.heap.push { cls := .type "range", data := .fields #[.int lo t, .int hi u, .int 1 v] }).objs.size, [(s.heap.push { cls := .type "range", data := .fields #[.int lo t, .int hi u, .int 1 v] }).objs.size], _, _, H, rfl,
    I1.kept (t' := tk) fun b o e => Heap.get?_push_of_some _ e, turn_range _ lo (hi - lo).toNat, ?_, fun b hb => ?_, q⟩
  · have e1 : lo + ((0 : Nat) : Int) * 1 = lo := by simp
    have e2 : (((hi - lo).toNat : Nat) : Int) - ((0 : Nat) : Int) = Builtin.Range.rangeSize lo hi 1 := by rw [rangeSize_one]; split <;> omega
    show IsRangeIter _ _ (lo + ((0 : Nat) : Int) * 1) ((((hi - lo).toNat : Nat) : Int) - ((0 : Nat) : Int)) 1
    rw [e1, e2]
    exact Heap.get?_push_size _ rfl
  · have e : b = (s.heap.push { cls := .type "range", data := .fields #[.int lo t, .int hi u, .int 1 v] }).objs.size := by simpa using hb
    subst e
    exact I1.fpOk (Nat.le_refl _) (I1.hok.fresh (Nat.le_refl _))
def iRng1 (ta : TA) : TI := fun σ H R => ta σ H fun vs H1 => ∃ j : Int, vs = [.int j] ∧ -(2 ^ 62) ≤ j ∧ j < 2 ^ 62 ∧ R (Itr 0 j.toNat) H1
def iRng2 (ta : TA) : TI := fun σ H R => ta σ H fun vs H1 => ∃ i j : Int, vs = [.int i, .int j] ∧ (-(2 ^ 62) ≤ i ∧ i < 2 ^ 62 ∧ -(2 ^ 62) ≤ j ∧ j < 2 ^ 62) ∧ R (Itr i (j - i).toNat) H1
theorem pi_range1 {a : Expr} {ta : TA} {p pos : Pos} (hg : Gl X "range") (hm : X.mg "range" = none) (ha : PA X [a] ta) (hs : starEach [a] X.env = [(false, eval a X.env)] := by rfl) : PI X tg (.Call (.Name "range" p) [a] [] pos) (iRng1 ta) := by
  intro pins s σ H R I h
  refine Call_ (ld_blt I hg hm boot_range (PyProof.Rows.callWith_type1 (thn (ha pos pins s σ H _ I h) fun us s1 ⟨vs, H1, I1, r1, q1⟩ => ?_) hs rfl))
  obtain ⟨j, e, q1, q2, q⟩ := q1
  subst e
  cases r1 with
  | cons r rr =>
    cases rr
    obtain ⟨t, rfl⟩ := r
    exact call_range_1 (range_it I1 (by omega) (by omega) q1 q2 (by simpa using q))
theorem pi_range2 {a b : Expr} {ta : TA} {p pos : Pos} (hg : Gl X "range") (hm : X.mg "range" = none) (ha : PA X [a, b] ta) (hs : starEach [a, b] X.env = [(false, eval a X.env), (false, eval b X.env)] := by rfl) (hs2 : starEach [b] X.env = [(false, eval b X.env)] := by rfl) :
    PI X tg (.Call (.Name "range" p) [a, b] [] pos) (iRng2 ta) := by
  intro pins s σ H R I h
  refine Call_ (ld_blt I hg hm boot_range (PyProof.Rows.callWith_type1 (thn (ha pos pins s σ H _ I h) fun us s1 ⟨vs, H1, I1, r1, q1⟩ => ?_) (by rw [hs, hs2]) (by rw [hs2]; rfl)))
  obtain ⟨i, j, e, ⟨q1, q2, q3, q4⟩, q⟩ := q1
  subst e
  cases r1 with
  | cons r rr =>
    cases rr with
    | cons r' rr =>
      cases rr
      obtain ⟨t, rfl⟩ := r
      obtain ⟨t', rfl⟩ := r'
      exact call_range_2 (range_it I1 q1 q2 q3 q4 q)

/-! ### for -/
/-- W: the invariant by the turn and a measure; N: what the body is to reach -/
def tFor (wi : TI) (g : TG) (tb : TS) : TS := fun D σ H => wi σ H fun J H1 => ∃ W : Nat → Nat → St → Hp → Prop, (∃ m, W 0 m σ H1) ∧ ∀ i m σ H, W i m σ H →
  (J.stop i H ∧ D.nx σ H) ∨ (J.go i H ∧ ∃ N : St → Hp → Prop, (∀ σ' H', N σ' H' → ∃ m', m' < m ∧ W (i + 1) m' σ' H') ∧ ∀ x H', J.yld i H x H' → g x σ H' fun σ2 H2 => tb { D with nx := N, ct := N, bk := D.nx } σ2 H2)
/-- the records at fp as they stand -/
def pinsAt (fp : List Addr) (h : Heap) : List (Addr × Obj) := fp.filterMap fun b => (h.get? b).map fun o => (b, o)
theorem mem_pinsAt {fp : List Addr} {h : Heap} {b : Addr} {o : Obj} (hb : b ∈ fp) (e : h.get? b = some o) : (b, o) ∈ pinsAt fp h := List.mem_filterMap.mpr ⟨b, hb, by rw [e]; rfl⟩
theorem of_pinsAt {fp : List Addr} {h : Heap} {p : Addr × Obj} (hp : p ∈ pinsAt fp h) : p.1 ∈ fp ∧ h.get? p.1 = some p.2 := by
  obtain ⟨b, hb, e⟩ := List.mem_filterMap.mp hp
  cases q : h.get? b with
  | none => rw [q] at e; cases e
  | some o =>
    rw [q] at e
    have e' : (b, o) = p := Option.some.inj e
    subst e'
    exact ⟨hb, q⟩
theorem Inv.pinned {pins : List (Addr × Obj)} {σ : St} {H : Hp} {s : Shared} {fp : List Addr} (I : Inv X pins σ H s) (hf : ∀ b ∈ fp, FpOk X pins H b) (ho : ∀ b ∈ fp, ∃ o, s.heap.get? b = some o ∧ ∀ v, o.data ≠ .cell v) : Inv X (pins ++ pinsAt fp s.heap) σ H s :=
  I.pins_of fun p hp => (List.mem_append.mp hp).elim (fun z => I.pin p (List.mem_append_right _ z)) fun z => by
    obtain ⟨hb, e⟩ := of_pinsAt z
    obtain ⟨f0, f1, f2, _⟩ := hf p.1 hb
    obtain ⟨o, e', d⟩ := ho p.1 hb
    rw [e] at e'; cases e'
    exact ⟨e, f0, f1, f2, d⟩
theorem Inv.unpinned {pins pl : List (Addr × Obj)} {σ : St} {H : Hp} {s : Shared} (I : Inv X (pins ++ pl) σ H s) : Inv X pins σ H s := I.pins_of fun p hp => I.pin p (List.mem_append_right _ (List.mem_append_left _ hp))
theorem ps_for {iter : Expr} {body : List Stmt} {wi : TI} {g : TG} {tb : TS} {pos : Pos} (hp : PassesOwn (model X.prog X.w) X.A X.env X.xe) (hc : X.calm = true) (hi : PI X tg iter wi) (hg : PG X tg g) (hb : PSs X body tb)
    (hs : ∀ x, foldedSetIterable iter X.env x = pure x := by intro _; rfl) : PS X (.For tg iter body [] pos) (tFor wi g tb) := by
  intro pins s σ H D I h
  refine wpAny_For (thn (hi pins s σ H _ I h) fun v s1 h1 => thn h1 fun itv s2 h2 => ?_) hs
  obtain ⟨it, fp, tn, J, H2, e, I2, T, st2, f2, W, ⟨m0, w0⟩, turn⟩ := h2
  subst e
  -- what stays true of the iterator's objects through the loop
  have stat : ∀ {H' : Hp}, (∀ b ∈ fp, H' b = none) → ∀ b ∈ fp, FpOk X pins H' b := fun hn b hb => ⟨hn b hb, (f2 b hb).2⟩
  refine codeAny_forLoop_any (fun n s' => ∃ i σ' H', Inv X pins σ' H' s' ∧ tn i s'.heap ∧ (∀ b ∈ fp, H' b = none) ∧ W i n σ' H') ?_ m0 ⟨0, σ, H2, I2, st2, fun b hb => (f2 b hb).1, w0⟩
  rintro n s3 ⟨i, σ3, H3, I3, st3, fr3, w3⟩
  rcases turn i n σ3 H3 w3 with ⟨stop, qn⟩ | ⟨go, N, hN, step⟩
  · refine wpAny_passesOwn hp (thn (T.done X rfl rfl rfl hc i pins s3 σ3 H3 X.xe I3 (stat fr3) st3 stop) fun r s4 ⟨hr, I4⟩ => ?_)
    subst hr
    exact wpAny_execs_nil ⟨σ3, H3, I4, qn⟩
  · refine wpAny_passesOwn hp (thn (T.item X rfl rfl rfl hc i pins s3 σ3 H3 X.xe I3 (stat fr3) st3 go) fun r s4 ⟨u, hr, h4⟩ => ?_)
    subst hr
    refine wpAny_passesOwn hp (thn h4 fun _ s5 ⟨x, H5, I5, r5, y5, st5, fr5⟩ => ?_)
    have I5' := I5.pinned (stat fr5) (T.obj _ _ st5)
    refine wpAny_passesOwn hp (thn (hg _ s5 σ3 H5 x u _ I5' r5 (step x H5 y5)) fun _ s6 ⟨σ6, H6, I6, q6⟩ => ?_)
    refine wpAny_passesOwn hp (thn (hb _ s6 σ6 H6 _ I6 q6) fun f s7 q7 => ?_)
    have again : ∀ {σ7 : St} {H7 : Hp}, Inv X (pins ++ pinsAt fp s5.heap) σ7 H7 s7 → N σ7 H7 → ∃ m, m < n ∧ ∃ i σ' H', Inv X pins σ' H' s7 ∧ tn i s7.heap ∧ (∀ b ∈ fp, H' b = none) ∧ W i m σ' H' := fun {σ7 H7} I7 n7 => by
      obtain ⟨m', hm, w7⟩ := hN σ7 H7 n7
      refine ⟨m', hm, i + 1, σ7, H7, I7.unpinned, T.keep _ _ _ st5 fun b hb o e => (I7.pin (b, o) (List.mem_append_right _ (List.mem_append_right _ (mem_pinsAt hb e)))).1, fun b hb => ?_, w7⟩
      obtain ⟨o, e, d⟩ := T.obj _ _ st5 b hb
      exact (I7.pin (b, o) (List.mem_append_right _ (List.mem_append_right _ (mem_pinsAt hb e)))).2.1
    cases f with
    | next => obtain ⟨σ7, H7, I7, n7⟩ := q7; exact again I7 n7
    | cont => obtain ⟨σ7, H7, I7, n7⟩ := q7; exact again I7 n7
    | brk => obtain ⟨σ7, H7, I7, q7⟩ := q7; exact ⟨σ7, H7, I7.unpinned, q7⟩
    | ret v => obtain ⟨x7, σ7, H7, I7, r7, q7⟩ := q7; exact ⟨x7, σ7, H7, I7.unpinned, r7, q7⟩
end

/-! ### the forms one uses -/
end L2

namespace L2
open PySem PySem.Spec PyProof.Rows

abbrev R2 := V → V → Hp → VK → Prop
/-- a two-place operation on values: f is binaryOp op, inplaceOp op or compareOp op -/
def OpR (X : Cx) (f : Value → Value → Sem Value) (r : R2) : Prop :=
  ∀ (pins : List (Addr × Obj)) (s : Shared) (σ : St) (H : Hp) (x y : V) (v u : Value) (Q : VK), Inv X pins σ H s → RelV x v → RelV y u → r x y H Q →
    wpAny (model X.prog X.w) X.A (f v u) (EP X pins σ Q) X.xe s
/-- a one-place operation -/
def UnR (X : Cx) (f : Value → Sem Value) (r : V → Hp → VK → Prop) : Prop :=
  ∀ (pins : List (Addr × Obj)) (s : Shared) (σ : St) (H : Hp) (x : V) (v : Value) (Q : VK), Inv X pins σ H s → RelV x v → r x H Q →
    wpAny (model X.prog X.w) X.A (f v) (EP X pins σ Q) X.xe s
/-- a call of a value that is known (a builtin, a type) with values -/
def CallR (X : Cx) (f : Value) (r : List V → Hp → VK → Prop) : Prop :=
  ∀ (pins : List (Addr × Obj)) (s : Shared) (σ : St) (H : Hp) (xs : List V) (us : List Value) (Q : VK), Inv X pins σ H s → Vals xs us → r xs H Q →
    wpAny (model X.prog X.w) X.A (call f us) (EP X pins σ Q) X.xe s
/-- a value's truth -/
def TruR (X : Cx) (r : V → Hp → (Bool → Hp → Prop) → Prop) : Prop :=
  ∀ (pins : List (Addr × Obj)) (s : Shared) (σ : St) (H : Hp) (x : V) (v : Value) (Q : Bool → Hp → Prop), Inv X pins σ H s → RelV x v → r x H Q →
    wpAny (model X.prog X.w) X.A (truthy v) (TP X pins σ Q) X.xe s

def tOp (r : R2) (ta tb : TE) : TE := fun σ H Q => ta σ H fun x H1 => tb σ H1 fun y H2 => r x y H2 Q
def tUn (r : V → Hp → VK → Prop) (ta : TE) : TE := fun σ H Q => ta σ H fun x H1 => r x H1 Q
/-- ints in, under C, and a value out -/
def rI (C : Int → Int → Prop) (g : Int → Int → V) : R2 := fun x y H Q => ∃ i j, x = .int i ∧ y = .int j ∧ C i j ∧ Q (g i j) H
def rI0 (g : Int → Int → V) : R2 := fun x y H Q => ∃ i j, x = .int i ∧ y = .int j ∧ Q (g i j) H
def rU (g : Int → V) : V → Hp → VK → Prop := fun x H Q => ∃ i, x = .int i ∧ Q (g i) H

section
variable {X : Cx} {a b c : Expr} {ta tb tc : TE} {pos : Pos}

theorem binT (ha : PE X a ta) (hb : PE X b tb) {pins : List (Addr × Obj)} {s : Shared} {σ : St} {H : Hp} {R : V → V → Hp → Prop} (I : Inv X pins σ H s)
    (h : ta σ H fun x H1 => tb σ H1 fun y H2 => R x y H2) {Q : Value → Shared → Prop} {f : Value → Value → Sem Value}
    (hf : ∀ v u s2 x y H2, Inv X pins σ H2 s2 → RelV x v → RelV y u → R x y H2 → wpAny (model X.prog X.w) X.A (f v u) Q X.xe s2) :
    wpAny (model X.prog X.w) X.A (eval a X.env) (fun v s₁ => wpAny (model X.prog X.w) X.A (eval b X.env) (fun u s₂ => wpAny (model X.prog X.w) X.A (f v u) Q X.xe s₂) X.xe s₁) X.xe s := by
  refine thn (ha pins s σ H _ I h) fun v s1 ⟨x, H1, I1, r1, q1⟩ => ?_
  refine thn (hb pins s1 σ H1 _ I1 q1) fun u s2 ⟨y, H2, I2, r2, q2⟩ => ?_
  exact hf v u s2 x y H2 I2 r1 r2 q2

theorem pe_op {op : Operator} {r : R2} (ho : OpR X (binaryOp op) r) (ha : PE X a ta) (hb : PE X b tb) : PE X (.BinOp a op b pos) (tOp r ta tb) := by
  intro pins s σ H Q I h
  exact wpAny_BinOp (binT ha hb I h fun v u s2 x y H2 I2 rx ry q => ho pins s2 σ H2 x y v u Q I2 rx ry q)
theorem pe_un {op : UnaryOp} {r : V → Hp → VK → Prop} (ho : UnR X (unaryOp op) r) (ha : PE X a ta) : PE X (.UnaryOp op a pos) (tUn r ta) := by
  intro pins s σ H Q I h
  exact UnaryOp_ (thn (ha pins s σ H _ I h) fun v s1 ⟨x, H1, I1, r1, q1⟩ => ho pins s1 σ H1 x v Q I1 r1 q1)
/-! ### ints -/
theorem opI {f : Value → Value → Sem Value} {C : Int → Int → Prop} {g : Int → Int → Int}
    (rule : ∀ (i j : Int) (t u : Tok) (s : Shared) (Q : Value → Shared → Prop) (E : Value → Shared → Prop), C i j → Q (.int (g i j) s.toks) { s with toks := s.toks + 1 } → wpAny (model X.prog X.w) X.A (f (.int i t) (.int j u)) Q E s) :
    OpR X f (rI C fun i j => .int (g i j)) := by
  intro pins s σ H x y v u Q I rx ry h
  obtain ⟨i, j, rfl, rfl, hc, q⟩ := h
  obtain ⟨t, rfl⟩ := rx
  obtain ⟨t', rfl⟩ := ry
  exact rule i j t t' s _ _ hc ⟨.int (g i j), H, I.tok _, ⟨_, rfl⟩, q⟩
theorem opI0 {f : Value → Value → Sem Value} {g : Int → Int → Int}
    (rule : ∀ (i j : Int) (t u : Tok) (s : Shared) (Q : Value → Shared → Prop) (E : Value → Shared → Prop), Q (.int (g i j) s.toks) { s with toks := s.toks + 1 } → wpAny (model X.prog X.w) X.A (f (.int i t) (.int j u)) Q E s) :
    OpR X f (rI0 fun i j => .int (g i j)) := by
  intro pins s σ H x y v u Q I rx ry h
  obtain ⟨i, j, rfl, rfl, q⟩ := h
  obtain ⟨t, rfl⟩ := rx
  obtain ⟨t', rfl⟩ := ry
  exact rule i j t t' s _ _ ⟨.int (g i j), H, I.tok _, ⟨_, rfl⟩, q⟩
theorem opB0 {f : Value → Value → Sem Value} {g : Int → Int → Bool}
    (rule : ∀ (i j : Int) (t u : Tok) (s : Shared) (Q : Value → Shared → Prop) (E : Value → Shared → Prop), Q (.bool (g i j)) s → wpAny (model X.prog X.w) X.A (f (.int i t) (.int j u)) Q E s) :
    OpR X f (rI0 fun i j => .bl (g i j)) := by
  intro pins s σ H x y v u Q I rx ry h
  obtain ⟨i, j, rfl, rfl, q⟩ := h
  obtain ⟨t, rfl⟩ := rx
  obtain ⟨t', rfl⟩ := ry
  exact rule i j t t' s _ _ ⟨.bl (g i j), H, I, rfl, q⟩

def CDiv (i j : Int) : Prop := 0 < j ∧ j < 1073741824
def CDivN (i j : Int) : Prop := j ≠ 0 ∧ j.natAbs < 1073741824
def CPow (i j : Int) : Prop := 0 ≤ j ∧ j ≤ 1000000 ∧ i.natAbs < 2 ^ 64
def CMul (i j : Int) : Prop := (-(2 ^ 64) < i ∧ i < 2 ^ 64) ∨ (-(2 ^ 64) < j ∧ j < 2 ^ 64)
theorem CMul.ok {i j : Int} (h : CMul i j) : IntMulOk i j := by
  rcases h with ⟨h1, h2⟩ | ⟨h1, h2⟩
  · exact .of_left (intBits_le_64 h1 h2)
  · exact .of_right (intBits_le_64 h1 h2)
theorem op_add : OpR X (binaryOp .Add) (rI0 fun i j => .int (i + j)) := opI0 fun _ _ _ _ _ _ _ q => add_int q
theorem op_sub : OpR X (binaryOp .Sub) (rI0 fun i j => .int (i - j)) := opI0 fun _ _ _ _ _ _ _ q => sub_int q
theorem op_mul : OpR X (binaryOp .Mult) (rI CMul fun i j => .int (i * j)) := opI fun _ _ _ _ _ _ _ hc q => mul_int q hc.ok
/-- % by a positive divisor of any size -/
theorem op_mod : OpR X (binaryOp .Mod) (rI (fun _ j => 0 < j) fun i j => .int (i % j)) := opI fun i j _ _ _ _ _ hc q => by
  have h1 : (0 : Int) < j := hc
  exact mod_int' (by omega) (by rw [Int.fmod_eq_emod_of_nonneg i (by omega)]; exact q)
theorem op_pow : OpR X (binaryOp .Pow) (rI CPow fun i j => .int (i ^ j.toNat)) := opI fun _ _ _ _ _ _ _ hc q => pow_int_small hc.1 hc.2.1 hc.2.2 q
theorem unI {f : Value → Sem Value} {g : Int → Int}
    (rule : ∀ (i : Int) (t : Tok) (s : Shared) (Q : Value → Shared → Prop) (E : Value → Shared → Prop), Q (.int (g i) s.toks) { s with toks := s.toks + 1 } → wpAny (model X.prog X.w) X.A (f (.int i t)) Q E s) :
    UnR X f (rU fun i => .int (g i)) := by
  intro pins s σ H x v Q I rx h
  obtain ⟨i, rfl, q⟩ := h
  obtain ⟨t, rfl⟩ := rx
  exact rule i t s _ _ ⟨.int (g i), H, I.tok _, ⟨_, rfl⟩, q⟩
theorem un_neg : UnR X (unaryOp .USub) (rU fun i => .int (-i)) := unI fun _ _ _ _ _ q => neg_int q
/-! ### bools among ints: n += (a < b) -/
end

/-! ### comparisons -/
/-- the scalars that == tells apart as data does -/
def scal : V → V → Bool
  | .non, .non => true | .non, .int _ => true | .int _, .non => true | .non, .bl _ => true | .bl _, .non => true | .non, .str _ => true | .str _, .non => true
  | .int _, .int _ => true | .bl _, .bl _ => true | .str _, .str _ => true | .byt _, .byt _ => true
  | .int _, .str _ => true | .str _, .int _ => true | .bl _, .str _ => true | .str _, .bl _ => true
  | _, _ => false
def rEq : R2 := fun x y H Q => scal x y = true ∧ Q (.bl (decide (x = y))) H
def rNe : R2 := fun x y H Q => scal x y = true ∧ Q (.bl (!decide (x = y))) H

theorem dec_int {i j : Int} : decide (V.int i = V.int j) = (i == j) := by
  rw [Bool.eq_iff_iff]
  simp
theorem dec_bl {i j : Bool} : decide (V.bl i = V.bl j) = (i == j) := by
  rw [Bool.eq_iff_iff]
  simp
theorem dec_str {i j : Str} : decide (V.str i = V.str j) = (i == j) := by
  rw [Bool.eq_iff_iff]
  simp
theorem dec_byt {i j : Array UInt8} : decide (V.byt i = V.byt j) = (i.toList == j.toList) := by
  rw [Bool.eq_iff_iff]
  cases i
  cases j
  simp

section
variable {X : Cx} {a b c : Expr} {ta tb tc : TE} {pos : Pos}
theorem fin_bl {pins : List (Addr × Obj)} {σ : St} {H : Hp} {s : Shared} {Q : VK} {k k' : Bool} (I : Inv X pins σ H s) (q : Q (.bl k) H) (e : k = k') : EP X pins σ Q (.bool k') s := by
  subst e
  exact ⟨.bl k, H, I, rfl, q⟩
theorem op_eq : OpR X (compareOp .Eq) rEq := by
  intro pins s σ H x y v u Q I rx ry h
  obtain ⟨hs, q⟩ := h
  cases x with
  | non =>
    cases rx
    cases y with
    | non => cases ry; exact PySem.EqNone.eq_none_none (fin_bl I q (by simp))
    | bl j => cases ry; exact PySem.EqNone.eq_none_bool (fin_bl I q (by simp))
    | int j => obtain ⟨t', rfl⟩ := ry; exact PySem.EqNone.eq_none_int (fin_bl I q (by simp))
    | str j => obtain ⟨t', rfl⟩ := ry; exact PySem.EqNone.eq_none_str (fin_bl I q (by simp))
    | _ => exact absurd (show false = true from hs) Bool.false_ne_true
  | bl i =>
    cases rx
    cases y with
    | non => cases ry; exact PySem.EqNone.eq_bool_none (fin_bl I q (by simp))
    | bl j => cases ry; exact eq_bool (fin_bl I q dec_bl)
    | str j => obtain ⟨t', rfl⟩ := ry; exact PySem.EqMixed.eq_bool_str (fin_bl I q (by simp))
    | _ => exact absurd (show false = true from hs) Bool.false_ne_true
  | int i =>
    obtain ⟨t, rfl⟩ := rx
    cases y with
    | non => cases ry; exact PySem.EqNone.eq_int_none (fin_bl I q (by simp))
    | int j => obtain ⟨t', rfl⟩ := ry; exact eq_int (fin_bl I q dec_int)
    | str j => obtain ⟨t', rfl⟩ := ry; exact PySem.EqMixed.eq_int_str (fin_bl I q (by simp))
    | _ => exact absurd (show false = true from hs) Bool.false_ne_true
  | str i =>
    obtain ⟨t, rfl⟩ := rx
    cases y with
    | non => cases ry; exact PySem.EqNone.eq_str_none (fin_bl I q (by simp))
    | bl j => cases ry; exact PySem.EqMixed.eq_str_bool (fin_bl I q (by simp))
    | int j => obtain ⟨t', rfl⟩ := ry; exact PySem.EqMixed.eq_str_int (fin_bl I q (by simp))
    | str j => obtain ⟨t', rfl⟩ := ry; exact eq_str (fin_bl I q dec_str)
    | _ => exact absurd (show false = true from hs) Bool.false_ne_true
  | byt i =>
    obtain ⟨t, rfl⟩ := rx
    cases y with
    | byt j => obtain ⟨t', rfl⟩ := ry; exact PySem.W.eq_bytes (fin_bl I q dec_byt)
    | _ => exact absurd (show false = true from hs) Bool.false_ne_true
  | _ => cases y <;> exact absurd (show false = true from hs) Bool.false_ne_true
theorem op_ne : OpR X (compareOp .NotEq) rNe := by
  intro pins s σ H x y v u Q I rx ry h
  obtain ⟨hs, q⟩ := h
  cases x with
  | non =>
    cases rx
    cases y with
    | non => cases ry; exact PySem.EqNone.ne_none_none (fin_bl I q (by simp))
    | bl j => cases ry; exact PySem.EqNone.ne_none_bool (fin_bl I q (by simp))
    | int j => obtain ⟨t', rfl⟩ := ry; exact PySem.EqNone.ne_none_int (fin_bl I q (by simp))
    | str j => obtain ⟨t', rfl⟩ := ry; exact PySem.EqNone.ne_none_str (fin_bl I q (by simp))
    | _ => exact absurd (show false = true from hs) Bool.false_ne_true
  | bl i =>
    cases rx
    cases y with
    | non => cases ry; exact PySem.EqNone.ne_bool_none (fin_bl I q (by simp))
    | bl j => cases ry; exact ne_bool (fin_bl I q (congrArg not dec_bl))
    | str j => obtain ⟨t', rfl⟩ := ry; exact PySem.EqMixed.ne_bool_str (fin_bl I q (by simp))
    | _ => exact absurd (show false = true from hs) Bool.false_ne_true
  | int i =>
    obtain ⟨t, rfl⟩ := rx
    cases y with
    | non => cases ry; exact PySem.EqNone.ne_int_none (fin_bl I q (by simp))
    | int j => obtain ⟨t', rfl⟩ := ry; exact ne_int (fin_bl I q (congrArg not dec_int))
    | str j => obtain ⟨t', rfl⟩ := ry; exact PySem.EqMixed.ne_int_str (fin_bl I q (by simp))
    | _ => exact absurd (show false = true from hs) Bool.false_ne_true
  | str i =>
    obtain ⟨t, rfl⟩ := rx
    cases y with
    | non => cases ry; exact PySem.EqNone.ne_str_none (fin_bl I q (by simp))
    | bl j => cases ry; exact PySem.EqMixed.ne_str_bool (fin_bl I q (by simp))
    | int j => obtain ⟨t', rfl⟩ := ry; exact PySem.EqMixed.ne_str_int (fin_bl I q (by simp))
    | str j => obtain ⟨t', rfl⟩ := ry; exact ne_str (fin_bl I q (congrArg not dec_str))
    | _ => exact absurd (show false = true from hs) Bool.false_ne_true
  | byt i =>
    obtain ⟨t, rfl⟩ := rx
    cases y with
    | byt j => obtain ⟨t', rfl⟩ := ry; exact PySem.W.ne_bytes (fin_bl I q (congrArg not dec_byt))
    | _ => exact absurd (show false = true from hs) Bool.false_ne_true
  | _ => cases y <;> exact absurd (show false = true from hs) Bool.false_ne_true

theorem op_lt : OpR X (compareOp .Lt) (rI0 fun i j => .bl (decide (i < j))) := opB0 fun _ _ _ _ _ _ _ q => lt_int q
theorem op_le : OpR X (compareOp .LtE) (rI0 fun i j => .bl (decide (i ≤ j))) := opB0 fun _ _ _ _ _ _ _ q => le_int q
theorem op_gt : OpR X (compareOp .Gt) (rI0 fun i j => .bl (decide (j < i))) := opB0 fun _ _ _ _ _ _ _ q => gt_int q
theorem op_ge : OpR X (compareOp .GtE) (rI0 fun i j => .bl (decide (j ≤ i))) := opB0 fun _ _ _ _ _ _ _ q => ge_int q
/-- is None, is not None: the right side a value none -/
theorem op_isN : OpR X (compareOp .Is) (fun x y H Q => y = .non ∧ Q (.bl (decide (x = .non))) H) := by
  intro pins s σ H x y v u Q I rx ry h
  obtain ⟨rfl, q⟩ := h
  cases ry
  refine is_none_gen (fin_bl I q ?_)
  cases x <;> first
    | (cases rx; rfl)
    | (obtain ⟨t, rfl⟩ := rx; rfl)
/-- is, is not of two objects that are tracked lists or instances -/
def isObj : HO → Bool
  | .lst _ => true
  | .ins _ _ _ => true
  | _ => false
theorem nomark (b : Expr) {op : CmpOp} (h : op ≠ .In := by decide) (h2 : op ≠ .NotIn := by decide) : behindInMarks op b = false := by
  have e1 : (op == CmpOp.In) = false := by cases op <;> first | rfl | exact absurd rfl h
  have e2 : (op == CmpOp.NotIn) = false := by cases op <;> first | rfl | exact absurd rfl h2
  cases b <;> simp [behindInMarks, e1, e2]
/-- a comparison as a value; hm: nomark b, or (for in, not in) by with_unfolding_all rfl -/
theorem pe_cmpR {op : CmpOp} {r : R2} (ho : OpR X (compareOp op) r) (ha : PE X a ta) (hb : PE X b tb) (hm : behindInMarks op b = false) : PE X (.Compare a [op] [b] pos) (tOp r ta tb) := by
  intro pins s σ H Q I h
  exact wpAny_Compare1 (binT ha hb I h fun v u s2 x y H2 I2 rx ry q => ho pins s2 σ H2 x y v u Q I2 rx ry q) hm
/-- a reading of a value as a test -/
def tTest (t : TE) : TT := fun σ H Q => t σ H fun x H' => ∃ k, x = .bl k ∧ Q k H'
theorem pt_cmpR {op : CmpOp} {r : R2} (ho : OpR X (compareOp op) r) (ha : PE X a ta) (hb : PE X b tb) (hm : behindInMarks op b = false) : PT X (.Compare a [op] [b] pos) (tTest (tOp r ta tb)) := by
  intro pins s σ H Q I h
  refine wpAny_isTrue_Compare1 (thn (ha pins s σ H _ I h) fun v s1 ⟨x, H1, I1, r1, q1⟩ => thn (hb pins s1 σ H1 _ I1 q1) fun u s2 ⟨y, H2, I2, r2, q2⟩ =>
    thn (ho pins s2 σ H2 x y v u _ I2 r1 r2 q2) fun c s3 ⟨z, H3, I3, r3, k, e, q3⟩ => ?_) hm
  subst e
  cases r3
  exact wpAny_truthy_bool ⟨H3, I3, q3⟩
/-- a op1 b op2 c -/
def tChain (r r' : R2) (ta tb tc : TE) : TE := fun σ H Q => ta σ H fun x H1 => tb σ H1 fun y H2 => r x y H2 fun z H3 => ∃ k, z = .bl k ∧
  (if k = true then tc σ H3 fun w' H4 => r' y w' H4 Q else Q (.bl false) H3)
theorem pe_chain {op op' : CmpOp} {r r' : R2} (ho : OpR X (compareOp op) r) (ho' : OpR X (compareOp op') r') (ha : PE X a ta) (hb : PE X b tb) (hc : PE X c tc)
    (hm : lastMarks [op, op'] [b, c] = false := by with_unfolding_all rfl) : PE X (.Compare a [op, op'] [b, c] pos) (tChain r r' ta tb tc) := by
  intro pins s σ H Q I h
  refine Compare_chain (thn (ha pins s σ H _ I h) fun v s1 ⟨x, H1, I1, r1, q1⟩ => chain_link (thn (hb pins s1 σ H1 _ I1 q1) fun u s2 ⟨y, H2, I2, r2, q2⟩ =>
    thn (ho pins s2 σ H2 x y v u _ I2 r1 r2 q2) fun d s3 ⟨z, H3, I3, r3, k, e, q3⟩ => ?_)) hm
  subst e
  cases r3
  refine wpAny_truthy_bool ?_
  cases k with
  | false => exact ite_ff ⟨.bl false, H3, I3, rfl, q3⟩
  | true => exact ite_tt (chain_last (thn (hc pins s3 σ H3 _ I3 q3) fun w' s4 ⟨z', H4, I4, r4, q4⟩ => ho' pins s4 σ H4 y z' u w' Q I4 r2 r4 q4))
theorem pt_chain {op op' : CmpOp} {r r' : R2} (ho : OpR X (compareOp op) r) (ho' : OpR X (compareOp op') r') (ha : PE X a ta) (hb : PE X b tb) (hc : PE X c tc)
    (hm : lastMarks [op, op'] [b, c] = false := by with_unfolding_all rfl) : PT X (.Compare a [op, op'] [b, c] pos) (tTest (tChain r r' ta tb tc)) := by
  intro pins s σ H Q I h
  refine isTrue_chain (thn (ha pins s σ H _ I h) fun v s1 ⟨x, H1, I1, r1, q1⟩ => test_link (thn (hb pins s1 σ H1 _ I1 q1) fun u s2 ⟨y, H2, I2, r2, q2⟩ =>
    thn (ho pins s2 σ H2 x y v u _ I2 r1 r2 q2) fun d s3 ⟨z, H3, I3, r3, k, e, q3⟩ => ?_)) hm
  subst e
  cases r3
  refine wpAny_truthy_bool ?_
  cases k with
  | false =>
    obtain ⟨k', e', q'⟩ := q3
    cases e'
    exact ite_ff ⟨H3, I3, q'⟩
  | true =>
    refine ite_tt (test_last (thn (hc pins s3 σ H3 _ I3 q3) fun w' s4 ⟨z', H4, I4, r4, q4⟩ => thn (ho' pins s4 σ H4 y z' u w' _ I4 r2 r4 q4) fun d' s5 ⟨z2, H5, I5, r5, k2, e2, q5⟩ => ?_))
    subst e2
    cases r5
    exact wpAny_truthy_bool ⟨H5, I5, q5⟩

/-! ### truth -/
/-- a value's truth by the abstract heap -/
def TruV (K : PySem.W.Frag) (x : V) (H : Hp) (k : Bool) : Prop :=
  match x with
  | .non => k = false
  | .bl b => k = b
  | .int i => k = (i != 0)
  | .str y => y.length ≤ sizeLine ∧ k = ((y.length : Int) != 0)
  | .byt y => y.size ≤ sizeLine ∧ k = ((y.size : Int) != 0)
  | .ref p => (∃ xs, SqL K H p xs ∧ k = !xs.isEmpty) ∨ (∃ xs, SqT K H p xs ∧ k = !xs.isEmpty) ∨ ∃ kvs, H p = some (.dK kvs) ∧ k = !kvs.isEmpty
  | _ => False
theorem line63 : (sizeLine : Nat) < 2 ^ 63 := by rw [sizeLine_eq]; decide
/-! ### strs and bytes -/
def PlainIxT (b : Expr) : Prop := ∀ o i, subscripted b false o i = operate [o, i] (getItem o i)
/-! ### scalar builtins, by CallR -/
theorem vals1 {x : V} {us : List Value} (r : Vals [x] us) : ∃ u, us = [u] ∧ RelV x u := by
  cases r with
  | cons r1 r2 => cases r2; exact ⟨_, rfl, r1⟩
theorem call_abs : CallR X (.builtin "abs") (fun xs H Q => ∃ i, xs = [.int i] ∧ Q (.int (if i < 0 then -i else i)) H) := by
  intro pins s σ H xs us Q I r h
  obtain ⟨i, rfl, q⟩ := h
  obtain ⟨u, rfl, t, rfl⟩ := vals1 r
  exact call_abs_int fun u tk => ⟨.int (if i < 0 then -i else i), H, I.tok _, ⟨_, rfl⟩, q⟩
/-- len of a str, a bytes, a list, a tuple -/
def LenV (K : PySem.W.Frag) (x : V) (H : Hp) (n : Nat) : Prop :=
  match x with
  | .str y => y.length ≤ sizeLine ∧ n = y.length
  | .byt y => y.size ≤ sizeLine ∧ n = y.size
  | .ref p => (∃ xs, SqL K H p xs ∧ n = xs.length) ∨ ∃ xs, SqT K H p xs ∧ n = xs.length
  | _ => False
end
end L2

namespace L2
open PySem PySem.Spec PyProof.Rows

/-! ### an instance, its attributes a map -/
structure ObjM (h : Heap) (x dx C : Addr) (mA : Str → Option Value) : Prop where
  obj : h.get? x = some (PySem.W.instObj C dx)
  ns : h.Ns1 dx mA
  ne : dx ≠ x

theorem lookIn_ns {h : Heap} {dx : Addr} {mA : Str → Option Value} (n : h.Ns1 dx mA) : ∃ od, h.get? dx = some od ∧ ∀ name, PySem.W.lookIn name od = some (mA name) := by
  obtain ⟨o, es, ep, ho, hd, hk, _, hm⟩ := n
  refine ⟨o, ho, fun name => ?_⟩
  have e := hm name
  unfold nsFind findBy at e
  rw [← Array.find?_toList] at e
  unfold PySem.W.lookIn
  rw [hd]
  dsimp only
  split
  · rename_i y q
    rw [q] at e
    exact congrArg some e
  · rename_i q
    rw [q] at e
    have a : es.toList.any (·.refKey) = false := by
      rw [List.any_eq_false]
      intro y hy
      obtain ⟨z, t, hkey⟩ := hk y (Array.mem_toList_iff.mp hy)
      simp [DictEntry.refKey, hkey]
    have a' : ¬ es.toList.any (·.refKey) = true := by rw [a]; exact Bool.false_ne_true
    rw [if_neg a']
    exact congrArg some e

theorem ObjM.look {h : Heap} {x dx C : Addr} {mA : Str → Option Value} (I : ObjM h x dx C mA) : ∃ od, PySem.W.InstAt h x (PySem.W.instObj C dx) C (some od) ∧ ∀ name, PySem.W.lookIn name od = some (mA name) :=
  let ⟨od, ho, hl⟩ := lookIn_ns I.ns
  ⟨od, ⟨I.obj, rfl, rfl, ho⟩, hl⟩

section
variable {prog : Program} {w : World} {A : Around} {E : Value → Shared → Prop} {s : Shared} {K : PySem.W.Frag} {x dx C f : Addr} {mA : Str → Option Value} {name : Str} {v : Value}

theorem get_map {expr : Bool} {Q : Value → Shared → Prop} (X : K.In s.heap) (I : ObjM s.heap x dx C mA) (hg : PySem.W.plainGet K C name = true) (hh : PySem.W.hasDictIn K C = true)
    (ha : PySem.W.findIn K (.ref C) name = some none) (hv : mA name = some v) (hv' : PySem.W.handedIn v = true) (h : Q v { s with toks := s.toks + 1 }) :
    wpAny (model prog w) A (getAttr (.ref x) name expr) Q E s := by
  obtain ⟨od, J, hl⟩ := I.look
  exact PySem.W.get_value X J (PySem.W.plainGet_of hg).1 (PySem.W.findObj_own hh ha rfl (by rw [hl, hv])) hv' h

theorem get_meth {pl : Sem Bool} {Q : Value × List Value → Shared → Prop} (X : K.In s.heap) (I : ObjM s.heap x dx C mA) (hg : PySem.W.plainGet K C name = true)
    (hf : PySem.W.findIn K (.ref C) name = some (some (.ref f))) (ht : PySem.W.isFn K (.ref f) = true) (hv : mA name = none) (h : Q (.ref f, [.ref x]) s) :
    wpAny (model prog w) A (getMethod (.ref x) name pl) Q E s := by
  obtain ⟨od, J, hl⟩ := I.look
  exact PySem.W.method_fn X J (PySem.W.plainGet_of hg).1 (PySem.W.plainGet_of hg).2 hf (beq_iff_eq.mp ht) (by show (PySem.W.lookIn name od).map (·.isSome) = some false; rw [hl, hv]; rfl) h

theorem set_map {ns : List Str} {Q : Unit → Shared → Prop} (X : K.In s.heap) (I : ObjM s.heap x dx C mA)
    (hs : PySem.W.findIn K (.ref C) "__setattr__" = some (some (.builtin "object.__setattr__"))) (hp : PySem.W.plainOver K C = true) (ht : PySem.W.takerIn K C name = some none) (hh : PySem.W.hasDictIn K C = true)
    (hw : PySem.Within mA ns) (hsz : ns.length ≤ sizeLine)
    (h : ∀ h', ObjM h' x dx C (fun y => if y = name then some v else mA y) → Heap.SameBut dx s.heap h' → Q () { s with heap := h', toks := s.toks + 2 }) :
    wpAny (model prog w) A (setAttr (.ref x) name v) Q E s := by
  obtain ⟨od, J, hl⟩ := I.look
  refine PySem.W.set_plain X J hs (PySem.W.osa_open (s := { s with toks := s.toks + 1 }) (r := none) X J hp ht fun b => ?_)
  obtain ⟨cd, hc, hd'⟩ := PySem.W.any_some hh
  have hx : s.heap.get? x = some ⟨.ref C, some dx, .plain, #[]⟩ := I.obj
  refine wpAny_bind (wpAny_pure (wpAny_bind (wpAny_bind (wpAny_loadPart hx (wpAny_bind (PySem.W.Looks.here (s := { s with toks := s.toks + 1 }) (PySem.W.looks_clsIn X hc) ?_))))))
  rw [hd']
  refine wpAny_pure (a := some dx) (wpAny_bind (wpAny_pure (wpAny_bind ?_)))
  refine wpAny_nsSet1 (s := { s with toks := s.toks + 1 }) I.ns fun h' hn2 hs2 => ?_
  obtain ⟨oD, esD, epD, hoD, hdD, hcD⟩ := hn2.count (PySem.Within.cons name v hw)
  refine wpAny_bind (wpAny_lookBehind hoD (by rw [hdD]; exact pastItsLine_dict (Nat.le_trans hcD (by rw [List.length_cons]; omega))) ?_)
  exact wpAny_pure (h _ ⟨(hs2.2 _ (Ne.symm I.ne)).trans I.obj, hn2, I.ne⟩ hs2)

/-- C(..): the dict at the heap's end, the instance behind it; then its __init__ -/
theorem make_map {R : Result → Shared → Prop} {vs : List Value} {kw : List (Str × Value)} (X : K.In s.heap) (hm : PySem.W.makesIn K C = true)
    (hi : PySem.W.findIn K (.ref C) "__init__" = some (some (.ref f))) (hf : PySem.W.typeIn K (.ref f) = some (.type "function"))
    (h : codeAny (model prog w) (A.under (.builtin "type.__call__" ⟨.ref C :: vs, kw⟩)) (.call (.ref f) ⟨.ref (s.heap.objs.size + 1) :: vs, kw⟩) (PySem.W.InitBack (s.heap.objs.size + 1) R)
      { s with heap := (s.heap.push PySem.W.emptyDict).push (PySem.W.instObj C s.heap.objs.size) }) :
    codeAny (model prog w) A (.call (.ref C) ⟨vs, kw⟩) R s := by
  obtain ⟨hh, g, d, t, os⟩ := s
  exact PySem.W.make_core (PySem.W.makes_of X hm) (PySem.W.looks_findIn X hi) (fun self => PySem.W.bind_fn X self hf) (.inl rfl) h
end

/-! ### the attributes as a list of pairs -/
def putF (f : Str) (v : V) : List (Str × V) → List (Str × V)
  | [] => [(f, v)]
  | (g, x) :: r => if g = f then (g, v) :: r else (g, x) :: putF f v r
theorem lookup_putF (f g : Str) (v : V) : ∀ fs : List (Str × V), (putF f v fs).lookup g = if g = f then some v else fs.lookup g
  | [] => by
    show List.lookup g [(f, v)] = _
    by_cases h : g = f
    · have hb : (g == f) = true := beq_iff_eq.mpr h
      simp only [List.lookup, hb, if_pos h]
    · have hb : (g == f) = false := beq_eq_false_iff_ne.mpr h
      simp only [List.lookup, hb, if_neg h]
  | (k, x) :: r => by
    have ih := lookup_putF f g v r
    rw [show putF f v ((k, x) :: r) = (if k = f then (k, v) :: r else (k, x) :: putF f v r) from rfl]
    by_cases hk : k = f
    · rw [if_pos hk]
      by_cases h : g = k
      · have hb : (g == k) = true := beq_iff_eq.mpr h
        simp only [List.lookup, hb, if_pos (h.trans hk)]
      · have hb : (g == k) = false := beq_eq_false_iff_ne.mpr h
        simp only [List.lookup, hb, if_neg (fun e : g = f => h (e.trans hk.symm))]
    · rw [if_neg hk]
      by_cases h : g = k
      · have hb : (g == k) = true := beq_iff_eq.mpr h
        simp only [List.lookup, hb, if_neg (fun e : g = f => hk (h.symm.trans e))]
      · have hb : (g == k) = false := beq_eq_false_iff_ne.mpr h
        simp only [List.lookup, hb]
        exact ih
theorem keys_putF (f : Str) (v : V) : ∀ fs : List (Str × V), f ∈ (putF f v fs).map (·.1) ∧ ∀ g, g ∈ fs.map (·.1) → g ∈ (putF f v fs).map (·.1)
  | [] => ⟨by simp [putF], fun g h => by simp at h⟩
  | (k, x) :: r => by
    obtain ⟨i1, i2⟩ := keys_putF f v r
    rw [show putF f v ((k, x) :: r) = (if k = f then (k, v) :: r else (k, x) :: putF f v r) from rfl]
    by_cases hk : k = f
    · rw [if_pos hk]
      subst hk
      exact ⟨by simp, fun g h => by simpa using h⟩
    · rw [if_neg hk]
      refine ⟨?_, fun g h => ?_⟩
      · rw [List.map_cons]
        exact List.mem_cons_of_mem _ i1
      · rw [List.map_cons] at h ⊢
        rcases List.mem_cons.mp h with e | e
        · exact List.mem_cons.mpr (.inl e)
        · exact List.mem_cons_of_mem _ (i2 g e)
theorem length_putF (f : Str) (v : V) : ∀ fs : List (Str × V), (putF f v fs).length ≤ fs.length + 1
  | [] => by simp [putF]
  | (k, x) :: r => by
    have ih := length_putF f v r
    rw [show putF f v ((k, x) :: r) = (if k = f then (k, v) :: r else (k, x) :: putF f v r) from rfl]
    by_cases hk : k = f
    · rw [if_pos hk, List.length_cons, List.length_cons]; omega
    · rw [if_neg hk, List.length_cons, List.length_cons]; omega

theorem RelO.some_of {v : V} {o : Option Value} (r : RelO (some v) o) : ∃ u, o = some u ∧ RelV v u := by
  cases o with
  | none => exact (show False from r).elim
  | some u => exact ⟨u, rfl, r⟩
theorem RelO.none_of {o : Option Value} (r : RelO none o) : o = none := by
  cases o with
  | none => rfl
  | some u => exact (show False from r).elim
theorem handed_of {v : V} {u : Value} (r : RelV v u) : PySem.W.handedIn u = true := by
  cases v with
  | non => cases (show u = Value.none from r); rfl
  | bl b => cases (show u = Value.bool b from r); rfl
  | int i => obtain ⟨t, e⟩ := (show ∃ t, u = Value.int i t from r); cases e; rfl
  | str x => obtain ⟨t, e⟩ := (show ∃ t, u = Value.str x t from r); cases e; rfl
  | byt b => obtain ⟨t, e⟩ := (show ∃ t, u = Value.bytes b t from r); cases e; rfl
  | flt b => obtain ⟨t, e⟩ := (show ∃ t, u = Value.float b t from r); cases e; rfl
  | ref a => cases (show u = Value.ref a from r); rfl
  | ty n => cases (show u = Value.type n from r); rfl

section
variable {P : Program} {w : World} {H H' : Hp} {h h' : Heap} {a C dx : Addr} {fs fs' : List (Str × V)}
theorem ins_get (hok : HOk P w H h) (e : H a = some (.ins C dx fs)) : ∃ mA, ObjM h a dx C mA ∧ (∀ f, RelO (fs.lookup f) (mA f)) ∧ PySem.Within mA (fs.map (·.1)) ∧ fs.length ≤ 1000 ∧ H dx = some (.own a) := by
  obtain ⟨d, z, ne, ob, mA, n, r, q⟩ := (show ObjOk P w H h a (.ins C dx fs) from hok a _ e)
  exact ⟨mA, ⟨ob, n, ne⟩, r, q, z, d⟩
end

/-! ### what of the text a class must have -/
structure Cls (K : PySem.W.Frag) (C : Addr) : Prop where
  pg : PySem.W.plainGet K C Str.empty = true
  hd : PySem.W.hasDictIn K C = true
  po : PySem.W.plainOver K C = true
  sa : PySem.W.findIn K (.ref C) "__setattr__" = some (some (.builtin "object.__setattr__"))
theorem Cls.get {K : PySem.W.Frag} {C : Addr} (c : Cls K C) (f : Str) : PySem.W.plainGet K C f = true := c.pg
/-- no class of it has the name -/
def NoAttr (K : PySem.W.Frag) (C : Addr) (f : Str) : Prop := PySem.W.findIn K (.ref C) f = some none
theorem NoAttr.taker {K : PySem.W.Frag} {C : Addr} {f : Str} (n : NoAttr K C f) : PySem.W.takerIn K C f = some none := by
  unfold PySem.W.takerIn
  rw [show PySem.W.findIn K (.ref C) f = some none from n]
  rfl
/-- a constant of the class -/
structure Con (K : PySem.W.Frag) (C : Addr) (f : Str) (v : V) (u : Value) : Prop where
  at_ : PySem.W.findIn K (.ref C) f = some (some u)
  rel : RelV v u
  get : PySem.W.specialIn K u "__get__" = some none
  cp : PySem.W.copiedNames.contains f = false
/-- a method: a plain def of the class or of one above it -/
structure Meth (K : PySem.W.Frag) (C : Addr) (m : Str) (f : Addr) : Prop where
  at_ : PySem.W.findIn K (.ref C) m = some (some (.ref f))
  fn : PySem.W.isFn K (.ref f) = true
  kp : PySem.W.keepIn K (.ref f) = true

section
variable {X : Cx} {pins : List (Addr × Obj)} {σ : St} {H : Hp} {s : Shared} {a C dx : Addr} {fs : List (Str × V)} {f : Str} {v : V} {A : Around} {E : Value → Shared → Prop}

theorem getattr_ok {b : Bool} {Q : Value → Shared → Prop} (I : Inv X pins σ H s) (e : H a = some (.ins C dx fs)) (c : Cls X.K C) (n : NoAttr X.K C f) (l : fs.lookup f = some v)
    (h : ∀ u s', Inv X pins σ H s' → RelV v u → Q u s') : wpAny (model X.prog X.w) A (getAttr (.ref a) f b) Q E s := by
  obtain ⟨mA, O, r, _, _, _⟩ := ins_get I.hok e
  obtain ⟨u, hu, ru⟩ := RelO.some_of (v := v) (o := mA f) (by rw [← l]; exact r f)
  exact get_map I.kIn O (c.get f) c.hd n hu (handed_of ru) (h u _ (I.tok _) ru)

theorem getmeth_ok {m : Str} {g : Addr} {pl : Sem Bool} {Q : Value × List Value → Shared → Prop} (I : Inv X pins σ H s) (e : H a = some (.ins C dx fs)) (c : Cls X.K C) (k : Meth X.K C m g) (l : fs.lookup m = none)
    (h : Q (.ref g, [.ref a]) s) : wpAny (model X.prog X.w) A (getMethod (.ref a) m pl) Q E s := by
  obtain ⟨mA, O, r, _, _, _⟩ := ins_get I.hok e
  have hn : mA m = none := RelO.none_of (by rw [← l]; exact r m)
  exact get_meth I.kIn O (c.get m) k.at_ k.fn hn h

theorem setattr_ok {y : V} {u : Value} {Q : Unit → Shared → Prop} (I : Inv X pins σ H s) (e : H a = some (.ins C dx fs)) (c : Cls X.K C) (n : NoAttr X.K C f) (hl : fs.length < 1000) (ry : RelV y u)
    (h : ∀ s', Inv X pins σ (upd H a (.ins C dx (putF f y fs))) s' → Q () s') : wpAny (model X.prog X.w) A (setAttr (.ref a) f u) Q E s := by
  obtain ⟨mA, O, r, wi, _, ho⟩ := ins_get I.hok e
  have hz : (fs.map (·.1)).length ≤ sizeLine := by rw [List.length_map, sizeLine_eq]; omega
  refine set_map I.kIn O c.sa c.po n.taker c.hd wi hz fun h' O' sb => h _ ?_
  have hd : ∃ o, h'.get? dx = some o := let ⟨o, _, _, e', _⟩ := O'.ns; ⟨o, e'⟩
  refine I.write (x := a) (e := dx) (by rw [e]; exact True.intro) (.inr ho) (fun b q hb z => (sb.2 b hb).trans z) hd ?_
  refine ⟨by rw [upd_ne O.ne]; exact ho, ?_, O.ne, O'.obj, _, O'.ns, fun g => ?_, fun g hg => ?_⟩
  · have := length_putF f y fs; omega
  · show RelO ((putF f y fs).lookup g) (if g = f then some u else mA g)
    rw [lookup_putF]
    by_cases q : g = f
    · rw [if_pos q, if_pos q]; exact ry
    · rw [if_neg q, if_neg q]; exact r g
  · by_cases q : g = f
    · rw [q]; exact (keys_putF f y fs).1
    · refine (keys_putF f y fs).2 g (wi g fun z => hg ?_)
      show (if g = f then some u else mA g) = none
      rw [if_neg q]; exact z

/-- a new instance, tracked, without attributes -/
theorem Inv.made (I : Inv X pins σ H s) : Inv X pins σ (upd (upd H s.heap.objs.size (.own (s.heap.objs.size + 1))) (s.heap.objs.size + 1) (.ins C s.heap.objs.size []))
    { s with heap := (s.heap.push PySem.W.emptyDict).push (PySem.W.instObj C s.heap.objs.size) } := by
  have e1 : (s.heap.push PySem.W.emptyDict).get? s.heap.objs.size = some PySem.W.emptyDict := Heap.get?_push_size s.heap rfl
  have e2 : ((s.heap.push PySem.W.emptyDict).push (PySem.W.instObj C s.heap.objs.size)).get? (s.heap.objs.size + 1) = some (PySem.W.instObj C s.heap.objs.size) := by
    have := Heap.get?_push_size (s.heap.push PySem.W.emptyDict) (o := PySem.W.instObj C s.heap.objs.size) rfl
    rwa [Heap.size_push] at this
  have e3 : (s.heap.push PySem.W.emptyDict).Ns s.heap.objs.size (fun _ => none) := ⟨PySem.W.emptyDict, #[], _, e1, rfl, (fun e he => absurd he (by simp)), fun _ => rfl⟩
  have I1 := I.laid (a := s.heap.objs.size) (o := .own (s.heap.objs.size + 1)) (h' := s.heap.push PySem.W.emptyDict) (t' := s.toks) (fun b u q => Heap.get?_push_of_some _ q) (Nat.le_refl _) ⟨_, e1⟩
  refine I1.laid (a := s.heap.objs.size + 1) (o := .ins C s.heap.objs.size []) (t' := s.toks) (fun b u q => Heap.get?_push_of_some _ q) (Nat.le_of_eq (Heap.size_push _ _)) ?_
  have ne : s.heap.objs.size ≠ s.heap.objs.size + 1 := Nat.ne_of_lt (Nat.lt_succ_self _)
  refine ⟨by rw [upd_ne ne, upd_same], Nat.zero_le _, ne, e2, fun _ => none, (Heap.Ns1.of_empty e3).at fun o q => Heap.get?_push_of_some _ q, fun _ => True.intro, fun y hy => absurd rfl hy⟩

/-- e.f where nothing but the object is asked: through attributeBase (super) and the last hold -/
theorem attr_of {prog : Program} {w : World} {env : Env} {e : Expr} {f : Str} {pos : Pos} {s : Shared} {Q : Value → Shared → Prop} (hb : attributeBase e f env (eval e env) = eval e env)
    (h : wpAny (model prog w) A (eval e env) (fun o s₁ => wpAny (model prog w) A (getAttr o f true) Q E s₁) E s) : wpAny (model prog w) A (eval (.Attribute e f pos) env) Q E s :=
  Attribute_any_ h (by rw [arm_eval_Attribute, hb])
end

/-! ### readings and rules -/
/-- e.f, an attribute of the instance -/
def tFld (K : PySem.W.Frag) (ta : TE) (f : Str) : TE := fun σ H Q => ta σ H fun x H1 => ∃ a C dx fs v, x = .ref a ∧ H1 a = some (.ins C dx fs) ∧ Cls K C ∧ NoAttr K C f ∧ fs.lookup f = some v ∧ Q v H1
/-- e.f, a constant of the class -/
def tCon (K : PySem.W.Frag) (ta : TE) (f : Str) : TE := fun σ H Q => ta σ H fun x H1 => ∃ a C dx fs v u, x = .ref a ∧ H1 a = some (.ins C dx fs) ∧ Cls K C ∧ Con K C f v u ∧ fs.lookup f = none ∧ Q v H1
/-- e.f = value -/
def sFld (K : PySem.W.Frag) (ta tv : TE) (f : Str) : TS := fun D σ H => tv σ H fun y H1 => ta σ H1 fun x H2 => ∃ a C dx fs, x = .ref a ∧ H2 a = some (.ins C dx fs) ∧ Cls K C ∧ NoAttr K C f ∧ fs.length < 1000 ∧
  D.nx σ (upd H2 a (.ins C dx (putF f y fs)))
/-- an augmented operator on two values -/
def InOp (X : Cx) (op : Operator) (rd : V → V → Hp → VK → Prop) : Prop :=
  ∀ (pins : List (Addr × Obj)) (s : Shared) (σ : St) (H : Hp) (x y : V) (u v : Value) (Q : VK), Inv X pins σ H s → RelV x u → RelV y v → rd x y H Q → wpAny (model X.prog X.w) X.A (inplaceOp op u v) (EP X pins σ Q) X.xe s
/-- e.f op= value -/
def sFldAug (K : PySem.W.Frag) (ta tv : TE) (rd : V → V → Hp → VK → Prop) (f : Str) : TS := fun D σ H => ta σ H fun x H1 => ∃ a C dx fs v, x = .ref a ∧ H1 a = some (.ins C dx fs) ∧ Cls K C ∧ NoAttr K C f ∧ fs.lookup f = some v ∧
  tv σ H1 fun y H2 => rd v y H2 fun z H3 => ∃ dx' fs', H3 a = some (.ins C dx' fs') ∧ fs'.length < 1000 ∧ D.nx σ (upd H3 a (.ins C dx' (putF f z fs')))

section
variable {X : Cx} {o e value : Expr} {f : Str} {pos pos' tpos : Pos} {ta tv : TE}
theorem pe_fld (he : PE X e ta) (hb : attributeBase e f X.env (eval e X.env) = eval e X.env) : PE X (.Attribute e f pos) (tFld X.K ta f) := by
  intro pins s σ H Q I h
  refine attr_of hb (thn (he pins s σ H _ I h) fun u s1 ⟨x, H1, I1, rx, a, C, dx, fs, v, ex, ea, c, n, l, q⟩ => ?_)
  subst ex
  obtain rfl : u = Value.ref a := rx
  exact getattr_ok I1 ea c n l fun u' s2 I2 ru => ⟨v, H1, I2, ru, q⟩
theorem ps_fld (ha : PE X o ta) (hv : PE X value tv) (hs : swapsWith value (some (.Attribute o f pos')) pos.line X.env = pure false) : PS X (.Assign [.Attribute o f pos'] value pos) (sFld X.K ta tv f) := by
  intro pins s σ H D I h
  refine plainObj_wpAny_Assign_Attribute (thn (hv pins s σ H _ I h) fun u s1 ⟨y, H1, I1, ry, q⟩ => thn (ha pins s1 σ H1 _ I1 q) fun ov s2 ⟨x, H2, I2, rx, a, C, dx, fs, ex, ea, c, n, l, q2⟩ => ?_) hs
  subst ex
  obtain rfl : ov = Value.ref a := rx
  exact setattr_ok I2 ea c n l ry fun s3 I3 => ⟨σ, _, I3, q2⟩
def rAdd : V → V → Hp → VK → Prop := fun x y H Q => ∃ i j, x = .int i ∧ y = .int j ∧ Q (.int (i + j)) H
def rSub : V → V → Hp → VK → Prop := fun x y H Q => ∃ i j, x = .int i ∧ y = .int j ∧ Q (.int (i - j)) H
/-- what is between an instance and its method: the tree of a method call -/
theorem methcall_of {pl : Sem Bool} {m : Str} {apos : Pos} {args : List Expr} {pins : List (Addr × Obj)} {s : Shared} {σ : St} {H : Hp} {Q : Value → Shared → Prop} {te : TE} (he : PE X e te) (I : Inv X pins σ H s)
    (h : te σ H fun x H1 => ∃ a C dx fs g, x = .ref a ∧ H1 a = some (.ins C dx fs) ∧ Cls X.K C ∧ Meth X.K C m g ∧ fs.lookup m = none ∧
      ∀ s1, Inv X pins σ H1 s1 → wpAny (model X.prog X.w) X.A (callWith pos (.ref g) [.ref a] (backTo pos (starEach args X.env)) (backToKw pos (keywordEach [] X.env))) Q X.xe s1)
    (ht : eval (.Call (.Attribute e m apos) args [] pos) X.env = (do
      let ov ← eval e X.env
      standAt apos.atName
      let (f, first) ← holding [ov] (getMethod ov m pl)
      callWith pos f first (backTo pos (starEach args X.env)) (backToKw pos (keywordEach [] X.env)))) :
    wpAny (model X.prog X.w) X.A (eval (.Call (.Attribute e m apos) args [] pos) X.env) Q X.xe s := by
  refine PySem.W.methodCall_KW (pl := pl) (thn (he pins s σ H _ I h) fun u s1 ⟨x, H1, I1, rx, a, C, dx, fs, g, ex, ea, c, k, l, q⟩ => ?_) ht
  subst ex
  obtain rfl : u = Value.ref a := rx
  exact getmeth_ok I1 ea c k l (q s1 I1)
end

/-! ### isinstance -/
section
variable {X : Cx} {pins : List (Addr × Obj)} {σ : St} {H : Hp} {s : Shared} {A : Around} {E : Value → Shared → Prop} {Q : Value → Shared → Prop} {c : Value} {b : Bool}
/-- the type of a value, as the fragment's deciders take it; for an instance its class -/
inductive TyOf (K : PySem.W.Frag) (H : Hp) : V → Value → Prop where
  | non : TyOf K H .non (.type "NoneType")
  | bl (x : Bool) : TyOf K H (.bl x) (.type "bool")
  | int (i : Int) : TyOf K H (.int i) (.type "int")
  | str (x : Str) : TyOf K H (.str x) (.type "str")
  | flt (x : UInt64) : TyOf K H (.flt x) (.type "float")
  | lst {a : Addr} {xs : List V} (e : H a = some (.lst xs)) : TyOf K H (.ref a) (.type "list")
  | frz {a : Addr} {o : Obj} {xs : List V} (e : H a = some (.frz o (.lst xs))) : TyOf K H (.ref a) (.type "list")
  | tup {a : Addr} {xs : List V} (e : H a = some (.tup xs)) : TyOf K H (.ref a) (.type "tuple")
  | dK {a : Addr} {kvs : List (Key × V)} (e : H a = some (.dK kvs)) : TyOf K H (.ref a) (.type "dict")
  | dT {a : Addr} {kvs : List (List Key × V)} (e : H a = some (.dT kvs)) : TyOf K H (.ref a) (.type "dict")
  | ins {a C dx : Addr} {fs : List (Str × V)} (e : H a = some (.ins C dx fs)) (cl : Cls K C) (ha : PySem.W.findIn K (.ref C) "__class__" = some (some (.builtin "object.__class__")))
      (hn : PySem.W.specialIn K (.builtin "object.__class__") "__get__" = some (some (.builtin "getset_descriptor.__get__"))) (htk : PySem.W.takesIn K (.builtin "object.__class__") = some true)
      (hm : PySem.W.mroIn K C (.type "object") = some true) : TyOf K H (.ref a) (.ref C)
/-- isinstance(x, c) for one class c, a built-in or an own one: kitOne's answer -/
theorem isinst_ok {x : V} {u t : Value} (I : Inv X pins σ H s) (rx : RelV x u) (ty : TyOf X.K H x t) (e : PySem.W.kitOne X.K t c = some b) (h : ∀ tk, Q (.bool b) { s with toks := tk }) :
    wpAny (model X.prog X.w) A (call (.builtin "isinstance") [u, c]) Q E s := by
  cases ty with
  | non => cases (show u = Value.none from rx); exact PySem.W.kia_one PySem.W.kitx_none I.kIn True.intro e (fun z => nomatch z) h
  | bl y => cases (show u = Value.bool y from rx); exact PySem.W.kia_one PySem.W.kitx_bool I.kIn True.intro e (fun z => nomatch z) h
  | int i => obtain ⟨t, q⟩ := (show ∃ t, u = Value.int i t from rx); cases q; exact PySem.W.kia_one PySem.W.kitx_int I.kIn True.intro e (fun z => nomatch z) h
  | str y => obtain ⟨t, q⟩ := (show ∃ t, u = Value.str y t from rx); cases q; exact PySem.W.kia_one PySem.W.kitx_str I.kIn True.intro e (fun z => nomatch z) h
  | flt y => obtain ⟨t, q⟩ := (show ∃ t, u = Value.float y t from rx); cases q; exact PySem.W.kia_one PySem.W.kitx_float I.kIn True.intro e (fun z => nomatch z) h
  | @lst a xs ea =>
    cases (show u = Value.ref a from rx)
    obtain ⟨_, _, n, _, h1⟩ := (show ObjOk X.prog X.w H s.heap a (.lst xs) from I.hok a _ ea)
    exact PySem.W.kia_one PySem.W.kitx_list I.kIn ⟨_, h1, rfl⟩ e (fun z => nomatch z) h
  | @frz a ob xs ea =>
    cases (show u = Value.ref a from rx)
    obtain ⟨_, _, _, n, _, h1⟩ := (show ObjOk X.prog X.w H s.heap a (.frz ob (.lst xs)) from I.hok a _ ea)
    exact PySem.W.kia_one PySem.W.kitx_list I.kIn ⟨_, h1, rfl⟩ e (fun z => nomatch z) h
  | @tup a xs ea =>
    cases (show u = Value.ref a from rx)
    obtain ⟨_, _, _, p⟩ := (show ObjOk X.prog X.w H s.heap a (.tup xs) from I.hok a _ ea)
    obtain ⟨o, h1, h2, _⟩ := p
    exact PySem.W.kia_one PySem.W.kitx_tuple I.kIn ⟨o, h1, h2⟩ e (fun z => nomatch z) h
  | @dK a kvs ea =>
    cases (show u = Value.ref a from rx)
    obtain ⟨_, _, vs, _, p⟩ := (show ObjOk X.prog X.w H s.heap a (.dK kvs) from I.hok a _ ea)
    obtain ⟨o, es, ep, h1, h2, _⟩ := p
    exact PySem.W.kia_one PySem.W.kitx_dict I.kIn ⟨o, h1, h2.1⟩ e (fun z => nomatch z) h
  | @dT a kvs ea =>
    cases (show u = Value.ref a from rx)
    obtain ⟨_, _, xs, _, o, es, ep, h1, h2, _⟩ := (show ObjOk X.prog X.w H s.heap a (.dT kvs) from I.hok a _ ea)
    exact PySem.W.kia_one PySem.W.kitx_dict I.kIn ⟨o, h1, h2.1⟩ e (fun z => nomatch z) h
  | @ins a C dx fs ea cl ha hn htk hm =>
    cases (show u = Value.ref a from rx)
    obtain ⟨mA, O, _⟩ := ins_get I.hok ea
    obtain ⟨od, J, _⟩ := O.look
    exact PySem.W.kia_one (PySem.W.kitx_own (cl.get _) cl.hd ha hn htk hm) I.kIn J e (fun z => nomatch z) h
end
end L2

namespace L2
open PySem PySem.Spec PyProof.Rows

/-! ### room -/
structure Room (k : Nat) (A : Around) : Prop where
  hd : A.handled = none
  dp : A.depth + 3 * k + 5 < recursionLimit
  un : A.units + 16 * k + 200 < cLine
  gd : A.guards = some []
theorem Room.mono {j k : Nat} {A : Around} (r : Room k A) (h : j ≤ k) : Room j A := ⟨r.hd, by have := r.dp; omega, by have := r.un; omega, r.gd⟩
theorem Room.deeper {k : Nat} {A : Around} (r : Room (k + 1) A) (env : Env) : Room k (A.deeper env) :=
  ⟨r.hd, by have := r.dp; show A.depth + 1 + 3 * k + 5 < _; omega, by have := r.un; show A.units + 3 + 16 * k + 200 < _; omega, r.gd⟩
theorem Room.in1 {k : Nat} {A : Around} (r : Room (k + 1) A) : Room k A.in1 :=
  ⟨r.hd, by have := r.dp; show A.depth + 3 * k + 5 < _; omega, by have := r.un; show A.units + 1 + 16 * k + 200 < _; omega, r.gd⟩
theorem make_depth {A : Around} {C : Addr} {us : List Value} {kw : List (Str × Value)} : (A.under (.builtin "type.__call__" ⟨.ref C :: us, kw⟩)).depth = A.depth + 1 := by
  first | rfl | simp [Around.under, Code.weight, Code.isCreation, Code.isGuard, Code.isCaller, Code.frames, Code.isFrame, guardIds]
theorem make_units {A : Around} {C : Addr} {us : List Value} {kw : List (Str × Value)} : (A.under (.builtin "type.__call__" ⟨.ref C :: us, kw⟩)).units = A.units + 1 := by
  first | rfl | simp [Around.under, Code.cUnits, Code.frames, Code.isFrame]
theorem make_guards {A : Around} {C : Addr} {us : List Value} {kw : List (Str × Value)} : (A.under (.builtin "type.__call__" ⟨.ref C :: us, kw⟩)).guards = A.guards := by
  first | rfl | simp [Around.under, Code.guards, Code.isGuard, guardIds, pushGuards]
theorem Room.make {k : Nat} {A : Around} (r : Room (k + 1) A) (C : Addr) (us : List Value) (kw : List (Str × Value)) : Room k (A.under (.builtin "type.__call__" ⟨.ref C :: us, kw⟩)) :=
  ⟨r.hd, by have := r.dp; rw [make_depth]; omega, by have := r.un; rw [make_units]; omega, (make_guards (A := A)).trans r.gd⟩
theorem Room.depth {k : Nat} {A : Around} (r : Room k A) : A.depth < recursionLimit := by have := r.dp; omega
theorem Room.units {k : Nat} {A : Around} (r : Room k A) : A.units + 64 < cLine := by have := r.un; omega
/-! ### argument lists and displays -/
def tNil : TA := fun _ H Q => Q [] H
def tCons (ta : TE) (tr : TA) : TA := fun σ H Q => ta σ H fun x H1 => tr σ H1 fun xs H2 => Q (x :: xs) H2
section
variable {X : Cx} {e : Expr} {es : List Expr} {te : TE} {t : TA} {pos : Pos}
theorem pa_nil : PA X [] tNil := fun _ _ _ _ H Q I h => Calls.spliced_nil ⟨[], H, I, .nil, h⟩
theorem pa_cons (ha : PE X e te) (hr : PA X es t) (hs : starEach (e :: es) X.env = (false, eval e X.env) :: starEach es X.env := by rfl) : PA X (e :: es) (tCons te t) := by
  intro pos pins s σ H Q I h
  rw [hs]
  show wpAny _ _ (spliced ((false, eval e X.env) :: backTo pos (starEach es X.env))) _ _ s
  refine Calls.spliced_cons (thn (ha pins s σ H _ I h) fun u s1 ⟨x, H1, I1, r1, q1⟩ => ?_)
  exact thn (hr pos pins s1 σ H1 _ I1 q1) fun us s2 ⟨xs, H2, I2, r2, q2⟩ => ⟨x :: xs, H2, I2, .cons r1 r2, q2⟩

/-- a tuple, a list of written items -/
def tTup (t : TA) : TE := fun σ H Q => t σ H fun xs H1 => xs.length ≤ sizeLine ∧ ∀ p, H1 p = none → Q (.ref p) (upd H1 p (.tup xs))
def tLst (t : TA) : TE := fun σ H Q => t σ H fun xs H1 => xs.length ≤ sizeLine ∧ ∀ p, H1 p = none → Q (.ref p) (upd H1 p (.lst xs))
theorem pe_tup {x1} (h : PA X es t) : PE X (.Tuple es x1 pos) (tTup t) := by
  intro pins s σ H Q I hq
  refine wpAny_Tuple_spliced (thn (h pos pins s σ H _ I hq) fun us s1 ⟨xs, H1, I1, r, z, q⟩ => ⟨by rw [← r.length]; exact z, ?_⟩)
  have hf : H1 s1.heap.objs.size = none := I1.hok.fresh (Nat.le_refl _)
  refine ⟨.ref s1.heap.objs.size, upd H1 s1.heap.objs.size (.tup xs), I1.laid (t' := s1.toks) (fun b u e => Heap.get?_push_of_some _ e) (Nat.le_refl _) ?_, rfl, q _ hf⟩
  exact ⟨z, us, r, ⟨_, Heap.get?_push_size _ rfl, rfl, _, rfl⟩⟩
theorem pe_lst (h : PA X es t) : PE X (.List es pos) (tLst t) := by
  intro pins s σ H Q I hq
  refine wpAny_List_spliced (thn (h pos pins s σ H _ I hq) fun us s1 ⟨xs, H1, I1, r, z, q⟩ => ⟨by rw [← r.length]; exact z, ?_⟩)
  have hf : H1 s1.heap.objs.size = none := I1.hok.fresh (Nat.le_refl _)
  refine ⟨.ref s1.heap.objs.size, upd H1 s1.heap.objs.size (.lst xs), I1.laid (t' := s1.toks) (fun b u e => Heap.get?_push_of_some _ e) (Nat.le_refl _) ?_, rfl, q _ hf⟩
  exact ⟨z, us, 0, r, Heap.get?_push_size _ rfl⟩
end

/-! ### what a def promises -/
/-- a def's promise: the bound arguments in the parameters' order, the heap, the wanted end, the wanted exception -/
abbrev Sp := List V → Hp → VK → XK → Prop
/-- how an exception lies behind a call (file 08 gives it): the callers' frames, abstract heap and state ahead of the call, the wish, the exception, the state -/
abbrev CXT := List Env → Hp → Shared → XK → Value → Shared → Prop

/-- the state at a call -/
structure Env0 (P : Program) (w : World) (K : PySem.W.Frag) (mg : Str → Option Value) (base : Heap) (A : Around) (outer : List Env) (s : Shared) (H : Hp) : Prop where
  frames : A.frames = some outer
  mod : Mod K mg base
  bs : ∀ b o, base.get? b = some o → s.heap.get? b = some o ∧ H b = none
  bsz : base.objs.size ≤ s.heap.objs.size
  funs : s.heap.FunFrames base outer
  frf : ∀ b ∈ frs outer, H b = none
  hok : HOk P w H s.heap
  bare : AllBare s.gens
/-- a call's end -/
def CE (outer : List Env) (P : Program) (w : World) (H : Hp) (s : Shared) (Q : VK) (u : Value) (s' : Shared) : Prop :=
  ∃ v H', s'.os = s.os ∧ AllBare s'.gens ∧ Un (frs outer) [] H H' s.heap s'.heap ∧ HOk P w H' s'.heap ∧ RelV v u ∧ Q v H'
def CR (CX : CXT) (outer : List Env) (P : Program) (w : World) (H : Hp) (s : Shared) (Q : VK) (E : XK) (r : Result) (s' : Shared) : Prop :=
  match r with
  | .ok (.ret u) => CE outer P w H s Q u s'
  | .ok _ => False
  | .error e => CX outer H s E e s'
structure FnOk (P : Program) (w : World) (K : PySem.W.Frag) (mg : Str → Option Value) (base : Heap) (CX : CXT) (k : Nat) (f : Addr) (fd : FuncData) (ps : List Str) (sp : Sp) : Prop where
  len : ∀ vs H Q E, sp vs H Q E → vs.length = ps.length
  run : ∀ (A : Around) (outer : List Env) (s : Shared) (H : Hp) (args : Args) (us : List Value) (vs : List V) (Q : VK) (E : XK), Room k A → Env0 P w K mg base A outer s H → BindsTo s fd args (ps.zip us) → Vals vs us → sp vs H Q E →
    codeAny (model P w) A (.call (.ref f) args) (CR CX outer P w H s Q E) s
/-- a weaker promise -/
theorem FnOk.imp {P : Program} {w : World} {K : PySem.W.Frag} {mg : Str → Option Value} {base : Heap} {CX : CXT} {k : Nat} {f : Addr} {fd : FuncData} {ps : List Str} {sp sp' : Sp} (F : FnOk P w K mg base CX k f fd ps sp)
    (h : ∀ vs H Q E, sp' vs H Q E → sp vs H Q E) : FnOk P w K mg base CX k f fd ps sp' :=
  ⟨fun vs H Q E q => F.len vs H Q E (h _ _ _ _ q), fun A outer s H args us vs Q E hr he hb hv hs => F.run A outer s H args us vs Q E hr he hb hv (h _ _ _ _ hs)⟩

theorem Env0.make {P : Program} {w : World} {K : PySem.W.Frag} {mg : Str → Option Value} {base : Heap} {A : Around} {outer : List Env} {s : Shared} {H : Hp} (e : Env0 P w K mg base A outer s H) (C : Addr) (us : List Value) (kw : List (Str × Value)) :
    Env0 P w K mg base (A.under (.builtin "type.__call__" ⟨.ref C :: us, kw⟩)) outer s H := ⟨by first | exact e.frames | (simpa [Around.under, Code.envs, Code.isFrame, pushEnvs] using e.frames), e.mod, e.bs, e.bsz, e.funs, e.frf, e.hok, e.bare⟩
theorem Env0.in1 {P : Program} {w : World} {K : PySem.W.Frag} {mg : Str → Option Value} {base : Heap} {A : Around} {outer : List Env} {s : Shared} {H : Hp} (e : Env0 P w K mg base A outer s H) :
    Env0 P w K mg base A.in1 outer s H := ⟨e.frames, e.mod, e.bs, e.bsz, e.funs, e.frf, e.hok, e.bare⟩

section
variable {X : Cx} {pins : List (Addr × Obj)} {σ : St} {H : Hp} {s s' : Shared}
/-- from a body: what a callee wants -/
theorem Inv.env0 (I : Inv X pins σ H s) : Env0 X.prog X.w X.K X.mg X.base X.A X.stack s H :=
  ⟨I.ok.frames, I.ok.mod, I.bs, Nat.le_trans I.ok.bsz I.sz, I.stack, I.stkFree, I.hok, I.bare⟩
/-- behind a call -/
theorem Inv.after {Q : VK} {u : Value} (I : Inv X pins σ H s) (h : CE X.stack X.prog X.w H s Q u s') : EP X pins σ Q u s' := by
  obtain ⟨v, H', os, bare, un, hok, r, q⟩ := h
  obtain ⟨hh, g, d, t, os'⟩ := s'
  obtain rfl : os' = s.os := os
  exact ⟨v, H', I.call (h' := hh) (g' := g) (d' := d) (t' := t) (ch := []) un hok bare (fun b z => absurd z (by simp)), r, q⟩
end

/-! ### calls -/
/-- f(..): the written arguments, then the defaults dvs; E: what is wanted of an exception -/
def tCall (sp : Sp) (dvs : List V) (E : XK) (t : TA) : TE := fun σ H Q => t σ H fun vs H1 => sp (vs ++ dvs) H1 Q E
/-- o.m(..) of an instance of the class at C -/
def tMeth (C : Addr) (m : Str) (sp : Sp) (dvs : List V) (E : XK) (ta : TE) (t : TA) : TE := fun σ H Q => ta σ H fun x H1 => ∃ a dx fs, x = .ref a ∧ H1 a = some (.ins C dx fs) ∧ fs.lookup m = none ∧
  t σ H1 fun vs H2 => sp (x :: (vs ++ dvs)) H2 Q E
/-- C(..): a new instance and its dict, then __init__ -/
def tMake (C : Addr) (sp : Sp) (dvs : List V) (E : XK) (t : TA) : TE := fun σ H Q => t σ H fun vs H1 => ∀ x dx, H1 x = none → H1 dx = none → dx ≠ x →
  sp (.ref x :: (vs ++ dvs)) (upd (upd H1 dx (.own x)) x (.ins C dx [])) (fun v H2 => v = .non ∧ Q (.ref x) H2) E

/-- how the parameters are bound: us the positional arguments, kw the keywords' values by name, ds the defaults that fill up -/
def Binds (K : PySem.W.Frag) (fd : FuncData) (ps : List Str) (ds : List Value) : Prop :=
  ∀ (s : Shared) (us : List Value), K.In s.heap → (us ++ ds).length = ps.length → BindsTo s fd ⟨us, []⟩ (ps.zip (us ++ ds))
/-- every parameter is given -/
theorem Binds.all {K : PySem.W.Frag} {fd : FuncData} {ps : List Str} (h : ∀ us : List Value, us.length = ps.length → bindArgs fd ⟨us, []⟩ = pure (ps.zip us)) : Binds K fd ps [] := fun s us _ hl => by
  rw [List.append_nil] at hl ⊢
  exact .of_eq (h us hl)

/-- an exception of a callee reaches what this body wants of exceptions -/
def Passes (CX : CXT) (X : Cx) (E : XK) : Prop := ∀ (pins : List (Addr × Obj)) (σ : St) (H : Hp) (s : Shared) (e : Value) (s' : Shared), Inv X pins σ H s → CX X.stack H s E e s' → X.xe e s'

section
variable {X : Cx} {CX : CXT} {k : Nat} {f C : Addr} {fd : FuncData} {ps : List Str} {sp : Sp} {dvs : List V} {ds : List Value} {E : XK} {x m : Str} {p pos apos : Pos} {e o : Expr} {es : List Expr} {ta : TE} {t : TA}

/-- the callee runs -/
theorem run_fn {pins : List (Addr × Obj)} {σ : St} {H : Hp} {s : Shared} {Q : VK} {us : List Value} {vs : List V} (F : FnOk X.prog X.w X.K X.mg X.base CX k f fd ps sp) (hr : Room k X.A) (hb : Binds X.K fd ps ds) (hd : Vals dvs ds) (hx : Passes CX X E)
    (I : Inv X pins σ H s) (r : Vals vs us) (h : sp (vs ++ dvs) H Q E) : wpAny (model X.prog X.w) X.A (call (.ref f) us) (EP X pins σ Q) X.xe s := by
  have r2 : Vals (vs ++ dvs) (us ++ ds) := r.append hd
  have hl : (us ++ ds).length = ps.length := by rw [← r2.length]; exact F.len _ _ _ _ h
  refine wpAny_call (codeAny_mono (F.run X.A X.stack s H ⟨us, []⟩ (us ++ ds) (vs ++ dvs) Q E hr I.env0 (hb s us I.kIn hl) r2 h) fun r s' hq => ?_)
  cases r with
  | error e => exact hx pins σ H s e s' I hq
  | ok fl =>
    cases fl with
    | ret u => exact I.after hq
    | next => exact False.elim hq
    | brk => exact False.elim hq
    | cont => exact False.elim hq

theorem pe_call (F : FnOk X.prog X.w X.K X.mg X.base CX k f fd ps sp) (hr : Room k X.A) (hg : Gl X x) (hm : X.mg x = some (.ref f)) (hk : PySem.W.keepIn X.K (.ref f) = true) (hb : Binds X.K fd ps ds) (hd : Vals dvs ds) (hx : Passes CX X E)
    (ha : PA X (e :: es) t) (hdb : (x == ("__debug__" : Str)) = false := by decide) (he : starEach (e :: es) X.env = (false, eval e X.env) :: starEach es X.env := by rfl) (hpl : (backTo pos (starEach es X.env)).any (·.1) = false := by rfl) :
    PE X (.Call (.Name x p) (e :: es) [] pos) (tCall sp dvs E t) := by
  intro pins s σ H Q I h
  refine wpAny_Call_Name_kw (ld_glob I hg hm ?_ hdb)
  refine PySem.W.callWith_K (h₀ := X.base) I.ok.mod.kin hk (thn (ha pos pins s σ H _ I h) fun us s1 ⟨vs, H1, I1, r, q⟩ => ⟨I1.kIn, ?_⟩) he hpl
  exact run_fn F hr hb hd hx I1 r q
/-- o.m(e, ..) -/
theorem pe_meth {pl : Sem Bool} (he : PE X o ta) (c : Cls X.K C) (hm : Meth X.K C m f) (F : FnOk X.prog X.w X.K X.mg X.base CX k f fd ps sp) (hr : Room k X.A) (hb : Binds X.K fd ps ds) (hd : Vals dvs ds) (hx : Passes CX X E) (ha : PA X (e :: es) t)
    (hst : starEach (e :: es) X.env = (false, eval e X.env) :: starEach es X.env := by rfl) (hpl : (backTo pos (starEach es X.env)).any (·.1) = false := by rfl)
    (ht : eval (.Call (.Attribute o m apos) (e :: es) [] pos) X.env = (do
      let ov ← eval o X.env
      standAt apos.atName
      let (f, first) ← holding [ov] (getMethod ov m pl)
      callWith pos f first (backTo pos (starEach (e :: es) X.env)) (backToKw pos (keywordEach [] X.env))) := by rfl) :
    PE X (.Call (.Attribute o m apos) (e :: es) [] pos) (tMeth C m sp dvs E ta t) := by
  intro pins s σ H Q I h
  refine PySem.W.methodCall_KW (pl := pl) (thn (he pins s σ H _ I h) fun u s1 ⟨x, H1, I1, rx, a, dx, fs, ex, ea, l, q⟩ => ?_) ht
  subst ex
  obtain rfl : u = Value.ref a := rx
  refine getmeth_ok I1 ea c hm l ?_
  refine PySem.W.callWith_K (first := [.ref a]) (h₀ := X.base) I.ok.mod.kin hm.kp (thn (ha pos pins s1 σ H1 _ I1 q) fun us s2 ⟨vs, H2, I2, r, q2⟩ => ⟨I2.kIn, ?_⟩) hst hpl
  exact run_fn (us := .ref a :: us) (vs := .ref a :: vs) F hr hb hd hx I2 (.cons rfl r) q2
/-- o.m() -/
theorem pe_meth0 {pl : Sem Bool} (he : PE X o ta) (c : Cls X.K C) (hm : Meth X.K C m f) (F : FnOk X.prog X.w X.K X.mg X.base CX k f fd ps sp) (hr : Room k X.A) (hb : Binds X.K fd ps ds) (hd : Vals dvs ds) (hx : Passes CX X E)
    (ht : eval (.Call (.Attribute o m apos) [] [] pos) X.env = (do
      let ov ← eval o X.env
      standAt apos.atName
      let (f, first) ← holding [ov] (getMethod ov m pl)
      callWith pos f first (backTo pos (starEach [] X.env)) (backToKw pos (keywordEach [] X.env))) := by rfl) :
    PE X (.Call (.Attribute o m apos) [] [] pos) (tMeth C m sp dvs E ta tNil) := by
  intro pins s σ H Q I h
  refine PySem.W.methodCall_KW (pl := pl) (thn (he pins s σ H _ I h) fun u s1 ⟨x, H1, I1, rx, a, dx, fs, ex, ea, l, q⟩ => ?_) ht
  subst ex
  obtain rfl : u = Value.ref a := rx
  refine getmeth_ok I1 ea c hm l ?_
  exact PySem.W.callWith_K0 (first := [.ref a]) I1.kIn hm.kp (run_fn (us := [.ref a]) (vs := [.ref a]) F hr hb hd hx I1 (.cons rfl .nil) q)

/-- what a class must have to be made -/
structure Mk (K : PySem.W.Frag) (C f : Addr) : Prop where
  makes : PySem.W.makesIn K C = true
  init : PySem.W.findIn K (.ref C) "__init__" = some (some (.ref f))
  fn : PySem.W.isFn K (.ref f) = true
  kp : PySem.W.keepIn K (.ref C) = true

theorem run_make {pins : List (Addr × Obj)} {σ : St} {H : Hp} {s : Shared} {Q : VK} {us : List Value} {vs : List V} (M : Mk X.K C f) (F : FnOk X.prog X.w X.K X.mg X.base CX k f fd ps sp) (hr : Room (k + 1) X.A) (hb : Binds X.K fd ps ds) (hd : Vals dvs ds)
    (hx : Passes CX X E) (I : Inv X pins σ H s) (r : Vals vs us)
    (h : ∀ x dx, H x = none → H dx = none → dx ≠ x → sp (.ref x :: (vs ++ dvs)) (upd (upd H dx (.own x)) x (.ins C dx [])) (fun v H2 => v = .non ∧ Q (.ref x) H2) E) :
    wpAny (model X.prog X.w) X.A (call (.ref C) us) (EP X pins σ Q) X.xe s := by
  have hq := h (s.heap.objs.size + 1) s.heap.objs.size (I.hok.fresh (Nat.le_succ _)) (I.hok.fresh (Nat.le_refl _)) (Nat.ne_of_lt (Nat.lt_succ_self _))
  have I2 := Inv.made (C := C) I
  have r2 : Vals (V.ref (s.heap.objs.size + 1) :: (vs ++ dvs)) (Value.ref (s.heap.objs.size + 1) :: (us ++ ds)) := .cons rfl (r.append hd)
  have hl : (Value.ref (s.heap.objs.size + 1) :: us ++ ds).length = ps.length := by
    have e := r2.length
    rw [F.len _ _ _ _ hq] at e
    exact e.symm
  refine wpAny_call (make_map (f := f) I.kIn M.makes M.init (beq_iff_eq.mp M.fn) (codeAny_mono (F.run _ X.stack _ _ ⟨Value.ref (s.heap.objs.size + 1) :: us, []⟩ (Value.ref (s.heap.objs.size + 1) :: (us ++ ds)) _ _ E (hr.make C us [])
    (I2.env0.make C us []) (hb _ (Value.ref (s.heap.objs.size + 1) :: us) I2.kIn hl) r2 hq) fun r s' hq' => ?_))
  cases r with
  | error e => exact hx pins σ _ _ e s' I2 hq'
  | ok fl =>
    cases fl with
    | ret u =>
      obtain ⟨v, H', I3, rv, ev, q3⟩ := I2.after hq'
      subst ev
      exact ⟨rv, ⟨V.ref (s.heap.objs.size + 1), H', I3, rfl, q3⟩⟩
    | next => exact False.elim hq'
    | brk => exact False.elim hq'
    | cont => exact False.elim hq'
theorem pe_make (M : Mk X.K C f) (F : FnOk X.prog X.w X.K X.mg X.base CX k f fd ps sp) (hr : Room (k + 1) X.A) (hg : Gl X x) (hm : X.mg x = some (.ref C)) (hb : Binds X.K fd ps ds) (hd : Vals dvs ds) (hx : Passes CX X E)
    (ha : PA X (e :: es) t) (hdb : (x == ("__debug__" : Str)) = false := by decide) (he : starEach (e :: es) X.env = (false, eval e X.env) :: starEach es X.env := by rfl) (hpl : (backTo pos (starEach es X.env)).any (·.1) = false := by rfl) :
    PE X (.Call (.Name x p) (e :: es) [] pos) (tMake C sp dvs E t) := by
  intro pins s σ H Q I h
  refine wpAny_Call_Name_kw (ld_glob I hg hm ?_ hdb)
  refine PySem.W.callWith_K (h₀ := X.base) I.ok.mod.kin M.kp (thn (ha pos pins s σ H _ I h) fun us s1 ⟨vs, H1, I1, r, q⟩ => ⟨I1.kIn, ?_⟩) he hpl
  exact run_make M F hr hb hd hx I1 r q
end

/-! ### keywords -/
/-- the values of the keywords, from the left -/
def PK (X : Cx) (kws : List Keyword) (t : TA) : Prop :=
  ∀ (pos : Pos) (pins : List (Addr × Obj)) (s : Shared) (σ : St) (H : Hp) (Q : List V → Hp → Prop), Inv X pins σ H s → t σ H Q → wpAny (model X.prog X.w) X.A (evalAll ((backToKw pos (keywordEach kws X.env)).map (·.2))) (AP X pins σ Q) X.xe s
section
variable {X : Cx} {CX : CXT} {k : Nat} {f C : Addr} {fd : FuncData} {ps ks : List Str} {sp : Sp} {E : XK} {x m : Str} {p pos apos kpos : Pos} {e o : Expr} {es : List Expr} {kws : List Keyword} {te ta : TE} {t tk : TA} {nm : Option Str}
/-- how a call with keywords binds: g puts the positional values us and the keywords' values ws (names ks) in the parameters' order, defaults among them -/
structure KBinds (K : PySem.W.Frag) (fd : FuncData) (ps ks : List Str) (g : List Value → List Value → List Value) (gV : List V → List V → List V) : Prop where
  to : ∀ (s : Shared) (us ws : List Value), K.In s.heap → (g us ws).length = ps.length → BindsTo s fd ⟨us, ks.zip ws⟩ (ps.zip (g us ws))
  rel : ∀ {vs : List V} {us : List Value} {zs : List V} {ws : List Value}, Vals vs us → Vals zs ws → Vals (gV vs zs) (g us ws)
def tCallK (sp : Sp) (gV : List V → List V → List V) (E : XK) (t tk : TA) : TE := fun σ H Q => t σ H fun vs H1 => tk σ H1 fun zs H2 => sp (gV vs zs) H2 Q E
variable {g : List Value → List Value → List Value} {gV : List V → List V → List V}
end

/-! ### a def's body keeps its promise -/
/-- names: the parameters first -/
structure FnScope (N P : List Str) (sc : Scope) : Prop where
  kind : sc.kind = .function
  co : sc.isCoroutine = false
  gen : sc.isGenerator = false
  nd : N.Nodup
  pre : N.take P.length = P
  par : ∀ x ∈ P, sc.names.lookup x = some .local ∨ sc.names.lookup x = some .cell
  nofree : ∀ y ∈ sc.names, y.2 ≠ .free

theorem bindL_out {kindOf : Str → Option NameKind} {x : Str} : ∀ {binds : List (Str × Value)} {m : Str → Option Value}, (∀ v, (x, v) ∉ binds) → bindL kindOf binds m x = m x
  | [], _, _ => rfl
  | (n, v) :: r, m, h => by
    unfold bindL
    rw [bindL_out fun w hw => h w (List.mem_cons_of_mem _ hw)]
    split
    · have : x ≠ n := by rintro rfl; exact h v List.mem_cons_self
      simp [this]
    · rfl
theorem bindC_out {kindOf : Str → Option NameKind} {x : Str} : ∀ {binds : List (Str × Value)} {m : Str → Option Value}, (∀ v, (x, v) ∉ binds) → bindC kindOf binds m x = m x
  | [], _, _ => rfl
  | (n, v) :: r, m, h => by
    unfold bindC
    rw [bindC_out fun w hw => h w (List.mem_cons_of_mem _ hw)]
    split
    · rfl
    · have : x ≠ n := by rintro rfl; exact h v List.mem_cons_self
      simp [this]
theorem bindL_get {kindOf : Str → Option NameKind} {x : Str} {v : Value} : ∀ {P : List Str} {vs : List Value} {i : Nat} {m : Str → Option Value}, P.Nodup → P[i]? = some x → vs[i]? = some v → kindOf x = some .local →
    bindL kindOf (P.zip vs) m x = some v
  | [], _, _, _, _, h, _, _ => by simp at h
  | _ :: _, [], _, _, _, _, h, _ => by simp at h
  | p :: P, w :: vs, 0, m, nd, h1, h2, hk => by
    simp at h1 h2; subst h1; subst h2
    show bindL kindOf ((p, w) :: P.zip vs) m p = _
    unfold bindL
    rw [bindL_out fun v hv => (List.nodup_cons.mp nd).1 (List.of_mem_zip hv).1, if_pos hk]
    simp
  | p :: P, w :: vs, i + 1, m, nd, h1, h2, hk => by
    show bindL kindOf ((p, w) :: P.zip vs) m x = _
    unfold bindL
    exact bindL_get (i := i) (List.nodup_cons.mp nd).2 (by simpa using h1) (by simpa using h2) hk
theorem bindC_get {kindOf : Str → Option NameKind} {x : Str} {v : Value} : ∀ {P : List Str} {vs : List Value} {i : Nat} {m : Str → Option Value}, P.Nodup → P[i]? = some x → vs[i]? = some v → kindOf x ≠ some .local →
    bindC kindOf (P.zip vs) m x = some v
  | [], _, _, _, _, h, _, _ => by simp at h
  | _ :: _, [], _, _, _, _, h, _ => by simp at h
  | p :: P, w :: vs, 0, m, nd, h1, h2, hk => by
    simp at h1 h2; subst h1; subst h2
    show bindC kindOf ((p, w) :: P.zip vs) m p = _
    unfold bindC
    rw [bindC_out fun v hv => (List.nodup_cons.mp nd).1 (List.of_mem_zip hv).1, if_neg hk]
    simp
  | p :: P, w :: vs, i + 1, m, nd, h1, h2, hk => by
    show bindC kindOf ((p, w) :: P.zip vs) m x = _
    unfold bindC
    exact bindC_get (i := i) (List.nodup_cons.mp nd).2 (by simpa using h1) (by simpa using h2) hk

/-- the names' values at the entry -/
def start (N : List Str) (vs : List V) : St := vs.map some ++ List.replicate (N.length - vs.length) none

/-- the context of a def's body, at its entry; an exception leaves the frame, then lies as CX says -/
def cxOf (CX : CXT) (P : Program) (w : World) (K : PySem.W.Frag) (mg : Str → Option Value) (base : Heap) (N : List Str) (qual : Str) (scope : Scope) (f : Addr) (cd : Value) (A : Around) (outer : List Env) (s : Shared) (H : Hp) (E : XK) : Cx where
  prog := P
  w := w
  K := K
  mg := mg
  base := base
  A := A.deeper (envOfC qual scope s.heap.objs.size f cd)
  N := N
  s₀ := s
  H₀ := H
  env := envOfC qual scope s.heap.objs.size f cd
  outer := outer
  stack := envOfC qual scope s.heap.objs.size f cd :: outer
  ex := []
  calm := true
  fn := fun _ => true
  pn := []
  xe := fun e s' => wpAny (model P w) (A.deeper (envOfC qual scope s.heap.objs.size f cd)) (leaving (envOfC qual scope s.heap.objs.size f cd) e) (fun _ s'' => CX outer H s E e s'') (fun e' s'' => CX outer H s E e' s'') s'

theorem cell_has {sc : Scope} {n : Nat} {x : Str} (h : sc.names.lookup x = some .cell) : ∃ c, (cellsFrom n sc.names []).lookup x = some c := by
  have q := PySem.W.cellsFrom_some sc.names n [] (.inl h)
  exact Option.isSome_iff_exists.mp q

theorem inv_start {CX : CXT} {P : Program} {w : World} {K : PySem.W.Frag} {mg : Str → Option Value} {base : Heap} {N ps : List Str} {qual : Str} {scope : Scope} {f : Addr} {cd : Value} {A : Around} {outer : List Env} {s s1 : Shared} {H : Hp} {E : XK} {us : List Value} {vs : List V}
    (S : FnScope N ps scope) (hd : A.handled = none) (e0 : Env0 P w K mg base A outer s H) (hl : vs.length = ps.length) (r : Vals vs us)
    (x : InCallC s s.heap.objs.size (bindL (envOfC qual scope s.heap.objs.size f cd).kindOf (ps.zip us) fun _ => none) (cellsFrom (s.heap.objs.size + 1) scope.names []) (bindC (envOfC qual scope s.heap.objs.size f cd).kindOf (ps.zip us) fun _ => none) s1) :
    Inv (cxOf CX P w K mg base N qual scope f cd A outer s H E) [] (start N vs) H s1 := by
  have hpl : ps.length ≤ N.length := by have := congrArg List.length S.pre; rw [List.length_take] at this; omega
  obtain ⟨h1, tk, rfl, hk⟩ := x.done
  have noA : ∀ b : Addr, b ∉ (cxOf CX P w K mg base N qual scope f cd A outer s H E).ex := fun b z => absurd (show b ∈ ([] : List Addr) from z) (by simp)
  refine ⟨⟨e0.mod, S.kind, rfl, rfl, Nat.le_refl _, fun y z c h1 h2 => ?_, fun y hy => ?_, fun y c _ h => ?_, fun _ => hd, Around.frames_deeper e0.frames, .inr ⟨rfl, rfl⟩, fun b z => absurd z (noA b), e0.bs, e0.bsz, fun b _ _ => noA b, fun b z => absurd z (noA b), e0.funs, e0.frf⟩,
    rfl, e0.bare, Un.kept hk, ⟨_, x.toInCall.ns, fun i y v h1 h2 h3 => ?_⟩, fun y c h => ⟨_, x.cell y c h⟩, e0.hok.fresh (Nat.le_refl _), fun y c h => ?_, fun p hp => absurd (show p ∈ ([] : List (Addr × Obj)) from hp) (by simp), e0.hok.kept hk, ?_⟩
  · exact name_of_addr x.apart (PySem.mem_of_lookup h1) (PySem.mem_of_lookup h2)
  · have hy : scope.names.lookup y = some .cell ∨ scope.names.lookup y = some .free := hy
    rcases hy with hy | hy
    · exact cell_has hy
    · exact absurd rfl (S.nofree _ (PySem.mem_of_lookup hy))
  · exact Nat.le_of_lt (x.above y c (PySem.mem_of_lookup h))
  · have hi : i < vs.length := by
      unfold start at h2
      by_cases hi : i < vs.length
      · exact hi
      · rw [List.getElem?_append_right (by simpa using hi)] at h2
        rw [List.getElem?_replicate] at h2
        split at h2 <;> cases h2
    have ha : vs[i]? = some v := by
      unfold start at h2
      rw [List.getElem?_append_left (by simpa using hi), List.getElem?_map] at h2
      cases e : vs[i]? with
      | none => rw [e] at h2; cases h2
      | some a => rw [e] at h2; cases h2; rfl
    obtain ⟨u, hu, rv⟩ := r.get ha
    have hp : ps[i]? = some y := by
      rw [← S.pre, List.getElem?_take_of_lt (by omega)]; exact h1
    have ndP : ps.Nodup := by rw [← S.pre]; exact S.nd.sublist (List.take_sublist _ _)
    refine ⟨u, rv, ?_⟩
    rcases S.par y (List.mem_of_getElem? hp) with k | k
    · exact .inl ⟨k, bindL_get ndP hp hu k⟩
    · obtain ⟨c, e⟩ := cell_has (n := s.heap.objs.size + 1) k
      refine .inr ⟨.inl k, c, e, ?_⟩
      have q := x.cell y c e
      rw [bindC_get ndP hp hu (by show scope.names.lookup y ≠ _; rw [k]; decide)] at q
      exact q
  · exact e0.hok.fresh (Nat.le_of_lt (x.above y c (PySem.mem_of_lookup h)))
  · unfold start
    show _ = N.length
    rw [List.length_append, List.length_map, List.length_replicate]
    omega

/-- THE RULE: a def (or a method) of the text, by its body. The body's reading t is chosen for each entry; it is run at the parameters' values -/
theorem fn_of {CX : CXT} {P : Program} {w : World} {K : PySem.W.Frag} {mg : Str → Option Value} {base : Heap} {k : Nat} {f : Addr} {name qual : Str} {params : Arguments} {body : List Stmt} {scope : Scope} {dV kV doc pm cdv ct oc : Value} {an od : Option Addr}
    {osl : Array (Option Value)} {N ps : List Str} {sp : Sp} (lk : K.lookup f = some ⟨oc, od, .func (PySem.W.fnOf name qual params body scope dV kV doc pm an cdv ct), osl⟩) (hcd : PySem.W.codeIn K cdv qual = true) (S : FnScope N ps scope)
    (len : ∀ vs H Q E, sp vs H Q E → vs.length = ps.length)
    (hbody : ∀ (A : Around) (outer : List Env) (s : Shared) (H : Hp) (vs : List V) (Q : VK) (E : XK), Room k (A.deeper (envOfC qual scope s.heap.objs.size f cdv)) → sp vs H Q E →
      ∃ t, PSs (cxOf CX P w K mg base N qual scope f cdv A outer s H E) body t ∧ t { nx := fun _ H' => Q .non H', rt := Q } (start N vs) H) :
    FnOk P w K mg base CX (k + 1) f (PySem.W.fnOf name qual params body scope dV kV doc pm an cdv ct) ps sp := by
  refine ⟨len, fun A outer s H args us vs Q E hr e0 hb r hsp => ?_⟩
  have hl := len _ _ _ _ hsp
  have KX : K.In s.heap := e0.mod.kin.keeps fun b o e => (e0.bs b o e).1
  have lim : s.heap.NoLimit := e0.mod.nolimit.keeps fun b o e => (e0.bs b o e).1
  have hkind : ∀ y ∈ ps.zip us, scope.names.lookup y.1 = some .local ∨ (scope.names.lookup y.1 = some .cell ∧ ((cellsFrom (s.heap.objs.size + 1) scope.names []).lookup y.1).isSome = true) := fun ⟨n, v⟩ hy => by
    rcases S.par n (List.of_mem_zip hy).1 with q | q
    · exact .inl q
    · exact .inr ⟨q, PySem.W.cellsFrom_some _ _ _ (.inl q)⟩
  refine codeAny_call_function hr.depth (KX _ _ lk) rfl S.co S.gen rfl (PySem.W.codeRec_of KX hcd) (hb _ _ _ _ ?_)
  refine wpAny_newFunctionEnv_cells S.kind hkind fun env he s1 x => ?_
  subst he
  refine ⟨lim.keeps x.toInCall.keep, codeAny_func ?_⟩
  obtain ⟨t, ht, hq⟩ := hbody A outer s H vs Q E (hr.deeper _) hsp
  have I : Inv (cxOf CX P w K mg base N qual scope f cdv A outer s H E) [] (start N vs) H s1 := inv_start S hr.hd e0 hl r x
  refine wpAny_mono (ht [] s1 (start N vs) H _ I hq) (fun fl s' hs => ?_) fun e s' hs => hs
  have fin : ∀ {σ' : St} {H' : Hp} {v : V} {u : Value}, Inv (cxOf CX P w K mg base N qual scope f cdv A outer s H E) [] σ' H' s' → RelV v u → Q v H' → CE outer P w H s Q u s' :=
    fun {σ' H' v u} J rv q => ⟨v, H', J.os, J.bare, J.base, J.hok, rv, q⟩
  cases fl with
  | ret u =>
    obtain ⟨v, σ', H', J, rv, q⟩ := hs
    exact fin J rv q
  | next =>
    obtain ⟨σ', H', J, q⟩ := hs
    exact fin (v := V.non) (u := Value.none) J rfl q
  | brk =>
    obtain ⟨_, _, _, q⟩ := hs
    exact False.elim q
  | cont =>
    obtain ⟨_, _, _, q⟩ := hs
    exact False.elim q
end L2

namespace L2
open PySem PySem.Spec PyProof.Rows
section
variable {X : Cx} {x : Str} {p pos : Pos} {e : Expr} {es : List Expr} {t : TA} {id T : String} {r : List V → Hp → VK → Prop}

def tCB (r : List V → Hp → VK → Prop) (t : TA) : TE := fun σ H Q => t σ H fun vs H1 => r vs H1 Q
/-- f(e, ..), f a built-in function -/
theorem pe_callB (hc : CallR X (.builtin id) r) (hg : Gl X x) (hm : X.mg x = none) (hv : bootBuiltins x = some (.builtin id)) (ha : PA X (e :: es) t) (hn : x ≠ "__name__" := by decide) (hdb : (x == ("__debug__" : Str)) = false := by decide)
    (he : starEach (e :: es) X.env = (false, eval e X.env) :: starEach es X.env := by rfl) (hpl : (backTo pos (starEach es X.env)).any (·.1) = false := by rfl) : PE X (.Call (.Name x p) (e :: es) [] pos) (tCB r t) := by
  intro pins s σ H Q I h
  refine wpAny_Call_Name_kw (ld_blt I hg hm hv ?_ hn hdb)
  exact PyProof.Rows.callWith_builtin1 (thn (ha pos pins s σ H _ I h) fun us s1 ⟨vs, H1, I1, r1, q1⟩ => hc pins s1 σ H1 vs us Q I1 r1 q1) he hpl
/-- T(e, ..), T a built-in type -/
theorem pe_callTy (hc : CallR X (.type T) r) (hg : Gl X x) (hm : X.mg x = none) (hv : bootBuiltins x = some (.type T)) (ha : PA X (e :: es) t) (hn : x ≠ "__name__" := by decide) (hdb : (x == ("__debug__" : Str)) = false := by decide)
    (he : starEach (e :: es) X.env = (false, eval e X.env) :: starEach es X.env := by rfl) (hpl : (backTo pos (starEach es X.env)).any (·.1) = false := by rfl) : PE X (.Call (.Name x p) (e :: es) [] pos) (tCB r t) := by
  intro pins s σ H Q I h
  refine wpAny_Call_Name_kw (ld_blt I hg hm hv ?_ hn hdb)
  exact PyProof.Rows.callWith_type1 (thn (ha pos pins s σ H _ I h) fun us s1 ⟨vs, H1, I1, r1, q1⟩ => hc pins s1 σ H1 vs us Q I1 r1 q1) he hpl
end
end L2

namespace HT
open PySem PyProof.Rows

/-- t < u of tuples of ints -/
def lexLt : List Int → List Int → Bool
  | [], [] => false
  | [], _ :: _ => true
  | _ :: _, [] => false
  | x :: xs, y :: ys => if x = y then lexLt xs ys else decide (x < y)
section
open PySem.SeqAt
open PySem.AutoSeq1 (wpAny_loadPart')
open PySem.MeetsSeq PySem.MeetsSeq2 PySem.MeetsSeq3

end

section
variable {prog : Program} {w : World} {A : Around} {E : Value → Shared → Prop} {s : Shared}

/-! ### t[a:b], not the whole -/
/-- a slice's bound as a place among n (d where it is left out) -/
def sIx (n d : Nat) : Option Int → Nat
  | none => d
  | some v => if v < 0 then (v + (n : Int)).toNat else min v.toNat n
end
end HT

namespace L2
open PySem PySem.Spec PyProof.Rows

/-! ### the parts of a slice -/
abbrev TO := St → Hp → (Option Int → Hp → Prop) → Prop
/-- a slice's part (left out, or an int) -/
def PO (X : Cx) (e : Option Expr) (t : TO) : Prop :=
  ∀ (pins : List (Addr × Obj)) (s : Shared) (σ : St) (H : Hp) (Q : Option Int → Hp → Prop), Inv X pins σ H s → t σ H Q →
    wpAny (model X.prog X.w) X.A (evalPart e X.env) (fun u s' => ∃ o H', Inv X pins σ H' s' ∧ IsPart u o ∧ Q o H') X.xe s
def tNoPart : TO := fun _ H Q => Q none H
def tPart (t : TE) : TO := fun σ H Q => t σ H fun x H1 => ∃ i, x = .int i ∧ Q (some i) H1

section
variable {X : Cx} {e : Expr} {te : TE} {lo hi : Option Expr} {tl th : TO} {pos p2 : Pos}

theorem po_none : PO X none tNoPart := by
  intro pins s σ H Q I h
  rw [evalPart_none]
  exact wpAny_pure ⟨none, H, I, .none, h⟩
theorem po_some (h : PE X e te) : PO X (some e) (tPart te) := by
  intro pins s σ H Q I hw
  rw [evalPart_some]
  refine thn (h pins s σ H _ I hw) fun u s1 ⟨x, H1, I1, r1, q1⟩ => ?_
  obtain ⟨i, rfl, q⟩ := q1
  obtain ⟨t, rfl⟩ := r1
  exact ⟨some i, H1, I1, .int i t, q⟩

/-- what a slice of a value is, by values: the slice object stands at sl -/
def SlR (X : Cx) (r : V → Option Int → Option Int → Hp → VK → Prop) : Prop :=
  ∀ (pins : List (Addr × Obj)) (s : Shared) (σ : St) (H : Hp) (x : V) (v vl vu : Value) (lo hi : Option Int) (sl : Addr) (Q : VK), Inv X pins σ H s → RelV x v → s.heap.IsSliceOf sl vl vu .none → IsPart vl lo → IsPart vu hi → r x lo hi H Q →
    ∃ T id, typeLookup (.type T) "__getitem__" = pure (some (.builtin id)) ∧ s.TypeIs v T ∧ wpAny (model X.prog X.w) X.A (getItem v (.ref sl)) (EP X pins σ Q) X.xe s
def tSl (r : V → Option Int → Option Int → Hp → VK → Prop) (te : TE) (tl th : TO) : TE := fun σ H Q => te σ H fun x H1 => tl σ H1 fun l H2 => th σ H2 fun u H3 => r x l u H3 Q
/-- a[lo:hi], any a -/
theorem pe_slice {r : V → Option Int → Option Int → Hp → VK → Prop} (hr : SlR X r) (he : PE X e te) (hl : PO X lo tl) (hu : PO X hi th) : PE X (.Subscript e (.Slice lo hi none p2) pos) (tSl r te tl th) := by
  intro pins s σ H Q I h
  refine Subscript_ (thn (he pins s σ H _ I h) fun v s1 ⟨x, H1, I1, r1, q1⟩ => ?_)
  refine wpAny_Slice (thn (hl pins s1 σ H1 _ I1 q1) fun vl s2 ⟨l, H2, I2, pl, q2⟩ => thn (hu pins s2 σ H2 _ I2 q2) fun vu s3 ⟨u, H3, I3, pu, q3⟩ => ?_)
  rw [evalPart_none]
  refine wpAny_pure ?_
  have I4 : Inv X pins σ H3 { s3 with heap := s3.heap.push { cls := .type "slice", data := .fields #[vl, vu, .none] } } := I3.kept (t' := s3.toks) fun b ob q => Heap.get?_push_of_some _ q
  obtain ⟨T, id, hT, ht, hg⟩ := hr pins { s3 with heap := s3.heap.push { cls := .type "slice", data := .fields #[vl, vu, .none] } } σ H3 x v vl vu l u s3.heap.objs.size Q I4 r1 (Heap.IsSliceOf.new ..) pl pu q3
  show wpAny (model X.prog X.w) X.A (subscriptTail e (.Slice lo hi none p2) v (.ref s3.heap.objs.size)) (EP X pins σ Q) X.xe { s3 with heap := s3.heap.push { cls := .type "slice", data := .fields #[vl, vu, .none] } }
  exact tail_any (ops := [.ref s3.heap.objs.size, v]) ht hT hg (by with_unfolding_all rfl)

/-- the items of xs[lo:hi] -/
def cutV (xs : List V) (lo hi : Option Int) : List V := (xs.drop (HT.sIx xs.length 0 lo)).take (HT.sIx xs.length xs.length hi - HT.sIx xs.length 0 lo)
theorem cutV_length (xs : List V) (lo hi : Option Int) : (cutV xs lo hi).length ≤ xs.length := by
  unfold cutV
  rw [List.length_take, List.length_drop]
  omega
/-- t[lo:hi], not the whole of it (the whole would be t itself) -/
def rSlT (K : PySem.W.Frag) : V → Option Int → Option Int → Hp → VK → Prop := fun x lo hi H Q => ∃ a xs, x = .ref a ∧ SqT K H a xs ∧
  ¬ (HT.sIx xs.length 0 lo = 0 ∧ HT.sIx xs.length xs.length hi = xs.length) ∧ ∀ p, H p = none → Q (.ref p) (upd H p (.tup (cutV xs lo hi)))
/-! ### t < u, t + u -/
def rLtT (K : PySem.W.Frag) : R2 := fun x y H Q => ∃ a b ns ms, x = .ref a ∧ y = .ref b ∧ SqT K H a (ns.map V.int) ∧ SqT K H b (ms.map V.int) ∧ Q (.bl (HT.lexLt ns ms)) H
/-- t + u, t not empty: u empty gives t itself -/
def rCatT (K : PySem.W.Frag) : R2 := fun x y H Q => ∃ a b xs ys, x = .ref a ∧ y = .ref b ∧ SqT K H a xs ∧ SqT K H b ys ∧ xs ≠ [] ∧ xs.length + ys.length ≤ sizeLine ∧
  (ys = [] → Q (.ref a) H) ∧ (ys ≠ [] → ∀ p, H p = none → Q (.ref p) (upd H p (.tup (xs ++ ys))))
end
end L2

namespace L2
open PySem PySem.Spec PyProof.Rows

/-! ### places -/
/-- the place that an index of any sign means -/
def ixN (n : Nat) (i : Int) : Option Nat := if 0 ≤ i then (if i < n then some i.toNat else none) else if -(n : Int) ≤ i then some (i + n).toNat else none
def atI {α : Type} (xs : List α) (i : Int) : Option α := (ixN xs.length i).bind fun j => xs[j]?
theorem ixN_seq {n : Nat} {i : Int} {j : Nat} (h : ixN n i = some j) : seqIndex? i n = some j ∧ j < n ∧ -(n : Int) ≤ i ∧ i < n := by
  unfold ixN at h
  by_cases h0 : 0 ≤ i
  · rw [if_pos h0] at h
    by_cases h1 : i < n
    · rw [if_pos h1] at h
      have e : i.toNat = j := Option.some.inj h
      exact ⟨by rw [seqIndex_of h0 h1, e], by omega, by omega, h1⟩
    · rw [if_neg h1] at h; cases h
  · rw [if_neg h0] at h
    by_cases h1 : -(n : Int) ≤ i
    · rw [if_pos h1] at h
      have e : (i + n).toNat = j := Option.some.inj h
      exact ⟨by rw [seqIndex_neg (by omega) h1, e], by omega, h1, by omega⟩
    · rw [if_neg h1] at h; cases h
theorem atI_get {α : Type} {xs : List α} {i : Int} {v : α} (h : atI xs i = some v) : ∃ j, seqIndex? i xs.length = some j ∧ xs[j]? = some v ∧ j < xs.length ∧ -(xs.length : Int) ≤ i ∧ i < xs.length := by
  unfold atI at h
  cases e : ixN xs.length i with
  | none => rw [e] at h; cases h
  | some j =>
    rw [e] at h
    obtain ⟨h1, h2, h3, h4⟩ := ixN_seq e
    exact ⟨j, h1, h, h2, h3, h4⟩
theorem atI_nat {α : Type} {xs : List α} {j : Nat} {v : α} (h : xs[j]? = some v) : atI xs (j : Int) = some v := by
  have hj : j < xs.length := (List.getElem?_eq_some_iff.mp h).1
  have e : ixN xs.length (j : Int) = some j := by
    unfold ixN
    rw [if_pos (by omega), if_pos (by omega)]; simp
  unfold atI; rw [e]; exact h
/-! ### what may be subscripted -/
/-- what stands as an index of a plain subscript -/
def PlainIx (b : Expr) : Prop := ∀ o i, subscripted b false o i = operate [o, i] (getItem o i)
/-- a subscript by values -/
def IxR (X : Cx) (r : R2) : Prop :=
  ∀ (value slice : Expr) (pins : List (Addr × Obj)) (s : Shared) (σ : St) (H : Hp) (x y : V) (v u : Value) (Q : VK), Inv X pins σ H s → RelV x v → RelV y u → r x y H Q →
    subscripted slice false v u = operate [v, u] (getItem v u) → wpAny (model X.prog X.w) X.A (subscriptTail value slice v u) (EP X pins σ Q) X.xe s
/-- a call of a builtin's method by values: the receiver, the arguments -/
def MtR (X : Cx) (id : String) (r : V → List V → Hp → VK → Prop) : Prop :=
  ∀ (pins : List (Addr × Obj)) (s : Shared) (σ : St) (H : Hp) (x : V) (xs : List V) (v : Value) (us : List Value) (Q : VK), Inv X pins σ H s → RelV x v → Vals xs us → r x xs H Q →
    wpAny (model X.prog X.w) X.A (call (.builtin id) (v :: us)) (EP X pins σ Q) X.xe s
section
variable {X : Cx} {a b : Expr} {ta tb : TE} {pos : Pos}
/-- a[b] -/
theorem pe_ix {r : R2} (hr : IxR X r) (ha : PE X a ta) (hb : PE X b tb) (hs : PlainIx b) : PE X (.Subscript a b pos) (tOp r ta tb) := by
  intro pins s σ H Q I h
  exact Subscript_ (binT ha hb I h fun v u s2 x y H2 I2 rx ry q => hr a b pins s2 σ H2 x y v u Q I2 rx ry q (hs _ _))

def rIxL (K : PySem.W.Frag) : R2 := fun x y H Q => ∃ p xs i v, x = .ref p ∧ y = .int i ∧ SqL K H p xs ∧ atI xs i = some v ∧ Q v H
def rIxT (K : PySem.W.Frag) : R2 := fun x y H Q => ∃ p xs i v, x = .ref p ∧ y = .int i ∧ SqT K H p xs ∧ atI xs i = some v ∧ Q v H
def rIxS : R2 := fun x y H Q => ∃ z i c, x = .str z ∧ y = .int i ∧ z.length ≤ sizeLine ∧ atI z.cps.toList i = some c ∧ Q (.str ⟨#[c]⟩) H
theorem ix_list : IxR X (rIxL X.K) := by
  intro value slice pins s σ H x y v u Q I rx ry h hs
  obtain ⟨p, xs, i, z, rfl, rfl, hq, he, q⟩ := h
  cases rx
  obtain ⟨t, rfl⟩ := ry
  obtain ⟨its, r, pl, hz⟩ := I.list hq
  obtain ⟨j, h1, h2, h3, h4, h5⟩ := atI_get he
  obtain ⟨w, ew, rw'⟩ := r.get h2
  have hl := r.length
  have hn := line63
  have fin : EP X pins σ Q w s := ⟨z, H, I, rw', q⟩
  by_cases h0 : 0 ≤ i
  · have hj : i.toNat = j := by
      rw [seqIndex_of h0 h5] at h1
      exact Option.some.inj h1
    exact item_listR pl.isList h0 (by omega) (by rw [hj]; simpa using ew) fin hs
  · have hj : (i + (its.toArray.size : Int)).toNat = j := by
      rw [seqIndex_neg (by omega) h4] at h1
      rw [List.size_toArray, ← hl]
      exact Option.some.inj h1
    exact subscriptTail_builtinR (x := w) pl.isList.typeIs slot_list_getitem.lookup
      (wpAny_getItem_list_neg (Q := fun r s' => r = w ∧ EP X pins σ Q r s') pl.isList (by omega) (by rw [List.size_toArray] <;> omega) (by omega) (by rw [hj]; simpa using ew) ⟨rfl, fin⟩) hs
theorem ix_tup : IxR X (rIxT X.K) := by
  intro value slice pins s σ H x y v u Q I rx ry h hs
  obtain ⟨p, xs, i, z, rfl, rfl, hq, he, q⟩ := h
  cases rx
  obtain ⟨t, rfl⟩ := ry
  obtain ⟨its, r, pl, hz⟩ := I.tuple hq
  obtain ⟨j, h1, h2, h3, h4, h5⟩ := atI_get he
  obtain ⟨w, ew, rw'⟩ := r.get h2
  have hl := r.length
  have hn := line63
  have fin : EP X pins σ Q w s := ⟨z, H, I, rw', q⟩
  exact subscriptTail_builtinR (x := w) pl.typeIs slot_tuple_getitem.lookup
    (getItem_tuple (j := j) (Q := fun r s' => r = w ∧ EP X pins σ Q r s') pl (by omega) (by omega) (by rw [List.size_toArray, ← hl]; exact h1) (by simpa using ew) ⟨rfl, fin⟩) hs
/-- list, tuple or str -/
def rIx (K : PySem.W.Frag) : R2 := fun x y H Q => rIxL K x y H Q ∨ rIxT K x y H Q ∨ rIxS x y H Q
/-! ### xs[i] = v, any sign -/
/-- the list's object behind a store -/
theorem mapSeq_set (its : List Value) (n j : Nat) (u : Value) : Obj.mapSeq (·.setIfInBounds j u) { cls := .type "list", data := .seq its.toArray n } = { cls := .type "list", data := .seq (its.set j u).toArray n } := by
  simp [Obj.mapSeq]
theorem Inv.lst {pins : List (Addr × Obj)} {σ : St} {H : Hp} {s : Shared} {p : Addr} {xs : List V} (I : Inv X pins σ H s) (h : H p = some (.lst xs)) :
    ∃ (its : List Value) (n : Nat), Vals xs its ∧ s.heap.get? p = some { cls := .type "list", data := .seq its.toArray n } ∧ xs.length ≤ sizeLine := by
  obtain ⟨z, its, n, r, e⟩ := I.hok p _ h
  exact ⟨its, n, r, e, z⟩
/-- the list at p is written by an update of its object -/
theorem Inv.lstUpd {pins : List (Addr × Obj)} {σ : St} {H : Hp} {s : Shared} {p : Addr} {xs ys : List V} {its its' : List Value} {n n' : Nat} {f : Obj → Obj} (I : Inv X pins σ H s) (h : H p = some (.lst xs))
    (ho : s.heap.get? p = some { cls := .type "list", data := .seq its.toArray n }) (hf : f { cls := .type "list", data := .seq its.toArray n } = { cls := .type "list", data := .seq its'.toArray n' }) (r : Vals ys its') (hz : ys.length ≤ sizeLine) (t : Nat) :
    Inv X pins σ (upd H p (.lst ys)) { s with heap := s.heap.update p f, toks := t } := by
  have e : (s.heap.update p f).get? p = some { cls := .type "list", data := .seq its'.toArray n' } := by
    rw [Heap.get?_update_self f ho (by rw [hf] <;> rfl), hf]
  refine I.write (x := p) (e := p) (by rw [h]; trivial) (.inl rfl) (fun b u hb q => (Heap.get?_update_other _ _ (Ne.symm hb)).trans q) ⟨_, e⟩ ?_
  exact ⟨hz, its', n', r, e⟩
def rSetL : V → V → V → Hp → (Hp → Prop) → Prop := fun o i v H Q => ∃ p xs k j, o = .ref p ∧ i = .int k ∧ H p = some (.lst xs) ∧ ixN xs.length k = some j ∧ Q (upd H p (.lst (xs.set j v)))
theorem set_list : PSet X rSetL := by
  intro pins s σ H o i v ov iv u Q I ro ri rv h
  obtain ⟨p, xs, k, j, rfl, rfl, hp, hj, q⟩ := h
  cases ro
  obtain ⟨t, rfl⟩ := ri
  obtain ⟨its, n, r, ho, hz⟩ := I.lst hp
  obtain ⟨h1, h2, h3, h4⟩ := ixN_seq hj
  have hl := r.length
  have hn := line63
  have I' : Inv X pins σ (upd H p (.lst (xs.set j v))) { s with heap := s.heap.update p (Obj.mapSeq (·.setIfInBounds j u)) } :=
    I.lstUpd hp ho (mapSeq_set its n j u) (r.set rv j) (by rw [List.length_set]; exact hz) s.toks
  by_cases h0 : 0 ≤ k
  · have hk : k.toNat = j := by
      rw [seqIndex_of h0 h4] at h1
      exact Option.some.inj h1
    exact PySem.W.ki_setAt ho h0 (by omega) (by rw [List.size_toArray, ← hl]; exact h4) (by rw [hk]; exact ⟨_, I', q⟩)
  · have hk : (k + (its.toArray.size : Int)).toNat = j := by
      rw [seqIndex_neg (by omega) h3] at h1
      rw [List.size_toArray, ← hl]
      exact Option.some.inj h1
    exact PySem.W.ki_setBack ho (by omega) (by rw [List.size_toArray, ← hl]; exact h3) (by omega) (by rw [hk]; exact ⟨_, I', q⟩)

/-! ### slices -/
theorem slice_bounds (lo hi : Option Int) (n : Nat) : (sliceBounds lo hi none n).1 = ((HT.sIx n 0 lo : Nat) : Int) ∧ (sliceBounds lo hi none n).2.1 = ((HT.sIx n n hi : Nat) : Int) ∧ (sliceBounds lo hi none n).2.2 = 1 := by
  refine ⟨?_, ?_, rfl⟩
  · cases lo with
    | none => simp [sliceBounds, HT.sIx]
    | some i =>
      simp only [sliceBounds, HT.sIx, Option.getD_none, show (1 : Int) > 0 by decide, if_true]
      by_cases h : i < 0
      · simp only [h, if_true] <;> omega
      · simp only [h, if_false] <;> omega
  · cases hi with
    | none => simp [sliceBounds, HT.sIx]
    | some i =>
      simp only [sliceBounds, HT.sIx, Option.getD_none, show (1 : Int) > 0 by decide, if_true]
      by_cases h : i < 0
      · simp only [h, if_true] <;> omega
      · simp only [h, if_false] <;> omega
theorem slicePick_cut (its : List Value) (lo hi : Option Int) : slicePick its.toArray lo hi none = ((its.drop (HT.sIx its.length 0 lo)).take (HT.sIx its.length its.length hi - HT.sIx its.length 0 lo)).toArray := by
  obtain ⟨h1, h2, h3⟩ := slice_bounds lo hi its.toArray.size
  unfold slicePick
  rw [h1, h2, h3]
  simp only [sliceRange_one, pick_run, List.size_toArray] <;> rfl
/-- xs[lo:hi] of a list: a new list -/
def rSlL (K : PySem.W.Frag) : V → Option Int → Option Int → Hp → VK → Prop := fun x lo hi H Q => ∃ a xs, x = .ref a ∧ SqL K H a xs ∧ ∀ p, H p = none → Q (.ref p) (upd H p (.lst (cutV xs lo hi)))
theorem sl_list : SlR X (rSlL X.K) := by
  intro pins s σ H x v vl vu lo hi sl Q I rx hs pl pu h
  obtain ⟨a, xs, rfl, hx, q⟩ := h
  cases rx
  obtain ⟨its, r, ht, hz⟩ := I.list hx
  have hlen := r.length
  refine ⟨"list", _, slot_list_getitem.lookup, ht.isList.typeIs, ?_⟩
  refine wpAny_getItem_list_slice ht.isList hs pl pu .none (by simp) ?_ (by rw [List.size_toArray] <;> omega)
  rw [slicePick_cut, ← hlen]
  refine ⟨.ref s.heap.objs.size, _, I.laid (t' := s.toks) (o := .lst (cutV xs lo hi)) (fun b ob q => Heap.get?_push_of_some _ q) (Nat.le_refl _) ?_, rfl, q _ (I.hok.fresh (Nat.le_refl _))⟩
  exact ⟨Nat.le_trans (cutV_length xs lo hi) hz, _, 0, (r.drop (HT.sIx xs.length 0 lo)).take (HT.sIx xs.length xs.length hi - HT.sIx xs.length 0 lo), Heap.get?_push_size _ rfl⟩

/-! ### in, not in: flat items -/
def flatV : V → Bool
  | .non => true
  | .bl _ => true
  | .int _ => true
  | .str _ => true
  | _ => false
/-- == of flat values -/
def eqV : V → V → Bool
  | .non, .non => true
  | .bl a, .bl b => a == b
  | .bl a, .int b => (if a then 1 else 0) == b
  | .int a, .bl b => a == (if b then 1 else 0)
  | .int a, .int b => a == b
  | .str a, .str b => a == b
  | _, _ => false
/-- the items' answers, read off the values (a value's own answer does not lean on its token) -/
def eqU (x : V) (u : Value) : Bool := match u with
  | .none => eqV .non x
  | .bool b => eqV (.bl b) x
  | .int i _ => eqV (.int i) x
  | .str z _ => eqV (.str z) x
  | _ => false
def inV (x : V) (xs : List V) : Bool := xs.any fun y => eqV y x
/-- x in a list or tuple of flat items -/
def rIn (K : PySem.W.Frag) (neg : Bool) : R2 := fun x y H Q => ∃ p xs, y = .ref p ∧ (SqL K H p xs ∨ SqT K H p xs) ∧ flatV x = true ∧ xs.all flatV = true ∧ Q (.bl (if neg then !inV x xs else inV x xs)) H
/-! ### len, list(x), tuple(x) of any list or tuple that is read -/
theorem call_len_seq : CallR X (.builtin "len") (fun xs H Q => ∃ p ys, xs = [.ref p] ∧ (SqL X.K H p ys ∨ SqT X.K H p ys) ∧ Q (.int ys.length) H) := by
  intro pins s σ H xs us Q I r h
  obtain ⟨p, ys, rfl, hq, q⟩ := h
  obtain ⟨u, rfl, rx⟩ := vals1 r
  cases rx
  have hn := line63
  rcases hq with hq | hq
  · obtain ⟨its, r', pl, hz⟩ := I.list hq
    have hlen := r'.length
    exact Calls.call_len_list pl.isList (by simp only [List.size_toArray] <;> omega) ⟨.int ys.length, H, I.tok _, ⟨s.toks + 1, by rw [List.size_toArray, hlen]⟩, q⟩
  · obtain ⟨its, r', pl, hz⟩ := I.tuple hq
    have hlen := r'.length
    exact len_tuple pl (by simp only [List.size_toArray] <;> omega) ⟨.int ys.length, H, I.tok _, ⟨s.toks + 1, by rw [List.size_toArray, hlen]⟩, q⟩
theorem call_list_of : CallR X (.type "list") (fun xs H Q => ∃ p ys, xs = [.ref p] ∧ (SqL X.K H p ys ∨ SqT X.K H p ys) ∧ ∀ l, H l = none → Q (.ref l) (upd H l (.lst ys))) := by
  intro pins s σ H xs us Q I r h
  obtain ⟨p, ys, rfl, hq, q⟩ := h
  obtain ⟨u, rfl, rx⟩ := vals1 r
  cases rx
  have fin : ∀ (its : List Value), Vals ys its → ys.length ≤ sizeLine → ∀ (h' : Heap) (c' : Nat), (∀ b o', s.heap.get? b = some o' → h'.get? b = some o') →
      h'.get? s.heap.objs.size = some { cls := .type "list", dict := none, data := .seq its.toArray c', slots := #[] } → EP X pins σ Q (.ref s.heap.objs.size) { s with heap := h' } := fun its r' hz h' c' kp e =>
    ⟨.ref s.heap.objs.size, _, I.laid (t' := s.toks) kp (Nat.le_refl _) (show ObjOk X.prog X.w _ h' _ (.lst ys) from ⟨hz, its, c', r', e⟩), rfl, q _ (I.hok.fresh (Nat.le_refl _))⟩
  rcases hq with hq | hq
  · obtain ⟨its, r', pl, hz⟩ := I.list hq
    have hlen := r'.length
    obtain ⟨o, ho, hc, n, hd⟩ := pl.isList
    exact call_list_seq p (.inl rfl) ho hc hd (fun h' c' kp e => fin its r' hz h' c' kp e) (by simp only [List.size_toArray] <;> omega)
  · obtain ⟨its, r', pl, hz⟩ := I.tuple hq
    have hlen := r'.length
    obtain ⟨o, ho, hc, n, hd⟩ := pl
    exact call_list_seq p (.inr rfl) ho hc hd (fun h' c' kp e => fin its r' hz h' c' kp e) (by simp only [List.size_toArray] <;> omega)
/-! ### the call of a builtin's method: o.m(..) -/
/-- the value is of that builtin type -/
def tyV (K : PySem.W.Frag) (T : String) (x : V) (H : Hp) : Prop := match x with
  | .str _ => T = "str"
  | .int _ => T = "int"
  | .ref p => (T = "list" ∧ ∃ xs, SqL K H p xs) ∨ (T = "tuple" ∧ ∃ o, K.lookup p = some o ∧ o.cls = .type "tuple" ∧ o.dict = none) ∨
      (T = "dict" ∧ ((∃ kvs, H p = some (.dK kvs)) ∨ ∃ kvs, H p = some (.dT kvs))) ∨ (T = "set" ∧ ∃ S n, H p = some (.set S n))
  | _ => False
theorem tyV_is {pins : List (Addr × Obj)} {σ : St} {H : Hp} {s : Shared} {T : String} {x : V} {v : Value} (I : Inv X pins σ H s) (r : RelV x v) (ty : tyV X.K T x H) :
    s.TypeIs v T ∧ ∀ a, v = .ref a → ∃ ob, s.heap.get? a = some ob ∧ ob.dict = none := by
  cases x with
  | str z =>
    obtain ⟨t, rfl⟩ := r
    cases (show T = "str" from ty)
    exact ⟨typeIs_str s z t, fun _ e => nomatch e⟩
  | int i =>
    obtain ⟨t, rfl⟩ := r
    cases (show T = "int" from ty)
    exact ⟨typeIs_int s i t, fun _ e => nomatch e⟩
  | ref p =>
    cases r
    rcases ty with ⟨rfl, xs, hq⟩ | ⟨rfl, o, hk, hc, hd⟩ | ⟨rfl, hk⟩ | ⟨rfl, S, n, hk⟩
    · obtain ⟨its, _, pl, _⟩ := I.list hq
      refine ⟨pl.isList.typeIs, fun a e => ?_⟩
      cases e
      obtain ⟨o, n, e, c, hd, _⟩ := pl
      exact ⟨o, e, hd⟩
    · refine ⟨⟨o, I.kIn p o hk, hc⟩, fun a e => ?_⟩
      cases e
      exact ⟨o, I.kIn _ o hk, hd⟩
    · have z : ∃ o, s.heap.get? p = some o ∧ o.ExactDict := by
        rcases hk with ⟨kvs, hk⟩ | ⟨kvs, hk⟩
        · obtain ⟨_, _, _, _, o, _, _, e, ex, _⟩ := I.hok p _ hk
          exact ⟨o, e, ex⟩
        · obtain ⟨_, _, _, _, o, _, _, e, ex, _⟩ := I.hok p _ hk
          exact ⟨o, e, ex⟩
      obtain ⟨o, e, ex⟩ := z
      refine ⟨⟨o, e, ex.1⟩, fun a e2 => ?_⟩
      cases e2
      exact ⟨o, e, ex.2.1⟩
    · obtain ⟨o, _, _, _, e, ex, _⟩ := I.hok p _ hk
      refine ⟨⟨o, e, ex.1⟩, fun a e2 => ?_⟩
      cases e2
      exact ⟨o, e, ex.2.1⟩
  | _ => exact False.elim ty
def tBM0 (K : PySem.W.Frag) (T : String) (r : V → List V → Hp → VK → Prop) (to : TE) : TE := fun σ H Q => to σ H fun x H1 => tyV K T x H1 ∧ r x [] H1 Q
def tBM (K : PySem.W.Frag) (T : String) (r : V → List V → Hp → VK → Prop) (to : TE) (t : TA) : TE := fun σ H Q => to σ H fun x H1 => tyV K T x H1 ∧ t σ H1 fun xs H2 => r x xs H2 Q
variable {o e : Expr} {es : List Expr} {to : TE} {t : TA} {name : Str} {apos cpos : Pos} {T id : String} {r : V → List V → Hp → VK → Prop}
theorem pe_bm (pa : PlainAttrs T) (slot : Slot T name id) (hty : typeOf (.builtin id) = pure (.type "method_descriptor")) (hm : MtR X id r) (ho : PE X o to) (ha : PA X (e :: es) t)
    (hbase : attributeBase o name X.env (eval o X.env) = eval o X.env := by rfl)
    (hfew : ((backTo cpos (starEach (e :: es) X.env)).all (fun x => !x.1) && (backToKw cpos (keywordEach [] X.env)).all (fun x => x.1.isSome)
      && decide ((e :: es).length + ([] : List Keyword).length + (if ([] : List Keyword).isEmpty then 0 else 1) < 30)) = true := by rfl)
    (hline : (apos.endLine == cpos.line) = true := by rfl) (hs : starEach (e :: es) X.env = (false, eval e X.env) :: starEach es X.env := by rfl) (hplain : (backTo cpos (starEach es X.env)).any (·.1) = false := by rfl) :
    PE X (.Call (.Attribute o name apos) (e :: es) [] cpos) (tBM X.K T r to t) := by
  intro pins s σ H Q I h
  refine wpAny_Call_method_late hbase hfew hline rfl (thn (ho pins s σ H _ I h) fun v s1 ⟨x, H1, I1, r1, ty, q1⟩ => ?_)
  obtain ⟨h1, h2⟩ := tyV_is I1 r1 ty
  refine ⟨T, id, pa, slot, hty, h1, h2, ?_⟩
  have hA := ha cpos pins s1 σ H1 _ I1 q1
  rw [hs] at hA ⊢
  refine Calls.callWith_builtin (by show (false || (backTo cpos (starEach es X.env)).any (·.1)) = false; rw [hplain] <;> rfl) (Calls.evalArgs_plain ?_)
  exact thn hA fun us s2 ⟨vs, H2, I2, r2, q2⟩ => hm pins s2 σ H2 x vs v us Q I2 r1 r2 q2
/- xs.append(e), list.index on a module's tuple .. are MtR facts of 06m -/
end
end L2

namespace L2
open PySem PySem.Spec PyProof.Rows

def MtM (X : Cx) (id : String) (r : V → List V → Hp → VK → Prop) : Prop :=
  ∀ (pins : List (Addr × Obj)) (s : Shared) (σ : St) (H : Hp) (x : V) (xs : List V) (v : Value) (us : List Value) (Q : VK), Inv X pins σ H s → RelV x v → Vals xs us → r x xs H Q →
    wpAny (model X.prog X.w) X.A (call (.builtin id) (v :: us)) (EP X pins σ Q) X.xe s

/-! ### lists of values -/
theorem Vals.one : ∀ {x : V} {us : List Value}, Vals [x] us → ∃ u, us = [u] ∧ RelV x u
  | _, _, .cons r .nil => ⟨_, rfl, r⟩
theorem Vals.two : ∀ {x y : V} {us : List Value}, Vals [x, y] us → ∃ u v, us = [u, v] ∧ RelV x u ∧ RelV y v
  | _, _, _, .cons r (.cons q .nil) => ⟨_, _, rfl, r, q⟩
theorem Vals.eraseIdx : ∀ {xs : List V} {us : List Value} (i : Nat), Vals xs us → Vals (xs.eraseIdx i) (us.eraseIdx i)
  | _, _, _, .nil => .nil
  | _, _, 0, .cons _ t => t
  | _, _, i + 1, .cons r t => .cons r (Vals.eraseIdx i t)
theorem len_erase {α : Type} : ∀ (l : List α) (i : Nat), (l.eraseIdx i).length ≤ l.length
  | [], _ => Nat.le_refl _
  | _ :: _, 0 => Nat.le_succ _
  | _ :: r, i + 1 => Nat.succ_le_succ (len_erase r i)
section
variable {X : Cx} {pins : List (Addr × Obj)} {σ : St} {H : Hp} {s : Shared} {l b : Addr} {xs ys zs : List V}

/-! ### the two steps: a tracked list is rewritten, a new list is laid -/
theorem Inv.lset {its its' : List Value} {n : Nat} {f : Array Value → Array Value} {t' : Nat} (I : Inv X pins σ H s) (hH : H l = some (.lst xs))
    (e : s.heap.get? l = some { cls := .type "list", data := .seq its.toArray n }) (hf : f its.toArray = its'.toArray) (hv : Vals ys its') (hz : ys.length ≤ sizeLine) :
    Inv X pins σ (upd H l (.lst ys)) { s with heap := s.heap.update l (Obj.mapSeq f), toks := t' } := by
  have q := PySem.IsL.update e f
  rw [hf] at q
  refine I.write (x := l) (e := l) (by rw [hH]; exact trivial) (.inl rfl) (fun b' u hb hu => (Heap.get?_update_other s.heap (Obj.mapSeq f) (Ne.symm hb)).trans hu) ⟨_, q⟩ ?_
  exact ⟨hz, its', _, hv, q⟩
theorem Inv.lnew {its : List Value} {t' : Nat} (I : Inv X pins σ H s) (hv : Vals ys its) (hz : ys.length ≤ sizeLine) :
    Inv X pins σ (upd H s.heap.objs.size (.lst ys)) { s with heap := s.heap.push { cls := .type "list", data := .seq its.toArray }, toks := t' } :=
  I.laid (fun _ _ q => Heap.get?_push_of_some _ q) (Nat.le_refl _) ⟨hz, its, 0, hv, Heap.get?_push_size _ rfl⟩
theorem Inv.fresh (I : Inv X pins σ H s) : H s.heap.objs.size = none := I.hok.fresh (Nat.le_refl _)
theorem Inv.lstM (I : Inv X pins σ H s) (hH : H l = some (.lst xs)) : xs.length ≤ sizeLine ∧ ∃ (its : List Value) (n : Nat), Vals xs its ∧ xs.length = its.length ∧ s.heap.get? l = some { cls := .type "list", data := .seq its.toArray n } := by
  obtain ⟨z, its, n, r, e⟩ := I.hok l _ hH
  exact ⟨z, its, n, r, r.length, e⟩

theorem notLongL {n : Nat} (h : n ≤ sizeLine) : Builtin.List.listTooLong n = false := by
  unfold Builtin.List.listTooLong
  exact decide_eq_false (by omega)
end

section
variable {X : Cx}

/-! ### methods -/
def rAppend : V → List V → Hp → VK → Prop := fun x vs H Q => ∃ l xs y, x = .ref l ∧ vs = [y] ∧ H l = some (.lst xs) ∧ xs.length < sizeLine ∧ Q .non (upd H l (.lst (xs ++ [y])))
theorem mt_append : MtM X "list.append" rAppend := by
  intro pins s σ H x vs v us Q I rx rv h
  obtain ⟨l, xs, y, rfl, rfl, hH, hz, q⟩ := h
  cases rx
  obtain ⟨u, rfl, ru⟩ := rv.one
  obtain ⟨z, its, n, r, hl, e⟩ := I.lstM hH
  refine call_meets F.slot_list_append ⟨_, e, rfl⟩ F.entry_list_append (F.args_list_append_2 _ _) (PySem.list_append l its.toArray n u (by rw [List.size_toArray]; omega)) ⟨e, ?_⟩
  refine ⟨.non, _, I.lset (its' := its ++ [u]) hH e (by simp) (r.append (.cons ru .nil)) ?_, rfl, q⟩
  rw [List.length_append, List.length_singleton]
  omega

def rExtend : V → List V → Hp → VK → Prop := fun x vs H Q => ∃ l b xs zs, x = .ref l ∧ vs = [.ref b] ∧ H l = some (.lst xs) ∧ H b = some (.lst zs) ∧ xs.length + zs.length ≤ sizeLine ∧ Q .non (upd H l (.lst (xs ++ zs)))
theorem mt_extend : MtM X "list.extend" rExtend := by
  intro pins s σ H x vs v us Q I rx rv h
  obtain ⟨l, b, xs, zs, rfl, rfl, hH, hB, hz, q⟩ := h
  cases rx
  obtain ⟨u, rfl, ru⟩ := rv.one
  cases ru
  obtain ⟨z, its, n, r, hl, e⟩ := I.lstM hH
  obtain ⟨z2, its2, n2, r2, hl2, e2⟩ := I.lstM hB
  have hsz : its.toArray.size + its2.toArray.size ≤ sizeLine := by rw [List.size_toArray, List.size_toArray]; omega
  have hlong : ¬ (!its.toArray.isEmpty && Builtin.List.listTooLong (its.toArray.size + its2.toArray.size)) = true := by
    rw [notLongL hsz, Bool.and_false]
    exact Bool.false_ne_true
  refine call_meets F.slot_list_extend ⟨_, e, rfl⟩ F.entry_list_extend (F.args_list_extend_2 _ _)
    (AutoSeq1.list_extend_list_list_0 l its.toArray n b its2.toArray n2 hlong (by rw [List.size_toArray]; omega) (by omega)) ⟨e, e2, ?_⟩
  refine ⟨.non, _, I.lset (its' := its ++ its2) hH e (by simp) (r.append r2) ?_, rfl, q⟩
  rw [List.length_append]
  omega

def rPop : V → List V → Hp → VK → Prop := fun x vs H Q => ∃ l xs y, x = .ref l ∧ vs = [] ∧ H l = some (.lst xs) ∧ xs[xs.length - 1]? = some y ∧ Q y (upd H l (.lst xs.dropLast))
def rPopAt : V → List V → Hp → VK → Prop := fun x vs H Q => ∃ l xs i k y, x = .ref l ∧ vs = [.int i] ∧ H l = some (.lst xs) ∧ -(2 ^ 63) ≤ i ∧ i < 2 ^ 63 ∧ seqIndex? i xs.length = some k ∧ xs[k]? = some y ∧ Q y (upd H l (.lst (xs.eraseIdx k)))
theorem mt_popAt : MtM X "list.pop" rPopAt := by
  intro pins s σ H x vs v us Q I rx rv h
  obtain ⟨l, xs, i, k, y, rfl, rfl, hH, h1, h2, hk, hy, q⟩ := h
  cases rx
  obtain ⟨u, rfl, ru⟩ := rv.one
  obtain ⟨t, rfl⟩ := ru
  obtain ⟨z, its, n, r, hl, e⟩ := I.lstM hH
  obtain ⟨w, hw, rw'⟩ := r.get hy
  refine call_meets F.slot_list_pop ⟨_, e, rfl⟩ F.entry_list_pop (F.args_list_pop_2 _ _)
    (MeetsSeq.list_pop_at l its.toArray n i t k w (fitsIndex_both h1 h2) (by rw [List.size_toArray, ← hl]; exact hk) (by rw [← Array.getElem?_toList]; exact hw) (by rw [List.size_toArray]; omega)) ⟨e, ?_⟩
  refine ⟨y, _, I.lset (its' := its.eraseIdx k) hH e ?_ (r.eraseIdx k) ?_, rw', q⟩
  · show its.toArray.eraseIdxIfInBounds k = (its.eraseIdx k).toArray
    rw [List.eraseIdxIfInBounds_toArray]
  · have := len_erase xs k
    omega

def rReverse : V → List V → Hp → VK → Prop := fun x vs H Q => ∃ l xs, x = .ref l ∧ vs = [] ∧ H l = some (.lst xs) ∧ Q .non (upd H l (.lst xs.reverse))
def rClear : V → List V → Hp → VK → Prop := fun x vs H Q => ∃ l xs, x = .ref l ∧ vs = [] ∧ H l = some (.lst xs) ∧ Q .non (upd H l (.lst []))
/-! ### list + list, list += list, list * int -/
def rCat : R2 := fun x y H Q => ∃ l b xs zs, x = .ref l ∧ y = .ref b ∧ H l = some (.lst xs) ∧ H b = some (.lst zs) ∧ xs.length + zs.length ≤ sizeLine ∧ ∀ p, H p = none → Q (.ref p) (upd H p (.lst (xs ++ zs)))
theorem op_cat : OpR X (binaryOp .Add) rCat := by
  intro pins s σ H x y v u Q I rx ry h
  obtain ⟨l, b, xs, zs, rfl, rfl, hH, hB, hz, q⟩ := h
  cases rx
  cases ry
  obtain ⟨z, its, n, r, hl, e⟩ := I.lstM hH
  obtain ⟨z2, its2, n2, r2, hl2, e2⟩ := I.lstM hB
  refine PySem.P.add_list e e2 ?_ (by rw [List.size_toArray, List.size_toArray]; omega)
  have ea : its.toArray ++ its2.toArray = (its ++ its2).toArray := by simp
  rw [ea]
  exact ⟨.ref _, _, I.lnew (t' := s.toks) (r.append r2) (by rw [List.length_append]; omega), rfl, q _ I.fresh⟩
/-- a list times an int (a negative one is nothing) -/
def rRep : R2 := fun x y H Q => ∃ l k xs, x = .ref l ∧ y = .int k ∧ H l = some (.lst xs) ∧ -(2 ^ 63) ≤ k ∧ k < 2 ^ 63 ∧ xs.length * k.toNat ≤ sizeLine ∧
  ∀ p, H p = none → Q (.ref p) (upd H p (.lst (List.replicate k.toNat xs).flatten))
/-! ### del xs[i] -/
end

/-! ### xs[a:b] = ys -/
section
variable {prog : Program} {w : World} {A : Around} {E : Value → Shared → Prop} {s : Shared}
end

section
variable {X : Cx}
end
end L2

namespace Att
open PySem PySem.W PySem.Calls PyProof.Rows

/-! ### the script -/
theorem ints_of_wellAll {P : Params} {h : Heap} : ∀ (ns : List Int) (vs : List Value), WellAll P h vs (ns.map WData.int) → IntsAre vs ns := by
  intro ns
  induction ns with
  | nil =>
    intro vs w
    rw [List.map_nil] at w
    cases w
    exact .nil
  | cons n ns ih =>
    intro vs w
    rw [List.map_cons] at w
    cases w with
    | cons a b =>
      cases a
      exact .cons _ _ (ih _ b)

theorem script_of {l : OpenLaw} {n : Nat} (hn : l.most = some n) {P : Params} {h : Heap} {args : List WData} {vals : List Value}
    (hpre : l.row.toRowW.claim.pre args = true) (hwl : WellAll P h vals args) :
    ∃ a vs ns, vals = [Value.ref a] ∧ args = [WData.list (ns.map WData.int)] ∧ h.get? a = some { cls := .type "list", data := .seq vs.toArray } ∧ IntsAre vs ns ∧ ns.length ≤ n := by
  have hsh : WShape.hasAll [] args [.list .int] = true := (pre_splitW hpre).1
  have hc : l.pre.holds [] { args := args } = true := (pre_splitW hpre).2
  obtain ⟨d, r, rfl, h1, h2⟩ := hasAllW_cons hsh
  obtain rfl := hasAllW_nil h2
  obtain ⟨xs, rfl, h3⟩ := hasW_list h1
  obtain ⟨ns, rfl⟩ := items_int h3
  have hlen : ns.length ≤ n := by
    unfold OpenLaw.pre at hc
    have h4 : (WTm.not (.lt (.lit (.int (n : Int))) (.len (.arg 0)))).holds [] { args := [.list (ns.map .int)] } = true := by
      have h4 := (holds_andW hc).1
      rw [hn] at h4
      exact h4
    have h5 := condW_of h4 (w_not (w_lt w_lit (w_len_list (w_arg rfl))))
    rw [List.length_map] at h5
    refine Nat.le_of_not_lt fun q => ?_
    have q' : (n : Int) < ((ns.length : Nat) : Int) := by omega
    first
      | (rw [decide_eq_true q'] at h5; exact absurd h5 (by decide))
      | (simp at h5; omega)
  cases hwl with
  | cons w1 w2 =>
    cases w2
    cases w1 with
    | list ho hall => exact ⟨_, _, ns, rfl, rfl, ho, ints_of_wellAll ns _ hall, hlen⟩

theorem post_true (l : OpenLaw) (args : List WData) : l.row.toRowW.claim.post args (.bool true) args = true :=
  postW_of (r := l.row.toRowW) (X := (true == true))
    (show WShape.has [] (.bool true) .bool = true by first | rfl | decide | simp [WShape.has, WShape.arms, WShape.armsAll])
    (show (WTm.eq .res (.lit (.bool true))).value [] { args := args, res := some (.bool true), after := args } = some (.bool (true == true)) from w_eq_bool (w_res rfl) w_lit) rfl

/-! ### the attachment: holds_open's last premise (the goal 'hc' behind k_head) from a wpAny of the law's body -/
/-- the same from a codeAny of the CALL (for a layer whose function contracts speak of calls) -/
theorem attach_call {l : OpenLaw} {n : Nat} {q : Program} {loose : List Str} {XP : (Str → Option Value) → Heap → Prop} {YP : World → Heap → Prop} {d : DefRec}
    (hn : l.most = some n) (hdf : d.params.defaults = [])
    (call : ∀ (w : World) (s₀ s₁ : Shared) (mg mb : Str → Option Value) (fa : Addr) (o : Obj) (pm cd doc : Value) (a : Addr) (vs : List Value) (ns : List Int),
      Ground q loose [] XP w s₀ mg mb s₁.heap → YP w s₁.heap →
      s₁.heap.get? fa = some o → o.data = .func (docDef d.name d.params d.body d.scope pm cd doc) → s₁.heap.CodeRec cd d.name → mg d.name = some (.ref fa) →
      s₁.heap.get? a = some { cls := .type "list", data := .seq vs.toArray } → IntsAre vs ns → ns.length ≤ n → s₁.gens = #[] →
      codeAny (model l.prog w) callerA (.call (.ref fa) ⟨[.ref a], []⟩) (fun r s' => r = .ok (.ret (.bool true)) ∧ OldK s₁.heap s'.heap ∧ s'.os = s₁.os ∧ AllBare s'.gens) s₁) :
    WalkO q loose XP YP l.row.toRowW d [] (fun f vs => PySem.call f vs) := by
  intro w s₀ s₁ mg mb G Y fa o pm cd doc dV kV ho hd hcd hD hmg hg args vals as hpre hlay hrd hwl hlo
  obtain rfl : dV = .none := Dflts.none hD hdf
  obtain rfl : kV = .none := Dflts.noKw hD
  obtain ⟨a, vs, ns, rfl, rfl, hobj, hints, hlen⟩ := script_of hn hpre hwl
  refine enter_call (codeAny_mono (call w s₀ s₁ mg mb fa o pm cd doc a vs ns G Y ho (fd_plain hd) hcd hmg hobj hints hlen hg) fun r s' hq => ?_)
  obtain ⟨rfl, h2, h3, h4⟩ := hq
  exact ⟨.inl ⟨.bool true, .bool true, [], rfl, fun _ => rfl, .bool true, post_true l _, fun _ => ⟨List.Pairwise.nil, fun _ hm => (nomatch hm)⟩⟩, h2, h3, h4⟩

/-! ### rules over ANY heap (no ledger) from facts about the written part K: the library's own take a ledger (News) for what they write -/
section
variable {prog : Program} {w : World} {A : Around} {E : Value → Shared → Prop} {s : Shared} {K : Frag}

/-! the whole heap as the ledger: makes every rule that writes through a ledger a rule over any heap -/
def noObjs (h : Heap) : Heap := { h with objs := #[] }
def ledger (h : Heap) (L d : Addr) : List (Addr × Obj) := (List.range h.objs.size).filterMap fun a => if a = L ∨ a = d then none else (h.get? a).map fun o => (a, o)
end
end Att

namespace L2
open PySem PySem.Spec PyProof.Rows

theorem vals_ints : ∀ {vs : List Value} {ns : List Int}, IntsAre vs ns → Vals (ns.map V.int) vs
  | _, _, .nil => .nil
  | _, _, .cons n t h => .cons ⟨t, rfl⟩ (vals_ints h)

/-- nothing is tracked but the script, known to the object (or it is an object of the module) -/
def Only (H : Hp) : Prop := ∀ b, H b = none ∨ ∃ o xs, H b = some (.frz o (.lst xs))

end L2

namespace L2
open PySem PySem.Spec PyProof.Rows

abbrev KOf {K : PySem.W.Frag} {h : Heap} (_ : K.In h) : PySem.W.Frag := K

end L2



/-! SHORT WORDS over the layer: a def of the text, its body, what a loop and a test want. -/
namespace L2
open PySem PySem.Spec PyProof.Rows

/-! ### the text by places -/
/-- the j-th statement of a class's body -/
def inClass (s : Stmt) (j : Nat) : Stmt := match s with
  | .ClassDef _ _ _ body _ _ _ _ _ _ _ => body.getD j (.Pass ⟨0, 0, 0, 0⟩)
  | _ => .Pass ⟨0, 0, 0, 0⟩
def defArgs (s : Stmt) : Arguments := match s with
  | .FunctionDef _ a _ _ _ _ _ _ _ _ => a
  | _ => { posonlyargs := [], args := [], vararg := none, kwonlyargs := [], kw_defaults := [], kwarg := none, defaults := [] }
def defBody (s : Stmt) : List Stmt := match s with
  | .FunctionDef _ _ b _ _ _ _ _ _ _ => b
  | _ => []
def defScope (s : Stmt) : Scope := match s with
  | .FunctionDef _ _ _ _ _ _ sc _ _ _ => sc
  | _ => { kind := .function, names := [], isGenerator := false, isCoroutine := false }

/-! ### no exception leaves a def -/
abbrev CX0 : CXT := fun _ _ _ _ _ _ => False
abbrev E0 : XK := fun _ _ _ => False
theorem pass0 {X : Cx} : Passes CX0 X E0 := fun _ _ _ _ _ _ _ h => h.elim

/-! ### a def (or method) of the text as it stands behind the top -/
structure Fun (K : PySem.W.Frag) (x qual : Str) (st : Stmt) (f : Addr) (fd : FuncData) : Prop where
  ex : ∃ (oc : Value) (od : Option Addr) (kV doc pm : Value) (an : Option Addr) (cdv ct : Value) (osl : Array (Option Value)),
    fd = PySem.W.fnOf x qual (defArgs st) (defBody st) (defScope st) .none kV doc pm an cdv ct ∧ K.lookup f = some ⟨oc, od, .func fd, osl⟩ ∧ PySem.W.codeIn K cdv qual = true
  kp : PySem.W.keepIn K (.ref f) = true
section
variable {P : Program} {w : World} {K : PySem.W.Frag} {mg : Str → Option Value} {base : Heap}
/-- THE RULE for a def: its body as a term of rules, and the reading of that term -/
theorem Fun.ok {x qual : Str} {st : Stmt} {f : Addr} {fd : FuncData} {N ps : List Str} {k : Nat} {sp : Sp} (F : Fun K x qual st f fd) (S : FnScope N ps (defScope st)) (len : ∀ vs H Q E, sp vs H Q E → vs.length = ps.length)
    (hbody : ∀ (cdv : Value) (A : Around) (outer : List Env) (s : Shared) (H : Hp) (vs : List V) (Q : VK) (E : XK), Room k (A.deeper (envOfC qual (defScope st) s.heap.objs.size f cdv)) → sp vs H Q E →
      ∃ t, PSs (cxOf CX0 P w K mg base N qual (defScope st) f cdv A outer s H E).nox (defBody st) t ∧ t { nx := fun _ H' => Q .non H', rt := Q } (start N vs) H) : FnOk P w K mg base CX0 (k + 1) f fd ps sp := by
  obtain ⟨oc, od, kV, doc, pm, an, cdv, ct, osl, rfl, lk, hcd⟩ := F.ex
  refine fn_of lk hcd S len fun A outer s H vs Q E hr hsp => ?_
  obtain ⟨t, h, q⟩ := hbody cdv A outer s H vs Q E hr hsp
  exact ⟨t, h.nox, q⟩
/-- how its arguments bind (no defaults): h is «fun _ _ _ _ _ _ us hl => match us, hl with | [_, _], _ => rfl», one _ a parameter -/
theorem Fun.binds {x qual : Str} {st : Stmt} {f : Addr} {fd : FuncData} {ps : List Str} (F : Fun K x qual st f fd)
    (h : ∀ (kV doc pm : Value) (an : Option Addr) (cdv ct : Value) (us : List Value), us.length = ps.length → bindArgs (PySem.W.fnOf x qual (defArgs st) (defBody st) (defScope st) .none kV doc pm an cdv ct) ⟨us, []⟩ = pure (ps.zip us)) : Binds K fd ps [] := by
  obtain ⟨oc, od, kV, doc, pm, an, cdv, ct, osl, rfl, lk, hcd⟩ := F.ex
  exact .all (h kV doc pm an cdv ct)
theorem fun_mk {x qual : Str} {st : Stmt} {f : Addr} {oc : Value} {od an : Option Addr} {osl : Array (Option Value)} {kV doc pm cdv ct : Value} (l : K.lookup f = some ⟨oc, od, .func (PySem.W.fnOf x qual (defArgs st) (defBody st) (defScope st) .none kV doc pm an cdv ct), osl⟩)
    (c : PySem.W.codeIn K cdv qual = true) (k : PySem.W.keepIn K (.ref f) = true) : Fun K x qual st f (PySem.W.fnOf x qual (defArgs st) (defBody st) (defScope st) .none kV doc pm an cdv ct) := ⟨⟨oc, od, kV, doc, pm, an, cdv, ct, osl, rfl, l, c⟩, k⟩
end
theorem small1000 {n : Nat} (h : n ≤ 1000) : n < sizeLine := Nat.lt_of_le_of_lt h (by decide)

/-! ### expressions in short: the name that stands in the i-th slot -/
section
variable {X : Cx}
theorem pv (i : Nat) {x : Str} {pos : Pos} (hN : X.N[i]? = some x := by rfl) (hv : Vis X.env.scope x := by first | exact Or.inl rfl | exact Or.inr (Or.inl rfl) | exact Or.inr (Or.inr rfl)) (hd : (x == ("__debug__" : Str)) = false := by decide)
    (hcd : (x == ("__classdict__" : Str)) = false := by decide) : PE X (.Name x pos) (tVar i) := pe_var hN hv hd hcd
end

/-! ### tests -/
theorem iteF {A B : Prop} (h : B) : if false = true then A else B := by
  rw [if_neg Bool.false_ne_true]
  exact h
theorem iteT {A B : Prop} (h : A) : if true = true then A else B := by
  rw [if_pos rfl]
  exact h
theorem ite2 {c A B : Prop} [Decidable c] (h1 : c → A) (h2 : ¬ c → B) : if c then A else B := by
  by_cases h : c
  · rw [if_pos h]
    exact h1 h
  · rw [if_neg h]
    exact h2 h
/-! ### heaps -/
/-- all that was tracked is as it was -/
def Same (H H' : Hp) : Prop := ∀ b o, H b = some o → H' b = some o
theorem Same.refl (H : Hp) : Same H H := fun _ _ h => h
theorem Same.trans {H H1 H2 : Hp} (a : Same H H1) (b : Same H1 H2) : Same H H2 := fun c o h => b c o (a c o h)
theorem Same.free {H H' : Hp} (e : Same H H') {l : Addr} (h : H' l = Option.none) : H l = Option.none := by
  cases q : H l with
  | none => rfl
  | some o =>
    rw [e l o q] at h
    cases h
theorem Same.seq {K : PySem.W.Frag} {H H' : Hp} {a : Addr} {xs : List V} (e : Same H H') (h : SqL K H a xs) : SqL K H' a xs := by
  rcases h with (h | ⟨o, h⟩) | h
  · exact .inl (.inl (e _ _ h))
  · exact .inl (.inr ⟨o, e _ _ h⟩)
  · exact .inr h

end L2
set_option Elab.async false
set_option linter.all false
set_option maxRecDepth 100000
/-! A comprehension over the hand layer. -/
namespace L2
open PySem PySem.Spec PyProof.Rows

/-- the cells of a comprehension's free names -/
def clOf (cells : List (Str × Addr)) : List (Str × NameKind) → List (Str × Addr) → List (Str × Addr)
  | [], acc => acc
  | (n, k) :: r, acc => clOf cells r (if k = .free then (n, (cells.lookup n).getD 0) :: acc else acc)
theorem closureFor_is {env : Env} {scope : Scope} (h : ∀ y ∈ scope.names, y.2 = .free → ∃ c, env.cells.lookup y.1 = some c) :
    closureFor scope env = pure (clOf env.cells scope.names []) := by
  have key : ∀ (ns : List (Str × NameKind)) (acc : List (Str × Addr)), (∀ y ∈ ns, y.2 = .free → ∃ c, env.cells.lookup y.1 = some c) →
      (forIn ns acc fun (x : Str × NameKind) (r : List (Str × Addr)) => (if (x.2 == NameKind.free) = true then (do let a ← cellOf env x.1; pure (ForInStep.yield ((x.1, a) :: r))) else pure (ForInStep.yield r) : Sem (ForInStep (List (Str × Addr))))) = pure (clOf env.cells ns acc) := by
    intro ns
    induction ns with
    | nil => intro acc _; rfl
    | cons y r ih =>
      intro acc hy
      obtain ⟨n, k⟩ := y
      rw [List.forIn_cons]
      have hr : ∀ z ∈ r, z.2 = .free → ∃ c, env.cells.lookup z.1 = some c := fun z hz => hy z (List.mem_cons_of_mem _ hz)
      by_cases hk : k = .free
      · subst hk
        obtain ⟨c, hc⟩ := hy (n, .free) List.mem_cons_self rfl
        have e1 : cellOf env n = pure c := by
          unfold cellOf
          rw [hc]
        have e2 : ((NameKind.free == NameKind.free) = true) := rfl
        simp only [e2, if_true, e1, pure_bind]
        rw [ih _ hr]
        show _ = pure (clOf env.cells r (if NameKind.free = NameKind.free then (n, (env.cells.lookup n).getD 0) :: acc else acc))
        rw [if_pos rfl, hc]
        rfl
      · have e2 : (k == NameKind.free) = false := by simpa using hk
        simp only [e2, Bool.false_eq_true, if_false, pure_bind]
        rw [ih _ hr]
        show _ = pure (clOf env.cells r (if k = NameKind.free then (n, (env.cells.lookup n).getD 0) :: acc else acc))
        rw [if_neg hk]
  have q := key scope.names [] h
  unfold closureFor
  simp only [] at q ⊢
  rw [show (forIn scope.names ([] : List (Str × Addr)) fun (x : Str × NameKind) (r : List (Str × Addr)) => _) = _ from q]
  rfl
theorem clOf_mem {cells : List (Str × Addr)} : ∀ (ns : List (Str × NameKind)) (acc : List (Str × Addr)), (∀ y ∈ ns, y.2 = .free → ∃ c, cells.lookup y.1 = some c) →
    ∀ x c, (x, c) ∈ clOf cells ns acc → (x, c) ∈ acc ∨ ((x, NameKind.free) ∈ ns ∧ cells.lookup x = some c)
  | [], acc, _, x, c, h => .inl h
  | (n, k) :: r, acc, hy, x, c, h => by
    have hr : ∀ z ∈ r, z.2 = .free → ∃ c, cells.lookup z.1 = some c := fun z hz => hy z (List.mem_cons_of_mem _ hz)
    have h' : (x, c) ∈ clOf cells r (if k = .free then (n, (cells.lookup n).getD 0) :: acc else acc) := h
    rcases clOf_mem r _ hr x c h' with q | ⟨q1, q2⟩
    · by_cases hk : k = .free
      · rw [if_pos hk] at q
        rcases List.mem_cons.mp q with e | q
        · obtain ⟨c', hc⟩ := hy (n, k) List.mem_cons_self hk
          have e1 : x = n := congrArg Prod.fst e
          have e2 : c = (cells.lookup n).getD 0 := congrArg Prod.snd e
          have hc' : cells.lookup n = some c' := hc
          rw [hc'] at e2
          have e3 : c = c' := e2
          subst e1 e3 hk
          exact .inr ⟨List.mem_cons_self, hc'⟩
        · exact .inl q
      · rw [if_neg hk] at q
        exact .inl q
    · exact .inr ⟨List.mem_cons_of_mem _ q1, q2⟩
theorem clOf_acc {cells : List (Str × Addr)} : ∀ (ns : List (Str × NameKind)) (acc : List (Str × Addr)) (p : Str × Addr), p ∈ acc → p ∈ clOf cells ns acc
  | [], _, _, h => h
  | (n, k) :: r, acc, p, h => by
    show p ∈ clOf cells r (if k = .free then (n, (cells.lookup n).getD 0) :: acc else acc)
    refine clOf_acc r _ p ?_
    split
    · exact List.mem_cons_of_mem _ h
    · exact h
theorem clOf_has {cells : List (Str × Addr)} : ∀ (ns : List (Str × NameKind)) (acc : List (Str × Addr)) (x : Str), (x, NameKind.free) ∈ ns → ∃ c, (x, c) ∈ clOf cells ns acc
  | [], _, _, h => by simp at h
  | (n, k) :: r, acc, x, h => by
    show ∃ c, (x, c) ∈ clOf cells r (if k = .free then (n, (cells.lookup n).getD 0) :: acc else acc)
    rcases List.mem_cons.mp h with e | h
    · have e1 : x = n := congrArg Prod.fst e
      have e2 : NameKind.free = k := congrArg Prod.snd e
      subst e1 e2
      rw [if_pos rfl]
      exact ⟨_, clOf_acc r _ _ List.mem_cons_self⟩
    · exact clOf_has r _ x h
theorem mem_lookup {x : Str} {c : Addr} : ∀ {l : List (Str × Addr)}, (x, c) ∈ l → ∃ d, l.lookup x = some d
  | [], h => by simp at h
  | (n, a) :: r, h => by
    rw [List.lookup_cons]
    cases e : x == n with
    | true => exact ⟨a, rfl⟩
    | false =>
      rcases List.mem_cons.mp h with q | q
      · have e1 : x = n := congrArg Prod.fst q
        rw [e1] at e
        simp at e
      · exact mem_lookup q

/-- what a comprehension's scope must be: XN, xs the names and the scope around; imp: for each of its names the place around from which it comes -/
structure CompScope (XN : List Str) (xs : Scope) (N : List Str) (imp : List (Option Nat)) (scope : Scope) : Prop where
  kind : scope.kind = .function
  nd : N.Nodup
  nocell : ∀ y ∈ scope.names, y.2 ≠ .cell
  locs : ∀ y ∈ scope.names, y.2 = .local → scope.names.lookup y.1 = some .local
  frees : ∀ y ∈ scope.names, y.2 = .free → xs.names.lookup y.1 = some .cell ∨ xs.names.lookup y.1 = some .free
  len : imp.length = N.length
  impsB : ((imp.zip N).all fun p => match p.1 with | none => true | some j => XN[j]? == some p.2 && scope.names.lookup p.2 == some .free) = true
theorem CompScope.imps {XN N : List Str} {xs scope : Scope} {imp : List (Option Nat)} (S : CompScope XN xs N imp scope) : ∀ (i j : Nat), imp[i]? = some (some j) → ∃ x, N[i]? = some x ∧ XN[j]? = some x ∧ scope.names.lookup x = some .free := by
  intro i j h
  have hi : i < imp.length := (List.getElem?_eq_some_iff.mp h).1
  have hn : i < N.length := by rw [← S.len]; exact hi
  have hx : N[i]? = some N[i] := List.getElem?_eq_getElem hn
  have hm : (some j, N[i]) ∈ imp.zip N := by
    have hz : (imp.zip N)[i]? = some (some j, N[i]) := by
      rw [List.getElem?_zip_eq_some]
      exact ⟨h, hx⟩
    exact List.mem_of_getElem? hz
  have q := List.all_eq_true.mp S.impsB _ hm
  have q' : (XN[j]? == some N[i] && scope.names.lookup N[i] == some .free) = true := q
  rw [Bool.and_eq_true] at q'
  exact ⟨N[i], hx, eq_of_beq q'.1, eq_of_beq q'.2⟩
/-- the values at the block's entry -/
def impOf (imp : List (Option Nat)) (σ : St) : St := imp.map fun o => o.bind fun j => (σ[j]?).bind id
theorem impOf_get {imp : List (Option Nat)} {σ : St} {i : Nat} {v : V} (h : (impOf imp σ)[i]? = some (some v)) : ∃ j, imp[i]? = some (some j) ∧ σ[j]? = some (some v) := by
  unfold impOf at h
  rw [List.getElem?_map] at h
  cases e : imp[i]? with
  | none => rw [e] at h; cases h
  | some o =>
    rw [e] at h
    have h' : (o.bind fun j => (σ[j]?).bind id) = some v := Option.some.inj h
    cases o with
    | none => cases h'
    | some j =>
      have h2 : (σ[j]?).bind id = some v := h'
      cases e2 : σ[j]? with
      | none => rw [e2] at h2; cases h2
      | some w =>
        rw [e2] at h2
        have h3 : w = some v := h2
        exact ⟨j, rfl, by rw [e2, h3]⟩

/-- the context of a comprehension's block -/
def Cx.comp (X : Cx) (N : List Str) (scope : Scope) (C : Addr) (s2 : Shared) (H2 : Hp) (fp : List Addr) : Cx where
  prog := X.prog
  w := X.w
  K := X.K
  mg := X.mg
  base := X.base
  A := X.A
  N := N
  s₀ := s2
  H₀ := H2
  env := compEnvC scope (clOf X.env.cells scope.names []) C X.env
  outer := X.stack
  stack := X.stack
  ex := fp
  fn := fun _ => false
  calm := X.calm
  pn := []
  xe := fun _ _ => False

theorem relabel_free {env : Env} : ∀ {names : List (Str × NameKind)} {x : Str},
    (names.map fun (n, k) => if (k == NameKind.free && env.scope.kind == .function && env.kindOf n == some .cell) then (n, NameKind.cell) else (n, k)).lookup x = some .cell ∨
    (names.map fun (n, k) => if (k == NameKind.free && env.scope.kind == .function && env.kindOf n == some .cell) then (n, NameKind.cell) else (n, k)).lookup x = some .free →
    (∀ y ∈ names, y.2 ≠ .cell) → (x, NameKind.free) ∈ names
  | [], x, h, _ => by simp at h
  | (n, k) :: r, x, h, hc => by
    have ih := @relabel_free env r x
    rw [List.map_cons] at h
    dsimp only at h
    by_cases hx : x = n
    · subst hx
      by_cases hk : k = .free
      · subst hk; exact List.mem_cons_self
      · have hk' : (k == NameKind.free) = false := by simpa using hk
        simp only [hk', Bool.false_and, Bool.false_eq_true, if_false, List.lookup_cons, beq_self_eq_true, if_true] at h
        rcases h with h | h
        · have e : k = .cell := Option.some.inj h
          exact absurd e (hc (x, k) List.mem_cons_self)
        · have e : k = .free := Option.some.inj h
          exact absurd e hk
    · have hxn : (x == n) = false := by simpa using hx
      have step : ∀ (b : Bool) (l : List (Str × NameKind)), List.lookup x ((if b = true then (n, NameKind.cell) else (n, k)) :: l) = l.lookup x := fun b l => by
        cases b <;> simp [List.lookup_cons, hxn]
      rw [step] at h
      exact List.mem_cons_of_mem _ (ih h fun y hy => hc y (List.mem_cons_of_mem _ hy))
theorem relabel_vis {env : Env} : ∀ {names : List (Str × NameKind)} {x : Str}, names.lookup x = some .free →
    (names.map fun (n, k) => if (k == NameKind.free && env.scope.kind == .function && env.kindOf n == some .cell) then (n, NameKind.cell) else (n, k)).lookup x = some .cell ∨
    (names.map fun (n, k) => if (k == NameKind.free && env.scope.kind == .function && env.kindOf n == some .cell) then (n, NameKind.cell) else (n, k)).lookup x = some .free
  | [], x, h => by simp at h
  | (n, k) :: r, x, h => by
    have ih := @relabel_vis env r x
    rw [List.map_cons]
    dsimp only
    rw [List.lookup_cons] at h
    cases hx : x == n with
    | true =>
      rw [hx] at h
      have e : k = .free := Option.some.inj h
      subst e
      by_cases hb : (NameKind.free == NameKind.free && env.scope.kind == .function && env.kindOf n == some .cell) = true
      · left; rw [if_pos hb]; simp [List.lookup_cons, hx]
      · right; rw [if_neg hb]; simp [List.lookup_cons, hx]
    | false =>
      rw [hx] at h
      have step : ∀ (b : Bool) (l : List (Str × NameKind)), List.lookup x ((if b = true then (n, NameKind.cell) else (n, k)) :: l) = l.lookup x := fun b l => by
        cases b <;> simp [List.lookup_cons, hx]
      rw [step]
      exact ih h

section
variable {X : Cx} {pins : List (Addr × Obj)} {σ : St} {H2 H' : Hp} {s2 s' : Shared} {fp : List Addr} {N : List Str} {imp : List (Option Nat)} {scope : Scope} {C acc : Addr}
theorem comp_frees (I : Inv X pins σ H2 s2) (S : CompScope X.N X.env.scope N imp scope) : ∀ y ∈ scope.names, y.2 = .free → ∃ c, X.env.cells.lookup y.1 = some c := fun y hy hk => I.ok.has y.1 (S.frees y hy hk)
theorem comp_cell (I : Inv X pins σ H2 s2) (S : CompScope X.N X.env.scope N imp scope) {x : Str} {c : Addr} (h : (clOf X.env.cells scope.names []).lookup x = some c) : (x, NameKind.free) ∈ scope.names ∧ X.env.cells.lookup x = some c := by
  rcases clOf_mem scope.names [] (comp_frees I S) x c (PySem.mem_of_lookup h) with q | q
  · exact absurd q (by simp)
  · exact q
theorem comp_cell_of (I : Inv X pins σ H2 s2) (S : CompScope X.N X.env.scope N imp scope) {x : Str} (h : (x, NameKind.free) ∈ scope.names) : ∃ c, (clOf X.env.cells scope.names []).lookup x = some c := by
  obtain ⟨c, hc⟩ := clOf_has (cells := X.env.cells) scope.names [] x h
  exact mem_lookup hc
theorem inv_comp {h1 : Heap} {tk : Nat} {m : Str → Option Value} {n0 : Nat} (I : Inv X pins σ H2 s2) (S : CompScope X.N X.env.scope N imp scope) (hf : ∀ b ∈ fp, FpOk X pins H2 b) (ho : ∀ b ∈ fp, ∃ o, s2.heap.get? b = some o)
    (hacc : acc = s2.heap.objs.size) (hC : C = s2.heap.objs.size + 1) (old : ∀ b o, s2.heap.get? b = some o → h1.get? b = some o) (hn : h1.Ns C m)
    (hl : h1.get? acc = some { cls := .type "list", data := .seq ([] : List Value).toArray n0 }) :
    Inv (X.comp N scope C s2 H2 fp) [] (impOf imp σ) (upd H2 acc (.lst [])) { s2 with heap := h1, toks := tk } := by
  have fa : H2 acc = none := I.hok.fresh (by rw [hacc]; exact Nat.le_refl _)
  have cac : C ≠ acc := by rw [hC, hacc]; exact Nat.succ_ne_self _
  have clt : ∀ x c, X.env.cells.lookup x = some c → c < s2.heap.objs.size := fun x c e => by
    obtain ⟨v, q⟩ := I.cell x c e
    exact q.lt
  refine ⟨⟨I.ok.mod, S.kind, I.ok.glob, I.ok.blt, ?above, ?inj, ?has, ?cab, I.ok.hd, I.ok.frames, .inl rfl, ?exf, fun b o e => I.bs b o e, Nat.le_trans I.ok.bsz I.sz, ?noex, ?exfs, I.stack, I.stkFree⟩,
    rfl, I.bare, Un.laid old (by rw [hacc]; exact Nat.le_refl _) fa, ⟨m, hn, ?loc⟩, ?cell, ?free, ?freeC, fun p hp => absurd (show p ∈ ([] : List (Addr × Obj)) from hp) (by simp), I.hok.laid old (by rw [hacc]; exact Nat.le_refl _) ⟨Nat.zero_le _, [], n0, .nil, hl⟩, ?len⟩
  case above => show s2.heap.objs.size ≤ C; rw [hC]; exact Nat.le_succ _
  case inj => exact fun x y c h1 h2 => I.ok.inj x y c (comp_cell I S h1).2 (comp_cell I S h2).2
  case has => exact fun x hx => comp_cell_of I S (relabel_free (env := X.env) hx S.nocell)
  case cab => exact fun x c h _ => absurd h (by show ¬ (false = true); simp)
  case exf =>
    intro b hb
    obtain ⟨o, hob⟩ := ho b hb
    refine ⟨?_, fun x c e => (hf b hb).2.2.2.2.1 x c (comp_cell I S e).2⟩
    show b ≠ C
    rw [hC]
    exact Nat.ne_of_lt (Nat.lt_succ_of_lt (Heap.lt_size hob))
  case noex =>
    intro b o e hb
    rcases (hf b hb).2.2.2.1 with z | z
    · exact I.ok.noex b o e z
    · exact absurd (Nat.lt_of_lt_of_le (Heap.lt_size e) (Nat.le_trans I.ok.bsz z)) (Nat.lt_irrefl _)
  case exfs =>
    intro b hb hz
    rcases List.mem_cons.mp (I.stkSub b hz) with e | e
    · exact (hf b hb).2.1 e
    · exact (hf b hb).2.2.1 e
  case loc =>
    intro i x v e1 e2 e3
    obtain ⟨j, q1, q2⟩ := impOf_get e2
    obtain ⟨y, n1, n2, n3⟩ := S.imps i j q1
    have n1' : (X.comp N scope C s2 H2 fp).N[i]? = some y := n1
    rw [n1'] at e1
    have exy : y = x := Option.some.inj e1
    subst exy
    have hfr := S.frees (y, .free) (PySem.mem_of_lookup n3) rfl
    obtain ⟨mX, hnX, hlX⟩ := I.loc
    obtain ⟨u, r, l⟩ := hlX j y v n2 q2 (.inr hfr)
    refine ⟨u, r, ?_⟩
    rcases l with ⟨k, _⟩ | ⟨k, c, e, z⟩
    · have k' : X.env.scope.names.lookup y = some .local := k
      rcases hfr with z | z
      · have z' : X.env.scope.names.lookup y = some .cell := z
        rw [k'] at z'; cases z'
      · have z' : X.env.scope.names.lookup y = some .free := z
        rw [k'] at z'; cases z'
    · obtain ⟨d, hd⟩ := comp_cell_of I S (PySem.mem_of_lookup n3)
      have hd2 := (comp_cell I S hd).2
      rw [e] at hd2
      have edc : c = d := Option.some.inj hd2
      subst edc
      exact .inr ⟨relabel_vis (env := X.env) n3, c, hd, z.keeps old⟩
  case cell =>
    intro x c e
    obtain ⟨v, q⟩ := I.cell x c (comp_cell I S e).2
    exact ⟨v, q.keeps old⟩
  case free =>
    show upd H2 acc _ C = none
    rw [upd_ne cac]
    exact I.hok.fresh (by rw [hC]; exact Nat.le_succ _)
  case freeC =>
    intro x c e
    have e' := (comp_cell I S e).2
    have hlt := clt x c e'
    show upd H2 acc _ c = none
    rw [upd_ne (by rw [hacc]; exact Nat.ne_of_lt hlt)]
    exact I.freeC x c e'
  case len =>
    show (impOf imp σ).length = N.length
    unfold impOf
    rw [List.length_map]
    exact S.len
/-- behind the block -/
theorem comp_exit {pl : List (Addr × Obj)} {τ : St} (I : Inv X pins σ H2 s2) (hf : ∀ b ∈ fp, FpOk X pins H2 b) (J : Inv (X.comp N scope C s2 H2 fp) pl τ H' s') : Inv X pins σ H' s' :=
  I.call' (ch := fp) J.os J.base J.hok J.bare fun b hb => ⟨(hf b hb).2.2.2.1, (hf b hb).2.1, (hf b hb).2.2.2.2.1, (hf b hb).2.2.2.2.2⟩
end

/-! ### the loop -/
section
variable {prog : Program} {w : World} {A : Around} {R : Result → Shared → Prop} {s : Shared}
theorem compLoop_any {elt target iter : Expr} {ifs : List Expr} {scope : Scope} {pos : Pos} {it acc : Value} {env : Env} (I : Nat → Shared → Prop)
    (turn : ∀ n s, I n s → wpAny (model prog w) A (pyNext it) (fun r s1 => match r with
      | none => R (.ok .next) s1
      | some v => wpAny (model prog w) A (letOwnedTupleGo target it v) (fun _ s2 => wpAny (model prog w) A (assign target env v) (fun _ s3 =>
          wpAny (model prog w) A (forIn ifs true fun c r => if r = true then do let ok ← isTrue c env (eval c env); pure (ForInStep.yield ok) else pure (ForInStep.yield r)) (fun ok s4 =>
            if ok = true then wpAny (model prog w) A (eval elt env) (fun x s5 =>
              wpAny (model prog w) A (call (.builtin "list.append") [acc, x]) (fun _ s6 => ∃ m, m < n ∧ I m s6) (fun _ _ => False) s5) (fun _ _ => False) s4
            else ∃ m, m < n ∧ I m s4) (fun _ _ => False) s3) (fun _ _ => False) s2) (fun _ _ => False) s1) (fun _ _ => False) s)
    (n : Nat) (h : I n s) : codeAny (model prog w) A (.compLoop (.ListComp elt [⟨target, iter, ifs, 0⟩] scope pos) 0 it acc env) R s := by
  refine codeAny_loop rfl I (fun n s hI => ?_) n h
  show wpAny _ A ((compTurn (.ListComp elt [⟨target, iter, ifs, 0⟩] scope pos) 0 it acc env).onRaise (fun x => do noteFrame x env; theTreesLotGoes x)) _ _ s
  refine wpAny_noted ?_
  rw [compTurn_list]
  refine wpAny_bind (wpAny_standAt (wpAny_bind (wpAny_mono (turn n s hI) (fun r s1 h1 => ?_) fun _ _ h' => False.elim h')))
  cases r with
  | none => exact wpAny_pure h1
  | some v =>
    refine wpAny_bind (wpAny_mono h1 (fun _ s2 h2 => ?_) fun _ _ h' => False.elim h')
    refine wpAny_bind (wpAny_mono h2 (fun _ s3 h3 => wpAny_bind (wpAny_mono h3 (fun ok s4 h4 => ?_) fun _ _ h' => False.elim h')) fun _ _ h' => False.elim h')
    cases ok with
    | false => exact wpAny_pure ⟨rfl, h4⟩
    | true =>
      exact wpAny_bind (wpAny_bind (wpAny_mono h4 (fun x s5 h5 => wpAny_bind (wpAny_mono h5 (fun _ s6 h6 => wpAny_pure (wpAny_pure ⟨rfl, h6⟩)) fun _ _ h' => False.elim h')) fun _ _ h' => False.elim h'))
end

/-- a comprehension's tests: none, or one -/
def PTests (Y : Cx) (ifs : List Expr) (t : TT) : Prop :=
  ∀ (pins : List (Addr × Obj)) (s : Shared) (σ : St) (H : Hp) (Q : Bool → Hp → Prop), Inv Y pins σ H s → t σ H Q →
    wpAny (model Y.prog Y.w) Y.A (forIn ifs true fun c r => if r = true then do let ok ← isTrue c Y.env (eval c Y.env); pure (ForInStep.yield ok) else pure (ForInStep.yield r)) (TP Y pins σ Q) Y.xe s
def tYes : TT := fun _ H Q => Q true H
theorem pts_nil {Y : Cx} : PTests Y [] tYes := fun _ _ _ H _ I h => wpAny_tests_nil ⟨H, I, h⟩
theorem pts_one {Y : Cx} {c : Expr} {t : TT} (h : PT Y c t) : PTests Y [c] t := fun pins s σ H Q I q => wpAny_tests_one (h pins s σ H Q I q)

/-- the reading of a comprehension: W the invariant by turn, measure, the list so far, the block's names, the heap -/
def CompInv (J : It) (acc : Addr) (g : TG) (tt : TT) (te : TE) (τ0 : St) (H0 : Hp) (Q : VK) : Prop :=
  ∃ W : Nat → Nat → List V → St → Hp → Prop, (∃ m, W 0 m [] τ0 H0) ∧ ∀ i m ys τ H2, W i m ys τ H2 →
    (J.stop i H2 ∧ Q (.ref acc) H2) ∨ (J.go i H2 ∧ ∃ N : List V → St → Hp → Prop, (∀ ys' τ' H', N ys' τ' H' → ∃ m', m' < m ∧ W (i + 1) m' ys' τ' H') ∧
      ∀ x H3, J.yld i H2 x H3 → g x τ H3 fun τ2 H4 => tt τ2 H4 fun c H5 =>
        if c = true then te τ2 H5 fun y H6 => H6 acc = some (.lst ys) ∧ ys.length < sizeLine ∧ N (ys ++ [y]) τ2 (upd H6 acc (.lst (ys ++ [y]))) else N ys τ2 H5)
def tComp (wi : TI) (imp : List (Option Nat)) (g : TG) (tt : TT) (te : TE) : TE := fun σ H Q => wi σ H fun J H1 => ∀ acc, H1 acc = none → CompInv J acc g tt te (impOf imp σ) (upd H1 acc (.lst [])) Q

section
variable {X : Cx} {pins : List (Addr × Obj)} {σ : St} {elt iter tg : Expr} {ifs : List Expr} {scope : Scope} {pos : Pos} {wi : TI} {g : TG} {tt : TT} {te : TE} {N : List Str} {imp : List (Option Nat)}
theorem comp_block {H2 : Hp} {s2 : Shared} {it : Addr} {fp : List Addr} {tn : Nat → Heap → Prop} {J : It} {RR : Value → Addr → Result → Shared → Prop} {E : Value → Shared → Prop} {Q : VK}
    (hc : X.calm = true) (S : CompScope X.N X.env.scope N imp scope) (hg : ∀ C s2 H2 fp, PG (X.comp N scope C s2 H2 fp) tg g) (ht : ∀ C s2 H2 fp, PTests (X.comp N scope C s2 H2 fp) ifs tt) (he : ∀ C s2 H2 fp, PE (X.comp N scope C s2 H2 fp) elt te)
    (I2 : Inv X pins σ H2 s2) (T : Turn X.prog X.w X.K tg J fp it tn) (st2 : tn 0 s2.heap) (f2 : ∀ b ∈ fp, FpOk X pins H2 b)
    (hW : ∀ acc, H2 acc = none → CompInv J acc g tt te (impOf imp σ) (upd H2 acc (.lst [])) Q)
    (hRR : ∀ a C H' s' m, Inv X pins σ H' s' → s'.heap.Ns C m → FpOk X pins H' C → Q (.ref a) H' → RR (.ref a) C (.ok .next) s') :
    wpAny (model X.prog X.w) X.A (newList []) (fun acc s3 => wpAny (model X.prog X.w) X.A (newFunctionEnv scope X.env.globals (clOf X.env.cells scope.names []) [] X.env.qual none .none (some X.env)) (fun cenv s4 =>
      codeAny (model X.prog X.w) X.A (.compStart (.ListComp elt [⟨tg, iter, ifs, 0⟩] scope pos) 0 (.ref it) acc { cenv with scope := relabel scope X.env }) (RR acc cenv.locals) s4) E s3) E s2 := by
  refine wpAny_newObj_type (wpAny_newFunctionEnv S.nocell (by intro y hy; simp at hy) (fun h1 hns1 hsb1 => ?_) S.kind)
  dsimp only at hns1 hsb1 ⊢
  generalize hHH : s2.heap.push { cls := .type "list", dict := none, data := .seq ([] : List Value).toArray } = HH at hns1 hsb1 ⊢
  have hC : HH.objs.size = s2.heap.objs.size + 1 := by rw [← hHH, Heap.size_push]
  have hDC : s2.heap.objs.size ≠ HH.objs.size := by rw [hC]; exact Nat.ne_of_lt (Nat.lt_succ_self _)
  have old : ∀ b o, s2.heap.get? b = some o → h1.get? b = some o := fun b o e => hsb1.extBut b o (by rw [hC]; exact Nat.ne_of_lt (Nat.lt_succ_of_lt (Heap.lt_size e))) (Heap.get?_push_of_some _ (hHH ▸ Heap.get?_push_of_some _ e))
  have hacc : h1.get? s2.heap.objs.size = some { cls := .type "list", data := .seq ([] : List Value).toArray } := hsb1.extBut _ _ hDC (Heap.get?_push_of_some _ (hHH ▸ Heap.get?_push_size _ rfl))
  obtain ⟨W, ⟨m0, w0⟩, turn⟩ := hW s2.heap.objs.size I2.fresh
  generalize hCC : HH.objs.size = C at hns1 hsb1 hC hDC ⊢
  have ho : ∀ b ∈ fp, ∃ o, s2.heap.get? b = some o := fun b hb => let ⟨o, e, _⟩ := T.obj 0 _ st2 b hb; ⟨o, e⟩
  generalize hacc0 : s2.heap.objs.size = acc at *
  have loop : ∀ s3 : Shared, s3 = { s2 with heap := h1, toks := s2.toks + ([] : List (Str × Value)).length } →
      codeAny (model X.prog X.w) X.A (.compLoop (.ListComp elt [⟨tg, iter, ifs, 0⟩] scope pos) 0 (.ref it) (.ref acc) (X.comp N scope C s2 H2 fp).env) (RR (.ref acc) C) s3 := by
    rintro s3 rfl
    have I3 : Inv (X.comp N scope C s2 H2 fp) [] (impOf imp σ) (upd H2 acc (.lst [])) { s2 with heap := h1, toks := s2.toks + ([] : List (Str × Value)).length } :=
      inv_comp I2 S f2 ho hacc0.symm (by rw [hC, hacc0]) old hns1 hacc
    have fpn : ∀ b ∈ fp, upd H2 acc (.lst []) b = none := fun b hb => by
      obtain ⟨o, e⟩ := ho b hb
      rw [upd_ne (by rw [← hacc0]; exact Nat.ne_of_lt (Heap.lt_size e))]
      exact (f2 b hb).1
    have stat : ∀ {H' : Hp}, (∀ b ∈ fp, H' b = none) → ∀ b ∈ fp, FpOk (X.comp N scope C s2 H2 fp) [] H' b := fun hn b hb => by
      obtain ⟨e1, e2⟩ := I3.ok.exf b hb
      exact ⟨hn b hb, e1, I3.ok.exfs b hb, .inl hb, e2, fun p hp => absurd (show p ∈ ([] : List (Addr × Obj)) from hp) (by simp)⟩
    refine compLoop_any (fun n s' => ∃ i ys τ H', Inv (X.comp N scope C s2 H2 fp) [] τ H' s' ∧ tn i s'.heap ∧ (∀ b ∈ fp, H' b = none) ∧ W i n ys τ H') ?_ m0
      ⟨0, [], _, _, I3, T.keep _ _ _ st2 fun b _ o e => old b o e, fpn, w0⟩
    rintro n s4 ⟨i, ys, τ, H4, I4, st4, fr4, w4⟩
    rcases turn i n ys τ H4 w4 with ⟨stop, qn⟩ | ⟨go, NN, hN, step⟩
    · refine wpAny_mono (T.done (X.comp N scope C s2 H2 fp) rfl rfl rfl hc i [] s4 τ H4 (fun _ _ => False) I4 (stat fr4) st4 stop) (fun r s5 ⟨hr, I5⟩ => ?_) fun _ _ z => z
      subst hr
      obtain ⟨m5, hn5, _⟩ := id I5.loc
      exact hRR acc C H4 s5 m5 (comp_exit I2 f2 I5) hn5 (I2.fpOk (by rw [hC, hacc0]; exact Nat.le_succ _) I5.free) qn
    · refine wpAny_mono (T.item (X.comp N scope C s2 H2 fp) rfl rfl rfl hc i [] s4 τ H4 (fun _ _ => False) I4 (stat fr4) st4 go) (fun r s5 ⟨u, hr, h5⟩ => ?_) fun _ _ z => z
      subst hr
      refine wpAny_mono h5 (fun _ s6 ⟨x, H6, I6, r6, y6, st6, fr6⟩ => ?_) fun _ _ z => z
      have I6' := I6.pinned (stat fr6) (T.obj _ _ st6)
      refine wpAny_mono (hg C s2 H2 fp _ s6 τ H6 x u _ I6' r6 (step x H6 y6)) (fun _ s7 ⟨τ7, H7, I7, q7⟩ => ?_) fun _ _ z => z
      refine wpAny_mono (ht C s2 H2 fp _ s7 τ7 H7 _ I7 q7) (fun ok s8 ⟨H8, I8, q8⟩ => ?_) fun _ _ z => z
      have again : ∀ {ys9 : List V} {H9 : Hp} {s9 : Shared}, Inv (X.comp N scope C s2 H2 fp) ([] ++ pinsAt fp s6.heap) τ7 H9 s9 → NN ys9 τ7 H9 → ∃ m, m < n ∧ ∃ i ys τ H', Inv (X.comp N scope C s2 H2 fp) [] τ H' s9 ∧ tn i s9.heap ∧ (∀ b ∈ fp, H' b = none) ∧ W i m ys τ H' := fun {ys9 H9 s9} I9 n9 => by
        obtain ⟨m', hm, w9⟩ := hN ys9 τ7 H9 n9
        refine ⟨m', hm, i + 1, ys9, τ7, H9, I9.unpinned, T.keep _ _ _ st6 fun b hb o e => (I9.pin (b, o) (List.mem_append_right _ (List.mem_append_right _ (mem_pinsAt hb e)))).1, fun b hb => ?_, w9⟩
        obtain ⟨o, e, d⟩ := T.obj _ _ st6 b hb
        exact (I9.pin (b, o) (List.mem_append_right _ (List.mem_append_right _ (mem_pinsAt hb e)))).2.1
      cases ok with
      | false =>
        have q8' : NN ys τ7 H8 := by
          have z := q8
          rw [if_neg Bool.false_ne_true] at z
          exact z
        rw [if_neg Bool.false_ne_true]
        exact again I8 q8'
      | true =>
        rw [if_pos rfl] at q8 ⊢
        refine wpAny_mono (he C s2 H2 fp _ s8 τ7 H8 _ I8 q8) (fun v s9 ⟨y, H9, I9, r9, a9, z9, q9⟩ => ?_) fun _ _ z => z
        refine wpAny_mono (mt_append (X := X.comp N scope C s2 H2 fp) _ s9 τ7 H9 (.ref acc) [y] (.ref acc) [v] (fun _ H10 => H10 = upd H9 acc (.lst (ys ++ [y]))) I9 rfl (.cons r9 .nil) ⟨acc, ys, y, rfl, rfl, a9, z9, rfl⟩) (fun _ s10 ⟨_, H10, I10, _, e10⟩ => ?_) fun _ _ z => z
        subst e10
        exact again I10 q9
  exact codeAny_compStart_list (loop _ rfl) (T.self X.A 0 _ _ _ (T.keep _ _ _ st2 fun b _ o e => old b o e) (loop _ rfl))

/-- [elt for tg in iter if ..] -/
theorem pe_lc (hc : X.calm = true) (S : CompScope X.N X.env.scope N imp scope) (hi : PI X tg iter wi) (hg : ∀ C s2 H2 fp, PG (X.comp N scope C s2 H2 fp) tg g) (ht : ∀ C s2 H2 fp, PTests (X.comp N scope C s2 H2 fp) ifs tt)
    (he : ∀ C s2 H2 fp, PE (X.comp N scope C s2 H2 fp) elt te) (hs : ∀ x, foldedSetIterable iter X.env x = pure x := by intro _; rfl) :
    PE X (.ListComp elt [⟨tg, iter, ifs, 0⟩] scope pos) (tComp wi imp g tt te) := by
  intro pins s σ H Q I h
  rw [eval_ListComp]
  refine wpAny_comprehension_free (use := none) rfl hs (closureFor_is (comp_frees I S)) S.kind S.locs (thn (hi pins s σ H _ I h) fun v s1 h1 => thn h1 fun itv s2 h2 => ?_)
  obtain ⟨it, fp, tn, J, H2, e, I2, T, st2, f2, hW⟩ := h2
  subst e
  refine comp_block (RR := fun acc C => compPost (model X.prog X.w) X.A X.xe none (EP X pins σ Q) acc C) hc S hg ht he I2 T st2 f2 hW fun a C H' s' m I' hn f q => ?_
  refine ⟨m, hn, fun h' sb => ?_⟩
  obtain ⟨g0, g1, g2, g3, g4, g5⟩ := f
  exact ⟨.ref a, H', I'.turned (t' := s'.toks) (it := C) (fun b o hb e => (sb.2 b hb).trans e) g0 g1 g3 g4 g5, rfl, q⟩

/-- x = [elt for tg in iter if ..] (the stores are exchanged: the name is stored inside the block) -/
theorem ps_lcset {i : Nat} {x : Str} {px : Pos} {spos : Pos} (hc : X.calm = true) (S : CompScope X.N X.env.scope N imp scope) (hi : PI X tg iter wi) (hg : ∀ C s2 H2 fp, PG (X.comp N scope C s2 H2 fp) tg g) (ht : ∀ C s2 H2 fp, PTests (X.comp N scope C s2 H2 fp) ifs tt)
    (he : ∀ C s2 H2 fp, PE (X.comp N scope C s2 H2 fp) elt te) (hN : X.N.Nodup) (hx : X.N[i]? = some x) (hl : Loc X.env.scope x) (hsw : swapsWith (.ListComp elt [⟨tg, iter, ifs, 0⟩] scope pos) (some (.Name x px)) spos.line X.env = pure true := by rfl)
    (hf : X.fn x = true ∨ X.env.scope.names.lookup x = some .local := by first | exact .inl rfl | exact .inr rfl | assumption) (hs : ∀ x, foldedSetIterable iter X.env x = pure x := by intro _; rfl) :
    PS X (.Assign [.Name x px] (.ListComp elt [⟨tg, iter, ifs, 0⟩] scope pos) spos) (tAsg (tComp wi imp g tt te) (gName i)) := by
  intro pins s σ H D I h
  rw [exec_Assign_Name_used _ _ _ _ hsw]
  refine wpAny_bind (wpAny_standAt (wpAny_bind ?_))
  show wpAny _ X.A (do let _ ← comprehension (.ListComp elt [⟨tg, iter, ifs, 0⟩] scope pos) scope X.env _ (newList []) false (eval iter X.env) (some (assign (.Name x px) X.env))) _ _ s
  refine wpAny_bind (wpAny_mono (wpAny_comprehension_free (use := some (assign (.Name x px) X.env)) (Q := fun _ s' => SP X pins D .next s') rfl hs (closureFor_is (comp_frees I S)) S.kind S.locs (thn (hi pins s σ H _ I h) fun v s1 h1 => thn h1 fun itv s2 h2 => ?_))
    (fun _ s' hq => wpAny_pure (wpAny_pure hq)) fun _ _ e => e)
  obtain ⟨it, fp, tn, J, H2, e, I2, T, st2, f2, hW⟩ := h2
  subst e
  refine comp_block (Q := fun x H1 => gName i x σ H1 D.nx) (RR := fun acc C => compPost (model X.prog X.w) X.A X.xe (some (assign (.Name x px) X.env)) (fun _ s' => SP X pins D .next s') acc C) hc S hg ht he I2 T st2 f2 hW fun a C H' s' m I' hn f q => ?_
  show wpAny _ X.A (assign (.Name x px) X.env (.ref a)) _ _ _
  obtain ⟨g0, g1, g2, g3, g4, g5⟩ := f
  refine wpAny_assign_Name (store_ok2 I' hN hx hl (show RelV (.ref a) (.ref a) from rfl) (fun s4 I4 hch => ?_) hf)
  obtain ⟨ad, sb, had⟩ := hch
  have hCa : C ≠ ad := by
    rcases had with e | e
    · rw [e]; exact g1
    · exact (g4 x ad e).symm
  refine ⟨m, hn.sameBut sb hCa, fun h' sb2 => ?_⟩
  exact ⟨_, H', I4.turned (t' := s4.toks) (it := C) (fun b o hb e => (sb2.2 b hb).trans e) g0 g1 g3 g4 g5, q⟩
end
end L2
set_option Elab.async false
set_option linter.all false
set_option maxRecDepth 100000
/-! Data, isinstance, ranges, all and any over the hand layer. -/
namespace L2
open PySem PySem.Spec PyProof.Rows

/-! ### a value read as a datum -/
mutual
inductive DV (H : Hp) : V → PyData → Prop where
  | non : DV H .non .none
  | bl (b : Bool) : DV H (.bl b) (.bool b)
  | int (i : Int) : DV H (.int i) (.int i)
  | str (x : Str) : DV H (.str x) (.str x)
  | lst {a : Addr} {xs : List V} {ds : List PyData} : H a = some (.lst xs) → DVs H xs ds → DV H (.ref a) (.list ds)
  | tup {a : Addr} {xs : List V} {ds : List PyData} : H a = some (.tup xs) → DVs H xs ds → DV H (.ref a) (.tuple ds)
inductive DVs (H : Hp) : List V → List PyData → Prop where
  | nil : DVs H [] []
  | cons {x : V} {xs : List V} {d : PyData} {ds : List PyData} : DV H x d → DVs H xs ds → DVs H (x :: xs) (d :: ds)
end

section
variable {X : Cx} {pins : List (Addr × Obj)} {σ : St} {H : Hp} {s : Shared}
mutual
theorem DV.reads (I : Inv X pins σ H s) : ∀ {x : V} {d : PyData} {u : Value}, DV H x d → RelV x u → ∃ as, Reads s.heap u d as
  | _, _, u, .non, r => by cases (show u = Value.none from r); exact ⟨_, .none⟩
  | _, _, u, .bl b, r => by cases (show u = Value.bool b from r); exact ⟨_, .bool b⟩
  | _, _, u, .int i, r => by obtain ⟨t, rfl⟩ := (show ∃ t, u = Value.int i t from r); exact ⟨_, .int i t⟩
  | _, _, u, .str x, r => by obtain ⟨t, rfl⟩ := (show ∃ t, u = Value.str x t from r); exact ⟨_, .str x t⟩
  | _, _, u, .lst (a := a) hq hs, r => by
    cases (show u = Value.ref a from r)
    obtain ⟨its, rv, p, hz⟩ := I.list (SqL.of hq)
    obtain ⟨o, ho, hc, n, hd⟩ := p.isList
    obtain ⟨as, ra⟩ := DVs.reads I hs rv
    exact ⟨_, .list ho hc hd (by simpa using ra)⟩
  | _, _, u, .tup (a := a) hq hs, r => by
    cases (show u = Value.ref a from r)
    obtain ⟨its, rv, p, hz⟩ := I.tuple (SqT.of hq)
    obtain ⟨o, ho, hc, n, hd⟩ := p
    obtain ⟨as, ra⟩ := DVs.reads I hs rv
    exact ⟨_, .tuple ho hc hd (by simpa using ra)⟩
theorem DVs.reads (I : Inv X pins σ H s) : ∀ {xs : List V} {ds : List PyData} {us : List Value}, DVs H xs ds → Vals xs us → ∃ as, ReadsAll s.heap us ds as
  | _, _, _, .nil, .nil => ⟨_, .nil⟩
  | _, _, _, .cons h hs, .cons r rs => by
    obtain ⟨as, ra⟩ := DV.reads I h r
    obtain ⟨bs, rb⟩ := DVs.reads I hs rs
    exact ⟨_, .cons ra rb⟩
end
end

/-! all that was tracked stays: so does the reading -/
mutual
theorem DV.same {H H' : Hp} (e : Same H H') : ∀ {x : V} {d : PyData}, DV H x d → DV H' x d
  | _, _, .non => .non
  | _, _, .bl b => .bl b
  | _, _, .int i => .int i
  | _, _, .str x => .str x
  | _, _, .lst hq hs => .lst (e _ _ hq) (DVs.same e hs)
  | _, _, .tup hq hs => .tup (e _ _ hq) (DVs.same e hs)
theorem DVs.same {H H' : Hp} (e : Same H H') : ∀ {xs : List V} {ds : List PyData}, DVs H xs ds → DVs H' xs ds
  | _, _, .nil => .nil
  | _, _, .cons h hs => .cons (DV.same e h) (DVs.same e hs)
end
theorem DVs.length {H : Hp} : ∀ {xs : List V} {ds : List PyData}, DVs H xs ds → xs.length = ds.length
  | _, _, .nil => rfl
  | _, _, .cons _ hs => by rw [List.length_cons, List.length_cons, DVs.length hs]
/-- the name of a datum's type -/
def tyD : PyData → String
  | .none => "NoneType"
  | .bool _ => "bool"
  | .int _ => "int"
  | .str _ => "str"
  | .list _ => "list"
  | .tuple _ => "tuple"
  | .dict _ => "dict"
theorem DV.ty {K : PySem.W.Frag} {H : Hp} {x : V} {d : PyData} (h : DV H x d) : TyOf K H x (.type (tyD d)) := by
  cases h with
  | non => exact .non
  | bl b => exact .bl b
  | int i => exact .int i
  | str x => exact .str x
  | lst e _ => exact .lst e
  | tup e _ => exact .tup e
def isInt : PyData → Bool
  | .int _ => true
  | .bool _ => true
  | _ => false
def isBool : PyData → Bool
  | .bool _ => true
  | _ => false
def isStr : PyData → Bool
  | .str _ => true
  | _ => false
def isList : PyData → Bool
  | .list _ => true
  | _ => false
def isTuple : PyData → Bool
  | .tuple _ => true
  | _ => false
/-- isinstance of a datum and one of the five types -/
def isiD (T : String) (d : PyData) : Option Bool :=
  if T = "int" then some (isInt d) else if T = "bool" then some (isBool d) else if T = "str" then some (isStr d) else if T = "list" then some (isList d) else if T = "tuple" then some (isTuple d) else none
def kitT (t T : String) : Option Bool := if (Value.type t == Value.type T) = true then some true else if PySem.W.kitMeta T = true then (fastBuiltinMro t).map (·.contains (Value.type T)) else none
theorem kit_kitT (K : PySem.W.Frag) (t T : String) : PySem.W.kitOne K (.type t) (.type T) = kitT t T := rfl
theorem kitT_tab : (["NoneType", "bool", "int", "str", "list", "tuple"].all fun t => ["int", "bool", "str", "list", "tuple"].all fun T =>
    kitT t T == some (if T = "int" then t == "int" || t == "bool" else t == T)) = true := by decide +kernel
theorem kit_D (K : PySem.W.Frag) {H : Hp} {x : V} {d : PyData} (h : DV H x d) {T : String} {b : Bool} (e : isiD T d = some b) : PySem.W.kitOne K (.type (tyD d)) (.type T) = some b := by
  rw [kit_kitT]
  have key : ∀ t ∈ ["NoneType", "bool", "int", "str", "list", "tuple"], ∀ T ∈ ["int", "bool", "str", "list", "tuple"], kitT t T = some (if T = "int" then t == "int" || t == "bool" else t == T) := fun t ht T hT =>
    eq_of_beq (List.all_eq_true.mp (List.all_eq_true.mp kitT_tab t ht) T hT)
  have hd : tyD d ∈ ["NoneType", "bool", "int", "str", "list", "tuple"] := by cases h <;> simp [tyD]
  unfold isiD at e
  split at e
  · rename_i eT
    subst eT
    rw [key _ hd "int" (by decide)]
    cases e
    cases h <;> rfl
  · split at e
    · rename_i eT
      subst eT
      rw [key _ hd "bool" (by decide)]
      cases e
      cases h <;> rfl
    · split at e
      · rename_i eT
        subst eT
        rw [key _ hd "str" (by decide)]
        cases e
        cases h <;> rfl
      · split at e
        · rename_i eT
          subst eT
          rw [key _ hd "list" (by decide)]
          cases e
          cases h <;> rfl
        · split at e
          · rename_i eT
            subst eT
            rw [key _ hd "tuple" (by decide)]
            cases e
            cases h <;> rfl
          · cases e
section
variable {X : Cx}
/-- ==, != of two values that read as data -/
def rEqD : R2 := fun x y H Q => ∃ d e, DV H x d ∧ DV H y e ∧ SeqAt.shaped d = true ∧ SeqAt.shaped e = true ∧ Q (.bl (PyData.eqv d e)) H
def rNeD : R2 := fun x y H Q => ∃ d e, DV H x d ∧ DV H y e ∧ SeqAt.shaped d = true ∧ SeqAt.shaped e = true ∧ Q (.bl (!PyData.eqv d e)) H
theorem op_eqD (hu : X.A.units + 64 < cLine) : OpR X (compareOp .Eq) rEqD := by
  intro pins s σ H x y v u Q I rx ry h
  obtain ⟨d, e, hd, he, sd, se, q⟩ := h
  obtain ⟨as, ra⟩ := hd.reads I rx
  obtain ⟨bs, rb⟩ := he.reads I ry
  exact SeqAt.compareEq_shaped ra rb sd se hu ⟨.bl _, H, I, rfl, q⟩
/-! ### isinstance(x, T), T a built-in type -/
theorem call_isi : CallR X (.builtin "isinstance") (fun xs H Q => ∃ x T t b, xs = [x, .ty T] ∧ TyOf X.K H x t ∧ PySem.W.kitOne X.K t (.type T) = some b ∧ Q (.bl b) H) := by
  intro pins s σ H xs us Q I r h
  obtain ⟨x, T, t, b, rfl, ty, e, q⟩ := h
  obtain ⟨u, v, rfl, rx, ry⟩ := Vals.two r
  cases (show v = Value.type T from ry)
  exact isinst_ok I rx ty e fun tk => ⟨.bl b, H, I.tok tk, rfl, q⟩

theorem call_isiD : CallR X (.builtin "isinstance") (fun xs H Q => ∃ x T d b, xs = [x, .ty T] ∧ DV H x d ∧ isiD T d = some b ∧ Q (.bl b) H) := by
  intro pins s σ H xs us Q I r h
  obtain ⟨x, T, d, b, e, hd, ht, q⟩ := h
  exact call_isi pins s σ H xs us Q I r ⟨x, T, _, b, e, hd.ty, kit_D X.K hd ht, q⟩

/-! ### // by any positive divisor of at most 9000 bits -/
def CDivL (i j : Int) : Prop := 0 < j ∧ j.natAbs.log2 < 9000
theorem op_fdivL : OpR X (binaryOp .FloorDiv) (rI CDivL fun i j => .int (i / j)) := opI fun i j _ _ _ _ _ hc q => by
  have h1 : (0 : Int) < j := hc.1
  refine floordiv_int (Int.ne_of_gt h1) ?_ (.inl (PyProof.noPylong_of_log2 hc.2))
  rw [Int.fdiv_eq_ediv_of_nonneg _ (Int.le_of_lt h1)]
  exact q
/-- 2 ^ 256 -/
abbrev big : Int := 115792089237316195423570985008687907853269984665640564039457584007913129639936
theorem log2_small {j : Int} (h0 : 0 < j) (h : j < big) : j.natAbs.log2 < 9000 := by
  have hn : j.natAbs ≠ 0 := by omega
  have h2 : j.natAbs < 2 ^ 256 := by
    have e : (2 : Nat) ^ 256 = 115792089237316195423570985008687907853269984665640564039457584007913129639936 := by decide +kernel
    rw [e]
    unfold big at h
    omega
  have h3 : j.natAbs.log2 < 256 := (Nat.log2_lt hn).mpr h2
  omega

/-! ### range(a, b) as a thing, list of it -/
theorem call_range2 : CallR X (.type "range") (fun xs H Q => ∃ i j : Int, xs = [.int i, .int j] ∧ ∀ p, H p = none → Q (.ref p) (upd H p (.rng i j))) := by
  intro pins s σ H xs us Q I r h
  obtain ⟨i, j, rfl, q⟩ := h
  obtain ⟨u, v, rfl, ⟨t, rfl⟩, ⟨t', rfl⟩⟩ := Vals.two r
  refine call_range_2 ⟨.ref s.heap.objs.size, _, I.laid (o := .rng i j) (fun b u e => Heap.get?_push_of_some _ e) (Nat.le_refl _) ⟨t, t', s.toks, Heap.get?_push_size _ rfl⟩, rfl, q _ (I.hok.fresh (Nat.le_refl _))⟩
/-- the ints from lo, n of them -/
def upInts (lo : Int) (n : Nat) : List Int := (List.range n).map fun i => lo + (i : Nat)
theorem upInts_length (lo : Int) (n : Nat) : (upInts lo n).length = n := by simp [upInts]
theorem upInts_get {lo : Int} {n i : Nat} (h : i < n) : (upInts lo n)[i]? = some (lo + (i : Nat)) := by simp [upInts, h]
theorem vals_of_items {lo : Int} {n : Nat} {acc : Array Value} (h : ItemsOf (fun i v => ∃ t, v = .int (lo + i * 1) t) acc n) : Vals ((upInts lo n).map V.int) acc.toList := by
  obtain ⟨h1, h2⟩ := h
  have key : ∀ (xs : List V) (us : List Value), xs.length = us.length → (∀ (i : Nat) (x : V) (u : Value), xs[i]? = some x → us[i]? = some u → RelV x u) → Vals xs us := by
    intro xs
    induction xs with
    | nil => intro us hl _; cases us with | nil => exact .nil | cons _ _ => simp at hl
    | cons x xs ih =>
      intro us hl hr
      cases us with
      | nil => simp at hl
      | cons u us => exact .cons (hr 0 x u rfl rfl) (ih us (by simpa using hl) fun i x' u' e1 e2 => hr (i + 1) x' u' (by simpa using e1) (by simpa using e2))
  refine key _ _ ?_ fun i x u e1 e2 => ?_
  · rw [List.length_map, upInts_length]
    simp [h1]
  · rw [List.getElem?_map] at e1
    have hi : i < n := by
      have := (List.getElem?_eq_some_iff.mp e2).1
      simp [h1] at this
      exact this
    rw [upInts_get hi] at e1
    have e1' : V.int (lo + (i : Nat)) = x := Option.some.inj e1
    subst e1'
    obtain ⟨t, ht⟩ := h2 i u (by simpa using e2)
    refine ⟨t, ?_⟩
    rw [ht, Int.mul_one]
theorem call_list_rng (hc : X.calm = true) : CallR X (.type "list") (fun xs H Q => ∃ (p : Addr) (lo hi : Int), xs = [.ref p] ∧ H p = some (.rng lo hi) ∧ (-(2 ^ 62) ≤ lo ∧ lo < 2 ^ 62 ∧ -(2 ^ 62) ≤ hi ∧ hi < 2 ^ 62) ∧ (hi - lo).toNat ≤ sizeLine ∧ (hi - lo).toNat ≤ 2 ^ 24 ∧
    ∀ l, H l = none → Q (.ref l) (upd H l (.lst ((upInts lo (hi - lo).toNat).map V.int)))) := by
  intro pins s σ H xs us Q I r h
  obtain ⟨p, lo, hi, rfl, hp, ⟨b1, b2, b3, b4⟩, hz, hz2, q⟩ := h
  obtain ⟨u, rfl, rx⟩ := Vals.one r
  cases (show u = Value.ref p from rx)
  obtain ⟨t, t', t'', e⟩ := (show ObjOk X.prog X.w H s.heap p (.rng lo hi) from I.hok p _ hp)
  refine call_list_range (I.ok.hd hc) e (small_one b1 b2 b3 b4) (n := (hi - lo).toNat) (by rw [rangeSize_one]; split <;> omega) hz2 fun h' tk acc' c' hk hl hit => ?_
  refine ⟨.ref s.heap.objs.size, _, I.laid (o := .lst ((upInts lo (hi - lo).toNat).map V.int)) (t' := tk) hk (Nat.le_refl _) ⟨by rw [List.length_map, upInts_length]; exact hz, acc'.toList, c', vals_of_items hit, by simpa using hl⟩, rfl, q _ (I.hok.fresh (Nat.le_refl _))⟩

/-! ### all, any of a list of truths -/
end
end L2
set_option Elab.async false
set_option linter.all false
set_option maxRecDepth 100000
/-! Comprehensions by their invariants; the tape of draws. -/
namespace L2
open PySem PySem.Spec PyProof.Rows

/-- a block by whatever reading fits where it is entered -/
def tAny (X : Cx) (body : List Stmt) : TS := fun D σ H => ∃ t, PSs X body t ∧ t D σ H
theorem pss_any {X : Cx} {body : List Stmt} : PSs X body (tAny X body) := fun pins s σ H D I ⟨t, p, q⟩ => p pins s σ H D I q
/-- a cut between two statements: M holds there -/
theorem pss_cut {X : Cx} {st : Stmt} {rest : List Stmt} {D : Ends} {σ : St} {H : Hp} (M : St → Hp → Prop) (h1 : ∃ t, PS X st t ∧ t { D with nx := M } σ H) (h2 : ∀ σ' H', M σ' H' → ∃ t, PSs X rest t ∧ t D σ' H') :
    ∃ t, PSs X (st :: rest) t ∧ t D σ H := by
  obtain ⟨t1, p1, q1⟩ := h1
  refine ⟨fun D' σ' H' => D' = D ∧ σ' = σ ∧ H' = H, ?_, rfl, rfl, rfl⟩
  intro pins s σ' H' D' I h
  obtain ⟨e1, e2, e3⟩ := h
  subst e1 e2 e3
  have step : PSs X (st :: rest) (tSeq t1 fun D2 σ2 H2 => D2 = D' ∧ M σ2 H2) := pss_cons p1 fun pins s σ2 H2 D2 I2 ⟨e, m⟩ => by
    subst e
    obtain ⟨t2, p2, q2⟩ := h2 σ2 H2 m
    exact p2 pins s σ2 H2 _ I2 q2
  refine step pins s _ _ _ I ?_
  show t1 { D' with nx := fun σ2 H2 => D' = D' ∧ M σ2 H2 } _ _
  have e : (fun (σ2 : St) (H2 : Hp) => D' = D' ∧ M σ2 H2) = M := by
    funext σ2 H2
    exact propext ⟨fun z => z.2, fun z => ⟨rfl, z⟩⟩
  rw [e]
  exact q1
/-- over a list that the block leaves as it is -/
theorem comp_list {K : PySem.W.Frag} {a acc : Addr} {xs : List V} {g : TG} {tt : TT} {te : TE} {Q : VK} {τ0 : St} {H0 : Hp} (Pv : Nat → List V → St → Hp → Prop) (h0 : Pv 0 [] τ0 H0) (hl : ∀ i ys τ H, i ≤ xs.length → Pv i ys τ H → SqL K H a xs)
    (hs : ∀ i x ys τ H, xs[i]? = some x → Pv i ys τ H → g x τ H fun τ2 H4 => tt τ2 H4 fun c H5 =>
      if c = true then te τ2 H5 fun y H6 => H6 acc = some (.lst ys) ∧ ys.length < sizeLine ∧ Pv (i + 1) (ys ++ [y]) τ2 (upd H6 acc (.lst (ys ++ [y]))) else Pv (i + 1) ys τ2 H5)
    (hd : ∀ ys τ H, Pv xs.length ys τ H → Q (.ref acc) H) :
    CompInv (Itl K a) acc g tt te τ0 H0 Q := by
  refine ⟨fun i m ys τ H => m = xs.length - i ∧ i ≤ xs.length ∧ Pv i ys τ H, ⟨xs.length, by simp, Nat.zero_le _, h0⟩, ?_⟩
  rintro i m ys τ H ⟨rfl, hi, p⟩
  have q := hl i ys τ H hi p
  by_cases hlt : i < xs.length
  · refine .inr ⟨⟨xs, xs[i], q, by simp [hlt]⟩, Pv (i + 1), fun ys' τ' H' p' => ⟨xs.length - (i + 1), by omega, rfl, hlt, p'⟩, fun x H' y => ?_⟩
    obtain ⟨e, y⟩ := y
    subst e
    exact hs i x ys τ _ (y xs q) p
  · have e : i = xs.length := by omega
    subst e
    exact .inl ⟨⟨xs, q, Nat.le_refl _⟩, hd ys τ H p⟩
theorem at0 {α : Type} {x : α} {xs : List α} : atI (x :: xs) 0 = some x := atI_nat (j := 0) rfl
theorem ix0 {α : Type} {x : α} {xs : List α} : ixN (x :: xs).length 0 = some 0 := by
  unfold ixN
  rw [if_pos (Int.le_refl _), if_pos (by rw [List.length_cons]; omega)]
  rfl
theorem seq0 {α : Type} {x : α} {xs : List α} : seqIndex? 0 (x :: xs).length = some 0 := (ixN_seq ix0).1
theorem cutV_map (ns : List Int) (lo hi : Option Int) : ∃ ms : List Int, cutV (ns.map V.int) lo hi = ms.map V.int ∧ ms.length ≤ ns.length := by
  refine ⟨(ns.drop (HT.sIx (ns.map V.int).length 0 lo)).take (HT.sIx (ns.map V.int).length (ns.map V.int).length hi - HT.sIx (ns.map V.int).length 0 lo), ?_, ?_⟩
  · unfold cutV
    rw [List.map_take, List.map_drop]
  · rw [List.length_take, List.length_drop]
    omega

/-! ### the tape: big numbers that are used up, the script's cells, a count -/
def tabP : Addr := (128 : Nat)
def tabQ : Str := "cheapest_first.<locals>.<lambda>"
/-- what is known of a made code: its name -/
def codeO (c : Addr) : HO := .ext fun h => h.CodeRec (.ref c) tabQ
/-- the table of the def that makes a function: each code in it is one of its lambda's -/
structure TabAt (H : Hp) : Prop where
  ex : ∃ ps : Array Value, H tabP = some (.tbl ps) ∧ TriplesOk ps.toList ∧ ∀ pos cv, codeAmong pos ps.toList = some cv → ∃ c, cv = .ref c ∧ H c = some (codeO c)
theorem TabAt.same {H H' : Hp} (T : TabAt H) (h : ∀ a o, (∀ xs, o ≠ .lst xs) → H a = some o → H' a = some o) : TabAt H' := by
  obtain ⟨ps, e1, e2, e3⟩ := T.ex
  refine ⟨ps, h _ _ (fun xs z => nomatch z) e1, e2, fun pos cv hc => ?_⟩
  obtain ⟨c, rfl, e4⟩ := e3 pos cv hc
  exact ⟨c, rfl, h _ _ (fun xs z => nomatch z) e4⟩
/-- what may be written anew: a list, a thing of one's own, an instance, a new place -/
def Plain (H : Hp) (l : Addr) : Prop := ∀ o, H l = some o → o ≠ codeO l ∧ ∀ ps, o ≠ .tbl ps
theorem TabAt.upd {H : Hp} {l : Addr} {o : HO} (T : TabAt H) (h : Plain H l) : TabAt (upd H l o) := by
  obtain ⟨ps, e1, e2, e3⟩ := T.ex
  have n1 : tabP ≠ l := fun z => by rw [z] at e1; exact (h _ e1).2 ps rfl
  refine ⟨ps, by rw [upd_ne n1]; exact e1, e2, fun pos cv hc => ?_⟩
  obtain ⟨c, rfl, e4⟩ := e3 pos cv hc
  have n2 : c ≠ l := fun z => by subst z; exact (h _ e4).1 rfl
  exact ⟨c, rfl, by rw [upd_ne n2]; exact e4⟩
structure TapeAt (H : Hp) (t b c : Addr) : Prop where
  ex : ∃ (n : Int) (bs cs : List Int), b ≠ c ∧ H t = some (.lst [.ref b, .ref c, .int n]) ∧ H b = some (.lst (bs.map V.int)) ∧ H c = some (.lst (cs.map V.int)) ∧ bs.length ≤ 63 ∧ cs.length ≤ 63
  tab : TabAt H
theorem ints_ne {b c : Addr} {n : Int} (bs : List Int) : HO.lst [.ref b, .ref c, .int n] ≠ HO.lst (bs.map V.int) := by
  intro z
  injection z with z
  cases bs with
  | nil => cases z
  | cons x r => cases z
/-- nothing but the tape has changed -/
def OffT (t b : Addr) (H H' : Hp) : Prop := ∀ a, a ≠ t → a ≠ b → H' a = H a
theorem OffT.trans {t b : Addr} {H H1 H2 : Hp} (h : OffT t b H H1) (k : OffT t b H1 H2) : OffT t b H H2 := fun a h1 h2 => (k a h1 h2).trans (h a h1 h2)
theorem TabAt.offT {H H' : Hp} {t b : Addr} {xs ys : List V} (T : TabAt H) (ht : H t = some (.lst xs)) (hb : H b = some (.lst ys)) (off : OffT t b H H') : TabAt H' := T.same fun a o no e => by
  have n1 : a ≠ t := fun z => by rw [z, ht] at e; cases e; exact no _ rfl
  have n2 : a ≠ b := fun z => by rw [z, hb] at e; cases e; exact no _ rfl
  rw [off a n1 n2]; exact e
def spTape (K : PySem.W.Frag) : Sp := fun vs H Q _ => ∃ (a : Addr) (ns : List Int), vs = [.ref a] ∧ SqL K H a (ns.map V.int) ∧ ns.length ≤ 63 ∧ TabAt H ∧
  ∀ (t b c : Addr) (H' : Hp), TapeAt H' t b c → H t = none → H b = none → H c = none → Same H H' → Q (.ref t) H'
def spDraw : Sp := fun vs H Q _ => ∃ (t b c : Addr) (many : Int), vs = [.ref t, .int many] ∧ TapeAt H t b c ∧ 0 < many ∧ many < big ∧
  ∀ (v : Int) (H' : Hp), 0 ≤ v → v < many → TapeAt H' t b c → OffT t b H H' → Q (.int v) H'
theorem TapeAt.free {H : Hp} {t b c l : Addr} (T : TapeAt H t b c) (h : H l = none) : l ≠ t ∧ l ≠ b ∧ l ≠ c := by
  obtain ⟨n, bs, cs, n1, e1, e2, e3, l1, l2⟩ := T.ex
  exact ⟨(ne_of_none e1 h).symm, (ne_of_none e2 h).symm, (ne_of_none e3 h).symm⟩
theorem TapeAt.freeP {H : Hp} {t b c l : Addr} (T : TapeAt H t b c) (h : H l = none) : l ≠ tabP := by
  obtain ⟨ps, e1, _⟩ := T.tab.ex
  exact (ne_of_none e1 h).symm
theorem TapeAt.off {H H' : Hp} {t b c : Addr} (T : TapeAt H t b c) (h : ∀ a, a = t ∨ a = b ∨ a = c → H' a = H a) (tb : TabAt H') : TapeAt H' t b c := by
  obtain ⟨n, bs, cs, n1, e1, e2, e3, l1, l2⟩ := T.ex
  exact ⟨⟨n, bs, cs, n1, by rw [h t (.inl rfl)]; exact e1, by rw [h b (.inr (.inl rfl))]; exact e2, by rw [h c (.inr (.inr rfl))]; exact e3, l1, l2⟩, tb⟩
theorem tape_upd {H : Hp} {t b c l : Addr} {o : HO} (T : TapeAt H t b c) (h : l ≠ t ∧ l ≠ b ∧ l ≠ c) (hp : Plain H l) : TapeAt (upd H l o) t b c :=
  T.off (fun a ha => upd_ne (ha.elim (fun e => e ▸ h.1.symm) fun ha => ha.elim (fun e => e ▸ h.2.1.symm) fun e => e ▸ h.2.2.symm)) (T.tab.upd hp)
theorem notup_tbl {ps : Array Value} : ∀ ts, HO.tbl ps ≠ HO.tup ts := fun _ z => by cases z
theorem plain_new {H : Hp} {l : Addr} (h : H l = none) : Plain H l := fun o e => by rw [h] at e; cases e
theorem plain_lst {H : Hp} {l : Addr} {xs : List V} (h : H l = some (.lst xs)) : Plain H l := fun o e => by
  rw [h] at e; cases e
  exact ⟨(fun z => by cases z), fun ps z => by cases z⟩
theorem plain_ins {H : Hp} {l C dx : Addr} {fs : List (Str × V)} (h : H l = some (.ins C dx fs)) : Plain H l := fun o e => by
  rw [h] at e; cases e
  exact ⟨(fun z => by cases z), fun ps z => by cases z⟩
theorem tape_new {H : Hp} {t b c p : Addr} {o : HO} (T : TapeAt H t b c) (h : H p = none) : TapeAt (upd H p o) t b c := tape_upd T (T.free h) (plain_new h)
theorem tape_same {H H' : Hp} {t b c : Addr} (T : TapeAt H t b c) (s : Same H H') : TapeAt H' t b c := by
  obtain ⟨n, bs, cs, n1, e1, e2, e3, l1, l2⟩ := T.ex
  exact ⟨⟨n, bs, cs, n1, s _ _ e1, s _ _ e2, s _ _ e3, l1, l2⟩, T.tab.same fun a o _ e => s a o e⟩
theorem same_new {H : Hp} {p : Addr} {o : HO} (h : H p = none) : Same H (upd H p o) := fun b u e => by rw [upd_ne (ne_of_none e h)]; exact e
/-- the law's own promise: a list of at most 63 ints is handed in, True comes out -/
def spLaw (K : PySem.W.Frag) : Sp := fun vs H Q _ => ∃ (a : Addr) (ns : List Int), vs = [.ref a] ∧ SqL K H a (ns.map V.int) ∧ ns.length ≤ 63 ∧ TabAt H ∧ ∀ H', Q (.bl true) H'
/-- what the draws ask of the top -/
structure TxtT (mg : Str → Option Value) : Prop where
  abs : mg "abs" = none
  list : mg "list" = none
  len : mg "len" = none
end L2
set_option Elab.async false
set_option linter.all false
set_option maxRecDepth 100000
/-! repr, all, any; whole numbers, days, stays as data. -/
namespace L2
open PySem PySem.Spec PyProof.Rows

theorem isi_int (d : PyData) : isiD "int" d = some (isInt d) := by unfold isiD; rw [if_pos rfl]
theorem isi_bool (d : PyData) : isiD "bool" d = some (isBool d) := by unfold isiD; rw [if_neg (by decide), if_pos rfl]
theorem isi_tuple (d : PyData) : isiD "tuple" d = some (isTuple d) := by unfold isiD; rw [if_neg (by decide), if_neg (by decide), if_neg (by decide), if_neg (by decide), if_pos rfl]

/-! ### data that can be shown -/
structure Nice (n : Nat) (d : PyData) : Prop where
  shw : d.showable = true
  nod : d.hasDict = false
  dep : d.depth ≤ 8
  len : d.shown.length ≤ n
  lay : d.canLay0 = true
theorem Nice.mono {m n : Nat} {d : PyData} (h : Nice m d) (e : m ≤ n) : Nice n d := ⟨h.shw, h.nod, h.dep, Nat.le_trans h.len e, h.lay⟩
theorem textFrom_le : ∀ (ts : List Str) (k : Nat) (acc : Str), (textFrom k acc ts).length ≤ acc.length + piled ts
  | [], _, acc => by rw [piled_nil]; exact Nat.le_refl _
  | t :: r, k, acc => by
    have h := textFrom_le r (k + 1) (acc ++ (if k > 0 then ", " else "" : String) ++ t)
    rw [piled_cons]
    have e2 : (Str.ofString (if k > 0 then ", " else "" : String)).length ≤ 2 := by
      split
      · exact Nat.le_of_eq rfl
      · exact Nat.zero_le _
    have e3 := strLen_append (acc ++ Str.ofString (if k > 0 then ", " else "" : String)) t
    have e4 := strLen_append acc (Str.ofString (if k > 0 then ", " else "" : String))
    show (textFrom (k + 1) (acc ++ Str.ofString (if k > 0 then ", " else "" : String) ++ t) r).length ≤ _
    have h' : (textFrom (k + 1) (acc ++ Str.ofString (if k > 0 then ", " else "" : String) ++ t) r).length ≤ (acc ++ Str.ofString (if k > 0 then ", " else "" : String) ++ t).length + piled r := h
    omega
theorem listText_le (ts : List Str) : (listText ts).length ≤ piled ts + 2 := by
  unfold listText
  rw [strLen_append]
  have h := textFrom_le ts 0 (Str.ofString "[")
  have e1 : (Str.ofString "[").length = 1 := rfl
  have e2 : (Str.ofString "]").length = 1 := rfl
  show (textFrom 0 (Str.ofString "[") ts).length + (Str.ofString "]").length ≤ _
  omega
theorem tupleText_le (ts : List Str) : (tupleText ts).length ≤ piled ts + 3 := by
  cases ts with
  | nil => decide +kernel
  | cons t r =>
    have h := join_length_add (t :: r) (by simp)
    unfold tupleText
    rw [strLen_append, strLen_append]
    have e1 : (Str.ofString "(").length = 1 := rfl
    have e2 : (Str.ofString (if (t :: r).length == 1 then ",)" else ")" : String)).length ≤ 2 := by
      split
      · exact Nat.le_of_eq rfl
      · exact Nat.le_of_lt (show 1 < 2 by decide)
    show (Str.ofString "(").length + (Str.join ", " (t :: r)).length + (Str.ofString (if (t :: r).length == 1 then ",)" else ")" : String)).length ≤ _
    omega
theorem piled_shown {n : Nat} : ∀ (ds : List PyData), (∀ d ∈ ds, Nice n d) → piled (PyData.shownAll ds) ≤ ds.length * (n + 2)
  | [], _ => Nat.zero_le _
  | d :: r, h => by
    have h1 := (h d List.mem_cons_self).len
    have h2 := piled_shown r fun e he => h e (List.mem_cons_of_mem _ he)
    show piled (d.shown :: PyData.shownAll r) ≤ _
    rw [piled_cons, List.length_cons, Nat.succ_mul]
    omega
structure NiceAll (n : Nat) (ds : List PyData) : Prop where
  all : ∀ d ∈ ds, Nice n d
  dep : ∀ d ∈ ds, d.depth ≤ 7
theorem NiceAll.parts {n : Nat} : ∀ {ds : List PyData}, NiceAll n ds → PyData.showableAll ds = true ∧ PyData.hasDictAll ds = false ∧ PyData.depthAll ds ≤ 7 ∧ PyData.canLayAll0 ds = true
  | [], _ => ⟨rfl, rfl, Nat.zero_le _, rfl⟩
  | d :: r, h => by
    obtain ⟨a, b, c, e⟩ := NiceAll.parts (ds := r) ⟨fun x hx => h.all x (List.mem_cons_of_mem _ hx), fun x hx => h.dep x (List.mem_cons_of_mem _ hx)⟩
    have hd := h.all d List.mem_cons_self
    have hp := h.dep d List.mem_cons_self
    refine ⟨?_, ?_, ?_, ?_⟩
    · simp only [PyData.showableAll, hd.shw, a, Bool.and_self]
    · simp only [PyData.hasDictAll, hd.nod, b, Bool.or_self]
    · simp only [PyData.depthAll]; omega
    · simp only [PyData.canLayAll0, hd.lay, e, Bool.and_self]
theorem Nice.list {n m : Nat} {ds : List PyData} (h : NiceAll n ds) (e : ds.length * (n + 2) + 2 ≤ m) : Nice m (.list ds) := by
  obtain ⟨a, b, c, f⟩ := h.parts
  refine ⟨by simp only [PyData.showable, a], by simp only [PyData.hasDict, b], by simp only [PyData.depth]; omega, ?_, by simp only [PyData.canLay0, f]⟩
  show (listText (PyData.shownAll ds)).length ≤ m
  have h1 := listText_le (PyData.shownAll ds)
  have h2 := piled_shown ds h.all
  omega
theorem Nice.tuple {n m : Nat} {ds : List PyData} (h : NiceAll n ds) (e : ds.length * (n + 2) + 3 ≤ m) : Nice m (.tuple ds) := by
  obtain ⟨a, b, c, f⟩ := h.parts
  refine ⟨by simp only [PyData.showable, a], by simp only [PyData.hasDict, b], by simp only [PyData.depth]; omega, ?_, by simp only [PyData.canLay0, f]⟩
  show (tupleText (PyData.shownAll ds)).length ≤ m
  have h1 := tupleText_le (PyData.shownAll ds)
  have h2 := piled_shown ds h.all
  omega
theorem log2_int {i : Int} (h0 : -big < i) (h1 : i < big) : i.natAbs.log2 < 1920 := by
  by_cases hn : i.natAbs = 0
  · rw [hn]; decide
  · have h2 : i.natAbs < 2 ^ 256 := by
      have e : (2 : Nat) ^ 256 = 115792089237316195423570985008687907853269984665640564039457584007913129639936 := by decide +kernel
      rw [e]
      unfold big at h0 h1
      omega
    have h3 : i.natAbs.log2 < 256 := (Nat.log2_lt hn).mpr h2
    omega
theorem Nice.int {i : Int} (h0 : -big < i) (h1 : i < big) : Nice 2000 (.int i) := by
  have hl := log2_int h0 h1
  refine ⟨by simp only [PyData.showable, decide_eq_true_eq]; exact hl, rfl, Nat.zero_le _, ?_, rfl⟩
  have := int_text_len_1921 hl
  show (Str.ofString (toString i)).length ≤ 2000
  omega
theorem Nice.none : Nice 2000 .none := ⟨rfl, rfl, Nat.zero_le _, by decide +kernel, rfl⟩
theorem Nice.bool (b : Bool) : Nice 2000 (.bool b) := ⟨rfl, rfl, Nat.zero_le _, by cases b <;> decide +kernel, rfl⟩
theorem Nice.shaped {n : Nat} {d : PyData} (h : Nice n d) : SeqAt.shaped d = true := by
  unfold SeqAt.shaped
  rw [h.lay, Bool.true_and, decide_eq_true_eq]
  have := h.dep
  omega

section
variable {X : Cx}
/-! ### all, any of a list of truths -/
end

/-! ### days, stretches, stays, of data -/
def wholeD : PyData → Bool
  | .int _ => true
  | _ => false
def withinD (lo hi : Int) : PyData → Bool
  | .int i => decide (lo ≤ i) && decide (i ≤ hi)
  | _ => false
def pairD : PyData → Bool
  | .tuple ds => decide ((ds.length : Int) = 2)
  | _ => false
abbrev dayD : PyData → Bool := withinD 0 1000000
def daysD : PyData → Bool
  | .tuple [a, b] => dayD a && dayD b
  | _ => false
/-- by how much the second of two days is greater -/
def farD : PyData → Option Int
  | .tuple [.int a, .int b] => if dayD (.int a) && dayD (.int b) then some (b - a) else none
  | _ => none
def stretchD (d : PyData) : Bool := match farD d with
  | some k => decide (0 ≤ k)
  | none => false
def stayD (d : PyData) : Bool := match farD d with
  | some k => decide (1 ≤ k) && decide (k ≤ 14)
  | none => false
theorem wholeD_eq (d : PyData) : wholeD d = (isInt d && !isBool d) := by cases d <;> rfl
theorem pairD_tuple {d : PyData} (h : pairD d = true) : ∃ a b, d = .tuple [a, b] := by
  cases d with
  | tuple ds =>
    have h' : (ds.length : Int) = 2 := of_decide_eq_true h
    match ds, h' with
    | [a, b], _ => exact ⟨a, b, rfl⟩
    | [], z => simp at z
    | [_], z => simp at z
    | _ :: _ :: _ :: _, z => simp at z; omega
  | _ => cases h
theorem daysD_pair (d : PyData) : daysD d = (farD d).isSome := by
  unfold daysD farD
  split
  · rename_i a b
    cases a with
    | int i =>
      cases b with
      | int j =>
        show (dayD (.int i) && dayD (.int j)) = _
        cases e : (dayD (.int i) && dayD (.int j)) <;> simp [e]
      | _ => simp [withinD]
    | _ => simp [withinD]
  · rename_i h
    split
    · rename_i a b
      exact absurd rfl (h (.int a) (.int b))
    · rfl
theorem daysD_ints {d : PyData} (h : daysD d = true) : ∃ a b : Int, d = .tuple [.int a, .int b] ∧ farD d = some (b - a) := by
  rw [daysD_pair] at h
  unfold farD at h ⊢
  split at h
  · rename_i a b
    split at h
    · rename_i hc
      exact ⟨a, b, rfl, by simp [hc]⟩
    · cases h
  · cases h
/-- a promise of a pure question -/
def spPred (g : PyData → Bool) : Sp := fun vs H Q _ => ∃ x d, vs = [x] ∧ DV H x d ∧ Q (.bl (g d)) H
def spWithin : Sp := fun vs H Q _ => ∃ x d lo hi, vs = [x, .int lo, .int hi] ∧ DV H x d ∧ Q (.bl (withinD lo hi d)) H
theorem dec_len {n : Nat} : decide (V.int (n : Int) = V.int 2) = decide ((n : Int) = 2) := by simp
end L2
namespace L2
open PySem PySem.Spec PyProof.Rows
/-! ### parts of a heap -/
noncomputable def sub (p : Addr → Prop) (H : Hp) : Hp := fun a => open Classical in if p a then H a else none
theorem sub_some {p : Addr → Prop} {H : Hp} {a : Addr} {o : HO} (h : sub p H a = some o) : p a ∧ H a = some o := by
  unfold sub at h
  split at h
  · rename_i hp; exact ⟨hp, h⟩
  · cases h
theorem sub_of {p : Addr → Prop} {H : Hp} {a : Addr} {o : HO} (hp : p a) (h : H a = some o) : sub p H a = some o := by
  unfold sub
  rw [if_pos hp]
  exact h
theorem same_sub {p q : Addr → Prop} {H H' : Hp} (h : ∀ a o, p a → H a = some o → q a ∧ H' a = some o) : Same (sub p H) (sub q H') := fun a o e => by
  obtain ⟨hp, he⟩ := sub_some e
  obtain ⟨hq, he'⟩ := h a o hp he
  exact sub_of hq he'
theorem sub_same {p : Addr → Prop} {H : Hp} : Same (sub p H) H := fun _ _ e => (sub_some e).2
/-- what is new in H' -/
noncomputable abbrev nu (H H' : Hp) : Hp := sub (fun a => H a = none) H'
/-- all but the tape is kept -/
def KpT (t b : Addr) (H H' : Hp) : Prop := ∀ a o, a ≠ t → a ≠ b → H a = some o → H' a = some o
theorem KpT.trans {t b : Addr} {H H1 H2 : Hp} (h : KpT t b H H1) (k : KpT t b H1 H2) : KpT t b H H2 := fun a o n1 n2 e => k a o n1 n2 (h a o n1 n2 e)
theorem KpT.of_off {t b : Addr} {H H' : Hp} (h : OffT t b H H') : KpT t b H H' := fun a o n1 n2 e => by rw [h a n1 n2]; exact e
theorem KpT.of_same {t b : Addr} {H H' : Hp} (h : Same H H') : KpT t b H H' := fun a o _ _ e => h a o e
/-- an address that is free behind was free ahead -/
theorem KpT.free {t b c : Addr} {H H' : Hp} (h : KpT t b H H') (T : TapeAt H' t b c) {a : Addr} (e : H' a = none) : H a = none := by
  obtain ⟨n1, n2, n3⟩ := T.free e
  cases q : H a with
  | none => rfl
  | some o => rw [h a o n1 n2 q] at e; cases e
/-- a value that reads as a datum in every heap -/
def Flat (v : V) : Prop := ∃ d, (∀ H, DV H v d) ∧ Nice 2000 d ∧ d.depth = 0
theorem NiceAll.snoc {n : Nat} {ds : List PyData} {d : PyData} (h : NiceAll n ds) (hd : Nice n d) (hp : d.depth ≤ 7) : NiceAll n (ds ++ [d]) :=
  ⟨fun e he => (List.mem_append.mp he).elim (h.all e) fun z => by rw [List.mem_singleton.mp z]; exact hd, fun e he => (List.mem_append.mp he).elim (h.dep e) fun z => by rw [List.mem_singleton.mp z]; exact hp⟩
theorem NiceAll.nil {n : Nat} : NiceAll n [] := ⟨fun d hd => by simp at hd, fun d hd => by simp at hd⟩
theorem NiceAll.two {n : Nat} {d e : PyData} (hd : Nice n d) (he : Nice n e) (h1 : d.depth ≤ 7) (h2 : e.depth ≤ 7) : NiceAll n [d, e] := (NiceAll.nil.snoc hd h1).snoc he h2
end L2
set_option Elab.async false
set_option linter.all false
set_option maxRecDepth 100000
/-! THE DATA LAYER: code read as data, without heaps. -/
namespace L2
open PySem PySem.Spec PyProof.Rows

/-! ### whatever reading fits -/
section
variable {X : Cx} {e : Expr} {es : List Expr}
def eAny (X : Cx) (e : Expr) : TE := fun σ H Q => ∃ t, PE X e t ∧ t σ H Q
theorem pe_eAny : PE X e (eAny X e) := fun pins s σ H Q I ⟨t, p, q⟩ => p pins s σ H Q I q
def cAny (X : Cx) (e : Expr) : TT := fun σ H Q => ∃ t, PT X e t ∧ t σ H Q
theorem pt_cAny : PT X e (cAny X e) := fun pins s σ H Q I ⟨t, p, q⟩ => p pins s σ H Q I q
def aAny (X : Cx) (es : List Expr) : TA := fun σ H Q => ∃ t, PA X es t ∧ t σ H Q
theorem pa_aAny : PA X es (aAny X es) := fun pos pins s σ H Q I ⟨t, p, q⟩ => p pos pins s σ H Q I q
end

/-! ### values as data; an instance is a dict that begins with its class -/
mutual
inductive AV (H : Hp) : V → PyData → Prop where
  | non : AV H .non .none
  | bl (b : Bool) : AV H (.bl b) (.bool b)
  | int (i : Int) : AV H (.int i) (.int i)
  | str (x : Str) : AV H (.str x) (.str x)
  | lst {a : Addr} {xs : List V} {ds : List PyData} : H a = some (.lst xs) → AVs H xs ds → AV H (.ref a) (.list ds)
  | tup {a : Addr} {xs : List V} {ds : List PyData} : H a = some (.tup xs) → AVs H xs ds → AV H (.ref a) (.tuple ds)
  | ins {a C dx : Addr} {fs : List (Str × V)} {ds : List (PyData × PyData)} : H a = some (.ins C dx fs) → AVf H fs ds → AV H (.ref a) (.dict ((.int (C : Nat), .none) :: ds))
inductive AVs (H : Hp) : List V → List PyData → Prop where
  | nil : AVs H [] []
  | cons {x : V} {xs : List V} {d : PyData} {ds : List PyData} : AV H x d → AVs H xs ds → AVs H (x :: xs) (d :: ds)
inductive AVf (H : Hp) : List (Str × V) → List (PyData × PyData) → Prop where
  | nil : AVf H [] []
  | cons {f : Str} {x : V} {fs : List (Str × V)} {d : PyData} {ds : List (PyData × PyData)} : AV H x d → AVf H fs ds → AVf H ((f, x) :: fs) ((.str f, d) :: ds)
end
mutual
theorem AV.same {H H' : Hp} (e : Same H H') : ∀ {x : V} {d : PyData}, AV H x d → AV H' x d
  | _, _, .non => .non
  | _, _, .bl b => .bl b
  | _, _, .int i => .int i
  | _, _, .str x => .str x
  | _, _, .lst hq hs => .lst (e _ _ hq) (AVs.same e hs)
  | _, _, .tup hq hs => .tup (e _ _ hq) (AVs.same e hs)
  | _, _, .ins hq hs => .ins (e _ _ hq) (AVf.same e hs)
theorem AVs.same {H H' : Hp} (e : Same H H') : ∀ {xs : List V} {ds : List PyData}, AVs H xs ds → AVs H' xs ds
  | _, _, .nil => .nil
  | _, _, .cons h hs => .cons (AV.same e h) (AVs.same e hs)
theorem AVf.same {H H' : Hp} (e : Same H H') : ∀ {fs : List (Str × V)} {ds : List (PyData × PyData)}, AVf H fs ds → AVf H' fs ds
  | _, _, .nil => .nil
  | _, _, .cons h hs => .cons (AV.same e h) (AVf.same e hs)
end
mutual
theorem AV.dv {H : Hp} : ∀ {x : V} {d : PyData}, AV H x d → d.hasDict = false → DV H x d
  | _, _, .non, _ => .non
  | _, _, .bl b, _ => .bl b
  | _, _, .int i, _ => .int i
  | _, _, .str x, _ => .str x
  | _, _, .lst hq hs, h => .lst hq (AVs.dv hs (by simpa only [PyData.hasDict] using h))
  | _, _, .tup hq hs, h => .tup hq (AVs.dv hs (by simpa only [PyData.hasDict] using h))
  | _, _, .ins hq hs, h => by simp [PyData.hasDict] at h
theorem AVs.dv {H : Hp} : ∀ {xs : List V} {ds : List PyData}, AVs H xs ds → PyData.hasDictAll ds = false → DVs H xs ds
  | _, _, .nil, _ => .nil
  | _, _, .cons h hs, e => by
    simp only [PyData.hasDictAll, Bool.or_eq_false_iff] at e
    exact .cons (AV.dv h e.1) (AVs.dv hs e.2)
end
mutual
theorem DV.av {H : Hp} : ∀ {x : V} {d : PyData}, DV H x d → AV H x d
  | _, _, .non => .non
  | _, _, .bl b => .bl b
  | _, _, .int i => .int i
  | _, _, .str x => .str x
  | _, _, .lst hq hs => .lst hq (DVs.av hs)
  | _, _, .tup hq hs => .tup hq (DVs.av hs)
theorem DVs.av {H : Hp} : ∀ {xs : List V} {ds : List PyData}, DVs H xs ds → AVs H xs ds
  | _, _, .nil => .nil
  | _, _, .cons h hs => .cons (DV.av h) (DVs.av hs)
end
theorem AVs.length {H : Hp} : ∀ {xs : List V} {ds : List PyData}, AVs H xs ds → xs.length = ds.length
  | _, _, .nil => rfl
  | _, _, .cons _ hs => by rw [List.length_cons, List.length_cons, AVs.length hs]
theorem AVs.append {H : Hp} : ∀ {xs ys : List V} {ds es : List PyData}, AVs H xs ds → AVs H ys es → AVs H (xs ++ ys) (ds ++ es)
  | _, _, _, _, .nil, h => h
  | _, _, _, _, .cons a r, h => .cons a (AVs.append r h)
theorem AVs.get {H : Hp} : ∀ {xs : List V} {ds : List PyData} {i : Nat} {d : PyData}, AVs H xs ds → ds[i]? = some d → ∃ x, xs[i]? = some x ∧ AV H x d
  | _, _, _, _, .nil, e => by simp at e
  | _, _, 0, _, .cons a _, e => by simp at e; subst e; exact ⟨_, rfl, a⟩
  | _, _, i + 1, d, .cons _ r, e => by
    obtain ⟨x, h1, h2⟩ := AVs.get (i := i) (d := d) r (by simpa using e)
    exact ⟨x, by simpa using h1, h2⟩
theorem AVs.take {H : Hp} : ∀ {xs : List V} {ds : List PyData} (n : Nat), AVs H xs ds → AVs H (xs.take n) (ds.take n)
  | _, _, 0, _ => .nil
  | _, _, _ + 1, .nil => .nil
  | _, _, n + 1, .cons a r => .cons a (AVs.take n r)
theorem AVs.drop {H : Hp} : ∀ {xs : List V} {ds : List PyData} (n : Nat), AVs H xs ds → AVs H (xs.drop n) (ds.drop n)
  | _, _, 0, r => r
  | _, _, _ + 1, .nil => .nil
  | _, _, n + 1, .cons _ r => AVs.drop n r
theorem AVs.set {H : Hp} {x : V} {d : PyData} (a : AV H x d) : ∀ {xs : List V} {ds : List PyData} (i : Nat), AVs H xs ds → AVs H (xs.set i x) (ds.set i d)
  | _, _, _, .nil => .nil
  | _, _, 0, .cons _ r => .cons a r
  | _, _, i + 1, .cons q r => .cons q (AVs.set a i r)
theorem AVs.atI {H : Hp} {xs : List V} {ds : List PyData} {i : Int} {d : PyData} (h : AVs H xs ds) (e : atI ds i = some d) : ∃ x, L2.atI xs i = some x ∧ AV H x d := by
  unfold L2.atI at e ⊢
  rw [h.length]
  cases q : ixN ds.length i with
  | none => rw [q] at e; cases e
  | some j =>
    rw [q] at e
    exact h.get (i := j) e
def cutD (ds : List PyData) (lo hi : Option Int) : List PyData := (ds.drop (HT.sIx ds.length 0 lo)).take (HT.sIx ds.length ds.length hi - HT.sIx ds.length 0 lo)
theorem AVs.cut {H : Hp} {xs : List V} {ds : List PyData} (h : AVs H xs ds) (lo hi : Option Int) : AVs H (cutV xs lo hi) (cutD ds lo hi) := by
  unfold cutV cutD
  rw [h.length]
  exact (h.drop _).take _
/-! no list within -/
mutual
def noL : PyData → Bool
  | .list _ => false
  | .dict kvs => noLk kvs
  | .tuple ds => noLs ds
  | _ => true
def noLs : List PyData → Bool
  | [] => true
  | d :: r => noL d && noLs r
def noLk : List (PyData × PyData) → Bool
  | [] => true
  | (_, d) :: r => noL d && noLk r
end
mutual
theorem AV.noL {H H' : Hp} (e : ∀ a o, (∀ xs, o ≠ .lst xs) → H a = some o → H' a = some o) : ∀ {x : V} {d : PyData}, AV H x d → noL d = true → AV H' x d
  | _, _, .non, _ => .non
  | _, _, .bl b, _ => .bl b
  | _, _, .int i, _ => .int i
  | _, _, .str x, _ => .str x
  | _, _, .lst _ _, h => by simp [L2.noL] at h
  | _, _, .tup hq hs, h => .tup (e _ _ (fun _ z => by cases z) hq) (AVs.noL e hs (by simpa only [L2.noL] using h))
  | _, _, .ins hq hs, h => .ins (e _ _ (fun _ z => by cases z) hq) (AVf.noL e hs (by simpa [L2.noL, L2.noLk] using h))
theorem AVs.noL {H H' : Hp} (e : ∀ a o, (∀ xs, o ≠ .lst xs) → H a = some o → H' a = some o) : ∀ {xs : List V} {ds : List PyData}, AVs H xs ds → noLs ds = true → AVs H' xs ds
  | _, _, .nil, _ => .nil
  | _, _, .cons h hs, q => by
    simp only [L2.noLs, Bool.and_eq_true] at q
    exact .cons (AV.noL e h q.1) (AVs.noL e hs q.2)
theorem AVf.noL {H H' : Hp} (e : ∀ a o, (∀ xs, o ≠ .lst xs) → H a = some o → H' a = some o) : ∀ {fs : List (Str × V)} {ds : List (PyData × PyData)}, AVf H fs ds → noLk ds = true → AVf H' fs ds
  | _, _, .nil, _ => .nil
  | _, _, .cons h hs, q => by
    simp only [L2.noLk, Bool.and_eq_true] at q
    exact .cons (AV.noL e h q.1) (AVf.noL e hs q.2)
end

/-! ### the abstract state -/
/-- a name holds a datum (never written), a list of its own (that may be written), the tape -/
inductive A where
  | dat (d : PyData)
  | own (ds : List PyData)
  | tape
  | at (l : Addr)
abbrev Ev := List (Option A)
/-- H0: what is known at the entry; O0: what others own; tp: the tape -/
structure Fr where
  H0 : Hp
  O0 : Addr → Prop
  tp : Option (Addr × Addr × Addr)
def NoTup (o : HO) : Prop := ∀ ts, o ≠ .tup ts
theorem notup_lst {xs : List V} : NoTup (.lst xs) := fun _ z => by cases z
def NT (F : Fr) (x : Addr) : Prop := ∀ t b c, F.tp = some (t, b, c) → x ≠ t ∧ x ≠ b ∧ x ≠ tabP
def Kz (F : Fr) (H H' : Hp) : Prop := ∀ x o, H x = some o → NT F x → H' x = some o
structure TpOk (F : Fr) (H : Hp) : Prop where
  has : F.tp ≠ none
  all : ∀ t b c, F.tp = some (t, b, c) → TapeAt H t b c ∧ F.O0 t ∧ F.O0 b ∧ F.O0 c ∧ F.O0 tabP
instance {F : Fr} {H : Hp} : CoeFun (TpOk F H) (fun _ => ∀ t b c, F.tp = some (t, b, c) → TapeAt H t b c ∧ F.O0 t ∧ F.O0 b ∧ F.O0 c ∧ F.O0 tabP) := ⟨TpOk.all⟩
theorem TpOk.tab {F : Fr} {H : Hp} (t : TpOk F H) : TabAt H := by
  cases e : F.tp with
  | none => exact absurd e t.has
  | some q => obtain ⟨a, b, c⟩ := q; exact (t a b c e).1.tab
def Ow (F : Fr) (α : Ev) (σ : St) (x : Addr) : Prop := F.O0 x ∨ ∃ (i : Nat) (ds : List PyData), α[i]? = some (some (.own ds)) ∧ σ[i]? = some (some (.ref x))
noncomputable abbrev Gz (F : Fr) (α : Ev) (σ : St) (H : Hp) : Hp := sub (fun x => ¬ Ow F α σ x) H
structure M (F : Fr) (α : Ev) (σ : St) (H : Hp) : Prop where
  len : α.length = σ.length
  dat : ∀ (i : Nat) (d : PyData), α[i]? = some (some (.dat d)) → ∃ v, σ[i]? = some (some v) ∧ AV (Gz F α σ H) v d
  own : ∀ (i : Nat) (ds : List PyData), α[i]? = some (some (.own ds)) → ∃ l xs, σ[i]? = some (some (.ref l)) ∧ H l = some (.lst xs) ∧ AVs (Gz F α σ H) xs ds ∧ ¬ F.O0 l ∧ F.H0 l = none
  inj : ∀ (i j : Nat) (ds es : List PyData) (l : Addr), α[i]? = some (some (.own ds)) → α[j]? = some (some (.own es)) → σ[i]? = some (some (.ref l)) → σ[j]? = some (some (.ref l)) → i = j
  tvar : ∀ (i : Nat), α[i]? = some (some .tape) → ∃ t b c, F.tp = some (t, b, c) ∧ σ[i]? = some (some (.ref t))
  atv : ∀ (i : Nat) (l : Addr), α[i]? = some (some (.at l)) → σ[i]? = some (some (.ref l))
  tp : TpOk F H
  keep : Kz F F.H0 H
  oex : ∀ x, F.O0 x → ∃ o, H x = some o ∧ NoTup o
section
variable {F : Fr} {α : Ev} {σ : St} {H H' H'' : Hp}
theorem Kz.refl : Kz F H H := fun _ _ e _ => e
theorem Kz.trans (h : Kz F H H') (k : Kz F H' H'') : Kz F H H'' := fun x o e n => k x o (h x o e n) n
theorem Kz.of_same (h : Same H H') : Kz F H H' := fun x o e _ => h x o e
theorem TpOk.same (t : TpOk F H) (h : Same H H') : TpOk F H' := ⟨t.has, fun a b c e => ⟨tape_same (t a b c e).1 h, (t a b c e).2⟩⟩
theorem TpOk.nt (t : TpOk F H) {x : Addr} (h : ¬ F.O0 x) : NT F x := fun a b c e => ⟨fun z => h (z ▸ (t a b c e).2.1), fun z => h (z ▸ (t a b c e).2.2.1), fun z => h (z ▸ (t a b c e).2.2.2.2)⟩
theorem ow0 {x : Addr} (h : ¬ Ow F α σ x) : ¬ F.O0 x := fun z => h (.inl z)
theorem Kz.gz (k : Kz F H H') (t : TpOk F H) : Same (Gz F α σ H) (Gz F α σ H') := same_sub fun a o h e => ⟨h, k a o e (t.nt (ow0 h))⟩
theorem M.kz (m : M F α σ H) (k : Kz F H H') (t : TpOk F H') : M F α σ H' where
  len := m.len
  dat := fun i d e => by
    obtain ⟨v, h1, h2⟩ := m.dat i d e
    exact ⟨v, h1, h2.same (k.gz m.tp)⟩
  own := fun i ds e => by
    obtain ⟨l, xs, h1, h2, h3, h4, h5⟩ := m.own i ds e
    exact ⟨l, xs, h1, k _ _ h2 (m.tp.nt h4), h3.same (k.gz m.tp), h4, h5⟩
  inj := m.inj
  tvar := m.tvar
  atv := m.atv
  tp := t
  keep := m.keep.trans k
  oex := fun x hx => by
    by_cases n : NT F x
    · obtain ⟨o, ho, hn⟩ := m.oex x hx
      exact ⟨o, k _ _ ho n, hn⟩
    · simp only [NT, Classical.not_forall] at n
      obtain ⟨a, b, c, e, z⟩ := n
      obtain ⟨n, bs, cs, _, e1, e2, e3, _⟩ := (t a b c e).1.ex
      by_cases xa : x = a
      · exact ⟨_, xa ▸ e1, notup_lst⟩
      · by_cases xb : x = b
        · exact ⟨_, xb ▸ e2, notup_lst⟩
        · by_cases xp : x = tabP
          · obtain ⟨ps, p1, _⟩ := (t a b c e).1.tab.ex
            exact ⟨_, xp ▸ p1, notup_tbl⟩
          · exact absurd ⟨xa, xb, xp⟩ z
theorem M.fresh (m : M F α σ H) {l : Addr} (h : H l = none) : ¬ Ow F α σ l := by
  rintro (z | ⟨i, ds, e1, e2⟩)
  · obtain ⟨o, ho, _⟩ := m.oex l z
    rw [h] at ho; cases ho
  · obtain ⟨l', xs, h1, h2, _⟩ := m.own i ds e1
    rw [e2] at h1; cases h1
    rw [h] at h2; cases h2
theorem M.fresh0 (m : M F α σ H) {l : Addr} (h : H l = none) : F.H0 l = none := by
  cases q : F.H0 l with
  | none => rfl
  | some o => rw [m.keep l o q (m.tp.nt fun z => m.fresh h (.inl z))] at h; cases h
/-- what stood at the entry and is nobody's is there as it was -/
theorem M.old (m : M F α σ H) : Same (sub (fun x => ¬ F.O0 x) F.H0) (Gz F α σ H) := fun a o e => by
  obtain ⟨h1, h2⟩ := sub_some e
  refine sub_of ?_ (m.keep a o h2 (m.tp.nt h1))
  rintro (z | ⟨i, ds, e1, e2⟩)
  · exact h1 z
  · obtain ⟨l', xs, g1, g2, g3, g4, g5⟩ := m.own i ds e1
    rw [e2] at g1; cases g1
    rw [h2] at g5; cases g5
/-- the frozen part is taken up into what is known -/
noncomputable def Fr.up (F : Fr) (G : Hp) : Fr := { F with H0 := fun x => (F.H0 x).or (G x) }
theorem M.up (m : M F α σ H) : M (F.up (Gz F α σ H)) α σ H where
  len := m.len
  dat := m.dat
  own := fun i ds e => by
    obtain ⟨l, xs, h1, h2, h3, h4, h5⟩ := m.own i ds e
    refine ⟨l, xs, h1, h2, h3, h4, ?_⟩
    show (F.H0 l).or (Gz F α σ H l) = none
    rw [h5]
    show Gz F α σ H l = none
    cases q : Gz F α σ H l with
    | none => rfl
    | some o => exact absurd (.inr ⟨i, ds, e, h1⟩) (sub_some q).1
  inj := m.inj
  tvar := m.tvar
  atv := m.atv
  tp := ⟨m.tp.has, m.tp.all⟩
  keep := fun x o e n => by
    have e' : (F.H0 x).or (Gz F α σ H x) = some o := e
    cases q : F.H0 x with
    | none => rw [q, Option.none_or] at e'; exact (sub_some e').2
    | some o' => rw [q] at e'; cases e'; exact m.keep x _ q n
  oex := m.oex
theorem up_some {G : Hp} {x : Addr} {o : HO} (h : F.H0 x = some o) : (F.up G).H0 x = some o := by show (F.H0 x).or (G x) = some o; rw [h]; rfl
theorem M.down {G : Hp} (m : M (F.up G) α σ H) : M F α σ H where
  len := m.len
  dat := m.dat
  own := fun i ds e => by
    obtain ⟨l, xs, h1, h2, h3, h4, h5⟩ := m.own i ds e
    refine ⟨l, xs, h1, h2, h3, h4, ?_⟩
    cases q : F.H0 l with
    | none => rfl
    | some o => rw [up_some q] at h5; cases h5
  inj := m.inj
  tvar := m.tvar
  atv := m.atv
  tp := ⟨m.tp.has, m.tp.all⟩
  keep := fun x o e n => m.keep x o (up_some e) n
  oex := m.oex
/-- what was frozen when it was taken up is frozen -/
theorem M.upold {α0 : Ev} {σ0 : St} {H1 : Hp} (m0 : M F α0 σ0 H1) (m : M (F.up (Gz F α0 σ0 H1)) α σ H) : Same (Gz F α0 σ0 H1) (Gz F α σ H) := fun a o e => by
  obtain ⟨h1, h2⟩ := sub_some e
  have e0 : (F.up (Gz F α0 σ0 H1)).H0 a = some o := by
    show (F.H0 a).or (Gz F α0 σ0 H1 a) = some o
    cases q : F.H0 a with
    | none => exact e
    | some o' =>
      have := m0.keep a o' q (m0.tp.nt (ow0 h1))
      rw [h2] at this; cases this; rfl
  exact m.old a o (sub_of (p := fun x => ¬ F.O0 x) (ow0 h1) e0)
end
/-- a fresh list -/
def FreshL (F : Fr) (α : Ev) (σ : St) (H : Hp) (v : V) (H' : Hp) (ds : List PyData) : Prop :=
  ∃ l xs, v = .ref l ∧ H l = none ∧ H' l = some (.lst xs) ∧ AVs (sub (fun x => ¬ Ow F α σ x ∧ x ≠ l) H') xs ds
theorem FreshL.av {F : Fr} {α : Ev} {σ : St} {H H' : Hp} {v : V} {ds : List PyData} (m : M F α σ H) (h : FreshL F α σ H v H' ds) : AV (Gz F α σ H') v (.list ds) := by
  obtain ⟨l, xs, rfl, h1, h2, h3⟩ := h
  exact .lst (sub_of (m.fresh h1) h2) (h3.same (same_sub fun a o h e => ⟨h.1, e⟩))
section
variable (X : Cx) (α : Ev)
/-- e gives a datum of which Q holds -/
def EvD (e : Expr) (Q : PyData → Prop) : Prop := ∀ (F : Fr) (σ : St) (H : Hp) (R : VK), M F α σ H → (∀ d v H', Q d → TpOk F H' → Kz F H H' → AV (Gz F α σ H') v d → R v H') → eAny X e σ H R
/-- e gives a new list -/
def EvL (e : Expr) (Q : List PyData → Prop) : Prop := ∀ (F : Fr) (σ : St) (H : Hp) (R : VK), M F α σ H → (∀ ds v H', Q ds → TpOk F H' → Kz F H H' → FreshL F α σ H v H' ds → R v H') → eAny X e σ H R
/-- a test -/
def EvT (e : Expr) (Q : Bool → Prop) : Prop := ∀ (F : Fr) (σ : St) (H : Hp) (R : Bool → Hp → Prop), M F α σ H → (∀ b H', Q b → TpOk F H' → Kz F H H' → R b H') → cAny X e σ H R
/-- arguments -/
def ArgV (F : Fr) (G : Hp) (v : V) : A → Prop
  | .dat d => AV G v d
  | .own _ => False
  | .tape => ∃ t b c, F.tp = some (t, b, c) ∧ v = .ref t
  | .at _ => False
inductive ArgsV (F : Fr) (G : Hp) : List V → List A → Prop where
  | nil : ArgsV F G [] []
  | cons {v : V} {vs : List V} {a : A} {as : List A} : ArgV F G v a → ArgsV F G vs as → ArgsV F G (v :: vs) (a :: as)
def EvA (es : List Expr) (Q : List A → Prop) : Prop := ∀ (F : Fr) (σ : St) (H : Hp) (R : List V → Hp → Prop), M F α σ H → (∀ as vs H', Q as → TpOk F H' → Kz F H H' → ArgsV F (Gz F α σ H') vs as → R vs H') → aAny X es σ H R
end
theorem ArgV.same {F : Fr} {G G' : Hp} (s : Same G G') {v : V} : ∀ {a : A}, ArgV F G v a → ArgV F G' v a
  | .dat _, h => AV.same s h
  | .own _, h => h
  | .tape, h => h
  | .at _, h => h
theorem ArgsV.same {F : Fr} {G G' : Hp} (s : Same G G') : ∀ {vs : List V} {as : List A}, ArgsV F G vs as → ArgsV F G' vs as
  | _, _, .nil => .nil
  | _, _, .cons h r => .cons (h.same s) (ArgsV.same s r)
theorem ArgsV.length {F : Fr} {G : Hp} : ∀ {vs : List V} {as : List A}, ArgsV F G vs as → vs.length = as.length
  | _, _, .nil => rfl
  | _, _, .cons _ r => by rw [List.length_cons, List.length_cons, ArgsV.length r]

/-! ### the end of a call -/
def A.d : A → PyData
  | .dat d => d
  | .own ds => .list ds
  | .tape => .none
  | .at _ => .none
def RetOk (F : Fr) (v : V) (H' : Hp) (a : A) : Prop := TpOk F H' ∧ Kz F F.H0 H' ∧ match a with
  | .dat d => AV (sub (fun x => ¬ F.O0 x) H') v d
  | .own ds => ∃ l xs, v = .ref l ∧ F.H0 l = none ∧ ¬ F.O0 l ∧ H' l = some (.lst xs) ∧ AVs (sub (fun x => ¬ F.O0 x ∧ x ≠ l) H') xs ds
  | .tape => False
  | .at _ => False
/-- a promise in terms of data -/
def spA (φ : List A → (A → Prop) → Prop) : Sp := fun vs H Qc _ => ∃ (F : Fr) (as : List A) (Q : A → Prop), F.H0 = H ∧ TpOk F H ∧ (∀ x, F.O0 x → ∃ o, H x = some o ∧ NoTup o) ∧ ArgsV F (sub (fun x => ¬ F.O0 x) H) vs as ∧ φ as Q ∧ ∀ a v H', Q a → RetOk F v H' a → Qc v H'

/-! ### statements -/
structure AEnds where
  nx : Ev → Prop
  rt : A → Prop
  bk : Ev → Prop := fun _ => False
  ct : Ev → Prop := fun _ => False
structure ERel (F : Fr) (E : AEnds) (D : Ends) : Prop where
  nx : ∀ α σ H, M F α σ H → E.nx α → D.nx σ H
  rt : ∀ a v H, RetOk F v H a → E.rt a → D.rt v H
  bk : ∀ α σ H, M F α σ H → E.bk α → D.bk σ H
  ct : ∀ α σ H, M F α σ H → E.ct α → D.ct σ H
def SvS (X : Cx) (α : Ev) (sts : List Stmt) (E : AEnds) : Prop := ∀ (F : Fr) (σ : St) (H : Hp) (D : Ends), M F α σ H → ERel F E D → tAny X sts D σ H
theorem ERel.up {F : Fr} {G : Hp} {E : AEnds} {D : Ends} (e : ERel F E D) : ERel (F.up G) E D where
  nx := fun α σ H m q => e.nx α σ H m.down q
  bk := fun α σ H m q => e.bk α σ H m.down q
  ct := fun α σ H m q => e.ct α σ H m.down q
  rt := fun a v H r q => e.rt a v H (by
    obtain ⟨t, k, r⟩ := r
    refine ⟨⟨t.has, t.all⟩, fun x o e n => k x o (up_some e) n, ?_⟩
    cases a with
    | dat d => exact r
    | own ds =>
      obtain ⟨l, xs, h1, h2, h3⟩ := r
      refine ⟨l, xs, h1, ?_, h3⟩
      cases q : F.H0 l with
      | none => rfl
      | some o => rw [up_some q] at h2; cases h2
    | tape => exact r
    | «at» _ => exact r) q
end L2
set_option Elab.async false
set_option linter.all false
set_option maxRecDepth 100000
/-! The data layer's rules for expressions. -/
namespace L2
open PySem PySem.Spec PyProof.Rows
section
variable {X : Cx} {α : Ev} {e a b c : Expr} {es : List Expr} {pos p q : Pos} {Q : PyData → Prop}
theorem EvL.d (h : EvL X α e (fun ds => Q (.list ds))) : EvD X α e Q := fun F σ H R m k => h F σ H R m fun ds v H' q t z f => k _ v H' q t z (f.av m)
theorem EvD.imp {Q' : PyData → Prop} (h : EvD X α e Q') (k : ∀ d, Q' d → Q d) : EvD X α e Q := fun F σ H R m r => h F σ H R m fun d v H' q => r d v H' (k d q)
/-! names and constants -/
theorem ev_var (i : Nat) {x : Str} {d : PyData} (hi : α[i]? = some (some (.dat d))) (q : Q d) (hN : X.N[i]? = some x := by rfl) (hv : Vis X.env.scope x := by first | exact Or.inl rfl | exact Or.inr (Or.inl rfl) | exact Or.inr (Or.inr rfl))
    (hd : (x == ("__debug__" : Str)) = false := by decide) (hcd : (x == ("__classdict__" : Str)) = false := by decide) : EvD X α (.Name x pos) Q := fun F σ H R m k => by
  obtain ⟨v, h1, h2⟩ := m.dat i d hi
  exact ⟨_, pe_var hN hv hd hcd, v, h1, k d v H q m.tp Kz.refl h2⟩
theorem ev_int {i : Int} {j : Nat} (q : Q (.int i)) : EvD X α (.Constant (.int i) j pos) Q := fun F σ H R m k => ⟨_, pe_int, k _ _ H q m.tp Kz.refl (.int i)⟩
theorem ev_bl {i : Bool} {j : Nat} (q : Q (.bool i)) : EvD X α (.Constant (.bool i) j pos) Q := fun F σ H R m k => ⟨_, pe_bl, k _ _ H q m.tp Kz.refl (.bl i)⟩
theorem ev_non {j : Nat} (q : Q .none) : EvD X α (.Constant .none j pos) Q := fun F σ H R m k => ⟨_, pe_non, k _ _ H q m.tp Kz.refl .non⟩
theorem ev_str {x : Str} {j : Nat} (q : Q (.str x)) : EvD X α (.Constant (.str x) j pos) Q := fun F σ H R m k => ⟨_, pe_str, k _ _ H q m.tp Kz.refl (.str x)⟩
theorem ev_globI {x : Str} {i : Int} (hg : Gl X x) (hm : ∃ t, X.mg x = some (.int i t)) (q : Q (.int i)) (hd : (x == ("__debug__" : Str)) = false := by decide) : EvD X α (.Name x pos) Q := fun F σ H R m k => by
  obtain ⟨t, hm⟩ := hm
  exact ⟨_, pe_glob hg hm (show RelV (.int i) (.int i t) from ⟨t, rfl⟩) hd, k _ _ H q m.tp Kz.refl (.int i)⟩

/-! two operands -/
/-- both have come -/
theorem ev_two {f : TE → TE → TE} (hf : PE X e (f (eAny X a) (eAny X b))) (hr : ∀ σ H R, f (eAny X a) (eAny X b) σ H R ↔ eAny X a σ H (fun x H1 => eAny X b σ H1 fun y H2 => f (tC x) (tC y) σ H2 R))
    (h : EvD X α a fun x => EvD X α b fun y => ∀ (F : Fr) (σ : St) (H : Hp) (vx vy : V) (R : VK), M F α σ H → AV (Gz F α σ H) vx x → AV (Gz F α σ H) vy y → (∀ d v H', Q d → TpOk F H' → Kz F H H' → AV (Gz F α σ H') v d → R v H') → f (tC vx) (tC vy) σ H R) :
    EvD X α e Q := fun F σ H R m k => by
  refine ⟨_, hf, (hr σ H R).mpr ?_⟩
  refine h F σ H _ m fun x vx H1 q1 t1 k1 r1 => ?_
  have m1 := m.kz k1 t1
  refine q1 F σ H1 _ m1 fun y vy H2 q2 t2 k2 r2 => ?_
  exact q2 F σ H2 vx vy R (m1.kz k2 t2) (r1.same (k2.gz m1.tp)) r2 fun d v H' qd t3 k3 r3 => k d v H' qd t3 ((k1.trans k2).trans k3) r3
theorem AV.int_inv {H : Hp} {v : V} {i : Int} (h : AV H v (.int i)) : v = .int i := by cases h; rfl
theorem AV.bl_inv {H : Hp} {v : V} {i : Bool} (h : AV H v (.bool i)) : v = .bl i := by cases h; rfl
theorem AV.str_inv {H : Hp} {v : V} {i : Str} (h : AV H v (.str i)) : v = .str i := by cases h; rfl
theorem AV.tup_inv {H : Hp} {v : V} {ds : List PyData} (h : AV H v (.tuple ds)) : ∃ a xs, v = .ref a ∧ H a = some (.tup xs) ∧ AVs H xs ds := by cases h; exact ⟨_, _, rfl, by assumption, by assumption⟩
theorem AV.lst_inv {H : Hp} {v : V} {ds : List PyData} (h : AV H v (.list ds)) : ∃ a xs, v = .ref a ∧ H a = some (.lst xs) ∧ AVs H xs ds := by cases h; exact ⟨_, _, rfl, by assumption, by assumption⟩
theorem AV.non_inv {H : Hp} {v : V} (h : AV H v .none) : v = .non := by cases h; rfl
theorem AV.isnon {H : Hp} {v : V} {d : PyData} (h : AV H v d) : decide (v = .non) = (match d with | .none => true | _ => false) := by cases h <;> simp
/-- an operator of two ints -/
theorem ev_opI {op : Operator} {C : Int → Int → Prop} {g : Int → Int → V} {gd : Int → Int → PyData} (ho : OpR X (binaryOp op) (rI C g)) (hg : ∀ H i j, AV H (g i j) (gd i j))
    (h : EvD X α a fun x => EvD X α b fun y => ∃ i j, x = .int i ∧ y = .int j ∧ C i j ∧ Q (gd i j)) : EvD X α (.BinOp a op b pos) Q := by
  refine ev_two (f := tOp (rI C g)) (pe_op ho pe_eAny pe_eAny) (fun _ _ _ => Iff.rfl) (h.imp fun x h => h.imp fun y ⟨i, j, e1, e2, hc, hq⟩ => ?_)
  subst e1 e2
  intro F σ H vx vy R m rx ry k
  cases rx.int_inv; cases ry.int_inv
  exact ⟨i, j, rfl, rfl, hc, k _ _ H hq m.tp Kz.refl (hg _ i j)⟩
theorem ev_opI0 {op : Operator} {g : Int → Int → V} {gd : Int → Int → PyData} (ho : OpR X (binaryOp op) (rI0 g)) (hg : ∀ H i j, AV H (g i j) (gd i j))
    (h : EvD X α a fun x => EvD X α b fun y => ∃ i j, x = .int i ∧ y = .int j ∧ Q (gd i j)) : EvD X α (.BinOp a op b pos) Q := by
  refine ev_two (f := tOp (rI0 g)) (pe_op ho pe_eAny pe_eAny) (fun _ _ _ => Iff.rfl) (h.imp fun x h => h.imp fun y ⟨i, j, e1, e2, hq⟩ => ?_)
  subst e1 e2
  intro F σ H vx vy R m rx ry k
  cases rx.int_inv; cases ry.int_inv
  exact ⟨i, j, rfl, rfl, k _ _ H hq m.tp Kz.refl (hg _ i j)⟩
theorem ev_add (h : EvD X α a fun x => EvD X α b fun y => ∃ i j, x = .int i ∧ y = .int j ∧ Q (.int (i + j))) : EvD X α (.BinOp a .Add b pos) Q := ev_opI0 (gd := fun i j => .int (i + j)) op_add (fun _ _ _ => .int _) h
theorem ev_sub (h : EvD X α a fun x => EvD X α b fun y => ∃ i j, x = .int i ∧ y = .int j ∧ Q (.int (i - j))) : EvD X α (.BinOp a .Sub b pos) Q := ev_opI0 (gd := fun i j => .int (i - j)) op_sub (fun _ _ _ => .int _) h
theorem ev_pow (h : EvD X α a fun x => EvD X α b fun y => ∃ i j, x = .int i ∧ y = .int j ∧ CPow i j ∧ Q (.int (i ^ j.toNat))) : EvD X α (.BinOp a .Pow b pos) Q := ev_opI (gd := fun i j => .int (i ^ j.toNat)) op_pow (fun _ _ _ => .int _) h
/-- 10 ** n, as it stands in the text -/
theorem ev_ten {i j r : Int} {p1 p2 : Pos} {n1 n2 : Nat} (hc : CPow i j) (hr : i ^ j.toNat = r) (q : Q (.int r)) : EvD X α (.BinOp (.Constant (.int i) n1 p1) .Pow (.Constant (.int j) n2 p2) pos) Q :=
  ev_pow (ev_int (ev_int ⟨i, j, rfl, rfl, hc, hr ▸ q⟩))
/-- a comparison of two ints -/
theorem ev_cmpI {op : CmpOp} {g : Int → Int → Bool} (ho : OpR X (compareOp op) (rI0 fun i j => .bl (g i j))) (hm : behindInMarks op b = false)
    (h : EvD X α a fun x => EvD X α b fun y => ∃ i j, x = .int i ∧ y = .int j ∧ Q (.bool (g i j))) : EvD X α (.Compare a [op] [b] pos) Q := by
  refine ev_two (f := tOp (rI0 fun i j => .bl (g i j))) (pe_cmpR ho pe_eAny pe_eAny hm) (fun _ _ _ => Iff.rfl) (h.imp fun x h => h.imp fun y ⟨i, j, e1, e2, hq⟩ => ?_)
  subst e1 e2
  intro F σ H vx vy R m rx ry k
  cases rx.int_inv; cases ry.int_inv
  exact ⟨i, j, rfl, rfl, k _ _ H hq m.tp Kz.refl (.bl _)⟩
theorem ev_lt (h : EvD X α a fun x => EvD X α b fun y => ∃ i j, x = .int i ∧ y = .int j ∧ Q (.bool (decide (i < j)))) : EvD X α (.Compare a [.Lt] [b] pos) Q := ev_cmpI op_lt (nomark _) h
def isNon : PyData → Bool
  | .none => true
  | _ => false
theorem AV.non_iff {H : Hp} {v : V} {d : PyData} (h : AV H v d) : decide (v = .non) = isNon d := by cases h <;> simp [isNon]
/-- a <= b <= c, ints -/
theorem ev_chain {op op' : CmpOp} {g g' : Int → Int → Bool} (ho : OpR X (compareOp op) (rI0 fun i j => .bl (g i j))) (ho' : OpR X (compareOp op') (rI0 fun i j => .bl (g' i j))) (hm : lastMarks [op, op'] [b, c] = false)
    (h : EvD X α a fun x => EvD X α b fun y => ∃ i j, x = .int i ∧ y = .int j ∧ (if g i j = true then EvD X α c fun z => ∃ k, z = .int k ∧ Q (.bool (g' j k)) else Q (.bool false))) : EvD X α (.Compare a [op, op'] [b, c] pos) Q := fun F σ H R m k => by
  refine ⟨_, pe_chain ho ho' pe_eAny pe_eAny pe_eAny hm, ?_⟩
  refine h F σ H _ m fun x vx H1 q1 t1 k1 r1 => ?_
  have m1 := m.kz k1 t1
  refine q1 F σ H1 _ m1 fun y vy H2 q2 t2 k2 r2 => ?_
  obtain ⟨i, j, e1, e2, hq⟩ := q2
  subst e1 e2
  cases r1.int_inv; cases r2.int_inv
  have m2 := m1.kz k2 t2
  refine ⟨i, j, rfl, rfl, _, rfl, ?_⟩
  cases hg : g i j with
  | true =>
    rw [hg] at hq
    refine iteT ?_
    refine (by simpa using hq : EvD X α c _) F σ H2 _ m2 fun z vz H3 q3 t3 k3 r3 => ?_
    obtain ⟨kk, rfl, hq3⟩ := q3
    cases r3.int_inv
    exact ⟨j, kk, rfl, rfl, k _ _ H3 hq3 t3 ((k1.trans k2).trans k3) (.bl _)⟩
  | false =>
    rw [hg] at hq
    exact iteF (k _ _ H2 (by simpa using hq) t2 (k1.trans k2) (.bl _))
theorem ev_lele (hm : lastMarks [.LtE, .LtE] [b, c] = false) (h : EvD X α a fun x => EvD X α b fun y => ∃ i j, x = .int i ∧ y = .int j ∧ (if decide (i ≤ j) = true then EvD X α c fun z => ∃ k, z = .int k ∧ Q (.bool (decide (j ≤ k))) else Q (.bool false))) :
    EvD X α (.Compare a [.LtE, .LtE] [b, c] pos) Q := ev_chain op_le op_le hm h
/-! tests -/
theorem et_val {Q : Bool → Prop} (h : EvD X α e fun x => ∃ k, x = .bool k ∧ Q k) (he : ∀ whole, isTrue e X.env whole = (do let v ← whole; standAt e.pos; holding [v] (truthy v)) := by intro _; rfl) : EvT X α e Q := fun F σ H R m k => by
  refine ⟨_, pt_val pe_eAny he, ?_⟩
  refine h F σ H _ m fun x vx H1 q1 t1 k1 r1 => ?_
  obtain ⟨b, rfl, q⟩ := q1
  cases r1.bl_inv
  exact ⟨b, rfl, k b H1 q t1 k1⟩
/-- a comparison of data, whatever the heap -/
def Cmp (r : R2) (x y : PyData) (k : Bool) : Prop := ∀ (p : Addr → Prop) (H : Hp) (vx vy : V) (R : VK), AV (sub p H) vx x → AV (sub p H) vy y → R (.bl k) H → r vx vy H R
theorem et_cmp {op : CmpOp} {r : R2} {Q : Bool → Prop} (ho : OpR X (compareOp op) r) (hm : behindInMarks op b = false) (h : EvD X α a fun x => EvD X α b fun y => ∃ k, Cmp r x y k ∧ Q k) : EvT X α (.Compare a [op] [b] pos) Q := fun F σ H R m k => by
  refine ⟨_, pt_cmpR ho pe_eAny pe_eAny hm, ?_⟩
  refine h F σ H _ m fun x vx H1 q1 t1 k1 r1 => ?_
  have m1 := m.kz k1 t1
  refine q1 F σ H1 _ m1 fun y vy H2 q2 t2 k2 r2 => ?_
  obtain ⟨b, hc, q⟩ := q2
  exact hc _ H2 vx vy _ (r1.same (k2.gz m1.tp)) r2 ⟨b, rfl, k b H2 q t2 (k1.trans k2)⟩
theorem cmp_int {g : Int → Int → Bool} {i j : Int} : Cmp (rI0 fun i j => .bl (g i j)) (.int i) (.int j) (g i j) := fun p H vx vy R rx ry h => by
  cases rx.int_inv; cases ry.int_inv
  exact ⟨i, j, rfl, rfl, h⟩
theorem et_cmpI {op : CmpOp} {g : Int → Int → Bool} {Q : Bool → Prop} (ho : OpR X (compareOp op) (rI0 fun i j => .bl (g i j))) (hm : behindInMarks op b = false)
    (h : EvD X α a fun x => EvD X α b fun y => ∃ i j, x = .int i ∧ y = .int j ∧ Q (g i j)) : EvT X α (.Compare a [op] [b] pos) Q :=
  et_cmp ho hm (h.imp fun x h => h.imp fun y ⟨i, j, e1, e2, q⟩ => ⟨_, by subst e1 e2; exact cmp_int, q⟩)
theorem et_gt {Q : Bool → Prop} (h : EvD X α a fun x => EvD X α b fun y => ∃ i j, x = .int i ∧ y = .int j ∧ Q (decide (j < i))) : EvT X α (.Compare a [.Gt] [b] pos) Q := et_cmpI op_gt (nomark _) h
theorem et_isN {j : Nat} {Q : Bool → Prop} (h : EvD X α a fun x => Q (isNon x)) : EvT X α (.Compare a [.Is] [.Constant .none j p] pos) Q :=
  et_cmp op_isN (nomark _) (h.imp fun x h => ev_non ⟨_, fun p H vx vy R rx ry z => ⟨ry.non_inv, by rw [rx.non_iff]; exact z⟩, h⟩)
def truD : PyData → Option Bool
  | .none => some false
  | .bool b => some b
  | .int i => some (i != 0)
  | .list ds => some (!ds.isEmpty)
  | .tuple ds => some (!ds.isEmpty)
  | _ => none
theorem et_not {Q : Bool → Prop} (h : EvT X α a fun k => Q (!k)) : EvT X α (.UnaryOp .Not a pos) Q := fun F σ H R m k => by
  refine ⟨_, pt_not pt_cAny, ?_⟩
  exact h F σ H _ m fun b H1 q1 t1 k1 => k _ H1 q1 t1 k1
/-- and, or as tests: whatever the 'whole' is -/
def EvW (X : Cx) (α : Ev) (e : Expr) (Q : Bool → Prop) : Prop := ∀ (F : Fr) (σ : St) (H : Hp) (R : Bool → Hp → Prop), M F α σ H → (∀ b H', Q b → TpOk F H' → Kz F H H' → R b H') → ∃ t, PW X e t ∧ t σ H R
def wAny (X : Cx) (e : Expr) : TT := fun σ H Q => ∃ t, PW X e t ∧ t σ H Q
theorem pw_wAny : PW X e (wAny X e) := fun w pins s σ H Q I ⟨t, p, q⟩ => p w pins s σ H Q I q
theorem EvW.t {Q : Bool → Prop} (h : EvW X α e Q) : EvT X α e Q := fun F σ H R m k => by
  obtain ⟨t, p, q⟩ := h F σ H R m k
  exact ⟨t, p.pt, q⟩
variable {rest : List Expr}
theorem ew_and1 {Q : Bool → Prop} (h : EvT X α a Q) : EvW X α (.BoolOp .And [a] pos) Q := fun F σ H R m k => ⟨_, pw_and1 pt_cAny, h F σ H R m k⟩
theorem ew_or1 {Q : Bool → Prop} (h : EvT X α a Q) : EvW X α (.BoolOp .Or [a] pos) Q := fun F σ H R m k => ⟨_, pw_or1 pt_cAny, h F σ H R m k⟩
theorem ew_and {Q : Bool → Prop} (h : EvT X α a fun k => if k = true then EvW X α (.BoolOp .And (b :: rest) pos) Q else Q false) : EvW X α (.BoolOp .And (a :: b :: rest) pos) Q := fun F σ H R m k => by
  refine ⟨_, pw_and pt_cAny pw_wAny, ?_⟩
  refine h F σ H _ m fun c H1 q1 t1 k1 => ?_
  cases c with
  | true => exact iteT ((by simpa using q1 : EvW X α _ Q) F σ H1 R (m.kz k1 t1) fun b H2 q2 t2 k2 => k b H2 q2 t2 (k1.trans k2))
  | false => exact iteF (k _ H1 (by simpa using q1) t1 k1)
theorem ew_or {Q : Bool → Prop} (h : EvT X α a fun k => if k = true then Q true else EvW X α (.BoolOp .Or (b :: rest) pos) Q) : EvW X α (.BoolOp .Or (a :: b :: rest) pos) Q := fun F σ H R m k => by
  refine ⟨_, pw_or pt_cAny pw_wAny, ?_⟩
  refine h F σ H _ m fun c H1 q1 t1 k1 => ?_
  cases c with
  | false => exact iteF ((by simpa using q1 : EvW X α _ Q) F σ H1 R (m.kz k1 t1) fun b H2 q2 t2 k2 => k b H2 q2 t2 (k1.trans k2))
  | true => exact iteT (k _ H1 (by simpa using q1) t1 k1)
/-! and, or, not as values (of truths) -/
theorem ev_one {op} (h : EvD X α a Q) : EvD X α (.BoolOp op [a] pos) Q := fun F σ H R m k => ⟨_, pe_one pe_eAny, h F σ H R m k⟩
theorem ev_and (h : EvD X α a fun x => ∃ k, x = .bool k ∧ if k = true then EvD X α (.BoolOp .And (b :: rest) pos) Q else Q (.bool false)) : EvD X α (.BoolOp .And (a :: b :: rest) pos) Q := fun F σ H R m k => by
  refine ⟨_, pe_and pe_eAny pe_eAny, ?_⟩
  refine h F σ H _ m fun x vx H1 q1 t1 k1 r1 => ?_
  obtain ⟨c, rfl, q1⟩ := q1
  cases r1.bl_inv
  refine ⟨c, rfl, ?_⟩
  cases c with
  | true => exact iteT ((by simpa using q1 : EvD X α _ Q) F σ H1 R (m.kz k1 t1) fun d v H2 q2 t2 k2 r2 => k d v H2 q2 t2 (k1.trans k2) r2)
  | false => exact iteF (k _ _ H1 (by simpa using q1) t1 k1 (.bl _))
theorem ev_ifx (h : EvT X α c fun k => if k = true then EvD X α a Q else EvD X α b Q) : EvD X α (.IfExp c a b pos) Q := fun F σ H R m k => by
  refine ⟨_, pe_ifExp pt_cAny pe_eAny pe_eAny, ?_⟩
  refine h F σ H _ m fun x H1 q1 t1 k1 => ?_
  cases x with
  | true => exact iteT ((by simpa using q1 : EvD X α _ Q) F σ H1 R (m.kz k1 t1) fun d v H2 q2 t2 k2 r2 => k d v H2 q2 t2 (k1.trans k2) r2)
  | false => exact iteF ((by simpa using q1 : EvD X α _ Q) F σ H1 R (m.kz k1 t1) fun d v H2 q2 t2 k2 r2 => k d v H2 q2 t2 (k1.trans k2) r2)
/-! an index, a slice -/
theorem ev_ixL (hs : PlainIx b) (h : EvD X α a fun x => EvD X α b fun y => ∃ ds i d, x = .list ds ∧ y = .int i ∧ atI ds i = some d ∧ Q d) : EvD X α (.Subscript a b pos) Q := by
  refine ev_two (f := tOp (rIxL X.K)) (pe_ix ix_list pe_eAny pe_eAny hs) (fun _ _ _ => Iff.rfl) (h.imp fun x h => h.imp fun y ⟨ds, i, d, e1, e2, hat, hq⟩ => ?_)
  subst e1 e2
  intro F σ H vx vy R m rx ry k
  obtain ⟨a, xs, rfl, h1, h2⟩ := rx.lst_inv
  cases ry.int_inv
  obtain ⟨v, hv, av⟩ := h2.atI hat
  exact ⟨a, xs, i, v, rfl, rfl, SqL.of (sub_some h1).2, hv, k d v H hq m.tp Kz.refl av⟩
theorem ev_ixT (hs : PlainIx b) (h : EvD X α a fun x => EvD X α b fun y => ∃ ds i d, x = .tuple ds ∧ y = .int i ∧ atI ds i = some d ∧ Q d) : EvD X α (.Subscript a b pos) Q := by
  refine ev_two (f := tOp (rIxT X.K)) (pe_ix ix_tup pe_eAny pe_eAny hs) (fun _ _ _ => Iff.rfl) (h.imp fun x h => h.imp fun y ⟨ds, i, d, e1, e2, hat, hq⟩ => ?_)
  subst e1 e2
  intro F σ H vx vy R m rx ry k
  obtain ⟨a, xs, rfl, h1, h2⟩ := rx.tup_inv
  cases ry.int_inv
  obtain ⟨v, hv, av⟩ := h2.atI hat
  exact ⟨a, xs, i, v, rfl, rfl, SqT.of (sub_some h1).2, hv, k d v H hq m.tp Kz.refl av⟩
/-- a slice's bound -/
def EvO (X : Cx) (α : Ev) (e : Option Expr) (Q : Option Int → Prop) : Prop := ∀ (F : Fr) (σ : St) (H : Hp) (R : Option Int → Hp → Prop), M F α σ H → (∀ i H', Q i → TpOk F H' → Kz F H H' → R i H') → ∃ t, PO X e t ∧ t σ H R
def oAny (X : Cx) (e : Option Expr) : TO := fun σ H Q => ∃ t, PO X e t ∧ t σ H Q
theorem po_oAny {e : Option Expr} : PO X e (oAny X e) := fun pins s σ H Q I ⟨t, p, q⟩ => p pins s σ H Q I q
theorem eo_none {Q : Option Int → Prop} (q : Q none) : EvO X α none Q := fun F σ H R m k => ⟨_, po_none, k _ H q m.tp Kz.refl⟩
theorem eo_some {Q : Option Int → Prop} (h : EvD X α a fun x => ∃ i, x = .int i ∧ Q (some i)) : EvO X α (some a) Q := fun F σ H R m k => by
  refine ⟨_, po_some pe_eAny, ?_⟩
  refine h F σ H _ m fun x vx H1 q1 t1 k1 r1 => ?_
  obtain ⟨i, rfl, q⟩ := q1
  cases r1.int_inv
  exact ⟨i, rfl, k _ H1 q t1 k1⟩
/-- a new list has been laid -/
theorem M.lay {F : Fr} {σ : St} {H : Hp} {l : Addr} {xs : List V} {ds : List PyData} (m : M F α σ H) (hl : H l = none) (h : AVs (Gz F α σ H) xs ds) : TpOk F (upd H l (.lst xs)) ∧ Kz F H (upd H l (.lst xs)) ∧ FreshL F α σ H (.ref l) (upd H l (.lst xs)) ds := by
  refine ⟨m.tp.same (same_new hl), Kz.of_same (same_new hl), l, xs, rfl, hl, upd_same, h.same (same_sub fun a o ha e => ?_)⟩
  have := ne_of_none e hl
  exact ⟨⟨ha, this⟩, by rw [upd_ne this]; exact e⟩
theorem el_sl {lo hi : Option Expr} {Q : List PyData → Prop} (h : EvD X α a fun x => EvO X α lo fun l => EvO X α hi fun u => ∃ ds, x = .list ds ∧ Q (cutD ds l u)) : EvL X α (.Subscript a (.Slice lo hi none p) pos) Q := fun F σ H R m k => by
  refine ⟨_, pe_slice sl_list pe_eAny po_oAny po_oAny, ?_⟩
  refine h F σ H _ m fun x vx H1 q1 t1 k1 r1 => ?_
  have m1 := m.kz k1 t1
  refine q1 F σ H1 _ m1 fun l H2 q2 t2 k2 => ?_
  have m2 := m1.kz k2 t2
  refine q2 F σ H2 _ m2 fun u H3 q3 t3 k3 => ?_
  have m3 := m2.kz k3 t3
  obtain ⟨ds, rfl, q⟩ := q3
  obtain ⟨a, xs, rfl, h1, h2⟩ := (r1.same ((k2.gz m1.tp).trans (k3.gz m2.tp))).lst_inv
  refine ⟨a, xs, rfl, SqL.of (sub_some h1).2, fun p hp => ?_⟩
  obtain ⟨g1, g2, g3⟩ := m3.lay hp (h2.cut l u)
  have kk := (k1.trans k2).trans k3
  obtain ⟨l', xs', e1, e2, e3, e4⟩ := g3
  refine k _ _ _ q g1 (kk.trans g2) ⟨l', xs', e1, ?_, e3, e4⟩
  cases z : H l' with
  | none => rfl
  | some o => rw [kk l' o z (m.tp.nt (ow0 (m3.fresh e2)))] at e2; cases e2
theorem FreshL.back {F : Fr} {σ : St} {H H1 H' : Hp} {v : V} {ds : List PyData} (m : M F α σ H) (k : Kz F H H1) (t1 : TpOk F H1) (h : FreshL F α σ H1 v H' ds) : FreshL F α σ H v H' ds := by
  obtain ⟨l', xs', e1, e2, e3, e4⟩ := h
  refine ⟨l', xs', e1, ?_, e3, e4⟩
  cases z : H l' with
  | none => rfl
  | some o => rw [k l' o z (m.tp.nt (ow0 ((m.kz k t1).fresh e2)))] at e2; cases e2
/-! displays -/
theorem ea_nil {Q : List A → Prop} (q : Q []) : EvA X α [] Q := fun F σ H R m k => ⟨_, pa_nil, k _ _ H q m.tp Kz.refl .nil⟩
theorem ea_cons {Q : List A → Prop} (h : EvD X α e fun d => EvA X α es fun as => Q (.dat d :: as)) (hs : starEach (e :: es) X.env = (false, eval e X.env) :: starEach es X.env := by rfl) : EvA X α (e :: es) Q := fun F σ H R m k => by
  refine ⟨_, pa_cons pe_eAny pa_aAny hs, ?_⟩
  refine h F σ H _ m fun d v H1 q1 t1 k1 r1 => ?_
  have m1 := m.kz k1 t1
  exact q1 F σ H1 _ m1 fun as vs H2 q2 t2 k2 r2 => k _ _ H2 q2 t2 (k1.trans k2) (.cons (r1.same (k2.gz m1.tp)) r2)
theorem ea_tape {Q : List A → Prop} (i : Nat) {x : Str} (hi : α[i]? = some (some .tape)) (h : EvA X α es fun as => Q (.tape :: as)) (hN : X.N[i]? = some x := by rfl) (hv : Vis X.env.scope x := by first | exact Or.inl rfl | exact Or.inr (Or.inl rfl) | exact Or.inr (Or.inr rfl))
    (hd : (x == ("__debug__" : Str)) = false := by decide) (hcd : (x == ("__classdict__" : Str)) = false := by decide) (hs : starEach (.Name x pos :: es) X.env = (false, eval (.Name x pos) X.env) :: starEach es X.env := by rfl) : EvA X α (.Name x pos :: es) Q := fun F σ H R m k => by
  obtain ⟨t, b, c, h1, h2⟩ := m.tvar i hi
  refine ⟨_, pa_cons (pe_var hN hv hd hcd) pa_aAny hs, .ref t, h2, ?_⟩
  exact h F σ H _ m fun as vs H2 q2 t2 k2 r2 => k _ _ H2 q2 t2 k2 (.cons ⟨t, b, c, h1, rfl⟩ r2)
/-- all are data -/
def datas : List A → Option (List PyData)
  | [] => some []
  | .dat d :: r => (datas r).map (d :: ·)
  | _ :: _ => none
theorem ArgsV.datas {F : Fr} {G : Hp} : ∀ {vs : List V} {as : List A} {ds : List PyData}, ArgsV F G vs as → L2.datas as = some ds → AVs G vs ds
  | _, _, ds, .nil, h => by cases h; exact .nil
  | _, _, ds, .cons (a := .dat d) (as := as) h r, e => by
    simp only [L2.datas, Option.map_eq_some_iff] at e
    obtain ⟨es, e1, rfl⟩ := e
    exact .cons h (ArgsV.datas r e1)
  | _, _, ds, .cons (a := .own _) h r, e => by cases h
  | _, _, ds, .cons (a := .tape) h r, e => by cases e
  | _, _, ds, .cons (a := .at _) h r, e => by cases h
theorem ev_tup {n : Nat} (h : EvA X α es fun as => ∃ ds, datas as = some ds ∧ ds.length ≤ 1000 ∧ Q (.tuple ds)) : EvD X α (.Tuple es n pos) Q := fun F σ H R m k => by
  refine ⟨_, pe_tup pa_aAny, ?_⟩
  refine h F σ H _ m fun as vs H1 q1 t1 k1 r1 => ?_
  obtain ⟨ds, e, hl, q⟩ := q1
  have r := r1.datas e
  have m1 := m.kz k1 t1
  refine ⟨by rw [r.length]; exact Nat.le_of_lt (small1000 hl), fun p hp => ?_⟩
  refine k _ _ _ q (t1.same (same_new hp)) (k1.trans (Kz.of_same (same_new hp))) (.tup (xs := vs) (sub_of (m1.fresh hp) upd_same) (r.same (same_sub fun a o ha e => ⟨ha, by rw [upd_ne (ne_of_none e hp)]; exact e⟩)))
theorem el_lst {Q : List PyData → Prop} (h : EvA X α es fun as => ∃ ds, datas as = some ds ∧ ds.length ≤ 1000 ∧ Q ds) : EvL X α (.List es pos) Q := fun F σ H R m k => by
  refine ⟨_, pe_lst pa_aAny, ?_⟩
  refine h F σ H _ m fun as vs H1 q1 t1 k1 r1 => ?_
  obtain ⟨ds, e, hl, q⟩ := q1
  have r := r1.datas e
  have m1 := m.kz k1 t1
  refine ⟨by rw [r.length]; exact Nat.le_of_lt (small1000 hl), fun p hp => ?_⟩
  obtain ⟨g1, g2, g3⟩ := m1.lay hp r
  exact k _ _ _ q g1 (k1.trans g2) (g3.back m k1 t1)
theorem el_cat {Q : List PyData → Prop} (h : EvD X α a fun x => EvD X α b fun y => ∃ ds es, x = .list ds ∧ y = .list es ∧ ds.length + es.length ≤ 1000 ∧ Q (ds ++ es)) : EvL X α (.BinOp a .Add b pos) Q := fun F σ H R m k => by
  refine ⟨_, pe_op op_cat pe_eAny pe_eAny, ?_⟩
  refine h F σ H _ m fun x vx H1 q1 t1 k1 r1 => ?_
  have m1 := m.kz k1 t1
  refine q1 F σ H1 _ m1 fun y vy H2 q2 t2 k2 r2 => ?_
  have m2 := m1.kz k2 t2
  obtain ⟨ds, es, rfl, rfl, hl, q⟩ := q2
  obtain ⟨a, xs, rfl, h1, h2⟩ := (r1.same (k2.gz m1.tp)).lst_inv
  obtain ⟨b, ys, rfl, h3, h4⟩ := r2.lst_inv
  refine ⟨a, b, xs, ys, rfl, rfl, (sub_some h1).2, (sub_some h3).2, by rw [h2.length, h4.length]; exact Nat.le_of_lt (small1000 hl), fun p hp => ?_⟩
  obtain ⟨g1, g2, g3⟩ := m2.lay hp (h2.append h4)
  exact k _ _ _ q g1 ((k1.trans k2).trans g2) (g3.back m (k1.trans k2) t2)
/-! calls of built-ins -/
theorem ev_callB {id : String} {x : Str} {r : List V → Hp → VK → Prop} (hc : CallR X (.builtin id) r) (hg : Gl X x) (hm : X.mg x = none) (hv : bootBuiltins x = some (.builtin id))
    (h : EvA X α (e :: es) fun as => ∀ (F : Fr) (σ : St) (H : Hp) (vs : List V) (R : VK), M F α σ H → ArgsV F (Gz F α σ H) vs as → (∀ d v H', Q d → TpOk F H' → Kz F H H' → AV (Gz F α σ H') v d → R v H') → r vs H R)
    (hn : x ≠ "__name__" := by decide) (hdb : (x == ("__debug__" : Str)) = false := by decide) (he : starEach (e :: es) X.env = (false, eval e X.env) :: starEach es X.env := by rfl) (hpl : (backTo pos (starEach es X.env)).any (·.1) = false := by rfl) :
    EvD X α (.Call (.Name x p) (e :: es) [] pos) Q := fun F σ H R m k => by
  refine ⟨_, pe_callB hc hg hm hv pa_aAny hn hdb he hpl, ?_⟩
  refine h F σ H _ m fun as vs H1 q1 t1 k1 r1 => ?_
  exact q1 F σ H1 vs R (m.kz k1 t1) r1 fun d v H' qd t2 k2 r2 => k d v H' qd t2 (k1.trans k2) r2
end
end L2
set_option Elab.async false
set_option linter.all false
set_option maxRecDepth 100000
/-! The data layer: calls, comprehensions, statements, functions. -/
namespace L2
open PySem PySem.Spec PyProof.Rows
section
variable {X : Cx} {α : Ev} {e a b c : Expr} {es : List Expr} {pos p q : Pos} {Q : PyData → Prop}
/-! built-ins -/
theorem ArgsV.one {F : Fr} {G : Hp} {vs : List V} {d : PyData} (h : ArgsV F G vs [.dat d]) : ∃ v, vs = [v] ∧ AV G v d := by
  cases h with | cons h r => cases r; exact ⟨_, rfl, h⟩
theorem ArgsV.two {F : Fr} {G : Hp} {vs : List V} {d e : PyData} (h : ArgsV F G vs [.dat d, .dat e]) : ∃ v u, vs = [v, u] ∧ AV G v d ∧ AV G u e := by
  cases h with | cons h r => obtain ⟨u, rfl, h2⟩ := r.one; exact ⟨_, u, rfl, h, h2⟩
def lenD : PyData → Option Int
  | .list ds => some ds.length
  | .tuple ds => some ds.length
  | _ => none
theorem ev_len (hg : Gl X "len") (hm : X.mg "len" = none) (h : EvD X α e fun x => ∃ n, lenD x = some n ∧ Q (.int n)) (he : starEach [e] X.env = (false, eval e X.env) :: starEach [] X.env := by rfl) :
    EvD X α (.Call (.Name "len" p) [e] [] pos) Q := by
  refine ev_callB call_len_seq hg hm PySem.boot_len (ea_cons (h.imp fun x ⟨n, e1, q⟩ => ea_nil ?_) he) (he := he)
  intro F σ H vs R m rv k
  obtain ⟨v, rfl, av⟩ := rv.one
  cases av with
  | lst h1 h2 => cases e1; rw [← h2.length] at q; exact ⟨_, _, rfl, .inl (SqL.of (sub_some h1).2), k _ _ H q m.tp Kz.refl (.int _)⟩
  | tup h1 h2 => cases e1; rw [← h2.length] at q; exact ⟨_, _, rfl, .inr (SqT.of (sub_some h1).2), k _ _ H q m.tp Kz.refl (.int _)⟩
  | _ => cases e1
def itemsD : PyData → Option (List PyData)
  | .list ds => some ds
  | .tuple ds => some ds
  | _ => none
/-! calls of one's own functions -/
section
variable {k : Nat} {f : Addr} {fd : FuncData} {ps : List Str} {φ : List A → (A → Prop) → Prop} {x : Str}
theorem call_frame {F : Fr} {σ : St} {H : Hp} {vs : List V} {as : List A} {QA : A → Prop} {R : VK} (m : M F α σ H) (rv : ArgsV F (Gz F α σ H) vs as) (hφ : φ as QA)
    (kk : ∀ a v H', QA a → RetOk ⟨H, Ow F α σ, F.tp⟩ v H' a → R v H') {E : XK} : spA φ (vs ++ []) H R E := by
  refine ⟨⟨H, Ow F α σ, F.tp⟩, as, QA, rfl, ?_, ?_, ?_, hφ, kk⟩
  · refine ⟨m.tp.has, ?_⟩
    intro t b c e
    obtain ⟨h1, h2, h3, h4⟩ := m.tp t b c e
    exact ⟨h1, .inl h2, .inl h3, .inl h4.1, .inl h4.2⟩
  · rintro y (z | ⟨i, ds, e1, e2⟩)
    · exact m.oex y z
    · obtain ⟨l, xs, h1, h2, _⟩ := m.own i ds e1
      rw [e2] at h1; cases h1
      exact ⟨_, h2, notup_lst⟩
  · rw [List.append_nil]
    have tr : ∀ {vs : List V} {as : List A}, ArgsV F (Gz F α σ H) vs as → ArgsV ⟨H, Ow F α σ, F.tp⟩ (sub (fun x => ¬ Ow F α σ x) H) vs as := fun h => by
      induction h with
      | nil => exact .nil
      | @cons v vs a as h r ih =>
        refine .cons ?_ ih
        cases a with
        | dat d => exact h
        | own _ => exact h
        | tape => exact h
        | «at» _ => exact h
    exact tr rv
theorem RetOk.back {F : Fr} {σ : St} {H H' : Hp} {v : V} {a : A} (m : M F α σ H) (h : RetOk ⟨H, Ow F α σ, F.tp⟩ v H' a) : TpOk F H' ∧ Kz F H H' ∧ AV (Gz F α σ H') v a.d := by
  obtain ⟨t, kz, r⟩ := h
  refine ⟨⟨m.tp.has, fun t' b c e => ⟨(t t' b c e).1, (m.tp t' b c e).2⟩⟩, kz, ?_⟩
  cases a with
  | dat d => exact r
  | own ds =>
    obtain ⟨l, xs, rfl, h1, h2, h3, h4⟩ := r
    exact .lst (sub_of h2 h3) (h4.same (same_sub fun a o h e => ⟨h.1, e⟩))
  | tape => exact r.elim
  | «at» _ => exact r.elim
theorem ev_call (G : FnOk X.prog X.w X.K X.mg X.base CX0 k f fd ps (spA φ)) (hr : Room k X.A) (hg : Gl X x) (hm : X.mg x = some (.ref f)) (hk : PySem.W.keepIn X.K (.ref f) = true) (hb : Binds X.K fd ps [])
    (h : EvA X α (e :: es) fun as => φ as fun a => Q a.d) (hdb : (x == ("__debug__" : Str)) = false := by decide) (he : starEach (e :: es) X.env = (false, eval e X.env) :: starEach es X.env := by rfl) (hpl : (backTo pos (starEach es X.env)).any (·.1) = false := by rfl) :
    EvD X α (.Call (.Name x p) (e :: es) [] pos) Q := fun F σ H R m kk => by
  refine ⟨_, pe_call G hr hg hm hk hb .nil pass0 pa_aAny hdb he hpl, ?_⟩
  refine h F σ H _ m fun as vs H1 q1 t1 k1 r1 => ?_
  have m1 := m.kz k1 t1
  refine call_frame m1 r1 q1 fun a v H' qa ra => ?_
  obtain ⟨g1, g2, g3⟩ := ra.back m1
  exact kk _ v H' qa g1 (k1.trans g2) g3
theorem el_call {Q : List PyData → Prop} (G : FnOk X.prog X.w X.K X.mg X.base CX0 k f fd ps (spA φ)) (hr : Room k X.A) (hg : Gl X x) (hm : X.mg x = some (.ref f)) (hk : PySem.W.keepIn X.K (.ref f) = true) (hb : Binds X.K fd ps [])
    (h : EvA X α (e :: es) fun as => φ as fun a => ∃ ds, a = .own ds ∧ Q ds) (hdb : (x == ("__debug__" : Str)) = false := by decide) (he : starEach (e :: es) X.env = (false, eval e X.env) :: starEach es X.env := by rfl) (hpl : (backTo pos (starEach es X.env)).any (·.1) = false := by rfl) :
    EvL X α (.Call (.Name x p) (e :: es) [] pos) Q := fun F σ H R m kk => by
  refine ⟨_, pe_call G hr hg hm hk hb .nil pass0 pa_aAny hdb he hpl, ?_⟩
  refine h F σ H _ m fun as vs H1 q1 t1 k1 r1 => ?_
  have m1 := m.kz k1 t1
  refine call_frame m1 r1 q1 fun a v H' qa ra => ?_
  obtain ⟨ds, rfl, q⟩ := qa
  obtain ⟨g1, g2, _⟩ := ra.back m1
  obtain ⟨_, _, l, xs, rfl, h1, h2, h3, h4⟩ := ra
  exact kk ds _ H' q g1 (k1.trans g2) (FreshL.back m k1 t1 ⟨l, xs, rfl, h1, h3, h4⟩)
end
/-! a list of one's own is lent to an expression -/
theorem get_set {i : Nat} {x : Option A} (h : ∃ y, α[i]? = some y) : (α.set i x)[i]? = some x := by
  obtain ⟨y, h⟩ := h
  rw [List.getElem?_set_self (List.getElem?_eq_some_iff.mp h).1]
theorem get_set_ne {i j : Nat} {x : Option A} (h : i ≠ j) : (α.set i x)[j]? = α[j]? := List.getElem?_set_ne h
theorem ow_frz {F : Fr} {σ : St} {i : Nat} {ds : List PyData} {d : PyData} (hi : α[i]? = some (some (.own ds))) {y : Addr} (h : Ow F (α.set i (some (.dat d))) σ y) : Ow F α σ y := by
  rcases h with z | ⟨j, es, e1, e2⟩
  · exact .inl z
  · by_cases hj : i = j
    · subst hj; rw [get_set ⟨_, hi⟩] at e1; cases e1
    · rw [get_set_ne hj] at e1; exact .inr ⟨j, es, e1, e2⟩
theorem M.frz {F : Fr} {σ : St} {H : Hp} {i : Nat} {ds : List PyData} (m : M F α σ H) (hi : α[i]? = some (some (.own ds))) : M F (α.set i (some (.dat (.list ds)))) σ H := by
  obtain ⟨l, xs, h1, h2, h3, h4, h5⟩ := m.own i ds hi
  have gs : Same (Gz F α σ H) (Gz F (α.set i (some (.dat (.list ds)))) σ H) := same_sub fun a o h e => ⟨fun z => h (ow_frz hi z), e⟩
  refine ⟨by rw [List.length_set]; exact m.len, fun j d e => ?_, fun j es e => ?_, fun j j' es es' l' e1 e2 => ?_, fun j e => ?_, fun j l2 e => ?_, m.tp, m.keep, m.oex⟩
  · by_cases hj : i = j
    · subst hj
      rw [get_set ⟨_, hi⟩] at e
      cases e
      refine ⟨.ref l, h1, .lst (sub_of ?_ h2) (h3.same gs)⟩
      rintro (z | ⟨j, es, e1, e2⟩)
      · exact h4 z
      · by_cases hj : i = j
        · subst hj; rw [get_set ⟨_, hi⟩] at e1; cases e1
        · rw [get_set_ne hj] at e1; exact hj (m.inj i j ds es l hi e1 h1 e2)
    · rw [get_set_ne hj] at e
      obtain ⟨v, g1, g2⟩ := m.dat j d e
      exact ⟨v, g1, g2.same gs⟩
  · by_cases hj : i = j
    · subst hj; rw [get_set ⟨_, hi⟩] at e; cases e
    · rw [get_set_ne hj] at e
      obtain ⟨l', xs', g1, g2, g3, g4, g5⟩ := m.own j es e
      exact ⟨l', xs', g1, g2, g3.same gs, g4, g5⟩
  · by_cases hj : i = j
    · subst hj; rw [get_set ⟨_, hi⟩] at e1; cases e1
    · rw [get_set_ne hj] at e1
      by_cases hj' : i = j'
      · subst hj'; rw [get_set ⟨_, hi⟩] at e2; cases e2
      · rw [get_set_ne hj'] at e2; exact m.inj j j' es es' l' e1 e2
  · by_cases hj : i = j
    · subst hj; rw [get_set ⟨_, hi⟩] at e; cases e
    · rw [get_set_ne hj] at e; exact m.tvar j e
  · by_cases hj : i = j
    · subst hj; rw [get_set ⟨_, hi⟩] at e; cases e
    · rw [get_set_ne hj] at e; exact m.atv j l2 e
theorem frz_tup {F : Fr} {σ : St} {H H' : Hp} {i : Nat} {ds : List PyData} (m : M F α σ H) (k : Kz F H H') (hi : α[i]? = some (some (.own ds))) (a : Addr) (o : HO) (ho : ∀ xs, o ≠ .lst xs) (h : Gz F (α.set i (some (.dat (.list ds)))) σ H' a = some o) : Gz F α σ H' a = some o := by
  obtain ⟨h1, h2⟩ := sub_some h
  refine sub_of ?_ h2
  rintro (z | ⟨j, es, e1, e2⟩)
  · exact h1 (.inl z)
  · by_cases hj : i = j
    · subst hj
      obtain ⟨l, ys, g1, g2, g3, g4, g5⟩ := m.own i es e1
      rw [e2] at g1; cases g1
      rw [k _ _ g2 (m.tp.nt g4)] at h2; cases h2; exact ho _ rfl
    · exact h1 (.inr ⟨j, es, by rw [get_set_ne hj]; exact e1, e2⟩)
theorem et_lend {Q : Bool → Prop} (i : Nat) {ds : List PyData} (hi : α[i]? = some (some (.own ds))) (h : EvT X (α.set i (some (.dat (.list ds)))) e Q) : EvT X α e Q := fun F σ H R m k => h F σ H R (m.frz hi) k
theorem el_lend {Q : List PyData → Prop} (i : Nat) {ds : List PyData} (hi : α[i]? = some (some (.own ds))) (h : EvL X (α.set i (some (.dat (.list ds)))) e fun d => noLs d = true ∧ Q d) : EvL X α e Q := fun F σ H R m k =>
  h F σ H R (m.frz hi) fun d v H' q t kz r => by
    obtain ⟨l, xs, h1, h2, h3, h4⟩ := r
    refine k d v H' q.2 t kz ⟨l, xs, h1, h2, h3, h4.noL (fun a ys hno z => ?_) q.1⟩
    obtain ⟨z1, z2⟩ := sub_some z
    obtain ⟨w1, w2⟩ := sub_some (frz_tup m kz hi a ys hno (sub_of z1.1 z2))
    exact sub_of ⟨w1, z1.2⟩ w2
/-! what is walked -/
/-- J yields ds, as long as what stood in G stands -/
def ItW (p : Addr → Prop) (J : It) (ds : List PyData) (G : Hp) : Prop := ∀ (i : Nat) (H2 : Hp) (q : Addr → Prop), Same G (sub q H2) →
  (∀ d, ds[i]? = some d → J.go i H2 ∧ ∀ x H3, J.yld i H2 x H3 → Same H2 H3 ∧ ((∀ a o, H3 a = some o → H2 a = none → q a) → AV (sub q H3) x d)) ∧ (ds.length ≤ i → J.stop i H2)
def iAny (X : Cx) (tg e : Expr) : TI := fun σ H R => ∃ t, PI X tg e t ∧ t σ H R
theorem pi_iAny {tg e : Expr} : PI X tg e (iAny X tg e) := fun pins s σ H R I ⟨t, p, q⟩ => p pins s σ H R I q
def EvI (X : Cx) (α : Ev) (tg e : Expr) (Q : List PyData → Prop) : Prop := ∀ (F : Fr) (σ : St) (H : Hp) (R : It → Hp → Prop), M F α σ H →
  (∀ ds J H', Q ds → TpOk F H' → Kz F H H' → ItW (fun x => ¬ Ow F α σ x) J ds (Gz F α σ H') → R J H') → iAny X tg e σ H R
theorem ei_list {tg : Expr} {Q : List PyData → Prop} (h : EvD X α e fun x => ∃ ds, x = .list ds ∧ Q ds) : EvI X α tg e Q := fun F σ H R m k => by
  refine ⟨_, pi_list pe_eAny, ?_⟩
  refine h F σ H _ m fun x vx H1 q1 t1 k1 r1 => ?_
  obtain ⟨ds, rfl, q⟩ := q1
  obtain ⟨a, xs, rfl, h1, h2⟩ := r1.lst_inv
  refine ⟨a, rfl, ⟨xs, SqL.of (sub_some h1).2⟩, k ds _ H1 q t1 k1 fun i H2 p s => ⟨fun d hd => ?_, fun hl => ?_⟩⟩
  · obtain ⟨x, hx, av⟩ := h2.get hd
    have ha := SqL.of (K := X.K) (sub_some (s _ _ h1)).2
    refine ⟨⟨xs, x, ha, hx⟩, fun x' H3 y => ?_⟩
    obtain ⟨e, y⟩ := y
    subst e
    have := y xs ha
    rw [hx] at this; cases this
    exact ⟨Same.refl _, fun _ => av.same s⟩
  · exact ⟨xs, SqL.of (sub_some (s _ _ h1)).2, by rw [h2.length]; exact hl⟩
theorem itw_range {p : Addr → Prop} {lo : Int} {n : Nat} {G : Hp} : ItW p (Itr lo n) ((upInts lo n).map .int) G := fun i H2 q s => ⟨fun d hd => by
    rw [List.getElem?_map, Option.map_eq_some_iff] at hd
    obtain ⟨z, h1, rfl⟩ := hd
    have hi : i < n := by
      have := (List.getElem?_eq_some_iff.mp h1).1
      rwa [upInts_length] at this
    rw [upInts_get hi] at h1
    cases h1
    refine ⟨hi, fun x H3 y => ?_⟩
    obtain ⟨rfl, rfl⟩ := y
    exact ⟨Same.refl _, fun _ => .int _⟩, fun hl => by
    rw [List.length_map, upInts_length] at hl
    exact hl⟩
theorem ei_range1 {tg : Expr} {Q : List PyData → Prop} (hg : Gl X "range") (hm : X.mg "range" = none) (h : EvD X α a fun x => ∃ j, x = .int j ∧ -(2 ^ 62) ≤ j ∧ j < 2 ^ 62 ∧ Q ((upInts 0 j.toNat).map .int)) (hs : starEach [a] X.env = [(false, eval a X.env)] := by rfl) :
    EvI X α tg (.Call (.Name "range" p) [a] [] pos) Q := fun F σ H R m k => by
  refine ⟨_, pi_range1 hg hm (pa_cons pe_eAny pa_nil hs) hs, ?_⟩
  refine h F σ H _ m fun x vx H1 q1 t1 k1 r1 => ?_
  obtain ⟨j, rfl, b1, b2, q⟩ := q1
  cases r1.int_inv
  exact ⟨j, rfl, b1, b2, k _ _ H1 q t1 k1 itw_range⟩
theorem ei_range2 {tg : Expr} {Q : List PyData → Prop} (hg : Gl X "range") (hm : X.mg "range" = none) (h : EvD X α a fun x => EvD X α b fun y => ∃ i j, x = .int i ∧ y = .int j ∧ (-(2 ^ 62) ≤ i ∧ i < 2 ^ 62 ∧ -(2 ^ 62) ≤ j ∧ j < 2 ^ 62) ∧ Q ((upInts i (j - i).toNat).map .int))
    (hs : starEach [a, b] X.env = [(false, eval a X.env), (false, eval b X.env)] := by rfl) (hs2 : starEach [b] X.env = [(false, eval b X.env)] := by rfl) (hs3 : starEach [a, b] X.env = (false, eval a X.env) :: starEach [b] X.env := by rfl) :
    EvI X α tg (.Call (.Name "range" p) [a, b] [] pos) Q := fun F σ H R m k => by
  refine ⟨_, pi_range2 hg hm (pa_cons pe_eAny (pa_cons pe_eAny pa_nil hs2) hs3) hs hs2, ?_⟩
  refine h F σ H _ m fun x vx H1 q1 t1 k1 r1 => ?_
  have m1 := m.kz k1 t1
  refine q1 F σ H1 _ m1 fun y vy H2 q2 t2 k2 r2 => ?_
  obtain ⟨i, j, rfl, rfl, bb, q⟩ := q2
  cases r1.int_inv; cases r2.int_inv
  exact ⟨i, j, rfl, bb, k _ _ H2 q t2 (k1.trans k2) itw_range⟩
end
end L2
set_option Elab.async false
set_option linter.all false
set_option maxRecDepth 100000
/-! The data layer: targets, comprehensions, statements, functions. -/
namespace L2
open PySem PySem.Spec PyProof.Rows
/-! ### targets -/
inductive Pat where
  | one (i : Nat)
  | many (is : List Nat)
def bindIs : List Nat → List PyData → Ev → Option Ev
  | [], [], α => some α
  | i :: is, d :: ds, α => bindIs is ds (α.set i (some (.dat d)))
  | _, _, _ => none
def Pat.bind : Pat → PyData → Ev → Option Ev
  | .one i, d, α => some (α.set i (some (.dat d)))
  | .many is, .tuple ds, α => bindIs is ds α
  | _, _, _ => none
def gIs : List Nat → TGs
  | [] => gNil
  | i :: is => gCons (gName i) (gIs is)
def gPat (K : PySem.W.Frag) : Pat → TG
  | .one i => gName i
  | .many is => gTup K is.length (gIs is)
def Pat.slots : Pat → List Nat
  | .one i => [i]
  | .many is => is
def isFree (α : Ev) (i : Nat) : Bool := match α[i]? with
  | some none => true
  | _ => false
def Pat.free (p : Pat) (α : Ev) : Bool := p.slots.all (isFree α)
section
variable {X : Cx} {α α' : Ev} {F : Fr} {σ : St} {H : Hp}
theorem get_set' {i : Nat} {x : Option A} {j : Nat} {y : Option A} (h : (α.set i x)[j]? = some y) : (i = j ∧ x = y) ∨ (i ≠ j ∧ α[j]? = some y) := by
  by_cases hij : i = j
  · subst hij
    left
    have hl : i < α.length := by
      have := (List.getElem?_eq_some_iff.mp h).1
      rwa [List.length_set] at this
    rw [List.getElem?_set_self hl] at h
    exact ⟨rfl, Option.some.inj h⟩
  · right
    rw [List.getElem?_set_ne hij] at h
    exact ⟨hij, h⟩
theorem M.set {i : Nat} {v : V} {d : PyData} (m : M F α σ H) (av : AV (Gz F α σ H) v d) : M F (α.set i (some (.dat d))) (σ.set i (some v)) H := by
  have ow : ∀ {y : Addr}, Ow F (α.set i (some (.dat d))) (σ.set i (some v)) y → Ow F α σ y := fun {y} h => by
    rcases h with z | ⟨j, es, e1, e2⟩
    · exact .inl z
    · rcases get_set' e1 with ⟨_, z⟩ | ⟨hj, e1'⟩
      · cases z
      · rw [List.getElem?_set_ne hj] at e2
        exact .inr ⟨j, es, e1', e2⟩
  have gs : Same (Gz F α σ H) (Gz F (α.set i (some (.dat d))) (σ.set i (some v)) H) := same_sub fun a o h e => ⟨fun z => h (ow z), e⟩
  refine ⟨by rw [List.length_set, List.length_set]; exact m.len, fun j d' e => ?_, fun j es e => ?_, fun j j' es es' l' e1 e2 e3 e4 => ?_, fun j e => ?_, fun j l2 e => ?_, m.tp, m.keep, m.oex⟩
  · rcases get_set' e with ⟨rfl, z⟩ | ⟨hj, e'⟩
    · cases z
      have hl : i < σ.length := by
        rw [← m.len]
        have := (List.getElem?_eq_some_iff.mp e).1
        rwa [List.length_set] at this
      exact ⟨v, List.getElem?_set_self hl, av.same gs⟩
    · obtain ⟨u, g1, g2⟩ := m.dat j d' e'
      exact ⟨u, by rw [List.getElem?_set_ne hj]; exact g1, g2.same gs⟩
  · rcases get_set' e with ⟨_, z⟩ | ⟨hj, e'⟩
    · cases z
    · obtain ⟨l, xs, g1, g2, g3, g4⟩ := m.own j es e'
      exact ⟨l, xs, by rw [List.getElem?_set_ne hj]; exact g1, g2, g3.same gs, g4⟩
  · rcases get_set' e1 with ⟨_, z⟩ | ⟨hj, e1'⟩
    · cases z
    · rcases get_set' e2 with ⟨_, z⟩ | ⟨hj', e2'⟩
      · cases z
      · rw [List.getElem?_set_ne hj] at e3
        rw [List.getElem?_set_ne hj'] at e4
        exact m.inj j j' es es' l' e1' e2' e3 e4
  · rcases get_set' e with ⟨_, z⟩ | ⟨hj, e'⟩
    · cases z
    · obtain ⟨t, b, c, g1, g2⟩ := m.tvar j e'
      exact ⟨t, b, c, g1, by rw [List.getElem?_set_ne hj]; exact g2⟩
  · rcases get_set' e with ⟨_, z⟩ | ⟨hj, e'⟩
    · cases z
    · rw [List.getElem?_set_ne hj]; exact m.atv j l2 e'
theorem M.setOwn {i : Nat} {v : V} {ds : List PyData} {H' : Hp} (m : M F α σ H) (t : TpOk F H') (k : Kz F H H') (fl : FreshL F α σ H v H' ds) : M F (α.set i (some (.own ds))) (σ.set i (some v)) H' := by
  obtain ⟨l, xs, rfl, h1, h2, h3⟩ := fl
  have m' := m.kz k t
  have nl : ¬ Ow F α σ l := m.fresh h1
  have ow : ∀ {y : Addr}, Ow F (α.set i (some (.own ds))) (σ.set i (some (.ref l))) y → Ow F α σ y ∨ y = l := fun {y} h => by
    rcases h with z | ⟨j, es, e1, e2⟩
    · exact .inl (.inl z)
    · rcases get_set' e1 with ⟨rfl, z⟩ | ⟨hj, e1'⟩
      · have hl : i < σ.length := by
          have := (List.getElem?_eq_some_iff.mp e2).1
          rwa [List.length_set] at this
        rw [List.getElem?_set_self hl] at e2
        cases e2
        exact .inr rfl
      · rw [List.getElem?_set_ne hj] at e2
        exact .inl (.inr ⟨j, es, e1', e2⟩)
  have gs : Same (sub (fun x => ¬ Ow F α σ x ∧ x ≠ l) H') (Gz F (α.set i (some (.own ds))) (σ.set i (some (.ref l))) H') := same_sub fun a o h e => ⟨fun z => (ow z).elim h.1 h.2, e⟩
  have g0 : Same (Gz F α σ H) (sub (fun x => ¬ Ow F α σ x ∧ x ≠ l) H') := same_sub fun a o h e => ⟨⟨h, ne_of_none e h1⟩, k a o e (m.tp.nt (ow0 h))⟩
  refine ⟨by rw [List.length_set, List.length_set]; exact m.len, fun j d' e => ?_, fun j es e => ?_, fun j j' es es' l' e1 e2 e3 e4 => ?_, fun j e => ?_, fun j l2 e => ?_, t, m.keep.trans k, m'.oex⟩
  · rcases get_set' e with ⟨_, z⟩ | ⟨hj, e'⟩
    · cases z
    · obtain ⟨u, g1, g2⟩ := m.dat j d' e'
      exact ⟨u, by rw [List.getElem?_set_ne hj]; exact g1, (g2.same g0).same gs⟩
  · rcases get_set' e with ⟨rfl, z⟩ | ⟨hj, e'⟩
    · cases z
      have hl : i < σ.length := by
        rw [← m.len]
        have := (List.getElem?_eq_some_iff.mp e).1
        rwa [List.length_set] at this
      exact ⟨l, xs, List.getElem?_set_self hl, h2, h3.same gs, ow0 nl, m.fresh0 h1⟩
    · obtain ⟨l2, xs2, g1, g2, g3, g4, g5⟩ := m.own j es e'
      exact ⟨l2, xs2, by rw [List.getElem?_set_ne hj]; exact g1, k _ _ g2 (m.tp.nt g4), (g3.same g0).same gs, g4, g5⟩
  · have nn : ∀ {j : Nat} {es : List PyData}, i ≠ j → α[j]? = some (some (.own es)) → σ[j]? ≠ some (some (.ref l)) := fun {j es} _ e z => nl (.inr ⟨j, es, e, z⟩)
    rcases get_set' e1 with ⟨rfl, z⟩ | ⟨hj, e1'⟩
    · rcases get_set' e2 with ⟨z', _⟩ | ⟨hj', e2'⟩
      · exact z'
      · have hl : i < σ.length := by
          have := (List.getElem?_eq_some_iff.mp e3).1
          rwa [List.length_set] at this
        rw [List.getElem?_set_self hl] at e3
        cases e3
        rw [List.getElem?_set_ne hj'] at e4
        exact absurd e4 (nn hj' e2')
    · rcases get_set' e2 with ⟨rfl, z'⟩ | ⟨hj', e2'⟩
      · have hl : i < σ.length := by
          have := (List.getElem?_eq_some_iff.mp e4).1
          rwa [List.length_set] at this
        rw [List.getElem?_set_self hl] at e4
        cases e4
        rw [List.getElem?_set_ne hj] at e3
        exact absurd e3 (nn hj e1')
      · rw [List.getElem?_set_ne hj] at e3
        rw [List.getElem?_set_ne hj'] at e4
        exact m.inj j j' es es' l' e1' e2' e3 e4
  · rcases get_set' e with ⟨_, z⟩ | ⟨hj, e'⟩
    · cases z
    · obtain ⟨t, b, c, g1, g2⟩ := m.tvar j e'
      exact ⟨t, b, c, g1, by rw [List.getElem?_set_ne hj]; exact g2⟩
  · rcases get_set' e with ⟨_, z⟩ | ⟨hj, e'⟩
    · cases z
    · rw [List.getElem?_set_ne hj]; exact m.atv j l2 e'
/-- a write at what others own, not seen here -/
theorem M.wr {x : Addr} {o : HO} (m : M F α σ H) (hno : NoTup o) (ho : F.O0 x) (ht : ∀ t b c, F.tp = some (t, b, c) → x ≠ t ∧ x ≠ b ∧ x ≠ c) (h0 : F.H0 x = none) (hpl : Plain H x) : M F α σ (upd H x o) := by
  have gs : Same (Gz F α σ H) (Gz F α σ (upd H x o)) := same_sub fun a u h e => ⟨h, by rw [upd_ne (fun z => h (.inl (by rw [z]; exact ho)))]; exact e⟩
  refine ⟨m.len, fun j d e => ?_, fun j es e => ?_, m.inj, m.tvar, m.atv, ⟨m.tp.has, fun t b c e => ?_⟩, fun y u e n => ?_, fun y hy => ?_⟩
  · obtain ⟨v, h1, h2⟩ := m.dat j d e
    exact ⟨v, h1, h2.same gs⟩
  · obtain ⟨l, xs, h1, h2, h3, h4, h5⟩ := m.own j es e
    exact ⟨l, xs, h1, by rw [upd_ne (fun z => h4 (by rw [z]; exact ho))]; exact h2, h3.same gs, h4, h5⟩
  · exact ⟨tape_upd (m.tp t b c e).1 (ht t b c e) hpl, (m.tp t b c e).2⟩
  · rw [upd_ne (ne_of_none e h0)]; exact m.keep y u e n
  · by_cases z : y = x
    · exact ⟨o, by rw [z]; exact upd_same, hno⟩
    · obtain ⟨u, hu, hn⟩ := m.oex y hy
      exact ⟨u, by rw [upd_ne z]; exact hu, hn⟩
/-- what is forgotten -/
theorem M.forget {α0 : Ev} (m : M F α σ H) (hl : α0.length = α.length) (le : ∀ (i : Nat) a, α0[i]? = some (some a) → α[i]? = some (some a)) : M F α0 σ H := by
  have ow : ∀ {y : Addr}, Ow F α0 σ y → Ow F α σ y := fun {y} h => by
    rcases h with z | ⟨j, es, e1, e2⟩
    · exact .inl z
    · exact .inr ⟨j, es, le _ _ e1, e2⟩
  have gs : Same (Gz F α σ H) (Gz F α0 σ H) := same_sub fun a o h e => ⟨fun z => h (ow z), e⟩
  refine ⟨hl.trans m.len, fun j d e => ?_, fun j es e => ?_, fun j j' es es' l' e1 e2 => m.inj j j' es es' l' (le _ _ e1) (le _ _ e2), fun j e => m.tvar j (le _ _ e), fun j l2 e => m.atv j l2 (le _ _ e), m.tp, m.keep, m.oex⟩
  · obtain ⟨v, h1, h2⟩ := m.dat j d (le _ _ e)
    exact ⟨v, h1, h2.same gs⟩
  · obtain ⟨l, xs, h1, h2, h3, h4⟩ := m.own j es (le _ _ e)
    exact ⟨l, xs, h1, h2, h3.same gs, h4⟩
theorem bindIs_ok {H : Hp} : ∀ {is : List Nat} {ds : List PyData} {α α' : Ev} {σ : St} {xs : List V} {R : St → Hp → Prop}, bindIs is ds α = some α' → M F α σ H → (∀ G, Same (Gz F α σ H) G → AVs G xs ds) → (∀ σ', M F α' σ' H → R σ' H) → gIs is xs σ H R
  | [], [], α, α', σ, xs, R, e, m, av, k => by
    cases e
    cases av _ (Same.refl _)
    exact ⟨rfl, k σ m⟩
  | i :: is, d :: ds, α, α', σ, xs, R, e, m, av, k => by
    cases h : av _ (Same.refl _) with
    | @cons x xs _ _ h1 h2 =>
      refine ⟨x, xs, rfl, ?_⟩
      have gs : Same (Gz F α σ H) (Gz F (α.set i (some (.dat d))) (σ.set i (some x)) H) := same_sub fun a o h e => ⟨fun z => h (by
        rcases z with z | ⟨j, es, e1, e2⟩
        · exact .inl z
        · rcases get_set' e1 with ⟨_, z⟩ | ⟨hj, e1'⟩
          · cases z
          · rw [List.getElem?_set_ne hj] at e2
            exact .inr ⟨j, es, e1', e2⟩), e⟩
      exact bindIs_ok (is := is) (ds := ds) e (m.set (i := i) h1) (fun G s => h2.same (gs.trans s)) k
  | [], _ :: _, _, _, _, _, _, e, _, _, _ => by cases e
  | _ :: _, [], _, _, _, _, _, e, _, _, _ => by cases e
theorem bind_ok {K : PySem.W.Frag} {pat : Pat} {d : PyData} {v : V} {R : St → Hp → Prop} (e : pat.bind d α = some α') (m : M F α σ H) (av : AV (Gz F α σ H) v d) (k : ∀ σ', M F α' σ' H → R σ' H) : gPat K pat v σ H R := by
  cases pat with
  | one i => cases e; exact k _ (m.set av)
  | many is =>
    cases d with
    | tuple ds =>
      obtain ⟨a, xs, rfl, h1, h2⟩ := av.tup_inv
      have hl : ∀ {is : List Nat} {ds : List PyData} {α α' : Ev}, bindIs is ds α = some α' → ds.length = is.length := by
        intro is
        induction is with
        | nil => intro ds α α' h; cases ds with | nil => rfl | cons _ _ => cases h
        | cons i is ih => intro ds α α' h; cases ds with | nil => cases h | cons d ds => rw [List.length_cons, List.length_cons, ih h]
      exact ⟨a, xs, rfl, SqT.of (sub_some h1).2, by rw [h2.length]; exact hl e, bindIs_ok e m (fun G s => h2.same s) k⟩
    | _ => cases e
theorem bindIs_len : ∀ {is : List Nat} {ds : List PyData} {α α' : Ev}, bindIs is ds α = some α' → α'.length = α.length
  | [], [], _, _, e => by cases e; rfl
  | i :: is, d :: ds, α, α', e => by
    have := bindIs_len (is := is) (ds := ds) e
    rwa [List.length_set] at this
  | [], _ :: _, _, _, e => by cases e
  | _ :: _, [], _, _, e => by cases e
theorem bindIs_get : ∀ {is : List Nat} {ds : List PyData} {α α' : Ev} {j : Nat}, bindIs is ds α = some α' → j ∉ is → α'[j]? = α[j]?
  | [], [], _, _, _, e, _ => by cases e; rfl
  | i :: is, d :: ds, α, α', j, e, h => by
    rw [bindIs_get (is := is) (ds := ds) e fun z => h (List.mem_cons_of_mem _ z)]
    exact List.getElem?_set_ne fun (z : i = j) => h (by rw [← z]; exact List.mem_cons_self)
  | [], _ :: _, _, _, _, e, _ => by cases e
  | _ :: _, [], _, _, _, e, _ => by cases e
theorem bindIs_own : ∀ {is : List Nat} {ds : List PyData} {α α' : Ev} {j : Nat} {es : List PyData}, bindIs is ds α = some α' → α'[j]? = some (some (.own es)) → α[j]? = some (some (.own es))
  | [], [], _, _, _, _, e, h => by cases e; exact h
  | i :: is, d :: ds, α, α', j, es, e, h => by
    rcases get_set' (bindIs_own (is := is) (ds := ds) e h) with ⟨_, z⟩ | ⟨_, z⟩
    · cases z
    · exact z
  | [], _ :: _, _, _, _, _, e, _ => by cases e
  | _ :: _, [], _, _, _, _, e, _ => by cases e
theorem Pat.is_ok {pat : Pat} {d : PyData} (e : pat.bind d α = some α') : ∃ is ds, pat.slots = is ∧ bindIs is ds α = some α' := by
  cases pat with
  | one i => cases e; exact ⟨_, [d], rfl, rfl⟩
  | many is =>
    cases d with
    | tuple ds => exact ⟨_, ds, rfl, e⟩
    | _ => cases e
theorem Pat.back {pat : Pat} {d : PyData} (e : pat.bind d α = some α') (fr : pat.free α = true) (m : M F α' σ H) : M F α σ H := by
  obtain ⟨is, ds, rfl, e⟩ := Pat.is_ok e
  refine m.forget (bindIs_len e).symm fun j a h => ?_
  by_cases hj : j ∈ pat.slots
  · have := List.all_eq_true.mp fr j hj
    unfold isFree at this
    rw [h] at this
    cases this
  · rw [bindIs_get e hj]; exact h
end
/-! ### comprehensions -/
section
variable {X : Cx} {α : Ev}
def EvTs (X : Cx) (α : Ev) (ifs : List Expr) (Q : Bool → Prop) : Prop := ∀ (F : Fr) (σ : St) (H : Hp) (R : Bool → Hp → Prop), M F α σ H → (∀ b H', Q b → TpOk F H' → Kz F H H' → R b H') → ∃ t, PTests X ifs t ∧ t σ H R
def tsAny (X : Cx) (ifs : List Expr) : TT := fun σ H R => ∃ t, PTests X ifs t ∧ t σ H R
theorem pts_any {ifs : List Expr} : PTests X ifs (tsAny X ifs) := fun pins s σ H Q I ⟨t, p, q⟩ => p pins s σ H Q I q
theorem es_nil {Q : Bool → Prop} (q : Q true) : EvTs X α [] Q := fun F σ H R m k => ⟨_, pts_nil, k _ H q m.tp Kz.refl⟩
theorem es_one {c : Expr} {Q : Bool → Prop} (h : EvT X α c Q) : EvTs X α [c] Q := fun F σ H R m k => ⟨_, pts_one pt_cAny, h F σ H R m k⟩
/-- what the block sees of the names around -/
def seen : Option A → Option A
  | some (.own _) => none
  | some (.at _) => none
  | a => a
def impA (imp : List (Option Nat)) (α : Ev) : Ev := imp.map fun o => o.bind fun j => (α[j]?).bind seen
theorem impA_get {imp : List (Option Nat)} {i : Nat} {a : A} (h : (impA imp α)[i]? = some (some a)) : ∃ j, imp[i]? = some (some j) ∧ α[j]? = some (some a) ∧ (∀ ds, a ≠ .own ds) ∧ ∀ l, a ≠ .at l := by
  unfold impA at h
  rw [List.getElem?_map, Option.map_eq_some_iff] at h
  obtain ⟨o, h1, h2⟩ := h
  cases o with
  | none => cases h2
  | some j =>
    have h2' : (α[j]?).bind seen = some a := h2
    cases q : α[j]? with
    | none => rw [q] at h2'; cases h2'
    | some b =>
      rw [q] at h2'
      cases b with
      | none => cases h2'
      | some b =>
        cases b with
        | dat d => cases h2'; exact ⟨j, h1, q, (fun _ z => by cases z), (fun _ z => by cases z)⟩
        | own ds => cases h2'
        | tape => cases h2'; exact ⟨j, h1, q, (fun _ z => by cases z), (fun _ z => by cases z)⟩
        | «at» _ => cases h2'
theorem impOf_at {imp : List (Option Nat)} {σ : St} {i j : Nat} {v : V} (h1 : imp[i]? = some (some j)) (h2 : σ[j]? = some (some v)) : (impOf imp σ)[i]? = some (some v) := by
  unfold impOf
  rw [List.getElem?_map, h1]
  show some ((σ[j]?).bind id) = _
  rw [h2]; rfl
/-- the block, turn by turn -/
def CompW (Y : Addr → Shared → Hp → List Addr → Cx) (pat : Pat) (ifs : List Expr) (elt : Expr) (α0 : Ev) : List PyData → List PyData → (List PyData → Prop) → Prop
  | [], acc, Q => Q acc
  | d :: ds, acc, Q => ∃ α1, pat.bind d α0 = some α1 ∧ ∀ C s2 H2 fp, EvTs (Y C s2 H2 fp) α1 ifs fun k => if k = true then ∀ C s2 H2 fp, EvD (Y C s2 H2 fp) α1 elt fun y => CompW Y pat ifs elt α0 ds (acc ++ [y]) Q else CompW Y pat ifs elt α0 ds acc Q
def eC (Y : Addr → Shared → Hp → List Addr → Cx) (e : Expr) : TE := fun σ H Q => ∀ C s2 H2 fp, eAny (Y C s2 H2 fp) e σ H Q
def tsC (Y : Addr → Shared → Hp → List Addr → Cx) (ifs : List Expr) : TT := fun σ H Q => ∀ C s2 H2 fp, tsAny (Y C s2 H2 fp) ifs σ H Q
theorem comp_ok {N : List Str} {imp : List (Option Nat)} {scope : Scope} {tg iter elt : Expr} {ifs : List Expr} {pat : Pat} {Q : List PyData → Prop} (hfree : pat.free (impA imp α) = true)
    (h : EvI X α tg iter fun ds => ds.length ≤ 1000 ∧ CompW (fun C s2 H2 fp => X.comp N scope C s2 H2 fp) pat ifs elt (impA imp α) ds [] Q)
    (F : Fr) (σ : St) (H : Hp) (R : VK) (m : M F α σ H) (k : ∀ ds v H', Q ds → TpOk F H' → Kz F H H' → FreshL F α σ H v H' ds → R v H') :
    ∃ Y : Addr → Shared → Hp → List Addr → Cx, Y = (fun C s2 H2 fp => X.comp N scope C s2 H2 fp) ∧ tComp (iAny X tg iter) imp (gPat X.K pat) (tsC Y ifs) (eC Y elt) σ H R := by
  refine ⟨_, rfl, ?_⟩
  refine h F σ H _ m fun ds J H1 ⟨hl, q1⟩ t1 k1 itw acc hacc => ?_
  have m1 := m.kz k1 t1
  have nacc : ¬ Ow F α σ acc := m1.fresh hacc
  let Fc : Fr := ⟨H1, fun x => Ow F α σ x ∨ x = acc, F.tp⟩
  have noown : ∀ {α1 : Ev}, (∀ (j : Nat) es, α1[j]? = some (some (.own es)) → (impA imp α)[j]? = some (some (.own es))) → ∀ (j : Nat) es, α1[j]? ≠ some (some (.own es)) := fun {α1} hh j es z => by
    obtain ⟨_, _, _, n, _⟩ := impA_get (hh j es z)
    exact n es rfl
  have no0 : ∀ (j : Nat) es, (impA imp α)[j]? ≠ some (some (.own es)) := noown fun _ _ z => z
  have owc : ∀ {α1 : Ev} {τ : St} {x : Addr}, (∀ (j : Nat) es, α1[j]? ≠ some (some (.own es))) → (Ow Fc α1 τ x ↔ Fc.O0 x) := fun {α1 τ x} hh => ⟨fun z => z.elim id fun ⟨j, es, e, _⟩ => absurd e (hh j es), .inl⟩
  have gz : ∀ {α1 α2 : Ev} {τ1 τ2 : St} {H : Hp}, (∀ (j : Nat) es, α1[j]? ≠ some (some (.own es))) → (∀ (j : Nat) es, α2[j]? ≠ some (some (.own es))) → Same (Gz Fc α1 τ1 H) (Gz Fc α2 τ2 H) := fun h1 h2 => same_sub fun a o h e => ⟨fun z => h ((owc h1).mpr ((owc h2).mp z)), e⟩
  have tpc : ∀ {H2 : Hp}, TpOk F H2 → TpOk Fc H2 := fun t => ⟨t.has, fun a b c e => ⟨(t a b c e).1, .inl (.inl (t a b c e).2.1), .inl (.inl (t a b c e).2.2.1), .inl (.inl (t a b c e).2.2.2.1), .inl (.inl (t a b c e).2.2.2.2)⟩⟩
  have s01 : Same H1 (upd H1 acc (.lst [])) := same_new hacc
  have mc0 : M Fc (impA imp α) (impOf imp σ) (upd H1 acc (.lst [])) := by
    have g1 : Same (Gz F α σ H1) (Gz Fc (impA imp α) (impOf imp σ) (upd H1 acc (.lst []))) := fun a o e => by
      obtain ⟨z1, z2⟩ := sub_some e
      have na : a ≠ acc := ne_of_none z2 hacc
      exact sub_of (fun z => ((owc no0).mp z).elim z1 na) (by rw [upd_ne na]; exact z2)
    refine ⟨by unfold impA impOf; rw [List.length_map, List.length_map], fun i d e => ?_, fun i es e => absurd e (no0 i es), fun i j es es' l e => absurd e (no0 i es), fun i e => ?_, fun i l e => by
      obtain ⟨_, _, _, _, n⟩ := impA_get e
      exact absurd rfl (n l), tpc (t1.same s01), fun x o e _ => s01 x o e, ?_⟩
    · obtain ⟨j, e1, e2, _⟩ := impA_get e
      obtain ⟨v, g2, g3⟩ := m1.dat j d e2
      exact ⟨v, impOf_at e1 g2, g3.same g1⟩
    · obtain ⟨j, e1, e2, _⟩ := impA_get e
      obtain ⟨t, b, c, g2, g3⟩ := m1.tvar j e2
      exact ⟨t, b, c, g2, impOf_at e1 g3⟩
    · rintro x (z | z)
      · have : ∃ o, H1 x = some o ∧ NoTup o := by
          rcases z with z | ⟨i, es, e1, e2⟩
          · exact m1.oex x z
          · obtain ⟨l, xs, h1, h2, _⟩ := m1.own i es e1
            rw [e2] at h1; cases h1
            exact ⟨_, h2, notup_lst⟩
        obtain ⟨o, ho, hn⟩ := this
        exact ⟨o, s01 _ _ ho, hn⟩
      · exact ⟨_, by rw [z]; exact upd_same, notup_lst⟩
  refine ⟨fun i n ys τ H2 => n = ds.length - i ∧ i ≤ ds.length ∧ ∃ ad : List PyData, M Fc (impA imp α) τ H2 ∧ H2 acc = some (.lst ys) ∧ AVs (Gz Fc (impA imp α) τ H2) ys ad ∧ ad.length ≤ i ∧ CompW (fun C s2 H2 fp => X.comp N scope C s2 H2 fp) pat ifs elt (impA imp α) (ds.drop i) ad Q,
    ⟨ds.length, by simp, Nat.zero_le _, [], mc0, upd_same, .nil, Nat.le_refl _, q1⟩, ?_⟩
  rintro i n ys τ H2 ⟨rfl, hi, ad, m2, ha, av, had, cw⟩
  have sG : Same (Gz F α σ H1) (Gz Fc (impA imp α) τ H2) := fun a o e => by
    obtain ⟨z1, z2⟩ := sub_some e
    exact m2.old a o (sub_of (p := fun x => ¬ Fc.O0 x) (fun z => z.elim z1 (ne_of_none z2 hacc)) z2)
  obtain ⟨w1, w2⟩ := itw i H2 _ sG
  by_cases hlt : i < ds.length
  · have hd : ds[i]? = some ds[i] := List.getElem?_eq_getElem hlt
    have hdr : ds.drop i = ds[i] :: ds.drop (i + 1) := List.drop_eq_getElem_cons hlt
    rw [hdr] at cw
    obtain ⟨α1, eb, body⟩ := cw
    obtain ⟨go, yl⟩ := w1 _ hd
    have no1 : ∀ (j : Nat) es, α1[j]? ≠ some (some (.own es)) := noown fun j es z => by
      obtain ⟨is, ds', _, e⟩ := Pat.is_ok eb
      exact bindIs_own e z
    refine .inr ⟨go, fun ys' τ' H' => ∃ ad : List PyData, M Fc (impA imp α) τ' H' ∧ H' acc = some (.lst ys') ∧ AVs (Gz Fc (impA imp α) τ' H') ys' ad ∧ ad.length ≤ i + 1 ∧ CompW (fun C s2 H2 fp => X.comp N scope C s2 H2 fp) pat ifs elt (impA imp α) (ds.drop (i + 1)) ad Q,
      fun ys' τ' H' ⟨ad', r1, r2, r3, r4, r5⟩ => ⟨ds.length - (i + 1), by omega, rfl, hlt, ad', r1, r2, r3, r4, r5⟩, fun x H3 y => ?_⟩
    obtain ⟨s23, avx⟩ := yl x H3 y
    have m3 : M Fc (impA imp α) τ H3 := m2.kz (Kz.of_same s23) (m2.tp.same s23)
    have avx' := avx fun a o _ e => m2.fresh e
    refine bind_ok eb m3 avx' fun τ1 m4 C s2 H2' fp => ?_
    refine body C s2 H2' fp Fc τ1 H3 _ m4 fun b H5 qb t5 k5 => ?_
    have m5 := m4.kz k5 t5
    have av5 : AVs (Gz Fc (impA imp α) τ1 H5) ys ad := av.same ((Kz.of_same s23).gz m2.tp |>.trans ((gz (τ2 := τ1) no0 no1).trans ((k5.gz m4.tp).trans (gz no1 no0))))
    have accN : NT Fc acc := fun t b c e => by
      have := (t1 t b c e).1.free hacc
      exact ⟨this.1, this.2.1, (t1 t b c e).1.freeP hacc⟩
    have ha5 : H5 acc = some (.lst ys) := k5 _ _ (s23 _ _ ha) accN
    cases b with
    | false =>
      have qb' : CompW (fun C s2 H2 fp => X.comp N scope C s2 H2 fp) pat ifs elt (impA imp α) (ds.drop (i + 1)) ad Q := by simpa using qb
      exact iteF ⟨ad, Pat.back eb hfree m5, ha5, av5, by omega, qb'⟩
    | true =>
      refine iteT fun C s2 H2'' fp => ?_
      have qe : EvD (X.comp N scope C s2 H2'' fp) α1 elt fun y => CompW (fun C s2 H2 fp => X.comp N scope C s2 H2 fp) pat ifs elt (impA imp α) (ds.drop (i + 1)) (ad ++ [y]) Q := by
        have z := qb
        rw [if_pos rfl] at z
        exact z C s2 H2'' fp
      refine qe Fc τ1 H5 _ m5 fun y v H6 qy t6 k6 r6 => ?_
      have m6 := m5.kz k6 t6
      have ha6 : H6 acc = some (.lst ys) := k6 _ _ ha5 accN
      have hlen : ys.length ≤ i := by rw [av.length]; exact had
      have oacc : Fc.O0 acc := .inr rfl
      have tacc : ∀ t b c, Fc.tp = some (t, b, c) → acc ≠ t ∧ acc ≠ b ∧ acc ≠ c := fun t b c e => (t1 t b c e).1.free hacc
      have m7 := (Pat.back eb hfree m6).wr (o := .lst (ys ++ [v])) notup_lst oacc tacc hacc (plain_lst ha6)
      refine ⟨ha6, small1000 (by omega), ad ++ [y], m7, upd_same, ?_, by simp; omega, qy⟩
      have g67 : Same (Gz Fc (impA imp α) τ1 H6) (Gz Fc (impA imp α) τ1 (upd H6 acc (.lst (ys ++ [v])))) := same_sub fun a o h e => ⟨h, by rw [upd_ne (fun z => h (.inl (by rw [z]; exact oacc)))]; exact e⟩
      exact ((av5.same ((gz (τ2 := τ1) no0 no1).trans ((k6.gz m5.tp).trans (gz no1 no0)))).append (.cons (r6.same (gz no1 no0)) .nil)).same g67
  · have e : i = ds.length := by omega
    subst e
    rw [List.drop_length] at cw
    refine .inl ⟨w2 (Nat.le_refl _), k ad _ H2 cw ?_ (k1.trans m2.keep) (FreshL.back m k1 t1 ⟨acc, ys, rfl, hacc, ha, av.same (same_sub fun a o h e => ⟨⟨fun z => h (.inl (.inl z)), fun z => h (.inl (.inr z))⟩, e⟩)⟩)⟩
    exact ⟨m.tp.has, fun t b c e => ⟨(m2.tp t b c e).1, (m.tp t b c e).2⟩⟩
theorem el_lc {N : List Str} {imp : List (Option Nat)} {scope : Scope} {tg iter elt : Expr} {ifs : List Expr} {pat : Pat} {Q : List PyData → Prop} {pos : Pos} (hc : X.calm = true) (S : CompScope X.N X.env.scope N imp scope) (hfree : pat.free (impA imp α) = true)
    (hg : ∀ C s2 H2 fp, PG (X.comp N scope C s2 H2 fp) tg (gPat X.K pat))
    (h : EvI X α tg iter fun ds => ds.length ≤ 1000 ∧ CompW (fun C s2 H2 fp => X.comp N scope C s2 H2 fp) pat ifs elt (impA imp α) ds [] Q) (hs : ∀ x, foldedSetIterable iter X.env x = pure x := by intro _; rfl) :
    EvL X α (.ListComp elt [⟨tg, iter, ifs, 0⟩] scope pos) Q := fun F σ H R m k => by
  obtain ⟨Y, rfl, h⟩ := comp_ok hfree h F σ H R m k
  exact ⟨_, pe_lc hc S pi_iAny hg (fun C s2 H2 fp pins s σ H Q I h => pts_any pins s σ H Q I (h C s2 H2 fp)) (fun C s2 H2 fp pins s σ H Q I h => pe_eAny pins s σ H Q I (h C s2 H2 fp)) hs, h⟩
/-! ### statements -/
section
variable {E : AEnds} {rest body : List Stmt} {e c tg iter : Expr} {pos p : Pos}
theorem ERel.then {F : Fr} {D : Ends} (h : ERel F E D) : ERel F { E with nx := fun α' => SvS X α' rest E } { D with nx := tAny X rest D } :=
  ⟨fun α' σ' H' m q => q F σ' H' D m h, h.rt, h.bk, h.ct⟩
theorem sv_nil (q : E.nx α) : SvS X α [] E := fun F σ H D m h => ⟨_, pss_nil, h.nx _ _ _ m q⟩
theorem SvS.imp {sts : List Stmt} {E' : AEnds} (h : SvS X α sts E') (hn : ∀ α, E'.nx α → E.nx α) (hr : ∀ a, E'.rt a → E.rt a) (hb : ∀ α, E'.bk α → E.bk α) (hc : ∀ α, E'.ct α → E.ct α) : SvS X α sts E := fun F σ H D m r =>
  h F σ H D m ⟨fun α σ H m q => r.nx α σ H m (hn _ q), fun a v H m q => r.rt a v H m (hr _ q), fun α σ H m q => r.bk α σ H m (hb _ q), fun α σ H m q => r.ct α σ H m (hc _ q)⟩
theorem sv_set (i : Nat) {x : Str} {pos' : Pos} (hN : X.N.Nodup) (h : EvD X α e fun d => SvS X (α.set i (some (.dat d))) rest E) (hi : X.N[i]? = some x := by rfl) (hx : Loc X.env.scope x := by first | exact Or.inl rfl | exact Or.inr rfl)
    (hs : swapsWith e (some (.Name x pos')) pos.line X.env = pure false := by rfl) (hf : X.fn x = true ∨ X.env.scope.names.lookup x = some .local := by first | exact .inl rfl | exact .inr rfl | assumption) : SvS X α (.Assign [.Name x pos'] e pos :: rest) E := fun F σ H D m r => by
  refine ⟨_, pss_cons (ps_set hN hi hx pe_eAny hs hf) pss_any, ?_⟩
  exact h F σ H _ m fun d v H1 q1 t1 k1 r1 => q1 F _ H1 D ((m.kz k1 t1).set r1) r
theorem sv_setL (i : Nat) {x : Str} {pos' : Pos} (hN : X.N.Nodup) (h : EvL X α e fun ds => SvS X (α.set i (some (.own ds))) rest E) (hi : X.N[i]? = some x := by rfl) (hx : Loc X.env.scope x := by first | exact Or.inl rfl | exact Or.inr rfl)
    (hs : swapsWith e (some (.Name x pos')) pos.line X.env = pure false := by rfl) (hf : X.fn x = true ∨ X.env.scope.names.lookup x = some .local := by first | exact .inl rfl | exact .inr rfl | assumption) : SvS X α (.Assign [.Name x pos'] e pos :: rest) E := fun F σ H D m r => by
  refine ⟨_, pss_cons (ps_set hN hi hx pe_eAny hs hf) pss_any, ?_⟩
  exact h F σ H _ m fun d v H1 q1 t1 k1 r1 => q1 F _ H1 D (m.setOwn t1 k1 r1) r
/-- x = [.. for ..] -/
theorem sv_lc (i : Nat) {x : Str} {pos' cpos : Pos} {N : List Str} {imp : List (Option Nat)} {scope : Scope} {elt : Expr} {ifs : List Expr} {pat : Pat} (hN : X.N.Nodup) (hc : X.calm = true) (S : CompScope X.N X.env.scope N imp scope) (hfree : pat.free (impA imp α) = true)
    (hg : ∀ C s2 H2 fp, PG (X.comp N scope C s2 H2 fp) tg (gPat X.K pat))
    (h : EvI X α tg iter fun ds => ds.length ≤ 1000 ∧ CompW (fun C s2 H2 fp => X.comp N scope C s2 H2 fp) pat ifs elt (impA imp α) ds [] fun ds => SvS X (α.set i (some (.own ds))) rest E)
    (hi : X.N[i]? = some x := by rfl) (hx : Loc X.env.scope x := by first | exact Or.inl rfl | exact Or.inr rfl) (hsw : swapsWith (.ListComp elt [⟨tg, iter, ifs, 0⟩] scope cpos) (some (.Name x pos')) pos.line X.env = pure true := by rfl)
    (hf : X.fn x = true ∨ X.env.scope.names.lookup x = some .local := by first | exact .inl rfl | exact .inr rfl | assumption) (hs : ∀ x, foldedSetIterable iter X.env x = pure x := by intro _; rfl) :
    SvS X α (.Assign [.Name x pos'] (.ListComp elt [⟨tg, iter, ifs, 0⟩] scope cpos) pos :: rest) E := fun F σ H D m r => by
  obtain ⟨Y, rfl, h⟩ := comp_ok hfree h F σ H (fun v H' => tAny X rest D (σ.set i (some v)) H') m fun ds v H' q t k fl => q F _ H' D (m.setOwn t k fl) r
  exact ⟨_, pss_cons (ps_lcset hc S pi_iAny hg (fun C s2 H2 fp pins s σ H Q I h => pts_any pins s σ H Q I (h C s2 H2 fp)) (fun C s2 H2 fp pins s σ H Q I h => pe_eAny pins s σ H Q I (h C s2 H2 fp)) hN hi hx hsw hf hs) pss_any, h⟩
theorem RetOk.dat {F : Fr} {σ : St} {H : Hp} {v : V} {d : PyData} (m : M F α σ H) (r : AV (Gz F α σ H) v d) : RetOk F v H (.dat d) :=
  ⟨m.tp, m.keep, r.same (same_sub fun a o h e => ⟨ow0 h, e⟩)⟩
theorem sv_ret (h : EvD X α e fun d => E.rt (.dat d)) : SvS X α (.Return (some e) pos :: rest) E := fun F σ H D m r => by
  refine ⟨_, pss_cons (ps_ret pe_eAny) pss_any, ?_⟩
  exact h F σ H _ m fun d v H1 q1 t1 k1 r1 => r.rt _ _ _ (RetOk.dat (m.kz k1 t1) r1) q1
theorem sv_retL (h : EvL X α e fun ds => E.rt (.own ds)) : SvS X α (.Return (some e) pos :: rest) E := fun F σ H D m r => by
  refine ⟨_, pss_cons (ps_ret pe_eAny) pss_any, ?_⟩
  refine h F σ H _ m fun d v H1 q1 t1 k1 r1 => r.rt _ _ _ ?_ q1
  obtain ⟨l, xs, h1, h2, h3, h4⟩ := r1
  exact ⟨t1, m.keep.trans k1, l, xs, h1, m.fresh0 h2, ow0 (m.fresh h2), h3, h4.same (same_sub fun a o h e => ⟨⟨ow0 h.1, h.2⟩, e⟩)⟩
theorem sv_retO (i : Nat) {x : Str} {ds : List PyData} (hi : α[i]? = some (some (.own ds))) (q : E.rt (.own ds)) (hN : X.N[i]? = some x := by rfl) (hv : Vis X.env.scope x := by first | exact Or.inl rfl | exact Or.inr (Or.inl rfl) | exact Or.inr (Or.inr rfl))
    (hd : (x == ("__debug__" : Str)) = false := by decide) (hcd : (x == ("__classdict__" : Str)) = false := by decide) : SvS X α (.Return (some (.Name x p)) pos :: rest) E := fun F σ H D m r => by
  obtain ⟨l, xs, h1, h2, h3, h4, h5⟩ := m.own i ds hi
  refine ⟨_, pss_cons (ps_ret (pe_var hN hv hd hcd)) pss_any, .ref l, h1, r.rt (.own ds) _ _ ⟨m.tp, m.keep, l, xs, rfl, h5, h4, h2, h3.same (same_sub fun a o h e => ⟨⟨ow0 h, fun z => h (by rw [z]; exact .inr ⟨i, ds, hi, h1⟩)⟩, e⟩)⟩ q⟩
theorem sv_if {a b : List Stmt} (h : EvT X α c fun k => SvS X α (if k = true then a else b) { E with nx := fun α' => SvS X α' rest E }) : SvS X α (.If c a b pos :: rest) E := fun F σ H D m r => by
  refine ⟨_, pss_cons (ps_if pt_cAny pss_any pss_any) pss_any, ?_⟩
  refine h F σ H _ m fun k H1 q1 t1 k1 => ?_
  cases k with
  | true => exact iteT ((by simpa using q1 : SvS X α a _) F σ H1 _ (m.kz k1 t1) r.then)
  | false => exact iteF ((by simpa using q1 : SvS X α b _) F σ H1 _ (m.kz k1 t1) r.then)
/-- the list of one's own is written -/
theorem M.wrOwn {F : Fr} {σ : St} {H : Hp} {i : Nat} {ds es : List PyData} {l : Addr} {ys : List V} (m : M F α σ H) (hi : α[i]? = some (some (.own ds))) (hl : σ[i]? = some (some (.ref l))) (av : AVs (Gz F α σ H) ys es) :
    M F (α.set i (some (.own es))) σ (upd H l (.lst ys)) := by
  obtain ⟨l', xs, h1, h2, h3, h4, h5⟩ := m.own i ds hi
  rw [hl] at h1; cases h1
  have oww : ∀ {y : Addr}, Ow F (α.set i (some (.own es))) σ y → Ow F α σ y := fun {y} h => by
    rcases h with z | ⟨j, fs, e1, e2⟩
    · exact .inl z
    · rcases get_set' e1 with ⟨rfl, z⟩ | ⟨hj, e1'⟩
      · exact .inr ⟨i, ds, hi, e2⟩
      · exact .inr ⟨j, fs, e1', e2⟩
  have gs : Same (Gz F α σ H) (Gz F (α.set i (some (.own es))) σ (upd H l (.lst ys))) := same_sub fun a o h e => ⟨fun z => h (oww z), by rw [upd_ne (fun z => h (by rw [z]; exact .inr ⟨i, ds, hi, hl⟩))]; exact e⟩
  refine ⟨by rw [List.length_set]; exact m.len, fun j d e => ?_, fun j fs e => ?_, fun j j' fs fs' l2 e1 e2 e3 e4 => ?_, fun j e => ?_, fun j l2 e => ?_, ⟨m.tp.has, fun t b c e => ?_⟩, fun y o e n => ?_, fun y hy => ?_⟩
  · rcases get_set' e with ⟨_, z⟩ | ⟨hj, e'⟩
    · cases z
    · obtain ⟨v, g1, g2⟩ := m.dat j d e'
      exact ⟨v, g1, g2.same gs⟩
  · rcases get_set' e with ⟨rfl, z⟩ | ⟨hj, e'⟩
    · cases z
      exact ⟨l, ys, hl, upd_same, av.same gs, h4, h5⟩
    · obtain ⟨l2, xs2, g1, g2, g3, g4, g5⟩ := m.own j fs e'
      refine ⟨l2, xs2, g1, ?_, g3.same gs, g4, g5⟩
      rw [upd_ne fun z => hj (m.inj i j ds fs l hi e' hl (by rw [← z]; exact g1))]
      exact g2
  · have f : ∀ {j : Nat} {fs : List PyData}, (α.set i (some (.own es)))[j]? = some (some (.own fs)) → ∃ gs, α[j]? = some (some (.own gs)) := fun {j fs} e => by
      rcases get_set' e with ⟨rfl, z⟩ | ⟨hj, e'⟩
      · exact ⟨ds, hi⟩
      · exact ⟨fs, e'⟩
    obtain ⟨g1, f1⟩ := f e1
    obtain ⟨g2, f2⟩ := f e2
    exact m.inj j j' g1 g2 l2 f1 f2 e3 e4
  · rcases get_set' e with ⟨_, z⟩ | ⟨hj, e'⟩
    · cases z
    · exact m.tvar j e'
  · rcases get_set' e with ⟨_, z⟩ | ⟨hj, e'⟩
    · cases z
    · exact m.atv j l2 e'
  · obtain ⟨g1, g2, g3, g4, g5⟩ := m.tp t b c e
    exact ⟨tape_upd g1 ⟨fun z => h4 (by rw [z]; exact g2), fun z => h4 (by rw [z]; exact g3), fun z => h4 (by rw [z]; exact g4)⟩ (plain_lst h2), g2, g3, g4, g5⟩
  · rw [upd_ne (ne_of_none e h5)]; exact m.keep y o e n
  · rw [upd_ne (fun z => h4 (by rw [← z]; exact hy))]; exact m.oex y hy
theorem sv_append (i : Nat) {x : Str} {ds : List PyData} {p1 p2 p3 : Pos} (hi : α[i]? = some (some (.own ds))) (h : EvD X α e fun d => ds.length < 1000 ∧ SvS X (α.set i (some (.own (ds ++ [d])))) rest E)
    (hN : X.N[i]? = some x := by rfl) (hv : Vis X.env.scope x := by first | exact Or.inl rfl | exact Or.inr (Or.inl rfl) | exact Or.inr (Or.inr rfl)) (hd : (x == ("__debug__" : Str)) = false := by decide) (hcd : (x == ("__classdict__" : Str)) = false := by decide)
    (hbase : attributeBase (.Name x p1) "append" X.env (eval (.Name x p1) X.env) = eval (.Name x p1) X.env := by rfl) (hs : starEach [e] X.env = (false, eval e X.env) :: starEach [] X.env := by rfl)
    (hpl : ((((backTo p3 (starEach [e] X.env)).all fun x => !x.fst) && (backToKw p3 (keywordEach [] X.env)).all fun x => x.fst.isSome) && decide (([e].length + ([] : List Keyword).length + if ([] : List Keyword).isEmpty = true then 0 else 1) < 30)) = true := by rfl)
    (hline : (p2.endLine == p3.line) = true := by rfl) (hsw : swapsWith (.Call (.Attribute (.Name x p1) "append" p2) [e] [] p3) none pos.line X.env = pure false := by rfl) : SvS X α (.Expr (.Call (.Attribute (.Name x p1) "append" p2) [e] [] p3) pos :: rest) E := fun F σ H D m r => by
  obtain ⟨l, xs, h1, h2, h3, h4, h5⟩ := m.own i ds hi
  refine ⟨_, pss_cons (ps_expr (pe_bm PySem.F.plainAttrs_list PySem.F.slot_list_append PySem.F.type_list_append mt_append (pe_var hN hv hd hcd) (pa_cons pe_eAny pa_nil hs) hbase hpl hline hs) hsw) pss_any, ?_⟩
  refine ⟨.ref l, h1, .inl ⟨rfl, _, SqL.of h2⟩, ?_⟩
  refine h F σ H _ m fun d v H1 q1 t1 k1 r1 => ?_
  have m1 := m.kz k1 t1
  refine ⟨l, xs, v, rfl, rfl, k1 _ _ h2 (m.tp.nt h4), by rw [h3.length]; exact small1000 (Nat.le_of_lt q1.1), ?_⟩
  exact q1.2 F σ _ D (m1.wrOwn hi h1 ((h3.same (k1.gz m.tp)).append (.cons r1 .nil))) r
/-- x[i] = e, x a list of one's own -/
theorem sv_put (i : Nat) {x : Str} {ix : Expr} {ds : List PyData} {p1 p2 : Pos} (hi : α[i]? = some (some (.own ds))) (h : EvD X α e fun d => EvD X α ix fun y => ∃ k j, y = .int k ∧ ixN ds.length k = some j ∧ SvS X (α.set i (some (.own (ds.set j d)))) rest E)
    (hN : X.N[i]? = some x := by rfl) (hv : Vis X.env.scope x := by first | exact Or.inl rfl | exact Or.inr (Or.inl rfl) | exact Or.inr (Or.inr rfl)) (hd : (x == ("__debug__" : Str)) = false := by decide) (hcd : (x == ("__classdict__" : Str)) = false := by decide)
    (hs : swapsWithSole [.Subscript (.Name x p1) ix p2] e pos.line X.env = pure false := by rfl) (hw : swappedStores [.Subscript (.Name x p1) ix p2] e X.env = pure none := by rfl)
    (ha : (assignEach [.Subscript (.Name x p1) ix p2] X.env).map (·.2) = [assign (.Subscript (.Name x p1) ix p2) X.env] := by rfl) (hps : PG X (.Subscript (.Name x p1) ix p2) (gSub (tVar i) (eAny X ix) rSetL) := by exact pg_sub (pe_var rfl (by first | exact Or.inl rfl | exact Or.inr (Or.inl rfl) | exact Or.inr (Or.inr rfl))) pe_eAny set_list) :
    SvS X α (.Assign [.Subscript (.Name x p1) ix p2] e pos :: rest) E := fun F σ H D m r => by
  obtain ⟨l, xs, h1, h2, h3, h4, h5⟩ := m.own i ds hi
  refine ⟨_, pss_cons (ps_asg pe_eAny hps hs hw ha) pss_any, ?_⟩
  refine h F σ H _ m fun d v H1 q1 t1 k1 r1 => ?_
  have m1 := m.kz k1 t1
  refine ⟨.ref l, h1, ?_⟩
  refine q1 F σ H1 _ m1 fun y vy H2 q2 t2 k2 r2 => ?_
  have m2 := m1.kz k2 t2
  obtain ⟨k, j, rfl, hj, q⟩ := q2
  cases r2.int_inv
  refine ⟨l, xs, k, j, rfl, rfl, k2 _ _ (k1 _ _ h2 (m.tp.nt h4)) (m.tp.nt h4), by rw [h3.length]; exact hj, ?_⟩
  exact q F σ _ D (m2.wrOwn hi h1 (((h3.same (k1.gz m.tp)).same (k2.gz m1.tp)).set (r1.same (k2.gz m1.tp)) j)) r
/-! loops -/
def LoopW (X : Cx) (pat : Pat) (body rest : List Stmt) (E : AEnds) : List PyData → Ev → Prop
  | [], α => SvS X α rest E
  | d :: ds, α => ∃ α1, pat.bind d α = some α1 ∧ SvS X α1 body { nx := LoopW X pat body rest E ds, ct := LoopW X pat body rest E ds, bk := fun α' => SvS X α' rest E, rt := E.rt }
theorem sv_for {pat : Pat} (hp : PassesOwn (model X.prog X.w) X.A X.env X.xe) (hc : X.calm = true) (hg : PG X tg (gPat X.K pat)) (h : EvI X α tg iter fun ds => LoopW X pat body rest E ds α)
    (hs : ∀ x, foldedSetIterable iter X.env x = pure x := by intro _; rfl) : SvS X α (.For tg iter body [] pos :: rest) E := fun F σ H D m r => by
  refine ⟨_, pss_cons (ps_for hp hc pi_iAny hg pss_any hs) pss_any, ?_⟩
  refine h F σ H _ m fun ds J H1 q1 t1 k1 itw => ?_
  have m1 := m.kz k1 t1
  have mu := m1.up
  have ru : ERel (F.up (Gz F α σ H1)) E D := r.up
  refine ⟨fun i n σ' H' => n = ds.length - i ∧ i ≤ ds.length ∧ ∃ α', M (F.up (Gz F α σ H1)) α' σ' H' ∧ LoopW X pat body rest E (ds.drop i) α', ⟨ds.length, by simp, Nat.zero_le _, α, mu, q1⟩, ?_⟩
  rintro i n σ' H' ⟨rfl, hi, α', m', lw⟩
  obtain ⟨w1, w2⟩ := itw i H' _ (m1.upold m')
  by_cases hlt : i < ds.length
  · have hd : ds[i]? = some ds[i] := List.getElem?_eq_getElem hlt
    rw [List.drop_eq_getElem_cons hlt] at lw
    obtain ⟨α1, eb, body⟩ := lw
    obtain ⟨go, yl⟩ := w1 _ hd
    refine .inr ⟨go, fun σ'' H'' => ∃ α', M (F.up (Gz F α σ H1)) α' σ'' H'' ∧ LoopW X pat _ rest E (ds.drop (i + 1)) α', fun σ'' H'' ⟨α'', r1, r2⟩ => ⟨ds.length - (i + 1), by omega, rfl, hlt, α'', r1, r2⟩, fun x H3 y => ?_⟩
    obtain ⟨s23, avx⟩ := yl x H3 y
    have m3 := m'.kz (Kz.of_same s23) (m'.tp.same s23)
    refine bind_ok eb m3 (avx fun a o _ e => m'.fresh e) fun σ1 m4 => ?_
    exact body _ σ1 H3 _ m4 ⟨fun α2 σ2 H2 m2 q => ⟨α2, m2, q⟩, ru.rt, fun α2 σ2 H2 m2 q => q _ σ2 H2 D m2 ru, fun α2 σ2 H2 m2 q => ⟨α2, m2, q⟩⟩
  · have e : i = ds.length := by omega
    subst e
    rw [List.drop_length] at lw
    exact .inl ⟨w2 (Nat.le_refl _), lw _ σ' H' D m' ru⟩
/-- by an invariant of the names, by the turn -/
theorem loop_inv {pat : Pat} {ds : List PyData} (P : Nat → Ev → Prop) (h0 : P 0 α) (hs : ∀ i d α, ds[i]? = some d → P i α → ∃ α1, pat.bind d α = some α1 ∧ SvS X α1 body { nx := P (i + 1), ct := P (i + 1), bk := fun α' => SvS X α' rest E, rt := E.rt })
    (hd : ∀ α, P ds.length α → SvS X α rest E) : LoopW X pat body rest E ds α := by
  have key : ∀ n i α, n = ds.length - i → i ≤ ds.length → P i α → LoopW X pat body rest E (ds.drop i) α := by
    intro n
    induction n with
    | zero =>
      intro i α hn hi p
      have e : i = ds.length := by omega
      subst e
      rw [List.drop_length]
      exact hd α p
    | succ n ih =>
      intro i α hn hi p
      have hlt : i < ds.length := by omega
      rw [List.drop_eq_getElem_cons hlt]
      obtain ⟨α1, e, b⟩ := hs i ds[i] α (List.getElem?_eq_getElem hlt) p
      exact ⟨α1, e, b.imp (fun α p => ih (i + 1) α (by omega) hlt p) (fun _ z => z) (fun _ z => z) (fun α p => ih (i + 1) α (by omega) hlt p)⟩
  exact key _ 0 α rfl (Nat.zero_le _) h0
end
end
/-! ### functions -/
section
variable {P : Program} {w : World} {K : PySem.W.Frag} {mg : Str → Option Value} {base : Heap}
theorem M.start {F : Fr} {N : List Str} {vs : List V} {as : List A} {H : Hp} (e : F.H0 = H) (t : TpOk F H) (o : ∀ x, F.O0 x → ∃ u, H x = some u ∧ NoTup u) (rv : ArgsV F (sub (fun x => ¬ F.O0 x) H) vs as) :
    M F (as.map some ++ List.replicate (N.length - as.length) none) (L2.start N vs) H := by
  have hl := rv.length
  have g : ∀ {i : Nat} {a : A}, (as.map some ++ List.replicate (N.length - as.length) none)[i]? = some (some a) → as[i]? = some a := fun {i a} h => by
    rcases Nat.lt_or_ge i as.length with z | z
    · rw [List.getElem?_append_left (by rw [List.length_map]; exact z), List.getElem?_map, Option.map_eq_some_iff] at h
      obtain ⟨b, h1, h2⟩ := h
      cases h2; exact h1
    · rw [List.getElem?_append_right (by rw [List.length_map]; exact z), List.getElem?_replicate] at h
      split at h <;> cases h
  have at' : ∀ {vs : List V} {as : List A} {i : Nat} {a : A}, ArgsV F (sub (fun x => ¬ F.O0 x) H) vs as → as[i]? = some a → ∃ v, vs[i]? = some v ∧ ArgV F (sub (fun x => ¬ F.O0 x) H) v a := by
    intro vs as i a h
    induction h generalizing i with
    | nil => intro e; simp at e
    | cons h r ih =>
      intro e
      cases i with
      | zero => simp at e; subst e; exact ⟨_, rfl, h⟩
      | succ i => obtain ⟨v, h1, h2⟩ := ih (by simpa using e); exact ⟨v, by simpa using h1, h2⟩
  have gv : ∀ {i : Nat} {v : V}, vs[i]? = some v → (L2.start N vs)[i]? = some (some v) := fun {i v} h => by
    have hi : i < vs.length := (List.getElem?_eq_some_iff.mp h).1
    unfold L2.start
    rw [List.getElem?_append_left (by rw [List.length_map]; exact hi), List.getElem?_map, h]; rfl
  have no : ∀ (i : Nat) ds, (as.map some ++ List.replicate (N.length - as.length) none)[i]? ≠ some (some (.own ds)) := fun i ds z => by
    obtain ⟨v, _, h⟩ := at' rv (g z)
    exact h
  have gs : Same (sub (fun x => ¬ F.O0 x) H) (Gz F (as.map some ++ List.replicate (N.length - as.length) none) (L2.start N vs) H) := same_sub fun a o h e => ⟨fun z => z.elim h fun ⟨i, ds, e, _⟩ => no i ds e, e⟩
  refine ⟨by unfold L2.start; simp [hl], fun i d h => ?_, fun i ds h => absurd h (no i ds), fun i j ds es l h => absurd h (no i ds), fun i h => ?_, fun i l h => by
    obtain ⟨v, _, h⟩ := at' rv (g h)
    exact h.elim, t, fun x o' h _ => by rw [← e]; exact h, o⟩
  · obtain ⟨v, h1, h2⟩ := at' rv (g h)
    exact ⟨v, gv h1, AV.same gs h2⟩
  · obtain ⟨v, h1, t', b, c, h2, rfl⟩ := at' rv (g h)
    exact ⟨t', b, c, h2, gv h1⟩
theorem fnA {x qual : Str} {st : Stmt} {f : Addr} {fd : FuncData} {N ps : List Str} {k : Nat} {φ : List A → (A → Prop) → Prop} (G : Fun K x qual st f fd) (S : FnScope N ps (defScope st)) (hlen : ∀ as Q, φ as Q → as.length = ps.length)
    (hbody : ∀ (cdv : Value) (A' : Around) (outer : List Env) (s : Shared) (H : Hp) (E : XK) (as : List A) (Q : A → Prop), Room k (A'.deeper (envOfC qual (defScope st) s.heap.objs.size f cdv)) → φ as Q →
      SvS (cxOf CX0 P w K mg base N qual (defScope st) f cdv A' outer s H E).nox (as.map some ++ List.replicate (N.length - as.length) none) (defBody st) { nx := fun _ => Q (.dat .none), rt := Q }) : FnOk P w K mg base CX0 (k + 1) f fd ps (spA φ) := by
  refine G.ok S (fun vs H Q E h => ?_) (fun cdv A' outer s H vs Qc E hr h => ?_)
  · obtain ⟨F, as, Q', _, _, _, rv, hφ, _⟩ := h
    rw [rv.length, hlen as _ hφ]
  · obtain ⟨F, as, Q', e, t, o, rv, hφ, kk⟩ := h
    refine hbody cdv A' outer s H E as Q' hr hφ F _ H _ (M.start e t o rv) ⟨fun α σ H' m q => ?_, fun a v H' r q => kk a v H' q r, fun _ _ _ _ z => z.elim, fun _ _ _ _ z => z.elim⟩
    exact kk _ _ _ q ⟨m.tp, m.keep, .non⟩
end
end L2
set_option Elab.async false
set_option linter.all false
set_option maxRecDepth 100000
/-! zip of two lists, enumerate of a list, walked with a tuple as the target. -/
namespace L2
open PySem PySem.Spec PyProof.Rows
section
variable {X : Cx} {pins : List (Addr × Obj)} {σ : St} {H : Hp} {s : Shared} {h' : Heap}
theorem Inv.turnL {t' : Nat} {ch : List Addr} (I : Inv X pins σ H s) (k : ∀ b o, b ∉ ch → s.heap.get? b = some o → h'.get? b = some o) (hf : ∀ b ∈ ch, FpOk X pins H b) : Inv X pins σ H { s with heap := h', toks := t' } := by
  have nit : ∀ b u, H b = some u → b ∉ ch := fun b u e z => by rw [(hf b z).1] at e; cases e
  refine I.step (g' := s.gens) (d' := s.drawn) (ch := ch) (fun b hb => ?_) (fun b o _ _ hc e _ => k b o hc e) (fun b o _ _ hc e _ => ⟨o.slots, k b o hc e⟩) (fun _ _ _ _ n => n)
    (fun b o hc e => ⟨o, k b o hc e⟩) (fun _ _ e => e) (fun _ _ _ e => e) (fun b ps e => ⟨#[], by rw [e]; simp⟩) (fun m hm => ?_) (fun b u e => ?_) I.bare
  · obtain ⟨_, f1, _, f3, f4, f5⟩ := hf b hb
    exact ⟨f3, f1, f4, f5⟩
  · obtain ⟨o, es, ep, ho, r⟩ := hm
    exact ⟨o, es, ep, k _ o (fun z => (hf _ z).2.1 rfl) ho, r⟩
  · refine (I.hok b u e).stay (fun c v hc q => k c v ?_ q) (fun _ q => q) fun _ _ q => q
    rcases hc with z | z
    · rw [z]; exact nit b u e
    · exact nit c _ z
theorem Inv.turnLay {t' : Nat} {ch : List Addr} {T : Addr} {o : HO} (I : Inv X pins σ H s) (k : ∀ b o, b ∉ ch → s.heap.get? b = some o → h'.get? b = some o) (hf : ∀ b ∈ ch, FpOk X pins H b) (hT : s.heap.objs.size ≤ T) (new : ObjOk X.prog X.w (upd H T o) h' T o) :
    Inv X pins σ (upd H T o) { s with heap := h', toks := t' } := by
  have nit : ∀ b u, H b = some u → b ∉ ch := fun b u e z => by rw [(hf b z).1] at e; cases e
  have hn : H T = none := I.hok.fresh hT
  have lt : ∀ {b : Addr} {u : Obj}, s.heap.get? b = some u → b ≠ T := fun e => Nat.ne_of_lt (Nat.lt_of_lt_of_le (Heap.lt_size e) hT)
  refine I.step (g' := s.gens) (d' := s.drawn) (ch := ch) (fun b hb => ?_) (fun b o _ _ hc e _ => k b o hc e) (fun b o _ _ hc e _ => ⟨o.slots, k b o hc e⟩) (fun b u _ e n => by rw [upd_ne (lt e)]; exact n)
    (fun b o hc e => ⟨o, k b o hc e⟩) (fun b xs e => by rw [upd_ne (ne_of_none e hn)]; exact e) (fun b u xs e => by rw [upd_ne (ne_of_none e hn)]; exact e) (fun b ps e => ⟨#[], by rw [upd_ne (ne_of_none e hn), e]; simp⟩) (fun m hm => ?_) (fun b u e => ?_) I.bare
  · obtain ⟨_, f1, _, f3, f4, f5⟩ := hf b hb
    exact ⟨f3, f1, f4, f5⟩
  · obtain ⟨o, es, ep, ho, r⟩ := hm
    exact ⟨o, es, ep, k _ o (fun z => (hf _ z).2.1 rfl) ho, r⟩
  · by_cases hb : b = T
    · subst hb; rw [upd_same] at e; cases e; exact new
    · rw [upd_ne hb] at e
      refine (I.hok b u e).stay (fun c v hc q => k c v ?_ q) (fun c q => by rw [upd_ne (ne_of_none q hn)]; exact q) fun c xs q => by rw [upd_ne (ne_of_none q hn)]; exact q
      rcases hc with z | z
      · rw [z]; exact nit b u e
      · exact nit c _ z
end
theorem ne_g {a b : Nat} (h : b < a) : (a : Addr) ≠ b := Nat.ne_of_gt h
def Itz (K : PySem.W.Frag) (l1 l2 : Addr) : It :=
  ⟨fun i H => ∃ xs ys x y, SqL K H l1 xs ∧ SqL K H l2 ys ∧ xs[i]? = some x ∧ ys[i]? = some y,
   fun i H v H' => ∃ T x y, v = .ref T ∧ H T = none ∧ H' = upd H T (.tup [x, y]) ∧ (∀ xs, SqL K H l1 xs → xs[i]? = some x) ∧ ∀ ys, SqL K H l2 ys → ys[i]? = some y,
   fun i H => ∃ xs ys, SqL K H l1 xs ∧ SqL K H l2 ys ∧ (xs.length ≤ i ∨ ys.length ≤ i)⟩
def Ite (K : PySem.W.Frag) (l : Addr) : It :=
  ⟨fun i H => ∃ xs x, SqL K H l xs ∧ xs[i]? = some x,
   fun i H v H' => ∃ T x, v = .ref T ∧ H T = none ∧ H' = upd H T (.tup [.int i, x]) ∧ ∀ xs, SqL K H l xs → xs[i]? = some x,
   fun i H => ∃ xs, SqL K H l xs ∧ xs.length ≤ i⟩
theorem turn_zip {P : Program} {w : World} {K : PySem.W.Frag} {elts : List Expr} {kk : Nat} {pos : Pos} {z TI TO i1 i2 l1 l2 : Addr} (D : ZipApart z TI TO i1 i2 l1 l2) :
    Turn P w K (.Tuple elts kk pos) (Itz K l1 l2) [z, TI, TO, i1, i2] z (fun i h => IsZip h z TI TO .none ∧ IsPair h TI (.ref i1) (.ref i2) ∧ (∃ a b, IsPair h TO a b) ∧ h.IsListIter i1 l1 i ∧ h.IsListIter i2 l2 i) where
  mem := by simp
  obj := fun i h st b hb => by
    obtain ⟨h1, h2, ⟨a, c, h3⟩, ⟨o1, e1, _, d1⟩, ⟨o2, e2, _, d2⟩⟩ := st
    simp only [List.mem_cons, List.not_mem_nil, or_false] at hb
    rcases hb with rfl | rfl | rfl | rfl | rfl
    · exact ⟨_, h1, fun v z => by cases (show Data.fields _ = Data.cell v from z)⟩
    · exact ⟨_, h2, fun v z => by cases (show Data.seq _ _ = Data.cell v from z)⟩
    · exact ⟨_, h3, fun v z => by cases (show Data.seq _ _ = Data.cell v from z)⟩
    · exact ⟨o1, e1, fun v z => by rw [d1] at z; cases z⟩
    · exact ⟨o2, e2, fun v z => by rw [d2] at z; cases z⟩
  keep := fun i h h' st k => by
    obtain ⟨h1, h2, ⟨a, c, h3⟩, h4, h5⟩ := st
    exact ⟨k z (by simp) _ h1, k TI (by simp) _ h2, ⟨a, c, k TO (by simp) _ h3⟩, h4.at fun o e => k i1 (by simp) o e, h5.at fun o e => k i2 (by simp) o e⟩
  item := by
    intro X hP hw hK hc i pins s σ H E I hf st hg
    subst hP hw hK
    obtain ⟨xs, ys, x, y, hq1, hq2, hx, hy⟩ := hg
    obtain ⟨its1, rv1, p1, hz1⟩ := I.list hq1
    obtain ⟨its2, rv2, p2, hz2⟩ := I.list hq2
    obtain ⟨u, hu, ru⟩ := rv1.get hx
    obtain ⟨v, hv, rv⟩ := rv2.get hy
    obtain ⟨h1, h2, ⟨a, c, h3⟩, h4, h5⟩ := st
    refine wpAny_pyNext_zip_item D h1 h2 h3 h4 h5 p1.isList p2.isList (x := u) (y := v) (by simpa using hu) (by simpa using hv) fun h' a1 a2 a3 a4 a5 a6 hk => ⟨_, rfl, ?_⟩
    refine wpAny_letOwnedTupleGo_zip (s := { s with heap := h' }) a1 fun h'' b1 b2 => ?_
    have hTz : s.heap.objs.size ≠ z := Nat.ne_of_gt (Heap.lt_size h1)
    have hk2 : ∀ b o, b ∉ [z, TI, TO, i1, i2] → s.heap.get? b = some o → h''.get? b = some o := fun b o hb e => by
      simp only [List.mem_cons, List.not_mem_nil, or_false, not_or] at hb
      exact b2.extBut _ _ hb.1 (hk b o hb.1 hb.2.2.1 hb.2.2.2.1 hb.2.2.2.2 e)
    have gT : h''.get? s.heap.objs.size = some { cls := .type "tuple", data := .seq #[u, v] } := b2.extBut _ _ hTz a5
    have J := I.turnLay (t' := s.toks) (T := s.heap.objs.size) (o := .tup [x, y]) hk2 hf (Nat.le_refl _) ⟨by show 2 ≤ sizeLine; decide, [u, v], .cons ru (.cons rv .nil), _, gT, rfl, 0, rfl⟩
    refine ⟨.ref s.heap.objs.size, _, J, rfl, ⟨_, x, y, rfl, I.hok.fresh (Nat.le_refl _), rfl, fun zs hz => by rw [I.list_inj hz hq1]; exact hx, fun zs hz => by rw [I.list_inj hz hq2]; exact hy⟩, ⟨b1, b2.extBut _ _ D.TIz (hk _ _ D.TIz D.TITO D.TIi1 D.TIi2 h2), ⟨u, v, b2.extBut _ _ D.TOz a2⟩, a3.extBut b2.extBut D.i1z, a4.extBut b2.extBut D.i2z⟩, fun b hb => ?_⟩
    rw [upd_ne]
    · exact (hf b hb).1
    · obtain ⟨o, e, _⟩ := (show ∃ o, s.heap.get? b = some o ∧ True from by
        simp only [List.mem_cons, List.not_mem_nil, or_false] at hb
        obtain ⟨o1, e1, _⟩ := h4
        obtain ⟨o2, e2, _⟩ := h5
        rcases hb with rfl | rfl | rfl | rfl | rfl
        · exact ⟨_, h1, trivial⟩
        · exact ⟨_, h2, trivial⟩
        · exact ⟨_, h3, trivial⟩
        · exact ⟨_, e1, trivial⟩
        · exact ⟨_, e2, trivial⟩)
      exact Nat.ne_of_lt (Heap.lt_size e)
  done := by
    intro X hP hw hK hc i pins s σ H E I hf st hg
    subst hP hw hK
    obtain ⟨xs, ys, hq1, hq2, hl⟩ := hg
    obtain ⟨its1, rv1, p1, hz1⟩ := I.list hq1
    obtain ⟨its2, rv2, p2, hz2⟩ := I.list hq2
    obtain ⟨h1, h2, ⟨a, c, h3⟩, h4, h5⟩ := st
    have e1 := rv1.length
    have e2 := rv2.length
    refine wpAny_pyNext_zip_end (I.ok.hd hc) D h1 h2 h3 h4 h5 p1.isList p2.isList (hl.imp (fun z => by simp; omega) fun z => by simp; omega) fun h' hk => ⟨rfl, ?_⟩
    exact I.turnL (t' := s.toks) (ch := [z, TI, TO, i1, i2]) (fun b o hb e => by
      simp only [List.mem_cons, List.not_mem_nil, or_false, not_or] at hb
      exact hk b o hb.1 hb.2.2.1 hb.2.2.2.1 hb.2.2.2.2 e) hf
  self := fun A i s Q E st h => wpAny_pyIter_zip st.1 h
theorem turn_enum {P : Program} {w : World} {K : PySem.W.Frag} {elts : List Expr} {kk : Nat} {pos : Pos} {e it l : Addr} (hne : e ≠ it) :
    Turn P w K (.Tuple elts kk pos) (Ite K l) [e, it] e (fun i h => (∃ old, IsEnum h e it i old) ∧ h.IsListIter it l i) where
  mem := by simp
  obj := fun i h st b hb => by
    obtain ⟨⟨old, h1⟩, ⟨o1, e1, _, d1⟩⟩ := st
    simp only [List.mem_cons, List.not_mem_nil, or_false] at hb
    rcases hb with rfl | rfl
    · exact ⟨_, h1, fun v z => by cases (show Data.fields _ = Data.cell v from z)⟩
    · exact ⟨o1, e1, fun v z => by rw [d1] at z; cases z⟩
  keep := fun i h h' st k => by
    obtain ⟨⟨old, h1⟩, h4⟩ := st
    exact ⟨⟨old, k e (by simp) _ h1⟩, h4.at fun o q => k it (by simp) o q⟩
  item := by
    intro X hP hw hK hc i pins s σ H E I hf st hg
    subst hP hw hK
    obtain ⟨xs, x, hq1, hx⟩ := hg
    obtain ⟨its1, rv1, p1, hz1⟩ := I.list hq1
    obtain ⟨u, hu, ru⟩ := rv1.get hx
    obtain ⟨⟨old, h1⟩, h4⟩ := st
    refine wpAny_pyNext_enum_item h1 h4 p1.isList (x := u) (by simpa using hu) hne fun h' a1 a3 a5 a6 hk => ⟨_, rfl, ?_⟩
    refine wpAny_letOwnedTupleGo_enum (s := { s with heap := h', toks := s.toks + 1 }) a1 fun h'' b1 b2 => ?_
    have hTz : s.heap.objs.size ≠ e := Nat.ne_of_gt (Heap.lt_size h1)
    have hk2 : ∀ b o, b ∉ [e, it] → s.heap.get? b = some o → h''.get? b = some o := fun b o hb q => by
      simp only [List.mem_cons, List.not_mem_nil, or_false, not_or] at hb
      exact b2.extBut _ _ hb.1 (hk b o hb.1 hb.2 q)
    have gT : h''.get? s.heap.objs.size = some { cls := .type "tuple", data := .seq #[.int i s.toks, u] } := b2.extBut _ _ hTz a5
    have J := I.turnLay (t' := s.toks + 1) (T := s.heap.objs.size) (o := .tup [.int i, x]) hk2 hf (Nat.le_refl _) ⟨by show 2 ≤ sizeLine; decide, [.int i s.toks, u], .cons ⟨_, rfl⟩ (.cons ru .nil), _, gT, rfl, 0, rfl⟩
    refine ⟨.ref s.heap.objs.size, _, J, rfl, ⟨_, x, rfl, I.hok.fresh (Nat.le_refl _), rfl, fun zs hz => by rw [I.list_inj hz hq1]; exact hx⟩, ⟨⟨u, by simpa using b1⟩, a3.extBut b2.extBut hne.symm⟩, fun b hb => ?_⟩
    rw [upd_ne]
    · exact (hf b hb).1
    · obtain ⟨o, q, _⟩ := (show ∃ o, s.heap.get? b = some o ∧ True from by
        simp only [List.mem_cons, List.not_mem_nil, or_false] at hb
        obtain ⟨o1, e1, _⟩ := h4
        rcases hb with rfl | rfl
        · exact ⟨_, h1, trivial⟩
        · exact ⟨_, e1, trivial⟩)
      exact Nat.ne_of_lt (Heap.lt_size q)
  done := by
    intro X hP hw hK hc i pins s σ H E I hf st hg
    subst hP hw hK
    obtain ⟨xs, hq1, hl⟩ := hg
    obtain ⟨its1, rv1, p1, hz1⟩ := I.list hq1
    obtain ⟨⟨old, h1⟩, h4⟩ := st
    have e1 := rv1.length
    refine wpAny_pyNext_enum_end (I.ok.hd hc) h1 h4 p1.isList (by simp; omega) fun h' hk => ⟨rfl, ?_⟩
    exact I.turnL (t' := s.toks) (ch := [e, it]) (fun b o hb q => by
      simp only [List.mem_cons, List.not_mem_nil, or_false, not_or] at hb
      exact hk b o hb.2 q) hf
  self := fun A i s Q E st h => by
    obtain ⟨⟨old, h1⟩, h4⟩ := st
    exact wpAny_pyIter_enum h1 h
section
variable {X : Cx} {α : Ev} {elts : List Expr} {kk : Nat} {tp p pos : Pos} {a b : Expr}
def iZip (K : PySem.W.Frag) (ta : TA) : TI := fun σ H R => ta σ H fun vs H1 => ∃ l1 l2, vs = [.ref l1, .ref l2] ∧ (∃ xs, SqL K H1 l1 xs) ∧ (∃ ys, SqL K H1 l2 ys) ∧ R (Itz K l1 l2) H1
def iEnum (K : PySem.W.Frag) (ta : TA) : TI := fun σ H R => ta σ H fun vs H1 => ∃ l, vs = [.ref l] ∧ (∃ xs, SqL K H1 l xs) ∧ R (Ite K l) H1
theorem pi_enum {ta : TA} (hg : Gl X "enumerate") (hm : X.mg "enumerate" = none) (ha : PA X [a] ta) (hs : starEach [a] X.env = [(false, eval a X.env)] := by rfl) :
    PI X (.Tuple elts kk tp) (.Call (.Name "enumerate" p) [a] [] pos) (iEnum X.K ta) := by
  intro pins s σ H R I h
  refine Call_ (ld_blt I hg hm boot_enumerate (PyProof.Rows.callWith_type1 (thn (ha pos pins s σ H _ I h) fun us s1 ⟨vs, H1, I1, r1, q1⟩ => ?_) hs rfl))
  obtain ⟨l1, e, ⟨xs, hq1⟩, q⟩ := q1
  subst e
  obtain ⟨u, rfl, ru⟩ := Vals.one r1
  cases (show u = Value.ref l1 from ru)
  obtain ⟨its1, rv1, p1, hz1⟩ := I1.list hq1
  refine call_enumerate_list p1.isList fun h' z1 z4 z6 hk => ?_
  refine wpAny_pyIter_enum (s := { s1 with heap := h' }) z1 ?_
  refine ⟨_, _, _, _, H1, rfl, I1.kept (t' := s1.toks) fun b o e => hk b o e, turn_enum (ne_g (a := s1.heap.objs.size + 1) (b := s1.heap.objs.size) (Nat.lt_succ_self _)), ⟨⟨_, z1⟩, z4⟩, fun b hb => ?_, q⟩
  simp only [List.mem_cons, List.not_mem_nil, or_false] at hb
  have hb' : s1.heap.objs.size ≤ b := by
    have key : ∀ n b : Nat, n = s1.heap.objs.size → (b = n + 1 ∨ b = n) → n ≤ b := fun n b _ h => by omega
    exact key _ _ rfl hb
  exact I1.fpOk hb' (I1.hok.fresh hb')
/-! over data -/
def zipD (ds es : List PyData) : List PyData := List.zipWith (fun d e => .tuple [d, e]) ds es
def enumD (n : Nat) : List PyData → List PyData
  | [] => []
  | d :: ds => .tuple [.int n, d] :: enumD (n + 1) ds
theorem enumD_get : ∀ {ds : List PyData} {n i : Nat} {d : PyData}, (enumD n ds)[i]? = some d → ∃ e, ds[i]? = some e ∧ d = .tuple [.int ((n + i : Nat) : Int), e]
  | [], n, i, d, h => by simp [enumD] at h
  | e :: ds, n, 0, d, h => by simp [enumD] at h; exact ⟨e, rfl, by simp [← h]⟩
  | e :: ds, n, i + 1, d, h => by
    simp only [enumD, List.getElem?_cons_succ] at h
    obtain ⟨e', h1, h2⟩ := enumD_get h
    exact ⟨e', by simpa using h1, by rw [h2, Nat.add_assoc, Nat.add_comm 1 i]⟩
theorem enumD_len : ∀ (ds : List PyData) (n : Nat), (enumD n ds).length = ds.length
  | [], _ => rfl
  | _ :: ds, n => by simp [enumD, enumD_len ds (n + 1)]
theorem ei_enum {Q : List PyData → Prop} (hg : Gl X "enumerate") (hm : X.mg "enumerate" = none) (h : EvD X α a fun x => ∃ ds, x = .list ds ∧ Q (enumD 0 ds)) (hs : starEach [a] X.env = [(false, eval a X.env)] := by rfl) :
    EvI X α (.Tuple elts kk tp) (.Call (.Name "enumerate" p) [a] [] pos) Q := fun F σ H R m k => by
  refine ⟨_, pi_enum hg hm (pa_cons pe_eAny pa_nil hs) hs, ?_⟩
  refine h F σ H _ m fun x vx H1 q1 t1 k1 r1 => ?_
  obtain ⟨ds, rfl, q⟩ := q1
  obtain ⟨l1, xs, rfl, g1, g2⟩ := r1.lst_inv
  refine ⟨l1, rfl, ⟨xs, SqL.of (sub_some g1).2⟩, k _ _ H1 q t1 k1 fun i H3 p s => ⟨fun d hd => ?_, fun hl => ?_⟩⟩
  · have s1 := SqL.of (K := X.K) (sub_some (s _ _ g1)).2
    obtain ⟨e, he, rfl⟩ := enumD_get hd
    obtain ⟨x1, hx1, av1⟩ := g2.get he
    refine ⟨⟨xs, x1, s1, hx1⟩, fun v H4 y => ?_⟩
    obtain ⟨T, x, rfl, hT, rfl, hx⟩ := y
    have hx := hx _ s1
    rw [hx1] at hx; cases hx
    refine ⟨same_new hT, fun fr => ?_⟩
    have gs : Same (Gz F α σ H1) (sub p (upd H3 T (.tup [.int i, x1]))) := fun a o e => by
      obtain ⟨z1, z2⟩ := sub_some (s a o e)
      exact sub_of z1 (by rw [upd_ne (ne_of_none z2 hT)]; exact z2)
    refine .tup (sub_of (fr T _ upd_same hT) upd_same) (.cons ?_ (.cons (av1.same gs) .nil))
    rw [Nat.zero_add]
    exact .int _
  · refine ⟨xs, SqL.of (sub_some (s _ _ g1)).2, ?_⟩
    rw [enumD_len, ← g2.length] at hl
    exact hl
end
end L2
set_option Elab.async false
set_option linter.all false
set_option maxRecDepth 100000
/-! The data layer: what can be called, draws, a law's beginning, comprehensions in short. -/
namespace L2
open PySem PySem.Spec PyProof.Rows
/-- x can be called, and keeps φ -/
structure Cal (P : Program) (w : World) (K : PySem.W.Frag) (mg : Str → Option Value) (base : Heap) (x : Str) (k : Nat) (φ : List A → (A → Prop) → Prop) : Prop where
  ex : ∃ f fd ps, mg x = some (.ref f) ∧ PySem.W.keepIn K (.ref f) = true ∧ Binds K fd ps [] ∧ FnOk P w K mg base CX0 k f fd ps (spA φ)
section
variable {X : Cx} {α : Ev} {e a b : Expr} {es : List Expr} {pos p : Pos} {Q : PyData → Prop} {k : Nat} {φ : List A → (A → Prop) → Prop} {x : Str}
theorem ev_cal (C : Cal X.prog X.w X.K X.mg X.base x k φ) (hr : Room k X.A) (hg : Gl X x) (h : EvA X α (e :: es) fun as => φ as fun a => Q a.d)
    (hdb : (x == ("__debug__" : Str)) = false := by decide) (he : starEach (e :: es) X.env = (false, eval e X.env) :: starEach es X.env := by rfl) (hpl : (backTo pos (starEach es X.env)).any (·.1) = false := by rfl) : EvD X α (.Call (.Name x p) (e :: es) [] pos) Q := by
  obtain ⟨f, fd, ps, h1, h2, h3, h4⟩ := C.ex
  exact ev_call h4 hr hg h1 h2 h3 h hdb he hpl
theorem el_cal {Q : List PyData → Prop} (C : Cal X.prog X.w X.K X.mg X.base x k φ) (hr : Room k X.A) (hg : Gl X x) (h : EvA X α (e :: es) fun as => φ as fun a => ∃ ds, a = .own ds ∧ Q ds)
    (hdb : (x == ("__debug__" : Str)) = false := by decide) (he : starEach (e :: es) X.env = (false, eval e X.env) :: starEach es X.env := by rfl) (hpl : (backTo pos (starEach es X.env)).any (·.1) = false := by rfl) : EvL X α (.Call (.Name x p) (e :: es) [] pos) Q := by
  obtain ⟨f, fd, ps, h1, h2, h3, h4⟩ := C.ex
  exact el_call h4 hr hg h1 h2 h3 h hdb he hpl
end
section
variable {P : Program} {w : World} {K : PySem.W.Frag} {mg : Str → Option Value} {base : Heap}
theorem calA {x qual : Str} {st : Stmt} {f : Addr} {fd : FuncData} {N ps : List Str} {k : Nat} {φ : List A → (A → Prop) → Prop} (G : Fun K x qual st f fd) (hm : mg x = some (.ref f)) (hb : Binds K fd ps []) (S : FnScope N ps (defScope st)) (hlen : ∀ as Q, φ as Q → as.length = ps.length)
    (hbody : ∀ (cdv : Value) (A' : Around) (outer : List Env) (s : Shared) (H : Hp) (E : XK) (as : List A) (Q : A → Prop), Room k (A'.deeper (envOfC qual (defScope st) s.heap.objs.size f cdv)) → φ as Q →
      SvS (cxOf CX0 P w K mg base N qual (defScope st) f cdv A' outer s H E).nox (as.map some ++ List.replicate (N.length - as.length) none) (defBody st) { nx := fun _ => Q (.dat .none), rt := Q }) : Cal P w K mg base x (k + 1) φ :=
  ⟨f, fd, ps, hm, G.kp, hb, fnA G S hlen hbody⟩
theorem Cal.imp {x : Str} {k : Nat} {φ φ' : List A → (A → Prop) → Prop} (C : Cal P w K mg base x k φ) (h : ∀ as Q, φ' as Q → φ as Q) : Cal P w K mg base x k φ' := by
  obtain ⟨f, fd, ps, h1, h2, h3, h4⟩ := C.ex
  exact ⟨f, fd, ps, h1, h2, h3, h4.imp fun vs H Q E ⟨F, as, Q', a, b, c, d, e, g⟩ => ⟨F, as, Q', a, b, c, d, h _ _ e, g⟩⟩
/-! ### draws -/
def phDraw : List A → (A → Prop) → Prop := fun as Q => ∃ n : Int, as = [.tape, .dat (.int n)] ∧ 0 < n ∧ n < big ∧ ∀ v, 0 ≤ v → v < n → Q (.dat (.int v))
theorem cal_draw {f : Addr} {fd : FuncData} {x : Str} (hm : mg x = some (.ref f)) (hk : PySem.W.keepIn K (.ref f) = true) (hb : Binds K fd ["_law_tape_here", "_law_many"] []) (G : FnOk P w K mg base CX0 1 f fd ["_law_tape_here", "_law_many"] spDraw) : Cal P w K mg base x 1 phDraw := by
  refine ⟨f, fd, _, hm, hk, hb, G.imp fun vs H Q E h => ?_⟩
  obtain ⟨F, as, Q', rfl, t, o, rv, ⟨n, rfl, h0, h1, hq⟩, kk⟩ := h
  cases rv with
  | cons a1 r =>
    obtain ⟨ta, b, c, e, rfl⟩ := a1
    obtain ⟨v, rfl, av⟩ := r.one
    cases av.int_inv
    refine ⟨ta, b, c, n, rfl, (t ta b c e).1, h0, h1, fun z H' z0 z1 TA off => kk _ _ _ (hq z z0 z1) ⟨⟨t.has, fun t' b' c' e' => ?_⟩, fun y u hy n => ?_, .int z⟩⟩
    · rw [e] at e'; cases e'
      exact ⟨TA, (t ta b c e).2⟩
    · rw [off y (n _ _ _ e).1 (n _ _ _ e).2.1]; exact hy
/-! ### a law's beginning -/
theorem M.tape {H : Hp} {t b c : Addr} {α : Ev} {σ : St} (T : TapeAt H t b c) (hl : α.length = σ.length) (h : ∀ (i : Nat) a, α[i]? = some (some a) → a = .tape ∧ σ[i]? = some (some (.ref t))) : M ⟨H, fun x => x = t ∨ x = b ∨ x = c ∨ x = tabP, some (t, b, c)⟩ α σ H := by
  have nd : ∀ (i : Nat) d, α[i]? ≠ some (some (.dat d)) := fun i d z => by cases (h i _ z).1
  have no : ∀ (i : Nat) d, α[i]? ≠ some (some (.own d)) := fun i d z => by cases (h i _ z).1
  refine ⟨hl, fun i d e => absurd e (nd i d), fun i d e => absurd e (no i d), fun i j d d' l e => absurd e (no i d), fun i e => ⟨t, b, c, rfl, (h i _ e).2⟩, (fun i l e => by cases (h i _ e).1), ⟨(fun z => by cases z), fun t' b' c' e => ?_⟩, fun _ _ e _ => e, fun x hx => ?_⟩
  · cases e
    exact ⟨T, .inl rfl, .inr (.inl rfl), .inr (.inr (.inl rfl)), .inr (.inr (.inr rfl))⟩
  · obtain ⟨n, bs, cs, _, e1, e2, e3, _⟩ := T.ex
    obtain ⟨ps, p1, _⟩ := T.tab.ex
    rcases hx with rfl | rfl | rfl | rfl
    · exact ⟨_, e1, notup_lst⟩
    · exact ⟨_, e2, notup_lst⟩
    · exact ⟨_, e3, notup_lst⟩
    · exact ⟨_, p1, notup_tbl⟩
theorem lawA {st : Stmt} {f fT : Addr} {fd fdT : FuncData} {N' : List Str} {k : Nat} {p1 p2 p3 p4 p5 : Pos} {rest : List Stmt} (G : Fun K "law" "law" st f fd) (S : FnScope ("_law_script" :: "_law_tape_here" :: N') ["_law_script"] (defScope st))
    (GT : FnOk P w K mg base CX0 1 fT fdT ["_law_script"] (spTape K)) (mT : mg "_law_tape" = some (.ref fT)) (kT : PySem.W.keepIn K (.ref fT) = true) (bT : Binds K fdT ["_law_script"] [])
    (hb : defBody st = .Assign [.Name "_law_tape_here" p1] (.Call (.Name "_law_tape" p2) [.Name "_law_script" p3] [] p4) p5 :: rest) (hgl : (defScope st).names.lookup ("_law_tape" : Str) = some .globalImplicit) (hl : Loc (defScope st) "_law_tape_here") (hv : Vis (defScope st) "_law_script")
    (hbody : ∀ (cdv : Value) (A' : Around) (outer : List Env) (s : Shared) (H : Hp) (E : XK), Room (k + 1) (A'.deeper (envOfC "law" (defScope st) s.heap.objs.size f cdv)) →
      SvS (cxOf CX0 P w K mg base ("_law_script" :: "_law_tape_here" :: N') "law" (defScope st) f cdv A' outer s H E).nox (none :: some .tape :: List.replicate N'.length none) rest { nx := fun _ => False, rt := fun a => a = .dat (.bool true) }) :
    FnOk P w K mg base CX0 (k + 1 + 1) f fd ["_law_script"] (spLaw K) := by
  refine G.ok S (fun vs H Q E h => ?_) (fun cdv A' outer s H vs Qc E hr h => ?_)
  · obtain ⟨a, ns, rfl, _⟩ := h
    rfl
  · obtain ⟨a, ns, rfl, hS, hn, tb, kk⟩ := h
    rw [hb]
    refine pss_cut (fun σ H1 => ∃ t b c, TapeAt H1 t b c ∧ σ = some (.ref a) :: some (.ref t) :: List.replicate N'.length none)
      ⟨_, ps_set (i := 1) S.nd rfl hl (pe_call GT (hr.mono (by omega)) hgl mT kT bT .nil pass0 (pa_cons (pe_var (i := 0) rfl hv) pa_nil)) (hf := .inl rfl), ?_⟩ ?_
    · refine ⟨.ref a, rfl, a, ns, rfl, hS, hn, tb, fun t b c H' T _ _ _ _ => ⟨t, b, c, T, ?_⟩⟩
      show ((L2.start ("_law_script" :: "_law_tape_here" :: N') [.ref a]).set 1 (some (.ref t))) = _
      unfold L2.start
      simp [List.replicate_succ]
    · rintro σ H1 ⟨t, b, c, T, rfl⟩
      refine hbody cdv A' outer s H E hr ⟨H1, fun x => x = t ∨ x = b ∨ x = c ∨ x = tabP, some (t, b, c)⟩ _ H1 _ (M.tape T (by simp) fun i z e => ?_) ⟨fun _ _ _ _ z => z.elim, fun z v H' r e => ?_, fun _ _ _ _ z => z.elim, fun _ _ _ _ z => z.elim⟩
      · cases i with
        | zero => simp at e
        | succ i =>
          cases i with
          | zero => simp at e; subst e; exact ⟨rfl, rfl⟩
          | succ i =>
            simp only [List.getElem?_cons_succ, List.getElem?_replicate] at e
            split at e <;> cases e
      · cases e
        obtain ⟨_, _, r⟩ := r
        rw [AV.bl_inv r]
        exact kk H'
end
/-! ### comprehensions in short -/
section
variable {Y : Addr → Shared → Hp → List Addr → Cx} {pat : Pat} {ifs : List Expr} {elt : Expr} {α0 : Ev}
theorem compW_inv {ds acc : List PyData} {Q : List PyData → Prop} (P : Nat → List PyData → Prop) (h0 : P 0 acc)
    (hs : ∀ i d acc, ds[i]? = some d → P i acc → ∃ α1, pat.bind d α0 = some α1 ∧ ∀ C s2 H2 fp, EvTs (Y C s2 H2 fp) α1 ifs fun k => if k = true then ∀ C s2 H2 fp, EvD (Y C s2 H2 fp) α1 elt fun y => P (i + 1) (acc ++ [y]) else P (i + 1) acc)
    (hd : ∀ acc, P ds.length acc → Q acc) : CompW Y pat ifs elt α0 ds acc Q := by
  have key : ∀ n i acc, n = ds.length - i → i ≤ ds.length → P i acc → CompW Y pat ifs elt α0 (ds.drop i) acc Q := by
    intro n
    induction n with
    | zero =>
      intro i acc hn hi p
      have e : i = ds.length := by omega
      subst e
      rw [List.drop_length]
      exact hd acc p
    | succ n ih =>
      intro i acc hn hi p
      have hlt : i < ds.length := by omega
      rw [List.drop_eq_getElem_cons hlt]
      obtain ⟨α1, e, b⟩ := hs i ds[i] acc (List.getElem?_eq_getElem hlt) p
      refine ⟨α1, e, fun C s2 H2 fp F σ H R m kk => b C s2 H2 fp F σ H R m fun k H' q => kk k H' ?_⟩
      cases k with
      | true =>
        rw [if_pos rfl] at q ⊢
        exact fun C s2 H2 fp => (q C s2 H2 fp).imp fun y p => ih (i + 1) _ (by omega) hlt p
      | false =>
        rw [if_neg (by decide)] at q ⊢
        exact ih (i + 1) _ (by omega) hlt q
  exact key _ 0 acc rfl (Nat.zero_le _) h0
theorem compW_pure {ds acc : List PyData} {Q : List PyData → Prop} (p : PyData → Bool) (f : PyData → PyData)
    (hs : ∀ d ∈ ds, ∃ α1, pat.bind d α0 = some α1 ∧ (∀ C s2 H2 fp (Q : Bool → Prop), Q (p d) → EvTs (Y C s2 H2 fp) α1 ifs Q) ∧ (p d = true → ∀ C s2 H2 fp (Q : PyData → Prop), Q (f d) → EvD (Y C s2 H2 fp) α1 elt Q))
    (hd : Q (acc ++ (ds.filter p).map f)) : CompW Y pat ifs elt α0 ds acc Q := by
  induction ds generalizing acc with
  | nil =>
    show Q acc
    simpa using hd
  | cons d ds ih =>
    obtain ⟨α1, e, h1, h2⟩ := hs d List.mem_cons_self
    refine ⟨α1, e, fun C s2 H2 fp => h1 C s2 H2 fp _ ?_⟩
    have ih' := fun acc => ih (acc := acc) fun d hd => hs d (List.mem_cons_of_mem _ hd)
    cases hp : p d with
    | true =>
      rw [if_pos rfl]
      refine fun C s2 H2 fp => h2 hp C s2 H2 fp _ (ih' _ ?_)
      simpa [List.filter_cons, hp] using hd
    | false =>
      rw [if_neg (by decide)]
      refine ih' _ ?_
      simpa [List.filter_cons, hp] using hd
end
/-! ### picking by a draw -/
theorem pickD {ds : List PyData} {v : Int} (h0 : 0 ≤ v) (h1 : v < ds.length) : ∃ d, d ∈ ds ∧ atI ds v = some d := by
  obtain ⟨j, rfl⟩ := Int.eq_ofNat_of_zero_le h0
  have hj : j < ds.length := by omega
  exact ⟨ds[j], List.getElem_mem hj, atI_nat (List.getElem?_eq_getElem hj)⟩
end L2
set_option Elab.async false
set_option linter.all false
set_option maxRecDepth 100000
/-! The data layer: more rules. -/
namespace L2
open PySem PySem.Spec PyProof.Rows
section
variable {X : Cx} {α : Ev} {e a b c : Expr} {es rest : List Expr} {pos p : Pos} {Q : PyData → Prop} {E : AEnds} {st : Stmt} {sts sts' : List Stmt}
/-! cuts -/
theorem sv_ite {c : Prop} [Decidable c] {a b : List Stmt} (h1 : c → SvS X α a E) (h2 : ¬ c → SvS X α b E) : SvS X α (if decide c = true then a else b) E := by
  by_cases h : c
  · rw [decide_eq_true h]; exact h1 h
  · rw [decide_eq_false h]; exact h2 h
theorem sv_iteB {k : Bool} {a b : List Stmt} (h1 : k = true → SvS X α a E) (h2 : k = false → SvS X α b E) : SvS X α (if k = true then a else b) E := by
  cases k with
  | true => exact h1 rfl
  | false => exact h2 rfl
/-! == of ints, of texts -/
theorem cmp_eqI {i j : Int} : Cmp rEq (.int i) (.int j) (decide (i = j)) := fun p H vx vy R rx ry h => by
  cases rx.int_inv; cases ry.int_inv
  refine ⟨rfl, ?_⟩
  rw [show decide (V.int i = V.int j) = decide (i = j) by simp]
  exact h
theorem cmp_neI {i j : Int} : Cmp rNe (.int i) (.int j) (!decide (i = j)) := fun p H vx vy R rx ry h => by
  cases rx.int_inv; cases ry.int_inv
  refine ⟨rfl, ?_⟩
  rw [show decide (V.int i = V.int j) = decide (i = j) by simp]
  exact h
theorem cmp_eqS {i j : Str} : Cmp rEq (.str i) (.str j) (decide (i = j)) := fun p H vx vy R rx ry h => by
  cases rx.str_inv; cases ry.str_inv
  refine ⟨rfl, ?_⟩
  rw [show decide (V.str i = V.str j) = decide (i = j) by simp]
  exact h
theorem ev_cmp {op : CmpOp} {r : R2} (ho : OpR X (compareOp op) r) (hm : behindInMarks op b = false) (h : EvD X α a fun x => EvD X α b fun y => ∃ k, Cmp r x y k ∧ Q (.bool k)) : EvD X α (.Compare a [op] [b] pos) Q := fun F σ H R m k => by
  refine ⟨_, pe_cmpR ho pe_eAny pe_eAny hm, ?_⟩
  refine h F σ H _ m fun x vx H1 q1 t1 k1 r1 => ?_
  have m1 := m.kz k1 t1
  refine q1 F σ H1 _ m1 fun y vy H2 q2 t2 k2 r2 => ?_
  obtain ⟨b, hc, q⟩ := q2
  exact hc _ H2 vx vy _ (r1.same (k2.gz m1.tp)) r2 (k _ _ H2 q t2 (k1.trans k2) (.bl b))
theorem et_eqI {Q : Bool → Prop} (h : EvD X α a fun x => EvD X α b fun y => ∃ i j, x = .int i ∧ y = .int j ∧ Q (decide (i = j))) : EvT X α (.Compare a [.Eq] [b] pos) Q :=
  et_cmp op_eq (nomark _) (h.imp fun x h => h.imp fun y ⟨i, j, e1, e2, q⟩ => ⟨_, by subst e1 e2; exact cmp_eqI, q⟩)
theorem et_neI {Q : Bool → Prop} (h : EvD X α a fun x => EvD X α b fun y => ∃ i j, x = .int i ∧ y = .int j ∧ Q (!decide (i = j))) : EvT X α (.Compare a [.NotEq] [b] pos) Q :=
  et_cmp op_ne (nomark _) (h.imp fun x h => h.imp fun y ⟨i, j, e1, e2, q⟩ => ⟨_, by subst e1 e2; exact cmp_neI, q⟩)
theorem ev_eqI (h : EvD X α a fun x => EvD X α b fun y => ∃ i j, x = .int i ∧ y = .int j ∧ Q (.bool (decide (i = j)))) : EvD X α (.Compare a [.Eq] [b] pos) Q :=
  ev_cmp op_eq (nomark _) (h.imp fun x h => h.imp fun y ⟨i, j, e1, e2, q⟩ => ⟨_, by subst e1 e2; exact cmp_eqI, q⟩)
theorem et_eqS {Q : Bool → Prop} (h : EvD X α a fun x => EvD X α b fun y => ∃ i j, x = .str i ∧ y = .str j ∧ Q (decide (i = j))) : EvT X α (.Compare a [.Eq] [b] pos) Q :=
  et_cmp op_eq (nomark _) (h.imp fun x h => h.imp fun y ⟨i, j, e1, e2, q⟩ => ⟨_, by subst e1 e2; exact cmp_eqS, q⟩)
/-! and, or with known truths -/
theorem ew_andP {p q : Bool} {Q : Bool → Prop} (ha : ∀ Q : Bool → Prop, Q p → EvT X α a Q) (hb : p = true → ∀ Q : Bool → Prop, Q q → EvW X α (.BoolOp .And (b :: rest) pos) Q) (k : Q (p && q)) : EvW X α (.BoolOp .And (a :: b :: rest) pos) Q := by
  refine ew_and (ha _ ?_)
  cases p with
  | true => rw [if_pos rfl]; exact hb rfl _ (by simpa using k)
  | false => rw [if_neg (by decide)]; simpa using k
theorem ew_orP {p q : Bool} {Q : Bool → Prop} (ha : ∀ Q : Bool → Prop, Q p → EvT X α a Q) (hb : p = false → ∀ Q : Bool → Prop, Q q → EvW X α (.BoolOp .Or (b :: rest) pos) Q) (k : Q (p || q)) : EvW X α (.BoolOp .Or (a :: b :: rest) pos) Q := by
  refine ew_or (ha _ ?_)
  cases p with
  | false => rw [if_neg (by decide)]; exact hb rfl _ (by simpa using k)
  | true => rw [if_pos rfl]; simpa using k
theorem ev_andP {p q : Bool} (ha : ∀ Q : PyData → Prop, Q (.bool p) → EvD X α a Q) (hb : p = true → ∀ Q : PyData → Prop, Q (.bool q) → EvD X α (.BoolOp .And (b :: rest) pos) Q) (k : Q (.bool (p && q))) : EvD X α (.BoolOp .And (a :: b :: rest) pos) Q := by
  refine ev_and (ha _ ⟨p, rfl, ?_⟩)
  cases p with
  | true => rw [if_pos rfl]; exact hb rfl _ (by simpa using k)
  | false => rw [if_neg (by decide)]; simpa using k
theorem ev_lelP {i j k : Int} (hm : lastMarks [.LtE, .LtE] [b, c] = false) (ha : ∀ Q : PyData → Prop, Q (.int i) → EvD X α a Q) (hb : ∀ Q : PyData → Prop, Q (.int j) → EvD X α b Q) (hc : ∀ Q : PyData → Prop, Q (.int k) → EvD X α c Q) (h : Q (.bool (decide (i ≤ j) && decide (j ≤ k)))) :
    EvD X α (.Compare a [.LtE, .LtE] [b, c] pos) Q := by
  refine ev_lele hm (ha _ (hb _ ⟨i, j, rfl, rfl, ?_⟩))
  by_cases z : i ≤ j
  · rw [decide_eq_true z] at h ⊢
    rw [if_pos rfl]
    exact hc _ ⟨k, rfl, by simpa using h⟩
  · rw [decide_eq_false z] at h ⊢
    rw [if_neg (by decide)]
    simpa using h
end
end L2
namespace L2
open PySem PySem.Spec PyProof.Rows
/-- the built-in names that the top leaves alone -/
structure NbT (mg : Str → Option Value) : Prop where
  abs : mg "abs" = none
  list : mg "list" = none
  len : mg "len" = none
  range : mg "range" = none
  min : mg "min" = none
  max : mg "max" = none
  sorted : mg "sorted" = none
  isinstance : mg "isinstance" = none
  int : mg "int" = none
  bool : mg "bool" = none
  str : mg "str" = none
  tuple : mg "tuple" = none
  all : mg "all" = none
  any : mg "any" = none
  repr : mg "repr" = none
  zip : mg "zip" = none
  enumerate : mg "enumerate" = none
  reversed : mg "reversed" = none
  sum : mg "sum" = none
theorem pg_tupK' {X : Cx} {K : PySem.W.Frag} {es : List Expr} {k : Nat} {t : TGs} {n : Nat} {pos : Pos} (hK : X.K = K) (hc : X.calm = true) (h : PGs X es t)
    (hn : (assignEach es X.env).length = n := by rfl) (hst : (assignEach es X.env).findIdx? (·.1) = none := by rfl) : PG X (.Tuple es k pos) (gTup K n t) := by
  subst hK
  exact pg_tup hc h hn hst
end L2
set_option Elab.async false
set_option linter.all false
set_option maxRecDepth 100000
/-! The tree of questions of a short sort, answered by a total order, sorts. -/
namespace SortA
open PySem PySem.W PyProof.Rows

def run {α : Type} (lt : Nat → Nat → Bool) : KasT α → α
  | .ret a => a
  | .ask i j k => run lt (k (lt i j))
theorem run_bind {α β : Type} (lt : Nat → Nat → Bool) (f : α → KasT β) : ∀ t : KasT α, run lt (t.bind f) = run lt (f (run lt t))
  | .ret _ => rfl
  | .ask i j k => run_bind lt f (k (lt i j))
structure Ord (lt : Nat → Nat → Bool) : Prop where
  irr : ∀ a, lt a a = false
  tr : ∀ a b c, lt b a = false → lt c b = false → lt c a = false
  asy : ∀ a b, lt a b = true → lt b a = false
abbrev g (p : Array Nat) (i : Nat) : Nat := p.getD i 0
def Up (lt : Nat → Nat → Bool) (p : Array Nat) (m : Nat) : Prop := ∀ i j, i ≤ j → j < m → lt (g p j) (g p i) = false
def Down (lt : Nat → Nat → Bool) (p : Array Nat) (m : Nat) : Prop := ∀ i j, i ≤ j → j < m → lt (g p i) (g p j) = false
theorem g_eq {p q : Array Nat} {i j : Nat} (h : p[i]? = q[j]?) : g p i = g q j := by
  unfold g
  rw [Array.getD_eq_getD_getElem?, Array.getD_eq_getD_getElem?, h]
variable {lt : Nat → Nat → Bool}
theorem Up.succ (O : Ord lt) {p : Array Nat} {m : Nat} (h : Up lt p m) (hm : 0 < m) (e : lt (g p m) (g p (m - 1)) = false) : Up lt p (m + 1) := fun i j hij hj => by
  by_cases e1 : j < m
  · exact h i j hij e1
  · have ej : j = m := by omega
    subst ej
    by_cases e2 : i = j
    · subst e2; exact O.irr _
    · exact O.tr _ _ _ (h i (j - 1) (by omega) (by omega)) e
theorem Down.succ (O : Ord lt) {p : Array Nat} {m : Nat} (h : Down lt p m) (hm : 0 < m) (e : lt (g p (m - 1)) (g p m) = false) : Down lt p (m + 1) := fun i j hij hj => by
  by_cases e1 : j < m
  · exact h i j hij e1
  · have ej : j = m := by omega
    subst ej
    by_cases e2 : i = j
    · subst e2; exact O.irr _
    · exact O.tr _ _ _ e (h i (j - 1) (by omega) (by omega))
theorem up_one (O : Ord lt) (p : Array Nat) : Up lt p 1 := fun i j hij hj => by
  have e1 : i = 0 := by omega
  have e2 : j = 0 := by omega
  rw [e1, e2]; exact O.irr _
/-- the rising run -/
theorem asc_ok (O : Ord lt) (p : Array Nat) : ∀ (f n : Nat), 0 < n → Up lt p n → n ≤ run lt (kas_asc p f n) ∧ run lt (kas_asc p f n) ≤ n + f ∧ Up lt p (run lt (kas_asc p f n)) ∧
    (run lt (kas_asc p f n) < n + f → lt (g p (run lt (kas_asc p f n))) (g p (run lt (kas_asc p f n) - 1)) = true)
  | 0, n, _, h => ⟨Nat.le_refl _, Nat.le_refl _, h, fun z => absurd z (Nat.lt_irrefl _)⟩
  | f + 1, n, hn, h => by
    show n ≤ run lt ((fun c => if c = true then KasT.ret n else kas_asc p f (n + 1)) (lt (p.getD n 0) (p.getD (n - 1) 0))) ∧ _
    cases e : lt (p.getD n 0) (p.getD (n - 1) 0) with
    | true =>
      have er : run lt (kas_asc p (f + 1) n) = n := by
        show run lt ((fun c => if c = true then KasT.ret n else kas_asc p f (n + 1)) (lt (p.getD n 0) (p.getD (n - 1) 0))) = n
        rw [e]; rfl
      rw [er]
      exact ⟨Nat.le_refl _, by omega, h, fun _ => e⟩
    | false =>
      have er : run lt (kas_asc p (f + 1) n) = run lt (kas_asc p f (n + 1)) := by
        show run lt ((fun c => if c = true then KasT.ret n else kas_asc p f (n + 1)) (lt (p.getD n 0) (p.getD (n - 1) 0))) = _
        rw [e]; rfl
      rw [er]
      obtain ⟨a, b, c, d⟩ := asc_ok O p f (n + 1) (by omega) (h.succ O hn e)
      exact ⟨by show n ≤ run lt (kas_asc p f (n + 1)); omega, by omega, c, fun z => d (by omega)⟩
theorem g_rev {p : Array Nat} {i j : Nat} (hj : j ≤ p.size) (k : Nat) : g (kas_rev p i j) k = if i ≤ k ∧ k < j then g p (i + j - 1 - k) else g p k := by
  have h := getElem?_mirror_all (xs := p) (i := i) hj k
  split
  · rename_i c
    rw [if_pos c] at h
    exact g_eq h
  · rename_i c
    rw [if_neg c] at h
    exact g_eq h
theorem rev_size (p : Array Nat) (i j : Nat) : (kas_rev p i j).size = p.size := mirror_size _ _ _ _
theorem rev_perm (p : Array Nat) (i j : Nat) : (kas_rev p i j).Perm p := mirror_perm _ _ _ _
def Eqv (lt : Nat → Nat → Bool) (a b : Nat) : Prop := lt a b = false ∧ lt b a = false
theorem Down.eqv (O : Ord lt) {p q : Array Nat} {n : Nat} (h : Down lt p n) (e : ∀ k, k < n → Eqv lt (g q k) (g p k)) : Down lt q n := fun i j hij hj =>
  O.tr _ _ _ (O.tr _ _ _ (e j hj).2 (h i j hij hj)) (e i (by omega)).1
/-- the last q + 1 of the first n are alike -/
def Last (lt : Nat → Nat → Bool) (p : Array Nat) (n q : Nat) : Prop := ∀ a b, n ≤ a + (q + 1) → a < n → n ≤ b + (q + 1) → b < n → lt (g p a) (g p b) = false
theorem rev_last (O : Ord lt) {p : Array Nat} {n q : Nat} (hn : n ≤ p.size) (hq : q < n) (L : Last lt p n q) : ∀ k, k < n → Eqv lt (g (kas_rev p (n - (q + 1)) n) k) (g p k) := fun k hk => by
  rw [g_rev hn]
  split
  · rename_i c
    exact ⟨L _ _ (by omega) (by omega) (by omega) hk, L _ _ (by omega) hk (by omega) (by omega)⟩
  · exact ⟨O.irr _, O.irr _⟩
/-- the falling run -/
theorem desc_ok (O : Ord lt) : ∀ (f : Nat) (p : Array Nat) (n q : Nat), q < n → n + f ≤ p.size → Down lt p n → Last lt p n q →
    ∃ p' m q', run lt (kas_desc f p n q) = (p', m, q') ∧ n ≤ m ∧ m ≤ n + f ∧ p'.size = p.size ∧ p'.Perm p ∧ q' < m ∧ Down lt p' m ∧ Last lt p' m q'
  | 0, p, n, q, hq, hs, h, L => ⟨p, n, q, rfl, Nat.le_refl _, Nat.le_refl _, rfl, Array.Perm.refl _, hq, h, L⟩
  | f + 1, p, n, q, hq, hs, h, L => by
    cases e : lt (p.getD n 0) (p.getD (n - 1) 0) with
    | true =>
      by_cases hq0 : q > 0
      · have er : run lt (kas_desc (f + 1) p n q) = run lt (kas_desc f (kas_rev p (n - (q + 1)) n) (n + 1) 0) := by
          show run lt ((fun c => if c = true then (if q > 0 then kas_desc f (kas_rev p (n - (q + 1)) n) (n + 1) 0 else kas_desc f p (n + 1) 0)
            else .ask (p.getD (n - 1) 0) (p.getD n 0) fun d => if d = true then .ret (p, n, q) else kas_desc f p (n + 1) (q + 1)) (lt (p.getD n 0) (p.getD (n - 1) 0))) = _
          rw [e]
          show run lt (if q > 0 then _ else _) = _
          rw [if_pos hq0]
        have ev := rev_last O (by omega : n ≤ p.size) hq L
        have h1 := h.eqv O ev
        have hn : g (kas_rev p (n - (q + 1)) n) n = g p n := by rw [g_rev (by omega), if_neg (by omega)]
        have h2 : Down lt (kas_rev p (n - (q + 1)) n) (n + 1) := h1.succ O (by omega) (by
          rw [hn]
          exact O.tr _ _ _ (O.asy _ _ e) (ev (n - 1) (by omega)).1)
        obtain ⟨p', m, q', a, b, c, d1, d2, d3, d4, d5⟩ := desc_ok O f (kas_rev p (n - (q + 1)) n) (n + 1) 0 (by omega) (by rw [rev_size]; omega) h2 (fun a b h1 h2 h3 h4 => by
          have e1 : a = n := by omega
          have e2 : b = n := by omega
          rw [e1, e2]; exact O.irr _)
        exact ⟨p', m, q', er.trans a, by omega, by omega, by rw [d1, rev_size], d2.trans (rev_perm _ _ _), d3, d4, d5⟩
      · have er : run lt (kas_desc (f + 1) p n q) = run lt (kas_desc f p (n + 1) 0) := by
          show run lt ((fun c => if c = true then (if q > 0 then kas_desc f (kas_rev p (n - (q + 1)) n) (n + 1) 0 else kas_desc f p (n + 1) 0)
            else .ask (p.getD (n - 1) 0) (p.getD n 0) fun d => if d = true then .ret (p, n, q) else kas_desc f p (n + 1) (q + 1)) (lt (p.getD n 0) (p.getD (n - 1) 0))) = _
          rw [e]
          show run lt (if q > 0 then _ else _) = _
          rw [if_neg hq0]
        obtain ⟨p', m, q', a, b, c, d1, d2, d3, d4, d5⟩ := desc_ok O f p (n + 1) 0 (by omega) (by omega) (h.succ O (by omega) (O.asy _ _ e)) (fun a b h1 h2 h3 h4 => by
          have e1 : a = n := by omega
          have e2 : b = n := by omega
          rw [e1, e2]; exact O.irr _)
        exact ⟨p', m, q', er.trans a, by omega, by omega, d1, d2, d3, d4, d5⟩
    | false =>
      cases e2 : lt (p.getD (n - 1) 0) (p.getD n 0) with
      | true =>
        have er : run lt (kas_desc (f + 1) p n q) = (p, n, q) := by
          show run lt ((fun c => if c = true then (if q > 0 then kas_desc f (kas_rev p (n - (q + 1)) n) (n + 1) 0 else kas_desc f p (n + 1) 0)
            else .ask (p.getD (n - 1) 0) (p.getD n 0) fun d => if d = true then .ret (p, n, q) else kas_desc f p (n + 1) (q + 1)) (lt (p.getD n 0) (p.getD (n - 1) 0))) = _
          rw [e]
          show run lt ((fun d => if d = true then KasT.ret (p, n, q) else kas_desc f p (n + 1) (q + 1)) (lt (p.getD (n - 1) 0) (p.getD n 0))) = _
          rw [e2]; rfl
        exact ⟨p, n, q, er, Nat.le_refl _, by omega, rfl, Array.Perm.refl _, hq, h, L⟩
      | false =>
        have er : run lt (kas_desc (f + 1) p n q) = run lt (kas_desc f p (n + 1) (q + 1)) := by
          show run lt ((fun c => if c = true then (if q > 0 then kas_desc f (kas_rev p (n - (q + 1)) n) (n + 1) 0 else kas_desc f p (n + 1) 0)
            else .ask (p.getD (n - 1) 0) (p.getD n 0) fun d => if d = true then .ret (p, n, q) else kas_desc f p (n + 1) (q + 1)) (lt (p.getD n 0) (p.getD (n - 1) 0))) = _
          rw [e]
          show run lt ((fun d => if d = true then KasT.ret (p, n, q) else kas_desc f p (n + 1) (q + 1)) (lt (p.getD (n - 1) 0) (p.getD n 0))) = _
          rw [e2]; rfl
        have Ln : Last lt p (n + 1) (q + 1) := fun a b h1 h2 h3 h4 => by
          have two : ∀ a, n + 1 ≤ a + (q + 1 + 1) → a < n + 1 → Eqv lt (g p a) (g p (n - 1)) := fun a x1 x2 => by
            by_cases ea : a = n
            · rw [ea]; exact ⟨e, e2⟩
            · exact ⟨L a (n - 1) (by omega) (by omega) (by omega) (by omega), L (n - 1) a (by omega) (by omega) (by omega) (by omega)⟩
          exact O.tr _ _ _ (two b h3 h4).2 (two a h1 h2).1
        obtain ⟨p', m, q', a, b, c, d1, d2, d3, d4, d5⟩ := desc_ok O f p (n + 1) (q + 1) (by omega) (by omega) (h.succ O (by omega) e2) Ln
        exact ⟨p', m, q', er.trans a, by omega, by omega, d1, d2, d3, d4, d5⟩
theorem rev_up {p : Array Nat} {n : Nat} (hn : n ≤ p.size) (h : Down lt p n) : Up lt (kas_rev p 0 n) n := fun i j hij hj => by
  rw [g_rev hn, g_rev hn, if_pos (by omega), if_pos (by omega)]
  exact h _ _ (by omega) (by omega)
theorem tail3_ok (O : Ord lt) {p : Array Nat} {n nrem : Nat} (h0 : 0 < n) (hn : n ≤ nrem) (hs : nrem ≤ p.size) (h : Down lt p n) :
    ∃ p' m, run lt (kas_tail3 n nrem p) = (m, p') ∧ 1 ≤ m ∧ m ≤ nrem ∧ p'.size = p.size ∧ p'.Perm p ∧ Up lt p' m := by
  obtain ⟨a, b, c, _⟩ := asc_ok O (kas_rev p 0 n) (nrem - n) n h0 (rev_up (by omega) h)
  refine ⟨kas_rev p 0 n, run lt (kas_asc (kas_rev p 0 n) (nrem - n) n), ?_, by omega, by omega, rev_size _ _ _, rev_perm _ _ _, c⟩
  unfold kas_tail3
  rw [run_bind]
  rfl
theorem descPart_ok (O : Ord lt) {p : Array Nat} {n nrem : Nat} (h0 : 0 < n) (hn : n + 1 ≤ nrem) (hs : nrem ≤ p.size) (h : Down lt p (n + 1)) :
    ∃ p' m, run lt (kas_descPart n nrem p) = (m, p') ∧ 1 ≤ m ∧ m ≤ nrem ∧ p'.size = p.size ∧ p'.Perm p ∧ Up lt p' m := by
  obtain ⟨p1, m1, q1, e, a1, a2, a3, a4, a5, a6, a7⟩ := desc_ok O (nrem - (n + 1)) p (n + 1) 0 (by omega) (by omega) h (fun a b h1 h2 h3 h4 => by
    have e1 : a = n := by omega
    have e2 : b = n := by omega
    rw [e1, e2]; exact O.irr _)
  unfold kas_descPart
  rw [run_bind, e]
  dsimp only
  split
  · obtain ⟨p', m, b1, b2, b3, b4, b5, b6⟩ := tail3_ok O (p := kas_rev p1 (m1 - (q1 + 1)) m1) (n := m1) (nrem := nrem) (by omega) (by omega) (by rw [rev_size]; omega) (a6.eqv O (rev_last O (by omega) a5 a7))
    exact ⟨p', m, b1, b2, b3, by rw [b4, rev_size, a3], (b5.trans (rev_perm _ _ _)).trans a4, b6⟩
  · obtain ⟨p', m, b1, b2, b3, b4, b5, b6⟩ := tail3_ok O (p := p1) (n := m1) (nrem := nrem) (by omega) (by omega) (by omega) a6
    exact ⟨p', m, b1, b2, b3, by rw [b4, a3], b5.trans a4, b6⟩
theorem count_ok (O : Ord lt) {p : Array Nat} {nrem : Nat} (h0 : 0 < nrem) (hs : nrem ≤ p.size) :
    ∃ p' m, run lt (kas_count nrem p) = (m, p') ∧ 1 ≤ m ∧ m ≤ nrem ∧ p'.size = p.size ∧ p'.Perm p ∧ Up lt p' m := by
  obtain ⟨a, b, c, d⟩ := asc_ok O p (nrem - 1) 1 (by omega) (up_one O p)
  unfold kas_count
  rw [run_bind]
  generalize run lt (kas_asc p (nrem - 1) 1) = n at a b c d
  by_cases en : n = nrem
  · rw [if_pos (by rw [en]; simp)]
    exact ⟨p, n, rfl, a, by omega, rfl, Array.Perm.refl _, c⟩
  · rw [if_neg (by simpa using en)]
    have hd := d (by omega)
    by_cases h1 : n > 1
    · rw [if_pos h1]
      cases e : lt (p.getD 0 0) (p.getD (n - 1) 0) with
      | true =>
        refine ⟨p, n, ?_, a, by omega, rfl, Array.Perm.refl _, c⟩
        show run lt ((fun c => if c = true then KasT.ret (n, p) else kas_descPart n nrem (kas_rev p 0 n)) (lt (p.getD 0 0) (p.getD (n - 1) 0))) = _
        rw [e]; rfl
      | false =>
        have all : ∀ k, k < n → Eqv lt (g p k) (g p 0) := fun k hk => ⟨c 0 k (by omega) hk, O.tr _ _ _ (c k (n - 1) (by omega) (by omega)) e⟩
        have hD : Down lt (kas_rev p 0 n) (n + 1) := by
          have h2 : Down lt (kas_rev p 0 n) n := fun i j hij hj => by
            rw [g_rev (by omega), g_rev (by omega), if_pos (by omega), if_pos (by omega)]
            exact O.tr _ _ _ (all _ (by omega)).2 (all _ (by omega)).1
          refine h2.succ O (by omega) ?_
          rw [g_rev (by omega), g_rev (by omega), if_pos (by omega), if_neg (by omega)]
          have e0 : lt (g p (n - 1)) (g p n) = false := O.asy _ _ hd
          exact O.tr _ _ _ e0 (O.tr _ _ _ (all (n - 1) (by omega)).2 (all _ (by omega)).1)
        obtain ⟨p', m, b1, b2, b3, b4, b5, b6⟩ := descPart_ok O (p := kas_rev p 0 n) (n := n) (nrem := nrem) (by omega) (by omega) (by rw [rev_size]; omega) hD
        refine ⟨p', m, ?_, b2, b3, by rw [b4, rev_size], b5.trans (rev_perm _ _ _), b6⟩
        rw [← b1]
        show run lt ((fun c => if c = true then KasT.ret (n, p) else kas_descPart n nrem (kas_rev p 0 n)) (lt (p.getD 0 0) (p.getD (n - 1) 0))) = _
        rw [e]; rfl
    · rw [if_neg h1]
      have e1 : n = 1 := by omega
      subst e1
      refine descPart_ok O (by omega) (by omega) hs ?_
      have d1 : Down lt p 1 := fun i j hij hj => by
        have e1 : i = 0 := by omega
        have e2 : j = 0 := by omega
        rw [e1, e2]; exact O.irr _
      exact d1.succ O (by omega) (O.asy _ _ hd)
/-- where an item goes -/
theorem place_ok (O : Ord lt) {p : Array Nat} {k : Nat} (U : Up lt p k) : ∀ (f l r : Nat), r ≤ l + f → l ≤ r → r ≤ k → (∀ i, i < l → lt (g p k) (g p i) = false) → (∀ i, r ≤ i → i < k → lt (g p k) (g p i) = true) →
    run lt (kas_place p k f l r) ≤ k ∧ (∀ i, i < run lt (kas_place p k f l r) → lt (g p k) (g p i) = false) ∧ (∀ i, run lt (kas_place p k f l r) ≤ i → i < k → lt (g p k) (g p i) = true)
  | 0, l, r, h1, h2, h3, ha, hb => by
    show l ≤ k ∧ _
    exact ⟨by omega, ha, fun i x y => hb i (by have : l ≤ i := x; omega) y⟩
  | f + 1, l, r, h1, h2, h3, ha, hb => by
    by_cases hlr : l ≥ r
    · have er : run lt (kas_place p k (f + 1) l r) = l := by
        show run lt (if l ≥ r then _ else _) = _
        rw [if_pos hlr]; rfl
      rw [er]
      exact ⟨by omega, ha, fun i x y => hb i (by omega) y⟩
    · cases e : lt (p.getD k 0) (p.getD ((l + r) / 2) 0) with
      | true =>
        have er : run lt (kas_place p k (f + 1) l r) = run lt (kas_place p k f l ((l + r) / 2)) := by
          show run lt (if l ≥ r then _ else _) = _
          rw [if_neg hlr]
          show run lt ((fun c => if c = true then kas_place p k f l ((l + r) / 2) else kas_place p k f ((l + r) / 2 + 1) r) (lt (p.getD k 0) (p.getD ((l + r) / 2) 0))) = _
          rw [e]; rfl
        rw [er]
        refine place_ok O U f l ((l + r) / 2) (by omega) (by omega) (by omega) ha fun i x y => ?_
        cases e3 : lt (g p k) (g p i) with
        | true => rfl
        | false =>
          have e4 : lt (g p k) (g p ((l + r) / 2)) = false := O.tr _ _ _ (U ((l + r) / 2) i x y) e3
          have e5 : lt (g p k) (g p ((l + r) / 2)) = true := e
          rw [e4] at e5; cases e5
      | false =>
        have er : run lt (kas_place p k (f + 1) l r) = run lt (kas_place p k f ((l + r) / 2 + 1) r) := by
          show run lt (if l ≥ r then _ else _) = _
          rw [if_neg hlr]
          show run lt ((fun c => if c = true then kas_place p k f l ((l + r) / 2) else kas_place p k f ((l + r) / 2 + 1) r) (lt (p.getD k 0) (p.getD ((l + r) / 2) 0))) = _
          rw [e]; rfl
        rw [er]
        exact place_ok O U f ((l + r) / 2 + 1) r (by omega) (by omega) h3 (fun i hi => O.tr _ _ _ (U i ((l + r) / 2) (by omega) (by omega)) e) hb
theorem bubble_up (O : Ord lt) {p : Array Nat} {k l : Nat} (hk : k < p.size) (hl : l ≤ k) (U : Up lt p k) (ha : ∀ i, i < l → lt (g p k) (g p i) = false) (hb : ∀ i, l ≤ i → i < k → lt (g p k) (g p i) = true) : Up lt (bubble p k (k - l)) (k + 1) := by
  have gb : ∀ i, g (bubble p k (k - l)) i = if i = l then g p k else if l < i ∧ i ≤ k then g p (i - 1) else g p i := fun i => by
    have h := getElem?_bubble hk (k - l) (by omega) i
    have el : k - (k - l) = l := by omega
    rw [el] at h
    by_cases c : i = l
    · rw [if_pos c] at h ⊢; exact g_eq h
    · rw [if_neg c] at h ⊢
      by_cases c2 : l < i ∧ i ≤ k
      · rw [if_pos c2] at h ⊢; exact g_eq h
      · rw [if_neg c2] at h ⊢; exact g_eq h
  intro i j hij hj
  have gl : g (bubble p k (k - l)) l = g p k := by rw [gb, if_pos rfl]
  have gm : ∀ i, l < i → i ≤ k → g (bubble p k (k - l)) i = g p (i - 1) := fun i x y => by rw [gb, if_neg (by omega), if_pos ⟨x, y⟩]
  have gs : ∀ i, i < l → g (bubble p k (k - l)) i = g p i := fun i x => by rw [gb, if_neg (by omega), if_neg (by omega)]
  rcases Nat.lt_trichotomy i l with hi | hi | hi
  · rw [gs i hi]
    rcases Nat.lt_trichotomy j l with h | h | h
    · rw [gs j h]; exact U _ _ (by omega) (by omega)
    · rw [h, gl]; exact ha i hi
    · rw [gm j h (by omega)]; exact U _ _ (by omega) (by omega)
  · rw [hi, gl]
    rcases Nat.lt_trichotomy j l with h | h | h
    · omega
    · rw [h, gl]; exact O.irr _
    · rw [gm j h (by omega)]; exact O.asy _ _ (hb (j - 1) (by omega) (by omega))
  · rw [gm i hi (by omega), gm j (by omega) (by omega)]
    exact U _ _ (by omega) (by omega)
theorem bin_ok (O : Ord lt) : ∀ (f : Nat) (p : Array Nat) (k : Nat), 0 < k → k + f ≤ p.size → Up lt p k → (run lt (kas_bin f p k)).size = p.size ∧ (run lt (kas_bin f p k)).Perm p ∧ Up lt (run lt (kas_bin f p k)) (k + f)
  | 0, p, k, _, _, U => ⟨rfl, Array.Perm.refl _, U⟩
  | f + 1, p, k, hk, hs, U => by
    obtain ⟨a, b, c⟩ := place_ok O U k 0 k (by omega) (by omega) (by omega) (fun i hi => by omega) (fun i x y => by omega)
    have er : run lt (kas_bin (f + 1) p k) = run lt (kas_bin f (bubble p k (k - run lt (kas_place p k k 0 k))) (k + 1)) := by
      show run lt ((kas_place p k k 0 k).bind _) = _
      rw [run_bind]
    rw [er]
    obtain ⟨x, y, z⟩ := bin_ok O f (bubble p k (k - run lt (kas_place p k k 0 k))) (k + 1) (by omega) (by rw [bubble_size]; omega) (bubble_up O (by omega) a U b c)
    have e : k + (f + 1) = k + 1 + f := by omega
    rw [e]
    exact ⟨by rw [x, bubble_size], y.trans (bubble_perm _ _ _), z⟩
/-- THE SORT: a permutation of the places, in rising order -/
theorem sort_ok (O : Ord lt) {n : Nat} (h : 0 < n) : (run lt (kas_sort n)).size = n ∧ (run lt (kas_sort n)).Perm (List.range n).toArray ∧ Up lt (run lt (kas_sort n)) n := by
  obtain ⟨p, m, e, a, b, c, d, u⟩ := count_ok O (p := (List.range n).toArray) (nrem := n) h (by simp)
  unfold kas_sort
  rw [run_bind, e]
  dsimp only
  have hs : p.size = n := by rw [c]; simp
  by_cases hm : m < n
  · rw [if_pos hm]
    have em : max m 1 = m := by omega
    rw [em]
    obtain ⟨x, y, z⟩ := bin_ok O (n - m) p m (by omega) (by omega) u
    refine ⟨by rw [x, hs], y.trans d, ?_⟩
    have e : m + (n - m) = n := by omega
    rw [e] at z
    exact z
  · rw [if_neg hm]
    have e : m = n := by omega
    subst e
    exact ⟨hs, d, u⟩
end SortA
set_option Elab.async false
set_option linter.all false
set_option maxRecDepth 100000
/-! sorted of a list of pairs of ints, over the hand layer. -/
namespace SortA
open PySem PySem.W PyProof.Rows
/-! ### what is asked lies in range -/
def Asks {α : Type} (n : Nat) (P : α → Prop) : KasT α → Prop
  | .ret a => P a
  | .ask i j k => i < n ∧ j < n ∧ ∀ b, Asks n P (k b)
theorem Asks.bind {α β : Type} {n : Nat} {P : α → Prop} {P' : β → Prop} {f : α → KasT β} (h2 : ∀ a, P a → Asks n P' (f a)) : ∀ t : KasT α, Asks n P t → Asks n P' (t.bind f)
  | .ret a, h => h2 a h
  | .ask i j k, ⟨a, b, c⟩ => ⟨a, b, fun x => Asks.bind h2 (k x) (c x)⟩
def Bd (n : Nat) (p : Array Nat) : Prop := ∀ x ∈ p, x < n
theorem Bd.get {n : Nat} {p : Array Nat} (h : Bd n p) (hn : 0 < n) (i : Nat) : p.getD i 0 < n := by
  by_cases hi : i < p.size
  · have e : p.getD i 0 = p[i] := by simp [Array.getD, hi]
    rw [e]; exact h _ (Array.getElem_mem hi)
  · have e : p.getD i 0 = 0 := by simp [Array.getD, hi]
    rw [e]; exact hn
theorem Bd.perm {n : Nat} {p q : Array Nat} (h : Bd n p) (e : q.Perm p) : Bd n q := fun x hx => h x (e.mem_iff.mp hx)
theorem asks_asc {n : Nat} {p : Array Nat} (B : Bd n p) (hn : 0 < n) : ∀ f k, Asks n (fun _ => True) (kas_asc p f k)
  | 0, _ => trivial
  | f + 1, k => ⟨B.get hn _, B.get hn _, fun b => by
    cases b with
    | true => exact trivial
    | false => exact asks_asc B hn f (k + 1)⟩
theorem asks_desc {n : Nat} (hn : 0 < n) : ∀ f (p : Array Nat) k q, Bd n p → Asks n (fun r : Array Nat × Nat × Nat => Bd n r.1) (kas_desc f p k q)
  | 0, _, _, _, B => B
  | f + 1, p, k, q, B => ⟨B.get hn _, B.get hn _, fun b => by
    cases b with
    | true =>
      show Asks n _ (if q > 0 then _ else _)
      split
      · exact asks_desc hn f _ _ _ (B.perm (rev_perm _ _ _))
      · exact asks_desc hn f _ _ _ B
    | false =>
      refine ⟨B.get hn _, B.get hn _, fun b => ?_⟩
      cases b with
      | true => exact B
      | false => exact asks_desc hn f _ _ _ B⟩
theorem asks_tail3 {n : Nat} {p : Array Nat} (B : Bd n p) (hn : 0 < n) (m r : Nat) : Asks n (fun r : Nat × Array Nat => Bd n r.2) (kas_tail3 m r p) := by
  unfold kas_tail3
  refine Asks.bind (P := fun _ => True) (fun a _ => ?_) _ (asks_asc (B.perm (rev_perm _ _ _)) hn _ _)
  exact B.perm (rev_perm _ _ _)
theorem asks_descPart {n : Nat} {p : Array Nat} (B : Bd n p) (hn : 0 < n) (m r : Nat) : Asks n (fun r : Nat × Array Nat => Bd n r.2) (kas_descPart m r p) :=
  Asks.bind (fun a ha => by
    split
    · exact asks_tail3 (Bd.perm ha (rev_perm _ _ _)) hn _ _
    · exact asks_tail3 ha hn _ _) _ (asks_desc hn _ _ _ _ B)
theorem asks_count {n : Nat} {p : Array Nat} (B : Bd n p) (hn : 0 < n) (r : Nat) : Asks n (fun r : Nat × Array Nat => Bd n r.2) (kas_count r p) :=
  Asks.bind (fun a _ => by
    split
    · exact B
    · split
      · refine ⟨B.get hn _, B.get hn _, fun b => ?_⟩
        cases b with
        | true => exact B
        | false => exact asks_descPart (B.perm (rev_perm _ _ _)) hn _ _
      · exact asks_descPart B hn _ _) _ (asks_asc B hn _ _)
theorem asks_place {n : Nat} {p : Array Nat} (B : Bd n p) (hn : 0 < n) (k : Nat) : ∀ f l r, Asks n (fun _ => True) (kas_place p k f l r)
  | 0, _, _ => trivial
  | f + 1, l, r => by
    show Asks n _ (if l ≥ r then _ else _)
    split
    · exact trivial
    · refine ⟨B.get hn _, B.get hn _, fun b => ?_⟩
      cases b with
      | true => exact asks_place B hn k f _ _
      | false => exact asks_place B hn k f _ _
theorem asks_bin {n : Nat} (hn : 0 < n) : ∀ f (p : Array Nat) k, Bd n p → Asks n (fun _ => True) (kas_bin f p k)
  | 0, _, _, _ => trivial
  | f + 1, p, k, B => Asks.bind (fun l _ => asks_bin hn f _ _ (B.perm (bubble_perm _ _ _))) _ (asks_place B hn k _ _ _)
theorem asks_sort {n : Nat} (hn : 0 < n) : Asks n (fun _ => True) (kas_sort n) :=
  Asks.bind (fun a ha => by
    split
    · exact asks_bin hn _ _ _ ha
    · exact trivial) _ (asks_count (fun x hx => by simpa using hx) hn n)
theorem wp_run {α : Type} {n : Nat} {P : α → Prop} {cmp : Nat → Nat → (Bool → Shared → Prop) → Shared → Prop} {lt : Nat → Nat → Bool} {Q : α → Shared → Prop} {s : Shared} (hc : ∀ i j C, i < n → j < n → C (lt i j) s → cmp i j C s) :
    ∀ t : KasT α, Asks n P t → Q (run lt t) s → t.kasWp cmp Q s
  | .ret _, _, h => h
  | .ask i j k, ⟨a, b, c⟩, h => hc i j _ a b (wp_run hc (k (lt i j)) (c _) h)
/-! ### pairs of ints, first by the first -/
def lx (p q : Int × Int) : Bool := decide (p.1 < q.1 ∨ (p.1 = q.1 ∧ p.2 < q.2))
def at2 (ps : List (Int × Int)) (i : Nat) : Int × Int := ps.getD i (0, 0)
theorem lx_ord (ps : List (Int × Int)) : Ord fun i j => lx (at2 ps i) (at2 ps j) where
  irr := fun a => by simp [lx]
  tr := fun a b c => by
    unfold lx
    generalize at2 ps a = x; generalize at2 ps b = y; generalize at2 ps c = z
    simp only [decide_eq_false_iff_not]
    omega
  asy := fun a b => by
    unfold lx
    generalize at2 ps a = x; generalize at2 ps b = y
    simp only [decide_eq_false_iff_not, decide_eq_true_eq]
    omega
/-- THE SORT OF PAIRS -/
theorem sort_pairs (ps : List (Int × Int)) (h : 0 < ps.length) : ∃ ix : List Nat, run (fun i j => lx (at2 ps i) (at2 ps j)) (kas_sort ps.length) = ix.toArray ∧ ix.length = ps.length ∧ (∀ i ∈ ix, i < ps.length) ∧ (ix.map (at2 ps)).Perm ps ∧ (ix.map (at2 ps)).Pairwise (fun p q => lx q p = false) := by
  obtain ⟨a, b, c⟩ := sort_ok (lx_ord ps) h
  generalize run (fun i j => lx (at2 ps i) (at2 ps j)) (kas_sort ps.length) = r at a b c
  have e : (List.range ps.length).map (at2 ps) = ps := by
    apply List.ext_getElem
    · simp
    · intro i h1 h2
      simp [at2, h2]
  have pl : r.toList.Perm (List.range ps.length) := by
    have := Array.perm_iff_toList_perm.mp b
    simpa using this
  refine ⟨r.toList, by simp, by simpa using a, fun i hi => by simpa using pl.mem_iff.mp hi, ?_, ?_⟩
  · have := pl.map (at2 ps)
    rw [e] at this
    exact this
  · rw [List.pairwise_map, List.pairwise_iff_getElem]
    intro i j hi hj hij
    have h1 : j < r.size := by simpa using hj
    have := c i j (by omega) (by rw [← a]; exact h1)
    have ei : g r i = r.toList[i] := by
      have : i < r.size := by omega
      simp [g, Array.getD, this]
    have ej : g r j = r.toList[j] := by simp [g, Array.getD, h1]
    rw [ei, ej] at this
    exact this
end SortA

namespace L2
open PySem PySem.Spec PySem.Calls PySem.W PyProof.Rows SortA

section
variable {prog : Program} {w : World} {A : Around} {E : Value → Shared → Prop} {s : Shared}
/-- the values are pairs of ints -/
def Prs (h : Heap) : List Value → List (Int × Int) → Prop
  | [], [] => True
  | v :: vs, p :: ps => (∃ a o t u n, v = .ref a ∧ h.get? a = some o ∧ o.cls = .type "tuple" ∧ o.data = .seq #[.int p.1 t, .int p.2 u] n) ∧ Prs h vs ps
  | _, _ => False
theorem Prs.len {h : Heap} : ∀ {vs : List Value} {ps : List (Int × Int)}, Prs h vs ps → vs.length = ps.length
  | [], [], _ => rfl
  | [], _ :: _, h => h.elim
  | _ :: _, [], h => h.elim
  | _ :: _, _ :: _, ⟨_, h⟩ => by simp [Prs.len h]
theorem Prs.at {h : Heap} : ∀ {vs : List Value} {ps : List (Int × Int)} (i : Nat), Prs h vs ps → i < ps.length → ∃ a o t u n, vs.getD i Value.none = .ref a ∧ h.get? a = some o ∧ o.cls = .type "tuple" ∧ o.data = .seq #[.int (at2 ps i).1 t, .int (at2 ps i).2 u] n
  | [], [], _, _, hi => by simp at hi
  | [], _ :: _, _, h, _ => h.elim
  | _ :: _, [], _, h, _ => h.elim
  | _ :: _, _ :: _, 0, ⟨x, _⟩, _ => x
  | _ :: _, _ :: _, i + 1, ⟨_, r⟩, hi => by
    obtain ⟨a, o, t, u, n, e, q⟩ := Prs.at i r (by simpa using hi)
    exact ⟨a, o, t, u, n, by simpa using e, q⟩
theorem Prs.tups {h : Heap} : ∀ {vs : List Value} {ps : List (Int × Int)}, Prs h vs ps → ∃ fs : List Value, KatTups h vs fs ∧ fs.length = ps.length ∧ ∀ v ∈ fs, ∃ i t, v = .int i t
  | [], [], _ => ⟨[], trivial, rfl, fun _ h => by simp at h⟩
  | [], _ :: _, h => h.elim
  | _ :: _, [], h => h.elim
  | _ :: _, p :: _, ⟨⟨a, o, t, u, n, e, ho, hc, hd⟩, r⟩ => by
    obtain ⟨fs, x, y, z⟩ := Prs.tups r
    subst e
    refine ⟨.int p.1 t :: fs, KatTups.cons ho hc hd (by simp) x, by simp [y], fun v hv => ?_⟩
    rcases List.mem_cons.mp hv with rfl | hv
    · exact ⟨_, _, rfl⟩
    · exact z v hv
theorem lt_pairs {a b : Addr} {oa ob : Obj} {p q : Int × Int} {t u t' u' : Tok} {n k : Nat} {Q : Bool → Shared → Prop} (ha : s.heap.get? a = some oa) (da : oa.data = .seq #[.int p.1 t, .int p.2 u] n) (hb : s.heap.get? b = some ob) (db : ob.data = .seq #[.int q.1 t', .int q.2 u'] k)
    (h : Q (lx p q) s) : wpAny (model prog w) A (keyLt' (tuples' true) (.ref a) (.ref b)) Q E s := by
  refine kat_lt ha da hb db (kat_cons (wpAny_eqBool_int ?_))
  by_cases e : p.1 = q.1
  · have e1 : (p.1 == q.1) = true := by simp [e]
    rw [e1]
    refine kat_yes (kat_cons (wpAny_eqBool_int ?_))
    by_cases e2 : p.2 = q.2
    · have e3 : (p.2 == q.2) = true := by simp [e2]
      rw [e3]
      refine kat_yes (kat_nil ?_)
      have : lx p q = false := by simp [lx, e, e2]
      rw [this] at h
      simpa using h
    · have e3 : (p.2 == q.2) = false := by simp [e2]
      rw [e3]
      refine kat_no (kat_one _ _ (wpAny_lt_int ?_))
      have : lx p q = decide (p.2 < q.2) := by simp [lx, e]
      rw [this] at h
      exact h
  · have e1 : (p.1 == q.1) = false := by simp [e]
    rw [e1]
    refine kat_no (oneLt_int ?_)
    have : lx p q = decide (p.1 < q.1) := by simp [lx, e]
    rw [this] at h
    exact h
/-- the items in the places' order -/
theorem pairs_sort {vs : List Value} {ps : List (Int × Int)} (h2 : 2 ≤ vs.length) (P : Prs s.heap vs ps) {R : Array Nat → Shared → Prop} (hr : ∀ ix : List Nat, ix.length = ps.length → (∀ i ∈ ix, i < ps.length) → (ix.map (at2 ps)).Perm ps → (ix.map (at2 ps)).Pairwise (fun p q => lx q p = false) → R ix.toArray s) :
    wpAny (model prog w) A (keyKind' vs.toArray) (fun κ s' => (kas_sort vs.length).kasWp (kas_ask prog w A κ vs) R s') (fun _ _ => False) s := by
  obtain ⟨fs, t, hl, hi⟩ := P.tups
  have hlen := P.len
  refine kat_kind (T := .type "int") t (by omega) (fun v hv => ?_) (by decide) ?_
  · obtain ⟨i, t, rfl⟩ := hi v hv
    exact .now
  · have e : (Value.type "int" != Value.type "tuple") = true := by decide
    rw [e]
    obtain ⟨ix, e1, e2, e3, e4, e5⟩ := sort_pairs ps (by omega)
    rw [hlen]
    refine wp_run (n := ps.length) (P := fun _ => True) (lt := fun i j => lx (at2 ps i) (at2 ps j)) (fun i j C hi hj hC => ?_) _ (asks_sort (by omega)) ?_
    · obtain ⟨a, o, t, u, n, ea, ha, _, da⟩ := P.at i hi
      obtain ⟨b, o', t', u', n', eb, hb, _, db⟩ := P.at j hj
      unfold kas_ask
      rw [ea, eb]
      exact lt_pairs ha da hb db hC
    · rw [e1]; exact hr ix e2 e3 e4 e5

/-- what a sort of pairs leaves -/
def Srt (vs : List Value) (ps : List (Int × Int)) (out : List Value) : Prop :=
  ∃ ix : List Nat, out = ix.map (fun i => vs.getD i Value.none) ∧ ix.length = ps.length ∧ (∀ i ∈ ix, i < ps.length) ∧ (ix.map (at2 ps)).Perm ps ∧ (ix.map (at2 ps)).Pairwise (fun p q => lx q p = false)
theorem Srt.len {vs : List Value} {ps : List (Int × Int)} {out : List Value} (h : Srt vs ps out) : out.length = ps.length := by
  obtain ⟨ix, rfl, e, _⟩ := h
  simp [e]
end

/-! ### the layer's rule -/
/-- a list's items are pairs of ints -/
inductive PrV (H : Hp) : List V → List (Int × Int) → Prop where
  | nil : PrV H [] []
  | cons {a : Addr} {xs : List V} {p : Int × Int} {ps : List (Int × Int)} : H a = some (.tup [.int p.1, .int p.2]) → PrV H xs ps → PrV H (.ref a :: xs) (p :: ps)
section
variable {X : Cx} {pins : List (Addr × Obj)} {σ : St} {H H' : Hp} {s : Shared}
theorem PrV.len {xs : List V} {ps : List (Int × Int)} (h : PrV H xs ps) : xs.length = ps.length := by
  induction h with
  | nil => rfl
  | cons _ _ ih => simp [ih]
theorem PrV.keep {xs : List V} {ps : List (Int × Int)} (k : ∀ a p q, H a = some (.tup [.int p, .int q]) → H' a = some (.tup [.int p, .int q])) (h : PrV H xs ps) : PrV H' xs ps := by
  induction h with
  | nil => exact .nil
  | cons e _ ih => exact .cons (k _ _ _ e) ih
theorem PrV.app {xs ys : List V} {ps qs : List (Int × Int)} (h : PrV H xs ps) (h' : PrV H ys qs) : PrV H (xs ++ ys) (ps ++ qs) := by
  induction h with
  | nil => exact h'
  | cons e _ ih => exact .cons e ih
theorem PrV.prs (I : Inv X pins σ H s) : ∀ {xs : List V} {ps : List (Int × Int)} {us : List Value}, PrV H xs ps → Vals xs us → Prs s.heap us ps := by
  intro xs ps us h
  induction h generalizing us with
  | nil => intro r; cases r; exact trivial
  | @cons a xs p ps e _ ih =>
    intro r
    cases r with
    | cons r rr =>
      cases (show _ = Value.ref a from r)
      obtain ⟨_, its, vi, o, ho, hc, n, hd⟩ := (show ObjOk X.prog X.w H s.heap a (.tup [.int p.1, .int p.2]) from I.hok a _ e)
      obtain ⟨u, v, rfl, ⟨t, rfl⟩, ⟨t', rfl⟩⟩ := Vals.two vi
      exact ⟨⟨a, o, t, t', n, rfl, ho, hc, hd⟩, ih rr⟩
theorem vals_get {xs : List V} {us : List Value} (r : Vals xs us) : ∀ i x, xs[i]? = some x → RelV x (us.getD i Value.none) := by
  induction r with
  | nil => intro i x h; simp at h
  | cons e _ ih =>
    intro i x h
    cases i with
    | zero => have h' := Option.some.inj (by simpa using h); subst h'; exact e
    | succ i => exact ih i x (by simpa using h)
/-- in rising order, first by the first -/
def Rise (ps : List (Int × Int)) : Prop := ps.Pairwise fun p q => lx q p = false
end
end L2
set_option linter.all false
/-! Stretches of days as pairs of ints: spread and less. -/
namespace Days
abbrev Sp2 := Int × Int
def Has (l : List Sp2) (d : Int) : Prop := ∃ p ∈ l, p.1 ≤ d ∧ d ≤ p.2
structure Canon (l : List Sp2) : Prop where
  val : ∀ p ∈ l, p.1 ≤ p.2
  gap : l.Pairwise fun p q => p.2 + 1 < q.1
/-! spread: over a list in rising order of the first days; r is the list so far -/
def join (r : List Sp2) (s : Sp2) : List Sp2 :=
  match r.getLast? with
  | some p => if s.1 ≤ p.2 + 1 then r.dropLast ++ [(p.1, max p.2 s.2)] else r ++ [s]
  | none => [s]
def joinAll (r : List Sp2) (l : List Sp2) : List Sp2 := l.foldl join r
/-! less -/
def bite (g s : Sp2) : List Sp2 := (if s.1 < g.1 then [(s.1, min s.2 (g.1 - 1))] else []) ++ if g.2 < s.2 then [(max s.1 (g.2 + 1), s.2)] else []
def drops (r : List Sp2) (g : Sp2) : List Sp2 := r.flatMap (bite g)
end Days
set_option Elab.async false
set_option linter.all false
set_option maxRecDepth 100000
/-! Pairs of ints as data. -/
namespace L2
open PySem PySem.Spec PyProof.Rows Days
def dP (p : Sp2) : PyData := .tuple [.int p.1, .int p.2]
/-! ### has -/
def hasB (ps : List Sp2) (d : Int) : Bool := ps.any fun p => decide (p.1 ≤ d) && decide (d ≤ p.2)
/-- a test of pairs, read off the datum -/
def onP (f : Sp2 → Bool) : PyData → Bool
  | .tuple [.int a, .int b] => f (a, b)
  | _ => false
end L2
set_option Elab.async false
set_option linter.all false
set_option maxRecDepth 100000
/-! The data layer: still more rules. -/
namespace L2
open PySem PySem.Spec PyProof.Rows
section
variable {X : Cx} {α : Ev} {e a b c tg : Expr} {pos p : Pos} {Q : PyData → Prop} {E : AEnds} {sts : List Stmt}
/-- a op b op' c, known ints, as a test -/
theorem et_chainP {op op' : CmpOp} {g g' : Int → Int → Bool} {i j k : Int} {Q : Bool → Prop} (ho : OpR X (compareOp op) (rI0 fun i j => .bl (g i j))) (ho' : OpR X (compareOp op') (rI0 fun i j => .bl (g' i j))) (hm : lastMarks [op, op'] [b, c] = false)
    (ha : ∀ Q : PyData → Prop, Q (.int i) → EvD X α a Q) (hb : ∀ Q : PyData → Prop, Q (.int j) → EvD X α b Q) (hc : ∀ Q : PyData → Prop, Q (.int k) → EvD X α c Q) (h : Q (g i j && g' j k)) : EvT X α (.Compare a [op, op'] [b, c] pos) Q := fun F σ H R m kk => by
  refine ⟨_, pt_chain ho ho' pe_eAny pe_eAny pe_eAny hm, ?_⟩
  refine ha (fun d => d = .int i) rfl F σ H _ m fun x vx H1 q1 t1 k1 r1 => ?_
  have m1 := m.kz k1 t1
  refine hb (fun d => d = .int j) rfl F σ H1 _ m1 fun y vy H2 q2 t2 k2 r2 => ?_
  subst q1 q2
  cases r1.int_inv; cases r2.int_inv
  have m2 := m1.kz k2 t2
  refine ⟨i, j, rfl, rfl, _, rfl, ?_⟩
  cases hg : g i j with
  | true =>
    refine iteT ?_
    refine hc (fun d => d = .int k) rfl F σ H2 _ m2 fun z vz H3 q3 t3 k3 r3 => ?_
    subst q3
    cases r3.int_inv
    rw [hg, Bool.true_and] at h
    exact ⟨j, k, rfl, rfl, _, rfl, kk _ H3 h t3 ((k1.trans k2).trans k3)⟩
  | false =>
    rw [hg, Bool.false_and] at h
    exact iteF ⟨_, rfl, kk _ H2 h t2 (k1.trans k2)⟩
end
theorem filt_all (ds : List PyData) : ds.filter (fun _ => true) = ds := List.filter_eq_self.mpr fun _ _ => rfl
end L2
namespace L2
open PySem PySem.Spec PyProof.Rows
section
variable {X : Cx} {α : Ev} {tg : Expr} {pos p : Pos} {E : AEnds} {sts body : List Stmt}
/-- for .. in x, x a list of one's own, which the body lets be -/
def LoopO (X : Cx) (pat : Pat) (body rest : List Stmt) (E : AEnds) (i : Nat) (own : List PyData) (l : Addr) : List PyData → Ev → Prop
  | [], α => α[i]? = some (some (.at l)) ∧ SvS X (α.set i (some (.own own))) rest E
  | d :: ds, α => ∃ α1, pat.bind d α = some α1 ∧ SvS X α1 body { nx := LoopO X pat body rest E i own l ds, ct := LoopO X pat body rest E i own l ds, bk := fun _ => False, rt := E.rt }
end
end L2
set_option Elab.async false
set_option linter.all false
set_option maxRecDepth 100000
/-! Rules: what a rule is, of data; instances of the rules' classes. -/
namespace L2
open PySem PySem.Spec PyProof.Rows

def isNone : PyData → Bool
  | .none => true
  | _ => false
theorem DV.non_iff {H : Hp} {x : V} {d : PyData} (h : DV H x d) : decide (x = .non) = isNone d := by
  cases h <;> simp [isNone]
abbrev eqS (d : PyData) (s : Str) : Bool := PyData.eqv d (.str s)
abbrev coinsD : PyData → Bool := withinD 0 1000000000000
def dealD : PyData → Bool
  | .tuple [.int m, f] => withinD 2 14 (.int m) && withinD 1 (m - 1) f
  | _ => false
def worthD (w v : PyData) : Bool :=
  if eqS w "price" = true then isNone v || coinsD v
  else if (eqS w "come" || eqS w "go") = true then isBool v
  else if (eqS w "least" || eqS w "most") = true then withinD 1 14 v
  else if eqS w "deal" = true then isNone v || dealD v
  else eqS w "fee" && coinsD v
def ruleD : PyData → Bool
  | .tuple [w, a, b, v] => stretchD (.tuple [a, b]) && worthD w v
  | _ => false
abbrev words : List Str := ["price", "come", "go", "least", "most", "deal", "fee"]
theorem shaped_str {x : Str} (h : (PyData.str x).canLay0 = true) : SeqAt.shaped (.str x) = true := by
  unfold SeqAt.shaped
  rw [h]
  rfl
def spWorth : Sp := fun vs H Q _ => ∃ x y dw dv, vs = [x, y] ∧ DV H x dw ∧ SeqAt.shaped dw = true ∧ DV H y dv ∧ Q (.bl (worthD dw dv)) H
def spRule : Sp := fun vs H Q _ => ∃ x d, vs = [x] ∧ DV H x d ∧ SeqAt.shaped d = true ∧ ∀ H', Same H H' → Q (.bl (ruleD d)) H'
theorem shaped_items {ds : List PyData} (h : SeqAt.shaped (.tuple ds) = true) : ∀ d ∈ ds, SeqAt.shaped d = true := by
  unfold SeqAt.shaped at h
  rw [Bool.and_eq_true, decide_eq_true_eq] at h
  obtain ⟨h1, h2⟩ := h
  simp only [PyData.canLay0] at h1
  simp only [PyData.depth] at h2
  have key : ∀ (ds : List PyData), PyData.canLayAll0 ds = true → PyData.depthAll ds + 1 ≤ 64 → ∀ d ∈ ds, SeqAt.shaped d = true := by
    intro ds
    induction ds with
    | nil => intro _ _ d hd; simp at hd
    | cons e r ih =>
      intro a b d hd
      simp only [PyData.canLayAll0, Bool.and_eq_true] at a
      simp only [PyData.depthAll] at b
      rcases List.mem_cons.mp hd with z | z
      · subst z
        unfold SeqAt.shaped
        rw [a.1, Bool.true_and, decide_eq_true_eq]
        omega
      · exact ih a.2 (by omega) d z
  exact key ds h1 (by omega)

/-! ### instances -/
def flds (x y z : V) : List (Str × V) := putF "worth" z (putF "last" y (putF "first" x []))
theorem ne_wl : ¬ (("worth" : Str) = "last") := by decide +kernel
theorem ne_wf : ¬ (("worth" : Str) = "first") := by decide +kernel
theorem ne_lf : ¬ (("last" : Str) = "first") := by decide +kernel
theorem flds_first (x y z : V) : (flds x y z).lookup ("first" : Str) = some x := by
  unfold flds
  rw [lookup_putF, if_neg (fun e => ne_wf e.symm), lookup_putF, if_neg (fun e => ne_lf e.symm), lookup_putF, if_pos rfl]
theorem flds_last (x y z : V) : (flds x y z).lookup ("last" : Str) = some y := by
  unfold flds
  rw [lookup_putF, if_neg (fun e => ne_wl e.symm), lookup_putF, if_pos rfl]
theorem flds_worth (x y z : V) : (flds x y z).lookup ("worth" : Str) = some z := by
  unfold flds
  rw [lookup_putF, if_pos rfl]
theorem flds_no (x y z : V) {m : Str} (h1 : ¬ m = "worth") (h2 : ¬ m = "last") (h3 : ¬ m = "first") : (flds x y z).lookup m = none := by
  unfold flds
  rw [lookup_putF, if_neg h1, lookup_putF, if_neg h2, lookup_putF, if_neg h3]
  rfl
/-- the classes of the seven words -/
structure Cs where
  price : Addr
  come : Addr
  go : Addr
  least : Addr
  most : Addr
  deal : Addr
  fee : Addr
def Cs.of (c : Cs) (w : Str) : Addr :=
  if w = "price" then c.price else if w = "come" then c.come else if w = "go" then c.go else if w = "least" then c.least else if w = "most" then c.most else if w = "deal" then c.deal else c.fee
/-- what one class brings: made by Rule's __init__, its methods -/
structure ClsR (K : PySem.W.Frag) (C fI fT fE fW : Addr) : Prop where
  cl : Cls K C
  nf : NoAttr K C "first"
  nl : NoAttr K C "last"
  nw : NoAttr K C "worth"
  makes : Mk K C fI
  told : Meth K C "told" fT
  tells : Meth K C "tells" fE
  word : Meth K C "word" fW
def spInit (C : Addr) : Sp := fun vs H Q _ => ∃ (p dx : Addr) (x y z : V), vs = [.ref p, x, y, z] ∧ H p = some (.ins C dx []) ∧ Q .non (upd H p (.ins C dx (flds x y z)))
def spWord (w : Str) : Sp := fun vs H Q _ => ∃ p, vs = [.ref p] ∧ Q (.str w) H
def spTold (C : Addr) (w : Str) : Sp := fun vs H Q _ => ∃ (p dx : Addr) (x y z : V), vs = [.ref p] ∧ H p = some (.ins C dx (flds x y z)) ∧ ∀ q, H q = none → Q (.ref q) (upd H q (.tup [.str w, x, y, z]))
def spTells (C : Addr) : Sp := fun vs H Q _ => ∃ (p dx : Addr) (a b day : Int) (z : V), vs = [.ref p, .int day] ∧ H p = some (.ins C dx (flds (.int a) (.int b) z)) ∧ Q (.bl (decide (a ≤ day) && decide (day ≤ b))) H
def spMade (cs : Cs) : Sp := fun vs H Q _ => ∃ (w : Str) (x y z : V), vs = [.str w, x, y, z] ∧ w ∈ words ∧ ∀ (p dx : Addr) (H' : Hp), H' p = some (.ins (cs.of w) dx (flds x y z)) → H p = none → Same H H' → Q (.ref p) H'
/-- None, or an instance of the word's class with the rule's parts -/
def spRuleOf (cs : Cs) : Sp := fun vs H Q _ => ∃ x d, vs = [x] ∧ DV H x d ∧ SeqAt.shaped d = true ∧ (ruleD d = false → ∀ H', Same H H' → Q .non H') ∧
  (∀ (r : Addr) (w : Str) (x1 x2 x3 : V) (p dx : Addr) (H' : Hp), x = .ref r → ruleD d = true → w ∈ words → H r = some (.tup [.str w, x1, x2, x3]) → H' p = some (.ins (cs.of w) dx (flds x1 x2 x3)) → H p = none → Same H H' → Q (.ref p) H')
theorem eqS_str {d : PyData} {s : Str} (h : eqS d s = true) : d = .str s := by
  cases d with
  | str x =>
    have h' : (x == s) = true := h
    rw [eq_of_beq h']
  | _ => simp [PyData.eqv] at h
theorem worthD_word {w v : PyData} (h : worthD w v = true) : ∃ s ∈ words, w = .str s := by
  unfold worthD at h
  split at h
  · rename_i e; exact ⟨"price", by simp [words], eqS_str e⟩
  · split at h
    · rename_i e
      rcases (Bool.or_eq_true _ _).mp e with e | e
      · exact ⟨"come", by simp [words], eqS_str e⟩
      · exact ⟨"go", by simp [words], eqS_str e⟩
    · split at h
      · rename_i e
        rcases (Bool.or_eq_true _ _).mp e with e | e
        · exact ⟨"least", by simp [words], eqS_str e⟩
        · exact ⟨"most", by simp [words], eqS_str e⟩
      · split at h
        · rename_i e; exact ⟨"deal", by simp [words], eqS_str e⟩
        · rw [Bool.and_eq_true] at h; exact ⟨"fee", by simp [words], eqS_str h.1⟩
theorem ruleD_parts {d : PyData} (h : ruleD d = true) : ∃ (s : Str) (a b v : PyData), s ∈ words ∧ d = .tuple [.str s, a, b, v] := by
  unfold ruleD at h
  split at h
  · rename_i w a b v
    rw [Bool.and_eq_true] at h
    obtain ⟨s, hs, rfl⟩ := worthD_word h.2
    exact ⟨s, a, b, v, hs, rfl⟩
  · cases h

section
variable {X : Cx}
end
end L2
set_option Elab.async false
set_option linter.all false
set_option maxRecDepth 100000
/-! The data layer: instances. -/
namespace L2
open PySem PySem.Spec PyProof.Rows
/-- an instance as a datum -/
abbrev insD (C : Addr) (fs : List (PyData × PyData)) : PyData := .dict ((.int (C : Nat), .none) :: fs)
def fldD : List (PyData × PyData) → Str → Option PyData
  | [], _ => none
  | (.str g, d) :: r, f => if f = g then some d else fldD r f
  | _ :: r, f => fldD r f
theorem AVf.get {H : Hp} : ∀ {fs : List (Str × V)} {ds : List (PyData × PyData)} {f : Str} {d : PyData}, AVf H fs ds → fldD ds f = some d → ∃ v, fs.lookup f = some v ∧ AV H v d
  | _, _, f, d, .nil, e => by cases e
  | _, _, f, d, .cons (f := g) h r, e => by
    rw [List.lookup_cons]
    unfold fldD at e
    by_cases z : f = g
    · subst z
      rw [if_pos rfl] at e
      cases e
      exact ⟨_, by simp, h⟩
    · rw [if_neg z] at e
      have z' : (f == g) = false := by simpa using z
      rw [z']
      exact AVf.get r e
theorem AVf.none {H : Hp} : ∀ {fs : List (Str × V)} {ds : List (PyData × PyData)} {f : Str}, AVf H fs ds → fldD ds f = Option.none → fs.lookup f = Option.none
  | _, _, f, .nil, e => rfl
  | _, _, f, .cons (f := g) h r, e => by
    rw [List.lookup_cons]
    unfold fldD at e
    by_cases z : f = g
    · subst z
      rw [if_pos rfl] at e
      cases e
    · rw [if_neg z] at e
      have z' : (f == g) = false := by simpa using z
      rw [z']
      exact AVf.none r e
theorem AV.ins_inv {H : Hp} {v : V} {C : Addr} {ds : List (PyData × PyData)} (h : AV H v (insD C ds)) : ∃ a dx fs, v = .ref a ∧ H a = some (.ins C dx fs) ∧ AVf H fs ds := by
  generalize e : insD C ds = d at h
  cases h with
  | @ins a C' dx fs ds' h1 h2 =>
    injection e with e
    injection e with e1 e2
    have e3 : (C : Int) = (C' : Int) := by
      have := congrArg Prod.fst e1
      injection this
    have e4 : C = C' := Int.ofNat.inj e3
    subst e4 e2
    exact ⟨a, dx, fs, rfl, h1, h2⟩
  | _ => cases e
section
variable {X : Cx} {α : Ev} {o e : Expr} {es : List Expr} {pos apos p : Pos} {Q : PyData → Prop} {C : Addr} {f m : Str}
theorem ev_fld (c : Cls X.K C) (na : NoAttr X.K C f) (h : EvD X α o fun x => ∃ fs d, x = insD C fs ∧ fldD fs f = some d ∧ Q d) (hb : attributeBase o f X.env (eval o X.env) = eval o X.env := by rfl) : EvD X α (.Attribute o f pos) Q := fun F σ H R m k => by
  refine ⟨_, pe_fld pe_eAny hb, ?_⟩
  refine h F σ H _ m fun x vx H1 q1 t1 k1 r1 => ?_
  obtain ⟨fs, d, rfl, hf, q⟩ := q1
  obtain ⟨a, dx, gs, rfl, h1, h2⟩ := r1.ins_inv
  obtain ⟨v, hv, av⟩ := h2.get hf
  exact ⟨a, C, dx, gs, v, rfl, (sub_some h1).2, c, na, hv, k d v H1 q t1 k1 av⟩
/-- the method m of C can be called, and keeps φ -/
structure CalM (P : Program) (w : World) (K : PySem.W.Frag) (mg : Str → Option Value) (base : Heap) (C : Addr) (m : Str) (k : Nat) (φ : List A → (A → Prop) → Prop) : Prop where
  ex : ∃ f fd ps, Cls K C ∧ Meth K C m f ∧ Binds K fd ps [] ∧ FnOk P w K mg base CX0 k f fd ps (spA φ)
theorem ev_meth {k : Nat} {φ : List A → (A → Prop) → Prop} {pl : Sem Bool} (M' : CalM X.prog X.w X.K X.mg X.base C m k φ) (hr : Room k X.A) (h : EvD X α o fun x => ∃ fs, x = insD C fs ∧ fldD fs m = none ∧ EvA X α (e :: es) fun as => φ (.dat (insD C fs) :: as) fun a => Q a.d)
    (hst : starEach (e :: es) X.env = (false, eval e X.env) :: starEach es X.env := by rfl) (hpl : (backTo pos (starEach es X.env)).any (·.1) = false := by rfl)
    (ht : eval (.Call (.Attribute o m apos) (e :: es) [] pos) X.env = (do
      let ov ← eval o X.env
      standAt apos.atName
      let (f, first) ← holding [ov] (getMethod ov m pl)
      callWith pos f first (backTo pos (starEach (e :: es) X.env)) (backToKw pos (keywordEach [] X.env))) := by rfl) : EvD X α (.Call (.Attribute o m apos) (e :: es) [] pos) Q := fun F σ H R m' kk => by
  obtain ⟨f, fd, ps, c, hm, hb, G⟩ := M'.ex
  refine ⟨_, pe_meth pe_eAny c hm G hr hb .nil pass0 pa_aAny hst hpl ht, ?_⟩
  refine h F σ H _ m' fun x vx H1 q1 t1 k1 r1 => ?_
  obtain ⟨fs, rfl, hf, q⟩ := q1
  have m1 := m'.kz k1 t1
  obtain ⟨a, dx, gs, rfl, h1, h2⟩ := r1.ins_inv
  refine ⟨a, dx, gs, rfl, (sub_some h1).2, h2.none hf, ?_⟩
  refine q F σ H1 _ m1 fun as vs H2 q2 t2 k2 r2 => ?_
  have m2 := m1.kz k2 t2
  have cf := call_frame (vs := .ref a :: vs) (as := .dat (insD C fs) :: as) (R := R) (E := E0) m2 (.cons (r1.same (k2.gz m1.tp)) r2) q2 fun z v H' qa ra => by
    obtain ⟨g1, g2, g3⟩ := ra.back m2
    exact kk _ v H' qa g1 ((k1.trans k2).trans g2) g3
  exact cf
theorem ev_meth0 {k : Nat} {φ : List A → (A → Prop) → Prop} {pl : Sem Bool} (M' : CalM X.prog X.w X.K X.mg X.base C m k φ) (hr : Room k X.A) (h : EvD X α o fun x => ∃ fs, x = insD C fs ∧ fldD fs m = none ∧ φ [.dat (insD C fs)] fun a => Q a.d)
    (ht : eval (.Call (.Attribute o m apos) [] [] pos) X.env = (do
      let ov ← eval o X.env
      standAt apos.atName
      let (f, first) ← holding [ov] (getMethod ov m pl)
      callWith pos f first (backTo pos (starEach [] X.env)) (backToKw pos (keywordEach [] X.env))) := by rfl) : EvD X α (.Call (.Attribute o m apos) [] [] pos) Q := fun F σ H R m' kk => by
  obtain ⟨f, fd, ps, c, hm, hb, G⟩ := M'.ex
  refine ⟨_, pe_meth0 pe_eAny c hm G hr hb .nil pass0 ht, ?_⟩
  refine h F σ H _ m' fun x vx H1 q1 t1 k1 r1 => ?_
  obtain ⟨fs, rfl, hf, q⟩ := q1
  have m1 := m'.kz k1 t1
  obtain ⟨a, dx, gs, rfl, h1, h2⟩ := r1.ins_inv
  refine ⟨a, dx, gs, rfl, (sub_some h1).2, h2.none hf, ?_⟩
  have cf := call_frame (vs := [.ref a]) (as := [.dat (insD C fs)]) (R := R) (E := E0) m1 (.cons r1 .nil) q fun z v H' qa ra => by
    obtain ⟨g1, g2, g3⟩ := ra.back m1
    exact kk _ v H' qa g1 (k1.trans g2) g3
  exact cf
/-- .. that gives a new list -/
theorem el_meth0 {k : Nat} {φ : List A → (A → Prop) → Prop} {pl : Sem Bool} {Q : List PyData → Prop} (M' : CalM X.prog X.w X.K X.mg X.base C m k φ) (hr : Room k X.A) (h : EvD X α o fun x => ∃ fs, x = insD C fs ∧ fldD fs m = none ∧ φ [.dat (insD C fs)] fun a => ∃ ds, a = .own ds ∧ Q ds)
    (ht : eval (.Call (.Attribute o m apos) [] [] pos) X.env = (do
      let ov ← eval o X.env
      standAt apos.atName
      let (f, first) ← holding [ov] (getMethod ov m pl)
      callWith pos f first (backTo pos (starEach [] X.env)) (backToKw pos (keywordEach [] X.env))) := by rfl) : EvL X α (.Call (.Attribute o m apos) [] [] pos) Q := fun F σ H R m' kk => by
  obtain ⟨f, fd, ps, c, hm, hb, G⟩ := M'.ex
  refine ⟨_, pe_meth0 pe_eAny c hm G hr hb .nil pass0 ht, ?_⟩
  refine h F σ H _ m' fun x vx H1 q1 t1 k1 r1 => ?_
  obtain ⟨fs, rfl, hf, q⟩ := q1
  have m1 := m'.kz k1 t1
  obtain ⟨a, dx, gs, rfl, h1, h2⟩ := r1.ins_inv
  refine ⟨a, dx, gs, rfl, (sub_some h1).2, h2.none hf, ?_⟩
  have cf := call_frame (vs := [.ref a]) (as := [.dat (insD C fs)]) (R := R) (E := E0) m1 (.cons r1 .nil) q fun z v H' qa ra => by
    obtain ⟨ds, rfl, q⟩ := qa
    obtain ⟨g1, g2, _⟩ := ra.back m1
    obtain ⟨_, _, l, xs, rfl, h1, h2, h3, h4⟩ := ra
    exact kk ds _ H' q g1 (k1.trans g2) (FreshL.back m' k1 t1 ⟨l, xs, rfl, h1, h3, h4⟩)
  exact cf
/-! ### making -/
/-- all lists in it are new -/
def RetN (F : Fr) (v : V) (H' : Hp) (d : PyData) : Prop := TpOk F H' ∧ Kz F F.H0 H' ∧ AV (sub (fun x => ¬ F.O0 x ∧ ∀ xs, F.H0 x ≠ some (.lst xs)) H') v d
def EvN (X : Cx) (α : Ev) (e : Expr) (Q : PyData → Prop) : Prop := ∀ (F : Fr) (σ : St) (H : Hp) (R : VK), M F α σ H → (∀ d v H', Q d → TpOk F H' → Kz F H H' → AV (sub (fun x => ¬ Ow F α σ x ∧ ∀ xs, H x ≠ some (.lst xs)) H') v d → R v H') → eAny X e σ H R
theorem EvN.d (h : EvN X α e Q) : EvD X α e Q := fun F σ H R m k => h F σ H R m fun d v H' q t z r => k d v H' q t z (r.same (same_sub fun a o h e => ⟨h.1, e⟩))
/-- the promise of an __init__ in terms of data: the new instance is what φ tells -/
def spI (C : Addr) (φ : List A → (A → Prop) → Prop) : Sp := fun vs H Qc _ => ∃ (F : Fr) (as : List A) (Q : A → Prop) (x dx : Addr) (vs' : List V) (H1 : Hp), vs = .ref x :: vs' ∧ H1 x = none ∧ H1 dx = none ∧ dx ≠ x ∧ H = upd (upd H1 dx (.own x)) x (.ins C dx []) ∧
  F.H0 = H1 ∧ TpOk F H1 ∧ (∀ y, F.O0 y → ∃ u, H1 y = some u ∧ NoTup u) ∧ ArgsV F (sub (fun y => ¬ F.O0 y) H1) vs' as ∧ φ as Q ∧ ∀ d H', Q (.dat d) → RetN F (.ref x) H' d → Qc .non H'
structure CalK (P : Program) (w : World) (K : PySem.W.Frag) (mg : Str → Option Value) (base : Heap) (x : Str) (k : Nat) (dvs : List V) (φ : List A → (A → Prop) → Prop) : Prop where
  ex : ∃ C f fd ps ds, mg x = some (.ref C) ∧ Mk K C f ∧ Binds K fd ps ds ∧ Vals dvs ds ∧ FnOk P w K mg base CX0 k f fd ps (spI C φ)
theorem make_frame {F : Fr} {σ : St} {H : Hp} {vs : List V} {as : List A} {QA : A → Prop} {R : VK} {φ : List A → (A → Prop) → Prop} (m : M F α σ H) (rv : ArgsV F (Gz F α σ H) vs as) (hφ : φ as QA)
    (kk : ∀ d v H', QA (.dat d) → RetN ⟨H, Ow F α σ, F.tp⟩ v H' d → R v H') {E : XK} (x dx : Addr) (hx : H x = none) (hdx : H dx = none) (hne : dx ≠ x) : spI C φ (.ref x :: vs) (upd (upd H dx (.own x)) x (.ins C dx [])) (fun v H2 => v = .non ∧ R (.ref x) H2) E := by
  refine ⟨⟨H, Ow F α σ, F.tp⟩, as, QA, x, dx, vs, H, rfl, hx, hdx, hne, rfl, rfl, ?_, ?_, ?_, hφ, fun d H' qa ra => ⟨rfl, kk d _ H' qa ra⟩⟩
  · refine ⟨m.tp.has, ?_⟩
    intro t b c e
    obtain ⟨h1, h2, h3, h4⟩ := m.tp t b c e
    exact ⟨h1, .inl h2, .inl h3, .inl h4.1, .inl h4.2⟩
  · rintro y (z | ⟨i, ds, e1, e2⟩)
    · exact m.oex y z
    · obtain ⟨l, xs, h1, h2, _⟩ := m.own i ds e1
      rw [e2] at h1; cases h1
      exact ⟨_, h2, notup_lst⟩
  · have tr : ∀ {vs : List V} {as : List A}, ArgsV F (Gz F α σ H) vs as → ArgsV ⟨H, Ow F α σ, F.tp⟩ (sub (fun x => ¬ Ow F α σ x) H) vs as := fun h => by
      induction h with
      | nil => exact .nil
      | @cons v vs a as h r ih =>
        refine .cons ?_ ih
        cases a with
        | dat d => exact h
        | own _ => exact h
        | tape => exact h
        | «at» _ => exact h
    exact tr rv
theorem RetN.back {F : Fr} {σ : St} {H H1 H' : Hp} {v : V} {d : PyData} (m : M F α σ H) (k1 : Kz F H H1) (h : RetN ⟨H1, Ow F α σ, F.tp⟩ v H' d) : TpOk F H' ∧ Kz F H1 H' ∧ AV (sub (fun x => ¬ Ow F α σ x ∧ ∀ xs, H x ≠ some (.lst xs)) H') v d := by
  obtain ⟨t, kz, r⟩ := h
  refine ⟨⟨m.tp.has, fun t' b c e => ⟨(t t' b c e).1, (m.tp t' b c e).2⟩⟩, kz, r.same (same_sub fun a o h e => ⟨⟨h.1, fun xs z => h.2 xs (k1 _ _ z (m.tp.nt (ow0 h.1)))⟩, e⟩)⟩
theorem en_make {k : Nat} {φ : List A → (A → Prop) → Prop} {x : Str} (M' : CalK X.prog X.w X.K X.mg X.base x k [] φ) (hr : Room (k + 1) X.A) (hg : Gl X x) (h : EvA X α (e :: es) fun as => φ as fun a => Q a.d)
    (hdb : (x == ("__debug__" : Str)) = false := by decide) (he : starEach (e :: es) X.env = (false, eval e X.env) :: starEach es X.env := by rfl) (hpl : (backTo pos (starEach es X.env)).any (·.1) = false := by rfl) : EvN X α (.Call (.Name x p) (e :: es) [] pos) Q := fun F σ H R m kk => by
  obtain ⟨C, f, fd, ps, ds, hm, hk, hb, hd, G⟩ := M'.ex
  cases hd
  refine ⟨_, pe_make hk G hr hg hm hb .nil pass0 pa_aAny hdb he hpl, ?_⟩
  refine h F σ H _ m fun as vs H1 q1 t1 k1 r1 => ?_
  have m1 := m.kz k1 t1
  intro y dx hy hdx hne
  rw [List.append_nil]
  refine make_frame m1 r1 q1 (fun d v H' qa ra => ?_) y dx hy hdx hne
  obtain ⟨g1, g2, g3⟩ := ra.back m k1
  exact kk d v H' qa g1 (k1.trans g2) g3
end
/-- a def that may have defaults -/
structure FunV (K : PySem.W.Frag) (x qual : Str) (st : Stmt) (dV : Value) (f : Addr) (fd : FuncData) : Prop where
  ex : ∃ (oc : Value) (od : Option Addr) (kV doc pm : Value) (an : Option Addr) (cdv ct : Value) (osl : Array (Option Value)),
    fd = PySem.W.fnOf x qual (defArgs st) (defBody st) (defScope st) dV kV doc pm an cdv ct ∧ K.lookup f = some ⟨oc, od, .func fd, osl⟩ ∧ PySem.W.codeIn K cdv qual = true
  kp : PySem.W.keepIn K (.ref f) = true
theorem funV_mk {K : PySem.W.Frag} {x qual : Str} {st : Stmt} {f : Addr} {oc : Value} {od an : Option Addr} {osl : Array (Option Value)} {dV kV doc pm cdv ct : Value} (l : K.lookup f = some ⟨oc, od, .func (PySem.W.fnOf x qual (defArgs st) (defBody st) (defScope st) dV kV doc pm an cdv ct), osl⟩)
    (c : PySem.W.codeIn K cdv qual = true) (k : PySem.W.keepIn K (.ref f) = true) : FunV K x qual st dV f (PySem.W.fnOf x qual (defArgs st) (defBody st) (defScope st) dV kV doc pm an cdv ct) := ⟨⟨oc, od, kV, doc, pm, an, cdv, ct, osl, rfl, l, c⟩, k⟩
section
variable {P : Program} {w : World} {K : PySem.W.Frag} {mg : Str → Option Value} {base : Heap}
/-- an __init__ whose body is self.f = e -/
theorem initA {qual : Str} {st : Stmt} {f C : Addr} {dV : Value} {fd : FuncData} {N : List Str} {x : Str} {k : Nat} {φ : List A → (A → Prop) → Prop} {fl : Str} {e : Expr} {p1 p2 p3 : Pos} (G : FunV K "__init__" qual st dV f fd) (S : FnScope ("self" :: x :: N) ["self", x] (defScope st)) (c : Cls K C) (na : NoAttr K C fl)
    (hb : defBody st = [.Assign [.Attribute (.Name "self" p1) fl p2] e p3]) (hlen : ∀ as Q, φ as Q → as.length = 1)
    (hbody : ∀ (cdv : Value) (A' : Around) (outer : List Env) (s : Shared) (H : Hp) (E : XK) (as : List A) (Q : A → Prop), Room k (A'.deeper (envOfC qual (defScope st) s.heap.objs.size f cdv)) → φ as Q →
      EvL (cxOf CX0 P w K mg base ("self" :: x :: N) qual (defScope st) f cdv A' outer s H E).nox (none :: as.map some ++ List.replicate N.length none) e fun ds => noLs ds = true ∧ Q (.dat (insD C [(.str fl, .list ds)])))
    (hsw : ∀ (cdv : Value) (A' : Around) (outer : List Env) (s : Shared) (H : Hp) (E : XK), swapsWith e (some (.Attribute (.Name "self" p1) fl p2)) p3.line (cxOf CX0 P w K mg base ("self" :: x :: N) qual (defScope st) f cdv A' outer s H E).nox.env = pure false)
    (hv : Vis (defScope st) "self") : FnOk P w K mg base CX0 (k + 1) f fd ["self", x] (spI C φ) := by
  obtain ⟨oc, od, kV, doc, pm, an, cdv, ct, osl, rfl, lk, hcd⟩ := G.ex
  refine fn_of lk hcd S (fun vs H Q E h => ?_) fun A' outer s H vs Qc E hr h => ?_
  · obtain ⟨F, as, Q', y, dx, vs', H1, rfl, _, _, _, _, _, _, _, rv, hφ, _⟩ := h
    rw [List.length_cons, rv.length, hlen as _ hφ]
    rfl
  · obtain ⟨F, as, Q', y, dx, vs', H1, rfl, hy, hdx, hne, rfl, rfl, t, o, rv, hφ, kk⟩ := h
    have hl := rv.length
    have hl1 := hlen as _ hφ
    rw [hb]
    refine ⟨_, (show PSs _ _ _ from (pss_one (ps_fld (X := (cxOf CX0 P w K mg base ("self" :: x :: N) qual (defScope st) f cdv A' outer s (upd (upd F.H0 dx (.own y)) y (.ins C dx [])) E).nox) (pe_var (i := 0) rfl hv) pe_eAny (hsw cdv A' outer s _ E))).nox), ?_⟩
    let F2 : Fr := ⟨F.H0, fun z => F.O0 z ∨ z = y ∨ z = dx, F.tp⟩
    have s1 : Same F.H0 (upd (upd F.H0 dx (.own y)) y (.ins C dx [])) := fun a u q => by
      rw [upd_ne (ne_of_none q hy), upd_ne (ne_of_none q hdx)]; exact q
    have noy : ¬ F.O0 y := fun z => by obtain ⟨u, hu, _⟩ := o y z; rw [hy] at hu; cases hu
    have nodx : ¬ F.O0 dx := fun z => by obtain ⟨u, hu, _⟩ := o dx z; rw [hdx] at hu; cases hu
    have t2 : TpOk F2 (upd (upd F.H0 dx (.own y)) y (.ins C dx [])) := ⟨t.has, fun a b c e => ⟨tape_same (t a b c e).1 s1, .inl (t a b c e).2.1, .inl (t a b c e).2.2.1, .inl (t a b c e).2.2.2.1, .inl (t a b c e).2.2.2.2⟩⟩
    -- the names of the body
    have g : ∀ {i : Nat} {a : A}, (none :: as.map some ++ List.replicate N.length none : Ev)[i]? = some (some a) → ∃ j, i = j + 1 ∧ as[j]? = some a := fun {i a} h => by
      cases i with
      | zero => simp at h
      | succ j =>
        refine ⟨j, rfl, ?_⟩
        have h' : (as.map some ++ List.replicate N.length none : Ev)[j]? = some (some a) := by simpa using h
        rcases Nat.lt_or_ge j as.length with z | z
        · rw [List.getElem?_append_left (by rw [List.length_map]; exact z), List.getElem?_map, Option.map_eq_some_iff] at h'
          obtain ⟨b, h1, h2⟩ := h'
          cases h2; exact h1
        · rw [List.getElem?_append_right (by rw [List.length_map]; exact z), List.getElem?_replicate] at h'
          split at h' <;> cases h'
    have at' : ∀ {vs : List V} {as : List A} {i : Nat} {a : A}, ArgsV F (sub (fun x => ¬ F.O0 x) F.H0) vs as → as[i]? = some a → ∃ v, vs[i]? = some v ∧ ArgV F (sub (fun x => ¬ F.O0 x) F.H0) v a := by
      intro vs as i a h
      induction h generalizing i with
      | nil => intro e; simp at e
      | cons h r ih =>
        intro e
        cases i with
        | zero => simp at e; subst e; exact ⟨_, rfl, h⟩
        | succ i => obtain ⟨v, h1, h2⟩ := ih (by simpa using e); exact ⟨v, by simpa using h1, h2⟩
    have gv : ∀ {j : Nat} {v : V}, vs'[j]? = some v → (L2.start ("self" :: x :: N) (.ref y :: vs'))[j + 1]? = some (some v) := fun {j v} h => by
      have hj : j < vs'.length := (List.getElem?_eq_some_iff.mp h).1
      unfold L2.start
      rw [List.getElem?_append_left (by rw [List.length_map, List.length_cons]; omega), List.getElem?_map, List.getElem?_cons_succ, h]; rfl
    have no : ∀ (i : Nat) ds, (none :: as.map some ++ List.replicate N.length none : Ev)[i]? ≠ some (some (.own ds)) := fun i ds z => by
      obtain ⟨j, _, hj⟩ := g z
      obtain ⟨v, _, h⟩ := at' rv hj
      exact h
    have gs : Same (sub (fun x => ¬ F.O0 x) F.H0) (Gz F2 (none :: as.map some ++ List.replicate N.length none) (L2.start ("self" :: x :: N) (.ref y :: vs')) (upd (upd F.H0 dx (.own y)) y (.ins C dx []))) := fun a u q => by
      obtain ⟨z1, z2⟩ := sub_some q
      refine sub_of ?_ (s1 _ _ z2)
      rintro ((z | z | z) | ⟨i, ds, e, _⟩)
      · exact z1 z
      · rw [z, hy] at z2; cases z2
      · rw [z, hdx] at z2; cases z2
      · exact no i ds e
    have m2 : M F2 (none :: as.map some ++ List.replicate N.length none) (L2.start ("self" :: x :: N) (.ref y :: vs')) (upd (upd F.H0 dx (.own y)) y (.ins C dx [])) := by
      refine ⟨by unfold L2.start; simp [hl, hl1], fun i d h => ?_, fun i ds h => absurd h (no i ds), fun i j ds es l h => absurd h (no i ds), fun i h => ?_, fun i l h => ?_, t2, fun z u h _ => s1 z u h, fun z hz => ?_⟩
      · obtain ⟨j, rfl, hj⟩ := g h
        obtain ⟨v, h1, h2⟩ := at' rv hj
        exact ⟨v, gv h1, AV.same gs h2⟩
      · obtain ⟨j, rfl, hj⟩ := g h
        obtain ⟨v, h1, t', b, c, h2, rfl⟩ := at' rv hj
        exact ⟨t', b, c, h2, gv h1⟩
      · obtain ⟨j, rfl, hj⟩ := g h
        obtain ⟨v, _, h⟩ := at' rv hj
        exact h.elim
      · rcases hz with q | q | q
        · obtain ⟨u, hu, hn⟩ := o z q
          exact ⟨u, s1 _ _ hu, hn⟩
        · exact ⟨_, by rw [q]; exact upd_same, fun _ q => by cases q⟩
        · exact ⟨_, by rw [q, upd_ne hne]; exact upd_same, fun _ q => by cases q⟩
    refine hbody cdv A' outer s _ E as Q' hr hφ F2 _ _ _ m2 fun d v H2 qd t3 k3 r3 => ?_
    obtain ⟨l, xs, rfl, hl0, hl2, avl⟩ := r3
    obtain ⟨nol, qd⟩ := qd
    have nly : l ≠ y := fun z => by rw [z, upd_same] at hl0; cases hl0
    have nldx : l ≠ dx := fun z => by rw [z, upd_ne hne, upd_same] at hl0; cases hl0
    have hl00 : F.H0 l = none := by rw [upd_ne nly, upd_ne nldx] at hl0; exact hl0
    have nol0 : ¬ F.O0 l := fun z => by obtain ⟨u, hu, _⟩ := o l z; rw [hl00] at hu; cases hu
    have nty : NT F2 y := fun a b c e => ⟨fun z => noy (by rw [z]; exact (t a b c e).2.1), fun z => noy (by rw [z]; exact (t a b c e).2.2.1), fun z => noy (by rw [z]; exact (t a b c e).2.2.2.2)⟩
    have hy2 : H2 y = some (.ins C dx []) := k3 _ _ upd_same nty
    refine ⟨.ref y, rfl, y, C, dx, [], rfl, hy2, c, na, by show 0 < 1000; decide, ?_⟩
    refine kk _ _ qd ⟨⟨t.has, fun a b c e => ⟨tape_upd (t3 a b c e).1 ⟨(nty a b c e).1, (nty a b c e).2.1, fun z => noy (by rw [z]; exact (t a b c e).2.2.2.1)⟩ (plain_ins hy2), (t a b c e).2⟩⟩, fun z u h n => ?_, ?_⟩
    · rw [upd_ne (ne_of_none h hy)]
      exact k3 _ _ (s1 _ _ h) n
    · refine AV.ins (sub_of ⟨noy, fun xs z => by rw [hy] at z; cases z⟩ upd_same) (.cons (.lst (sub_of ⟨nol0, fun xs z => by rw [hl00] at z; cases z⟩ (by rw [upd_ne nly]; exact hl2)) ?_) .nil)
      refine avl.noL (fun a u hno z => ?_) nol
      obtain ⟨z1, z2⟩ := sub_some z
      have na : a ≠ y := fun w => z1.1 (.inl (.inr (.inl w)))
      refine sub_of ⟨fun w => z1.1 (.inl (.inl w)), fun xs w => ?_⟩ (by rw [upd_ne na]; exact z2)
      have : H2 a = some (.lst xs) := k3 _ _ (s1 _ _ w) (fun t' b' c' e' => by
        have h0 : ¬ F.O0 a := fun w => z1.1 (.inl (.inl w))
        exact ⟨fun q => h0 (by rw [q]; exact (t t' b' c' e').2.1), fun q => h0 (by rw [q]; exact (t t' b' c' e').2.2.1), fun q => h0 (by rw [q]; exact (t t' b' c' e').2.2.2.2)⟩)
      rw [z2] at this
      cases this
      exact hno _ rfl
end
end L2
namespace L2
open PySem PySem.Spec PyProof.Rows
section
variable {X : Cx} {α : Ev} {e e' : Expr} {pos : Pos} {E : AEnds} {sts : List Stmt}
/-- list.insert -/
def insV {α : Type} (l : List α) (x : Int) (y : α) : List α := l.take (if x < 0 then (x + (l.length : Int)).toNat else min x.toNat l.length) ++ y :: l.drop (if x < 0 then (x + (l.length : Int)).toNat else min x.toNat l.length)
def rInsert : V → List V → Hp → VK → Prop := fun x vs H Q => ∃ l xs i y, x = .ref l ∧ vs = [.int i, y] ∧ H l = some (.lst xs) ∧ -(2 ^ 63) ≤ i ∧ i < 2 ^ 63 ∧ xs.length < sizeLine ∧ Q .non (upd H l (.lst (insV xs i y)))
end
end L2
set_option Elab.async false
set_option linter.all false
set_option maxRecDepth 100000
/-! for x in reversed(list). -/
namespace L2
open PySem PySem.Spec PyProof.Rows
/-- the list at a, from its end; it is not written while it is walked -/
def Itv (K : PySem.W.Frag) (a : Addr) (n : Nat) : It :=
  ⟨fun i H => ∃ xs x, SqL K H a xs ∧ xs.length = n ∧ i < n ∧ xs[n - 1 - i]? = some x, fun i H x H' => H' = H ∧ ∀ xs, SqL K H a xs → xs[n - 1 - i]? = some x, fun i H => n ≤ i⟩
theorem turn_rev {P : Program} {w : World} {K : PySem.W.Frag} {tg : Expr} (a it : Addr) (n : Nat) : Turn P w K tg (Itv K a n) [it] it (fun i h => i ≤ n ∧ h.IsRevIter it a ((n : Int) - 1 - (i : Int))) where
  mem := by simp
  obj := fun i h st b hb => by
    have e : b = it := by simpa using hb
    subst e
    obtain ⟨_, o, e, c, d⟩ := st
    exact ⟨o, e, fun v z => by rw [d] at z; cases z⟩
  keep := fun i h h' st k => ⟨st.1, st.2.at fun o e => k it (by simp) o e⟩
  item := by
    intro X hP hw hK hc i pins s σ H E I hf st hg
    subst hP hw hK
    obtain ⟨xs, x, hq, hl, hi, hx⟩ := hg
    obtain ⟨its, rv, p, hz⟩ := I.list hq
    obtain ⟨u, hu, ru⟩ := rv.get hx
    obtain ⟨f0, f1, f2, f3, f4, f5⟩ := hf it (by simp)
    have e1 : ((n : Int) - 1 - (i : Int)) = ((n - 1 - i : Nat) : Int) := by omega
    have st' := st.2
    rw [e1] at st'
    refine wpAny_pyNext_rev_item st' p.isList (x := u) (by simpa using hu) fun h' st2 sb => ?_
    have I1 : Inv X pins σ H { s with heap := h' } := I.turned (t' := s.toks) (fun b o hb e => (sb.2 b hb).trans e) f0 f1 f3 f4 f5
    obtain ⟨o, e, c, d⟩ := id st2
    have e2 : (((n - 1 - i : Nat) : Int) - 1) = (n : Int) - 1 - ((i + 1 : Nat) : Int) := by omega
    rw [e2] at st2
    exact ⟨u, rfl, go_of (s := { s with heap := h' }) e c d (by decide) ⟨x, H, I1, ru, ⟨rfl, fun ys hy => by rw [I.list_inj hy hq]; exact hx⟩, ⟨hi, st2⟩, fun b hb => (hf b hb).1⟩⟩
  done := by
    intro X hP hw hK hc i pins s σ H E I hf st hg
    subst hP hw hK
    have hi : i = n := Nat.le_antisymm st.1 hg
    obtain ⟨f0, f1, f2, f3, f4, f5⟩ := hf it (by simp)
    have st' := st.2
    rw [show ((n : Int) - 1 - (i : Int)) = -1 by omega] at st'
    exact wpAny_pyNext_rev_end (I.ok.hd hc) st' fun h' eb => ⟨rfl, I.turned (t' := s.toks) (fun b o hb e => eb b o hb e) f0 f1 f3 f4 f5⟩
  self := fun A i s Q E st h => wpAny_pyIter_revIter st.2 h
section
variable {X : Cx} {α : Ev} {tg : Expr} {p pos : Pos} {a : Expr}
def iRev (K : PySem.W.Frag) (ta : TA) : TI := fun σ H R => ta σ H fun vs H1 => ∃ l xs, vs = [.ref l] ∧ SqL K H1 l xs ∧ R (Itv K l xs.length) H1
theorem pi_rev {ta : TA} (hg : Gl X "reversed") (hm : X.mg "reversed" = none) (ha : PA X [a] ta) (hs : starEach [a] X.env = [(false, eval a X.env)] := by rfl) : PI X tg (.Call (.Name "reversed" p) [a] [] pos) (iRev X.K ta) := by
  intro pins s σ H R I h
  refine Call_ (ld_blt I hg hm boot_reversed (PyProof.Rows.callWith_type1 (thn (ha pos pins s σ H _ I h) fun us s1 ⟨vs, H1, I1, r1, q1⟩ => ?_) hs rfl))
  obtain ⟨l1, xs, e, hq1, q⟩ := q1
  subst e
  obtain ⟨u, rfl, ru⟩ := Vals.one r1
  cases (show u = Value.ref l1 from ru)
  obtain ⟨its1, rv1, p1, hz1⟩ := I1.list hq1
  have hlen := rv1.length
  refine call_reversed_list p1.isList ?_
  have it0 : ({ s1 with heap := s1.heap.push (revObj l1 ((its1.toArray.size : Int) - 1)) } : Shared).heap.IsRevIter s1.heap.objs.size l1 ((xs.length : Int) - 1 - ((0 : Nat) : Int)) := by
    refine ⟨_, Heap.get?_push_size _ rfl, rfl, ?_⟩
    show Data.fields _ = _
    rw [List.size_toArray, hlen]
    simp
  refine wpAny_pyIter_revIter it0 ?_
  refine ⟨_, _, _, _, H1, rfl, I1.kept (t' := s1.toks) fun b o e => Heap.get?_push_of_some _ e, turn_rev l1 _ xs.length, ⟨Nat.zero_le _, it0⟩, fun b hb => ?_, q⟩
  have e : b = s1.heap.objs.size := by simpa using hb
  subst e
  exact I1.fpOk (Nat.le_refl _) (I1.hok.fresh (Nat.le_refl _))
theorem ei_rev {Q : List PyData → Prop} (hg : Gl X "reversed") (hm : X.mg "reversed" = none) (h : EvD X α a fun x => ∃ ds, x = .list ds ∧ Q ds.reverse) (hs : starEach [a] X.env = [(false, eval a X.env)] := by rfl) :
    EvI X α tg (.Call (.Name "reversed" p) [a] [] pos) Q := fun F σ H R m k => by
  refine ⟨_, pi_rev hg hm (pa_cons pe_eAny pa_nil hs) hs, ?_⟩
  refine h F σ H _ m fun x vx H1 q1 t1 k1 r1 => ?_
  obtain ⟨ds, rfl, q⟩ := q1
  obtain ⟨l1, xs, rfl, g1, g2⟩ := r1.lst_inv
  refine ⟨l1, xs, rfl, SqL.of (sub_some g1).2, k _ _ H1 q t1 k1 fun i H3 p s => ⟨fun d hd => ?_, fun hl => ?_⟩⟩
  · have s1 := SqL.of (K := X.K) (sub_some (s _ _ g1)).2
    have hi : i < ds.length := by
      have := (List.getElem?_eq_some_iff.mp hd).1
      rwa [List.length_reverse] at this
    rw [List.getElem?_reverse hi] at hd
    obtain ⟨x1, hx1, av1⟩ := g2.get hd
    rw [← g2.length] at hx1
    refine ⟨⟨xs, x1, s1, rfl, by rw [g2.length]; exact hi, hx1⟩, fun v H4 y => ?_⟩
    obtain ⟨rfl, hy⟩ := y
    have := hy _ s1
    rw [hx1] at this; cases this
    exact ⟨Same.refl _, fun _ => av1.same s⟩
  · rw [List.length_reverse, ← g2.length] at hl
    exact hl
end
end L2
set_option Elab.async false
set_option linter.all false
set_option maxRecDepth 100000
/-! a module's dict of texts: d[word]. -/
namespace L2
open PySem PySem.Spec PyProof.Rows
/-- the entries of a dict of texts are these -/
def EnS (w : World) : List DictEntry → List (Str × V) → Prop := Paired fun e p => e.hash = hashStr w p.1 ∧ (∃ t, e.key = .str p.1 t) ∧ RelV p.2 e.val
/-- the fragment has a dict of texts at d -/
def DictK (K : PySem.W.Frag) (w : World) (d : Addr) (tb : List (Str × V)) : Prop :=
  ∃ es n, K.lookup d = some ⟨.type "dict", none, .dict es n, #[]⟩ ∧ EnS w es.toList tb ∧ (tb.map (·.1)).Nodup
theorem enS_pairs {P : Program} {w : World} : ∀ {es : List DictEntry} {tb : List (Str × V)}, EnS w es tb → Pairs (PySem.strKind P w) es (List.zipWith (fun e (p : Str × V) => (p.1, e.val)) es tb)
  | _, _, .nil => .nil
  | e :: _, p :: _, .cons ⟨_, ⟨t, ek⟩, _⟩ r => .cons (by rw [ek]; simp [PySem.strKind, Value.isStrOf]) rfl (enS_pairs r)
theorem enS_map {w : World} : ∀ {es : List DictEntry} {tb : List (Str × V)}, EnS w es tb → (List.zipWith (fun e (p : Str × V) => (p.1, e.val)) es tb).map (·.1) = tb.map (·.1)
  | _, _, .nil => rfl
  | _, _, .cons _ r => by simp only [List.zipWith_cons_cons, List.map_cons, enS_map r]
theorem enS_keys {P : Program} {w : World} : ∀ {es : List DictEntry} {tb : List (Str × V)}, EnS w es tb → ∀ e ∈ es, ∃ k, (PySem.strKind P w).is k e.key = true ∧ e.hash = (PySem.strKind P w).hash k
  | _, _, .nil, e, he => by simp at he
  | _, _, .cons (b := p) ⟨h1, ⟨t, ek⟩, _⟩ r, e, he => by
    rcases List.mem_cons.mp he with rfl | he
    · exact ⟨p.1, by rw [ek]; simp [PySem.strKind, Value.isStrOf], h1⟩
    · exact enS_keys r e he
theorem enS_get {w : World} {x : Str} {v : V} : ∀ {es : List DictEntry} {tb : List (Str × V)}, EnS w es tb → tb.lookup x = some v → ∃ u, valueAt (List.zipWith (fun e (p : Str × V) => (p.1, e.val)) es tb) x = some u ∧ RelV v u
  | _, _, .nil, e => by simp at e
  | e :: es, p :: tb, .cons ⟨_, _, rv⟩ r, h => by
    obtain ⟨y, z⟩ := p
    by_cases q : x = y
    · subst q
      simp only [List.lookup_cons_self, Option.some.injEq] at h
      subst h
      exact ⟨e.val, by simp [valueAt], rv⟩
    · rw [List.lookup_cons, beq_eq_false_iff_ne.mpr q] at h
      obtain ⟨u, h1, h2⟩ := enS_get r h
      refine ⟨u, ?_, h2⟩
      rw [← h1]
      simp [valueAt, List.find?_cons, Ne.symm q]
section
variable {X : Cx} {α : Ev} {p pos : Pos} {a : Expr} {g : Str} {Q : PyData → Prop}
def NoSl (i : Expr) : Prop := ∀ ov iv, subscripted i false ov iv = operate [ov, iv] (getItem ov iv)
theorem subD {prog : Program} {w : World} {A : Around} {E : Value → Shared → Prop} {s : Shared} {env : Env} {value slice : Expr} {pos : Pos} {T id : String} {Q : Value → Shared → Prop}
    (hl : typeLookup (.type T) "__getitem__" = pure (some (.builtin id))) (hs : NoSl slice)
    (h : wpAny (model prog w) A (eval value env) (fun o s₁ => wpAny (model prog w) A (eval slice env) (fun i s₂ => s₂.TypeIs o T ∧ wpAny (model prog w) A (getItem o i) Q E s₂) E s₁) E s) :
    wpAny (model prog w) A (eval (.Subscript value slice pos) env) Q E s := by
  refine Subscript_ (thn h fun o s₁ h₁ => thn h₁ fun i s₂ h₂ => ?_)
  obtain ⟨hT, h₂⟩ := h₂
  unfold subscriptTail
  refine wpAny_bind ?_
  rw [getitemInPython_of_ne hT.not_modules]
  refine wpAny_bind (wpAny_specialOf hT hl ?_)
  have fin : wpAny (model prog w) A (subscripted slice false o i) (fun r s₃ => wpAny (model prog w) A (letTemporaryGo value o r >>= fun _ => pure r) Q E s₃) E s₂ := by
    rw [hs o i]
    exact wpAny_operating (thn h₂ fun r s₃ h₃ => wpAny_bind (wpAny_letTemporaryGo (wpAny_pure h₃)))
  first
    | exact wpAny_pure (wpAny_bind fin)
    | exact wpAny_bind (wpAny_pure (wpAny_bind fin))
    | exact wpAny_bind fin
theorem pe_dictK {d : Addr} {tb : List (Str × V)} {ty : TE} (hg : Gl X g) (hm : X.mg g = some (.ref d)) (hd : DictK X.K X.w d tb) (hi : PE X a ty) (hs : NoSl a) (hb : (g == ("__debug__" : Str)) = false := by decide) :
    PE X (.Subscript (.Name g p) a pos) (fun σ H Q => ty σ H fun y H1 => ∃ x v, y = .str x ∧ tb.lookup x = some v ∧ Q v H1) := by
  intro pins s σ H Q I h
  refine subD PySem.F.slot_dict_getitem.lookup hs (ld_glob I hg hm (thn (hi pins s σ H _ I h) fun iv s2 ⟨y, H2, I2, ry, x, v, ey, ex, q2⟩ => ?_) hb)
  subst ey
  obtain ⟨t, rfl⟩ := ry
  obtain ⟨es, n, hl, he, hn⟩ := hd
  have dd : s2.heap.DictOf (PySem.strKind X.prog X.w) d (List.zipWith (fun e (p : Str × V) => (p.1, e.val)) es.toList tb) :=
    ⟨_, es, n, I2.kIn _ _ hl, ⟨rfl, rfl, rfl⟩, rfl, fun e he' => enS_keys he e (by simpa using he'), enS_pairs he, by rw [enS_map he]; exact hn⟩
  obtain ⟨u, h1, h2⟩ := enS_get he ex
  exact ⟨dd.typeIs, wpAny_getItem_of (show (PySem.strKind X.prog X.w).is x (.str x t) = true by simp [PySem.strKind, Value.isStrOf]) dd.mapOf h1 ⟨v, H2, I2.tok _, h2, q2⟩⟩
/-- a scalar -/
def scV : PyData → Option V
  | .none => some .non
  | .bool b => some (.bl b)
  | .int i => some (.int i)
  | .str x => some (.str x)
  | _ => Option.none
theorem av_scV {H : Hp} {d : PyData} {v : V} (h : scV d = some v) : AV H v d := by
  cases d <;> simp [scV] at h <;> subst h <;> constructor
theorem ev_dictK {d : Addr} {tb : List (Str × V)} (hg : Gl X g) (hm : X.mg g = some (.ref d)) (hd : DictK X.K X.w d tb) (h : EvD X α a fun y => ∃ x d v, y = .str x ∧ tb.lookup x = some v ∧ scV d = some v ∧ Q d) (hs : NoSl a := by exact fun _ _ => rfl)
    (hb : (g == ("__debug__" : Str)) = false := by decide) : EvD X α (.Subscript (.Name g p) a pos) Q := fun F σ H R m k => by
  refine ⟨_, pe_dictK hg hm hd pe_eAny hs hb, ?_⟩
  refine h F σ H _ m fun y vy H1 q1 t1 k1 r1 => ?_
  obtain ⟨x, d', v, rfl, h1, h2, q⟩ := q1
  cases r1.str_inv
  exact ⟨x, v, rfl, h1, k _ _ H1 q t1 k1 (av_scV h2)⟩
end
end L2
set_option Elab.async false
set_option linter.all false
set_option maxRecDepth 100000
/-! The data layer: {..}[word], tuples' cuts and sums, in, texts' sum, isinstance of an own class. -/
namespace L2
open PySem PySem.Spec PyProof.Rows
section
variable {X : Cx} {α : Ev} {p pos : Pos} {a b : Expr} {g : Str} {Q : PyData → Prop}
def lookS : List (PyData × PyData) → Str → Option PyData
  | [], _ => none
  | (.str y, d) :: r, x => if y = x then some d else lookS r x
  | _ :: r, x => lookS r x
/-! t[lo:hi], not the whole -/
/-! t + u, t not empty -/
/-! texts -/
/-! in a list of flat things -/
def flatD : PyData → Bool
  | .none => true
  | .bool _ => true
  | .int _ => true
  | .str _ => true
  | _ => false
def inD (x : PyData) (ds : List PyData) : Bool := ds.any fun y => match scV y, scV x with
  | some u, some v => eqV u v
  | _, _ => false
end
end L2
namespace L2
open PySem PySem.Spec PyProof.Rows
section
variable {X : Cx} {α : Ev} {p pos : Pos} {a b : Expr} {Q : PyData → Prop}
/-! x is True, x is False, x a truth -/
end
end L2
set_option Elab.async false
set_option linter.all false
set_option maxRecDepth 100000
/-! The data layer: list(range(a, b)). -/
namespace L2
open PySem PySem.Spec PyProof.Rows
section
variable {X : Cx} {α : Ev} {p q pos : Pos} {a b : Expr}
theorem avs_ints {G : Hp} : ∀ ns : List Int, AVs G (ns.map V.int) (ns.map .int)
  | [] => .nil
  | n :: ns => .cons (.int n) (avs_ints ns)
theorem el_listR {Q : List PyData → Prop} (hc : X.calm = true) (hg : Gl X "list") (hm : X.mg "list" = none) (hg2 : Gl X "range") (hm2 : X.mg "range" = none) (h : EvD X α a fun x => EvD X α b fun y => ∃ i j, x = .int i ∧ y = .int j ∧ (-(2 ^ 62) ≤ i ∧ i < 2 ^ 62 ∧ -(2 ^ 62) ≤ j ∧ j < 2 ^ 62) ∧ (j - i).toNat ≤ 1000 ∧ Q ((upInts i (j - i).toNat).map .int))
    (he : starEach [.Call (.Name "range" q) [a, b] [] p] X.env = (false, eval (.Call (.Name "range" q) [a, b] [] p) X.env) :: starEach [] X.env := by rfl) (he2 : starEach [a, b] X.env = (false, eval a X.env) :: starEach [b] X.env := by rfl) (he3 : starEach [b] X.env = (false, eval b X.env) :: starEach [] X.env := by rfl)
    (hpl : (backTo p (starEach [b] X.env)).any (·.1) = false := by rfl) {p0 : Pos} : EvL X α (.Call (.Name "list" p0) [.Call (.Name "range" q) [a, b] [] p] [] pos) Q := fun F σ H R m k => by
  refine ⟨_, pe_callTy (call_list_rng hc) hg hm boot_list (pa_cons (pe_callTy call_range2 hg2 hm2 boot_range (pa_cons pe_eAny (pa_cons pe_eAny pa_nil he3) he2) (he := he2) (hpl := hpl)) pa_nil he) (he := he), ?_⟩
  refine h F σ H _ m fun x vx H1 q1 t1 k1 r1 => ?_
  have m1 := m.kz k1 t1
  refine q1 F σ H1 _ m1 fun y vy H2 q2 t2 k2 r2 => ?_
  have m2 := m1.kz k2 t2
  obtain ⟨i, j, rfl, rfl, ⟨b1, b2, b3, b4⟩, hz, q⟩ := q2
  cases r1.int_inv; cases r2.int_inv
  refine ⟨i, j, rfl, fun r hr => ?_⟩
  refine ⟨r, i, j, rfl, upd_same, ⟨b1, b2, b3, b4⟩, Nat.le_of_lt (small1000 hz), by omega, fun l hl => ?_⟩
  have nlr : l ≠ r := fun z => by rw [z, upd_same] at hl; cases hl
  have hl' : H2 l = none := by rw [upd_ne nlr] at hl; exact hl
  have kk := k1.trans k2
  have s1 : Same H2 (upd (upd H2 r (.rng i j)) l (.lst ((upInts i (j - i).toNat).map V.int))) := (same_new hr).trans (same_new hl)
  refine k _ _ _ q (t2.same s1) (kk.trans (Kz.of_same s1)) ⟨l, _, rfl, ?_, upd_same, avs_ints _⟩
  cases z : H l with
  | none => rfl
  | some o => rw [kk l o z (m.tp.nt (ow0 (m2.fresh hl')))] at hl'; cases hl'
end
end L2
set_option Elab.async false
set_option linter.all false
set_option maxRecDepth 100000
/-! The data layer: () + t, str.upper, isinstance of an own class. -/
namespace L2
open PySem PySem.Spec PyProof.Rows
section
variable {X : Cx} {α : Ev} {p pos : Pos} {a b : Expr} {Q : PyData → Prop}
/-- x.upper() -/
def upS (x : Str) : Str := ⟨placed x fun _ c => Unicode.upperOf c⟩
/-- what isinstance asks of an own class -/
structure ClsK (K : PySem.W.Frag) (C : Addr) : Prop where
  cl : Cls K C
  ha : PySem.W.findIn K (.ref C) "__class__" = some (some (.builtin "object.__class__"))
  hn : PySem.W.specialIn K (.builtin "object.__class__") "__get__" = some (some (.builtin "getset_descriptor.__get__"))
  ht : PySem.W.takesIn K (.builtin "object.__class__") = some true
  hm : PySem.W.mroIn K C (.type "object") = some true
end
end L2
set_option Elab.async false
set_option linter.all false
set_option maxRecDepth 100000
/-! ### xs[::-1] -/
namespace L2
open PySem PySem.Spec PyProof.Rows
section
variable {X : Cx} {α : Ev} {a e : Expr} {pos p2 p3 p4 : Pos} {n1 : Nat} {te : TE}
theorem et_lelP {b c : Expr} {i j k : Int} {Q : Bool → Prop} (hm : lastMarks [.LtE, .LtE] [b, c] = false) (ha : ∀ Q : PyData → Prop, Q (.int i) → EvD X α a Q) (hb : ∀ Q : PyData → Prop, Q (.int j) → EvD X α b Q) (hc : ∀ Q : PyData → Prop, Q (.int k) → EvD X α c Q) (h : Q (decide (i ≤ j) && decide (j ≤ k))) :
    EvT X α (.Compare a [.LtE, .LtE] [b, c] pos) Q := et_chainP op_le op_le hm ha hb hc h
end
end L2
set_option Elab.async false
set_option linter.all false
set_option maxRecDepth 100000
/-! ### a law in whose run a code's table grows (a lambda is made): the table is tracked, the base is without it -/
namespace L2
open PySem PySem.Spec PyProof.Rows
/-- nothing but the script and one table is tracked -/
def OnlyT (T : Addr) (H : Hp) : Prop := ∀ b : Addr, H b = none ∨ b = T ∨ ∃ o xs, H b = some (.frz o (.lst xs))
theorem law_callT {P : Program} {w : World} {K : PySem.W.Frag} {mg mb : Str → Option Value} {CX : CXT} {k : Nat} {fa a T : Addr} {fd : FuncData} {x : Str} {sp : Sp} {s₁ : Shared} {vs : List Value} {ns : List Int} {ps : Array Value}
    (KX : K.In s₁.heap) (hns : s₁.heap.Ns mainGlobals mg) (hb : s₁.heap.Ns builtinsNs mb) (hbb : ∀ x : Str, x ≠ "__name__" → mb x = bootBuiltins x) (hlim : s₁.heap.NoLimit) (hg : s₁.gens = #[])
    (ha : s₁.heap.get? a = some { cls := .type "list", data := .seq vs.toArray }) (hi : IntsAre vs ns) (hl : ns.length ≤ sizeLine) (hr : Room k callerA)
    (hT : s₁.heap.get? T = some (PySem.W.tabObj ps)) (hKT : K.lookup T = none) (hct : isCodeTable s₁.heap T)
    (hbm : ∃ bm ob, mg "__builtins__" = some (.ref bm) ∧ bm ≠ builtinsNs ∧ s₁.heap.get? bm = some ob ∧ ob.cls = .type "module" ∧ ob.dict = some builtinsNs ∧ ob.data = .plain)
    (F : ∀ base : Heap, K.In base → base.Ns mainGlobals mg → base.BuiltinsAt mg T → FnOk P w K mg base CX k fa fd [x] sp) (hbind : ∀ (s : Shared) (u : Value), BindsTo s fd ⟨[u], []⟩ [(x, u)])
    (hsp : ∀ H : Hp, OnlyT T H → H T = some (.tbl ps) → SqL K H a (ns.map V.int) → sp [.ref a] H (fun v _ => v = .bl true) fun _ _ _ => False)
    (hCX : ∀ H e s', CX [] H s₁ (fun _ _ _ => False) e s' → False) :
    codeAny (model P w) callerA (.call (.ref fa) ⟨[.ref a], []⟩) (fun r s' => r = .ok (.ret (.bool true)) ∧ OldK s₁.heap s'.heap ∧ s'.os = s₁.os ∧ AllBare s'.gens) s₁ := by
  have rv := vals_ints hi
  have lenV := hi.length
  have haT : a ≠ T := fun z => by rw [z, hT] at ha; cases ha
  have core : ∀ H : Hp, OnlyT T H → H T = some (.tbl ps) → SqL K H a (ns.map V.int) → HOk P w H s₁.heap → (∀ b, H b ≠ none → b = a ∨ b = T) → (H a ≠ none → K.lookup a = none) →
      codeAny (model P w) callerA (.call (.ref fa) ⟨[.ref a], []⟩) (fun r s' => r = .ok (.ret (.bool true)) ∧ OldK s₁.heap s'.heap ∧ s'.os = s₁.os ∧ AllBare s'.gens) s₁ := by
    intro H hO hHT hS hok hA hK
    have base_of : ∀ {b : Addr} {o : Obj}, s₁.heap.get? b = some o → H b = none → (hidT s₁.heap H).get? b = some o := fun e n => hidT_get e n
    have noA : ∀ {b : Addr} {o : Obj} {es : Array DictEntry} {ep : Nat}, s₁.heap.get? b = some o → o.data = .dict es ep → H b = none := fun {b o es ep} e d => by
      cases q : H b with
      | none => rfl
      | some u =>
        rcases hA b (by rw [q]; simp) with e' | e'
        · subst e'
          rw [ha] at e; cases e
          have d' : Data.seq vs.toArray _ = Data.dict es ep := d
          cases d'
        · subst e'
          rw [hT] at e; cases e
          have d' : Data.fields ps = Data.dict es ep := d
          cases d'
    have nsK : ∀ {b : Addr} {m : Str → Option Value}, s₁.heap.Ns b m → (hidT s₁.heap H).Ns b m := fun {b m} ⟨o, es, ep, e, d, r⟩ => ⟨o, es, ep, base_of e (noA e d), d, r⟩
    have hKb : K.In (hidT s₁.heap H) := fun b o e => base_of (KX b o e) (by
      cases q : H b with
      | none => rfl
      | some u =>
        rcases hA b (by rw [q]; simp) with e' | e'
        · subst e'
          rw [hK (by rw [q]; simp)] at e; cases e
        · subst e'
          rw [hKT] at e; cases e)
    have hM : Mod K mg (hidT s₁.heap H) := ⟨hKb, nsK hns, ⟨mb, nsK hb, hbb⟩, let ⟨mc, h1, h2⟩ := hlim; ⟨mc, nsK h1, h2⟩⟩
    have hBA : (hidT s₁.heap H).BuiltinsAt mg T := by
      obtain ⟨bm, ob, b1, b2, b3, b4, b5, b6⟩ := hbm
      have n1 : bm ≠ T := fun z => by rw [z, hT] at b3; cases b3; cases b4
      have n2 : bm ≠ a := fun z => by rw [z, ha] at b3; cases b3; cases b6
      have n3 : bm ≠ mainGlobals := fun z => by
        obtain ⟨o, es, ep, e, d, _⟩ := hns
        rw [z, e] at b3; cases b3
        rw [d] at b6; cases b6
      exact ⟨bm, ob, b1, b2, n3, n1, base_of b3 (by
        cases q : H bm with
        | none => rfl
        | some u => rcases hA bm (by rw [q]; simp) with e' | e'
                    · exact absurd e' n2
                    · exact absurd e' n1), b4, b5, b6⟩
    have e0 : Env0 P w K mg (hidT s₁.heap H) callerA [] s₁ H := ⟨rfl, hM, fun b o e => of_hidT e, Nat.le_of_eq (hidT_size _ _), trivial, fun b hb => absurd (show b ∈ ([] : List Addr) from hb) (by simp), hok, .of_eq hg⟩
    refine codeAny_mono ((F _ hKb (nsK hns) hBA).run callerA [] s₁ H ⟨[.ref a], []⟩ [.ref a] [.ref a] _ _ hr e0 (hbind s₁ (.ref a)) (.cons rfl .nil) (hsp H hO hHT hS)) fun r s' h => ?_
    cases r with
    | error e => exact (hCX H e s' h).elim
    | ok fl =>
      cases fl with
      | next => exact False.elim h
      | brk => exact False.elim h
      | cont => exact False.elim h
      | ret u =>
        obtain ⟨v, H', os, bare, un, hok', r', q⟩ := h
        have q' : v = .bl true := q
        subst q'
        obtain rfl : u = Value.bool true := r'
        have old : ∀ b o, s₁.heap.get? b = some o → asItWas s₁.heap s'.heap b o := fun b o e => by
          cases q : H b with
          | none => exact .inl (un.keep b o e q (by intro z; exact absurd (show b ∈ ([] : List Addr) from z) (by simp)) (by simp))
          | some u =>
            rcases hO b with z | z | ⟨ob, xs, z⟩
            · rw [q] at z; cases z
            · subst z
              obtain ⟨more, hm⟩ := un.tbls _ _ hHT
              have e2 : s'.heap.get? b = some { cls := .none, data := .fields (ps ++ more) } := hok' _ _ hm
              rw [hT] at e; cases e
              exact .inr (.inl ⟨hct, rfl, ps, more, rfl, e2⟩)
            · have z2 := un.frzs b ob _ z
              obtain ⟨e1, _⟩ := hok b _ z
              obtain ⟨e2, _⟩ := hok' b _ z2
              rw [e] at e1; cases e1
              exact .inl e2
        refine ⟨rfl, ⟨old, fun b o e => ?_⟩, os, bare⟩
        rcases old b o e with z | ⟨_, _, _, _, _, z⟩ | ⟨_, _, ⟨o', _, _, z, _⟩, _⟩
        · exact ⟨_, z⟩
        · exact ⟨_, z⟩
        · exact ⟨_, z⟩
  cases hk : K.lookup a with
  | some o =>
    have e := KX a o hk
    rw [ha] at e
    cases e
    refine core (fun b => if b = T then some (.tbl ps) else none) (fun b => ?_) (if_pos rfl) (.inr ⟨_, vs.toArray, _, hk, rfl, rfl, rfl, by rw [List.size_toArray, lenV]; exact hl, by simpa using rv⟩) (fun b u z => ?_) (fun b z => ?_) fun z => absurd (if_neg haT) z
    · by_cases h : b = T
      · exact .inr (.inl h)
      · exact .inl (if_neg h)
    · by_cases h : b = T
      · have z' := (if_pos h).symm.trans z
        cases z'
        subst h
        exact hT
      · have z' := (if_neg h).symm.trans z
        cases z'
    · by_cases h : b = T
      · exact .inr h
      · exact absurd (if_neg h) z
  | none =>
    refine core (fun b => if b = T then some (.tbl ps) else if b = a then some (.frz { cls := .type "list", data := .seq vs.toArray } (.lst (ns.map V.int))) else none) (fun b => ?_) (if_pos rfl) (.inl (.inr ⟨{ cls := .type "list", data := .seq vs.toArray }, (if_neg haT).trans (if_pos rfl)⟩)) (fun b u z => ?_) (fun b z => ?_) fun _ => hk
    · by_cases h : b = T
      · exact .inr (.inl h)
      · by_cases hb : b = a
        · exact .inr (.inr ⟨_, _, (if_neg h).trans (if_pos hb)⟩)
        · exact .inl ((if_neg h).trans (if_neg hb))
    · by_cases h : b = T
      · have z' := (if_pos h).symm.trans z
        cases z'
        subst h
        exact hT
      · have z := (if_neg h).symm.trans z
        by_cases hb : b = a
        · have z' := (if_pos hb).symm.trans z
          cases z'
          subst hb
          exact ⟨ha, by rw [List.length_map]; exact hl, vs, _, rv, ha⟩
        · have z' := (if_neg hb).symm.trans z
          cases z'
    · by_cases h : b = T
      · exact .inr h
      · by_cases hb : b = a
        · exact .inl hb
        · exact absurd ((if_neg h).trans (if_neg hb)) z
/-- the goal that k_head leaves (case hc), for a law in whose run one table grows -/
theorem walk_ofT {l : PySem.W.OpenLaw} {n k : Nat} {q : Program} {loose : List Str} {XP : (Str → Option Value) → Heap → Prop} {YP : World → Heap → Prop} {d : DefRec} {K : Params → PySem.W.Frag} {CX : World → CXT} {sp : World → Sp} {x : Str} {T c : Addr} {ps : Array Value}
    (hn : l.most = some n) (hn2 : n ≤ sizeLine) (hdf : d.params.defaults = []) (hr : Room k callerA)
    (hY : ∀ (w : World) (h : Heap), YP w h → (K w.params).In h) (hYT : ∀ (w : World) (h : Heap), YP w h → h.get? T = some (PySem.W.tabObj ps))
    (hNo : ∀ w : World, (K w.params).lookup T = none) (hTab : ∀ w : World, ∃ o vs, (K w.params).lookup c = some o ∧ o.cls = .type "code" ∧ o.data = .fields vs ∧ vs[11]? = some (.ref T))
    (F : ∀ (w : World) (mg : Str → Option Value) (fa : Addr) (h : Heap), (K w.params).In h → h.Ns mainGlobals mg → mg d.name = some (.ref fa) →
      ∃ fd : FuncData, (∀ (s : Shared) (u : Value), BindsTo s fd ⟨[u], []⟩ [(x, u)]) ∧
        ∀ base : Heap, (K w.params).In base → base.Ns mainGlobals mg → base.BuiltinsAt mg T → FnOk l.prog w (K w.params) mg base (CX w) k fa fd [x] (sp w))
    (hsp : ∀ (w : World) (H : Hp) (a : Addr) (ns : List Int), ns.length ≤ n → OnlyT T H → H T = some (.tbl ps) → SqL (K w.params) H a (ns.map V.int) → sp w [.ref a] H (fun v _ => v = .bl true) fun _ _ _ => False)
    (hCX : ∀ (w : World) (H : Hp) (s : Shared) (e : Value) (s' : Shared), CX w [] H s (fun _ _ _ => False) e s' → False) :
    PySem.W.WalkO q loose XP YP l.row.toRowW d [] (fun f vs => PySem.call f vs) := by
  refine Att.attach_call hn hdf fun w s₀ s₁ mg mb fa o pm cd doc a vs ns G Y ho hd hcd hmg hobj hints hlen hg => ?_
  have KX := hY w _ Y
  obtain ⟨oc, cv, t2, t3, t4, t5⟩ := hTab w
  obtain ⟨fd, hb, hF⟩ := F w mg fa _ KX G.T.g hmg
  exact law_callT KX G.T.g G.T.b G.T.builtins G.T.nolimit hg hobj hints (Nat.le_trans hlen hn2) hr (hYT w _ Y) (hNo w) ⟨c, oc, cv, KX _ _ t2, t3, t4, t5⟩ G.T.bmain hF hb (fun H hO hT hS => hsp w H a ns hlen hO hT hS) fun H e s' => hCX w H s₁ e s'
end L2
set_option Elab.async false
set_option linter.all false
set_option maxRecDepth 100000
/-! ### a lambda is made: the table grows, a code and a function are laid -/
namespace L2
open PySem PySem.Spec PyProof.Rows
section
variable {X : Cx} {pins : List (Addr × Obj)} {σ : St} {H : Hp} {s : Shared} {h' : Heap}
/-- a table grows, and new things are tracked -/
theorem Inv.tblMore {t' : Nat} {p : Addr} {ps more : Array Value} {H' : Hp} (I : Inv X pins σ H s) (h : H p = some (.tbl ps)) (k : ∀ b u, b ≠ p → s.heap.get? b = some u → h'.get? b = some u) (e : h'.get? p = some (PySem.W.tabObj (ps ++ more)))
    (hp : H' p = some (.tbl (ps ++ more))) (hH : ∀ b, b ≠ p → b < s.heap.objs.size → H' b = H b) (new : ∀ b o, s.heap.objs.size ≤ b → H' b = some o → ObjOk X.prog X.w H' h' b o) :
    Inv X pins σ H' { s with heap := h', toks := t' } := by
  have ne : ∀ b, H b = none → b ≠ p := fun b n z => by rw [z, h] at n; cases n
  have nt : ∀ b o, H b = some o → (∀ qs, o ≠ .tbl qs) → b ≠ p := fun b o q n z => by rw [z, h] at q; cases q; exact n _ rfl
  have lt : ∀ b o, H b = some o → b < s.heap.objs.size := fun b o q => by
    rcases Nat.lt_or_ge b s.heap.objs.size with z | z
    · exact z
    · rw [I.hok.fresh z] at q; cases q
  have st : ∀ b o, H b = some o → (∀ qs, o ≠ .tbl qs) → H' b = some o := fun b o q n => by rw [hH b (nt b o q n) (lt b o q)]; exact q
  refine I.un ⟨fun b o q n _ _ => k b o (ne b n) q, fun b o q n _ _ => ⟨o.slots, k b o (ne b n) q⟩, fun b o q n _ => by rw [hH b (ne b n) (Heap.lt_size q)]; exact n, fun b o q _ => ?_, fun b xs q => st b _ q (fun _ z => by cases z), fun b o u q => st b _ q (fun _ z => by cases z), fun b qs q => ?_⟩ fun b u q => ?_
  · by_cases z : b = p
    · exact ⟨_, by rw [z]; exact e⟩
    · exact ⟨o, k b o z q⟩
  · by_cases z : b = p
    · subst z
      rw [h] at q; cases q
      exact ⟨more, hp⟩
    · exact ⟨#[], by rw [hH b z (lt b _ q), q]; simp⟩
  · by_cases z : b = p
    · subst z
      rw [hp] at q; cases q
      exact e
    · rcases Nat.lt_or_ge b s.heap.objs.size with l | l
      · rw [hH b z l] at q
        refine (I.hok b u q).stay (fun c v hc r => k c v (fun w => ?_) r) (fun c r => st c _ r fun _ z => by cases z) fun c xs r => st c _ r fun _ z => by cases z
        subst w
        rcases hc with rfl | hc
        · exact z rfl
        · rw [h] at hc; cases hc
      · exact new b u l q
/-- a function made of a lambda -/
def lamO (f c : Addr) (qual : Str) (params : Arguments) (body : Expr) (scope : Scope) (clos : List (Str × Addr)) : HO :=
  .ext fun h => ∃ (pm ctv : Value), h.get? f = some (PySem.W.kla_obj "<lambda>" qual params body scope clos pm c ctv)
theorem code_ok {P : Program} {w : World} {H : Hp} {h : Heap} {c : Addr} (r : h.CodeRec (.ref c) tabQ) : ObjOk P w H h c (codeO c) := by
  refine ⟨r, ?_, fun h1 h2 p k => ?_⟩
  · obtain ⟨c', o, vs, t, e1, e2, _⟩ := r
    cases e1
    exact ⟨o, e2⟩
  · obtain ⟨c', o, vs, t, e1, e2, e3⟩ := p
    cases e1
    exact ⟨c, o, vs, t, rfl, k _ e2, e3⟩
theorem lam_ok {P : Program} {w : World} {H : Hp} {h : Heap} {f c : Addr} {qual : Str} {params : Arguments} {body : Expr} {scope : Scope} {clos : List (Str × Addr)} {pm ctv : Value} (r : h.get? f = some (PySem.W.kla_obj "<lambda>" qual params body scope clos pm c ctv)) : ObjOk P w H h f (lamO f c qual params body scope clos) :=
  ⟨⟨pm, ctv, r⟩, ⟨_, r⟩, fun h1 h2 ⟨pm', ctv', p⟩ k => ⟨pm', ctv', k _ p⟩⟩
theorem among_snoc {pos : Pos} {a b : Int} {c cv : Value} (l : List Value) : TriplesOk l → codeAmong pos (l ++ [rawInt a, rawInt b, c]) = some cv → codeAmong pos l = some cv ∨ cv = c := by
  induction l using TriplesOk.induct with
  | case1 =>
    intro _ h
    rw [List.nil_append, rawInt, rawInt, codeAmong.eq_1] at h
    split at h
    · cases h; exact .inr rfl
    · rw [codeAmong.eq_2 _ _ (by intro _ _ _ _ _ _ z; cases z)] at h; cases h
  | case2 i t j u d rest ih =>
    intro ok h
    rw [TriplesOk.eq_2] at ok
    rw [List.cons_append, List.cons_append, List.cons_append, codeAmong.eq_1] at h
    rw [codeAmong.eq_1]
    split at h
    · rename_i z
      rw [if_pos z]; exact .inl h
    · rename_i z
      rw [if_neg z]; exact ih ok h
  | case3 t h1 h2 =>
    intro ok
    rw [TriplesOk.eq_3 t h1 h2] at ok
    exact ok.elim
/-- lambda ..: a function of the table's code -/
theorem lam_make {params : Arguments} {body : Expr} {scope : Scope} {lpos : Pos} {clos : List (Str × Addr)} {c : Addr} (I : Inv X pins σ H s) (hcl : closureFor scope X.env = pure clos) (hgl : X.env.globals = mainGlobals) (hco : X.env.code = .ref c) (hhd : PySem.W.CodeHd X.base c tabP)
    (hbi : X.base.BuiltinsAt X.mg tabP) (hdf : defaultsOf params X.env = ([], [])) (hq : X.env.qual ++ ("<lambda>" : Str) = tabQ) (hne : mainGlobals ≠ tabP) (T : TabAt H) {Q : Value → Shared → Prop}
    (h : ∀ (f c' : Addr) (H' : Hp) (s' : Shared), Inv X pins σ H' s' → TabAt H' → (∀ a o, a ≠ tabP → H a = some o → H' a = some o) → (∀ a ps, H a = some (.tbl ps) → ∃ qs, H' a = some (.tbl qs)) → H f = none → H' f = some (lamO f c' tabQ params body scope clos) → H' c' = some (codeO c') → Q (.ref f) s') :
    wpAny (model X.prog X.w) X.A (eval (.Lambda params body scope lpos) X.env) Q X.xe s := by
  refine PySem.W.kla_eval hdf ?_
  rw [hq]
  obtain ⟨ps, t1, t2, t3⟩ := T.ex
  have hT : s.heap.get? tabP = some (PySem.W.tabObj ps) := I.hok _ _ t1
  have hb : ∀ b o, X.base.get? b = some o → s.heap.get? b = some o := fun b o e => (I.bs b o e).1
  have hhd' : PySem.W.CodeHd s.heap c tabP := by
    obtain ⟨o, vs, f1, f2, f3, f4, f5, f6, f7, e1, e2⟩ := hhd
    exact ⟨o, vs, f1, f2, f3, f4, f5, f6, f7, hb _ _ e1, e2⟩
  have hbi' : s.heap.BuiltinsAt X.mg tabP := by
    obtain ⟨bm, o, e1, e2, e3, e4, e5, e6⟩ := hbi
    exact ⟨bm, o, e1, e2, e3, e4, hb _ _ e5, e6⟩
  have hns : s.heap.Ns mainGlobals X.mg := by
    obtain ⟨o, es, ep, e, d, r⟩ := I.ok.mod.glob
    exact ⟨o, es, ep, hb _ _ e, d, r⟩
  cases hc : codeAmong lpos ps.toList with
  | none =>
    refine PySem.W.kla_makeFunction hcl hgl hns hco hhd' hT t2 hc hne hbi' fun c' ctv h' tk ex l1 l2 cr ht => ?_
    have hlt : c' < (h'.push (PySem.W.kla_obj "<lambda>" tabQ params body scope clos ((X.mg "__name__").getD Value.none) c' ctv)).objs.size := by rw [size_push']; omega
    have n1 : (c' : Addr) ≠ h'.objs.size := Nat.ne_of_lt l2
    have szT : tabP < s.heap.objs.size := Heap.lt_size hT
    have n2 : (c' : Addr) ≠ tabP := Nat.ne_of_gt (Nat.lt_of_lt_of_le szT l1)
    have lf : s.heap.objs.size ≤ h'.objs.size := Nat.le_of_lt (Nat.lt_of_le_of_lt l1 l2)
    have n3 : (h'.objs.size : Addr) ≠ tabP := Nat.ne_of_gt (Nat.lt_of_lt_of_le szT lf)
    let HN : Hp := upd (upd (upd H h'.objs.size (lamO h'.objs.size c' tabQ params body scope clos)) c' (codeO c')) tabP (.tbl (ps ++ #[rawInt ↑lpos.line, rawInt ↑lpos.col, Value.ref c']))
    have eP : HN tabP = some (.tbl (ps ++ #[rawInt ↑lpos.line, rawInt ↑lpos.col, Value.ref c'])) := upd_same
    have eC : HN c' = some (codeO c') := by show upd _ _ _ _ = _; rw [upd_ne n2, upd_same]
    have eF : HN h'.objs.size = some (lamO h'.objs.size c' tabQ params body scope clos) := by show upd _ _ _ _ = _; rw [upd_ne n3, upd_ne n1.symm, upd_same]
    have old : ∀ b, b ≠ tabP → b < s.heap.objs.size → HN b = H b := fun b nb lb => by
      show upd _ _ _ _ = _
      rw [upd_ne nb, upd_ne (Nat.ne_of_lt (Nat.lt_of_lt_of_le lb l1)), upd_ne (Nat.ne_of_lt (Nat.lt_of_lt_of_le lb lf))]
    have I1 : Inv X pins σ HN { s with heap := h'.push (PySem.W.kla_obj "<lambda>" tabQ params body scope clos ((X.mg "__name__").getD Value.none) c' ctv), toks := tk } := by
      refine I.tblMore (more := #[rawInt ↑lpos.line, rawInt ↑lpos.col, Value.ref c']) t1 (fun b u nb e => Heap.get?_push_of_some _ (ex b u nb e)) (Heap.get?_push_of_some _ ht) eP old fun b o lb e => ?_
      by_cases z1 : b = h'.objs.size
      · subst z1
        rw [eF] at e; cases e
        exact lam_ok (Heap.get?_push_size _ rfl)
      · by_cases z2 : b = c'
        · subst z2
          rw [eC] at e; cases e
          obtain ⟨c2, o, vs, t, e1, e2, e3⟩ := cr
          cases e1
          exact code_ok ⟨_, o, vs, t, rfl, Heap.get?_push_of_some _ e2, e3⟩
        · have nb : b ≠ tabP := fun z => absurd lb (Nat.not_le_of_lt (z ▸ szT))
          have e' : HN b = H b := by show upd _ _ _ _ = _; rw [upd_ne nb, upd_ne z2, upd_ne z1]
          rw [e', I.hok.fresh lb] at e; cases e
    have stay : ∀ a o, a ≠ tabP → H a = some o → HN a = some o := fun a o no e => by
      have la : a < s.heap.objs.size := by
        rcases Nat.lt_or_ge a s.heap.objs.size with z | z
        · exact z
        · rw [I.hok.fresh z] at e; cases e
      rw [old a no la]; exact e
    refine h _ c' HN _ I1 ⟨_, eP, ?_, fun pos cv hcv => ?_⟩ stay (fun a qs e => ?_) (I.hok.fresh lf) eF eC
    · rw [Array.toList_append]
      exact TriplesOk_snoc _ _ _ _ t2
    · rw [Array.toList_append] at hcv
      rcases among_snoc _ t2 hcv with z | z
      · obtain ⟨c2, rfl, e2⟩ := t3 _ _ z
        exact ⟨c2, rfl, stay _ _ (fun z => by rw [z, t1] at e2; cases e2) e2⟩
      · exact ⟨c', z, eC⟩
    · by_cases za : a = tabP
      · exact ⟨_, by rw [za]; exact eP⟩
      · refine ⟨qs, ?_⟩
        rw [old a za (by
          rcases Nat.lt_or_ge a s.heap.objs.size with z | z
          · exact z
          · rw [I.hok.fresh z] at e; cases e)]
        exact e
  | some cv =>
    obtain ⟨c', rfl, t4⟩ := t3 _ _ hc
    refine PySem.W.kla_makeFunctionHit hcl hgl hns hco hhd' hT t2 hc hbi' fun ctv h' tk k l => ?_
    have hf : H h'.objs.size = none := I.hok.fresh l
    have k2 : ∀ b u, s.heap.get? b = some u → (h'.push (PySem.W.kla_obj "<lambda>" tabQ params body scope clos ((X.mg "__name__").getD Value.none) c' ctv)).get? b = some u := fun b u e => Heap.get?_push_of_some _ (k b u e)
    have I1 := I.laid (t' := tk) (o := lamO h'.objs.size c' tabQ params body scope clos) k2 l (lam_ok (Heap.get?_push_size _ rfl))
    have n1 : ∀ a o, H a = some o → a ≠ h'.objs.size := fun a o e z => by rw [z, hf] at e; cases e
    refine h _ c' _ _ I1 (T.same fun a o _ e => by rw [upd_ne (n1 a o e)]; exact e) (fun a o _ e => by rw [upd_ne (n1 a o e)]; exact e) (fun a qs e => ⟨qs, by rw [upd_ne (n1 a _ e)]; exact e⟩) hf upd_same ?_
    rw [upd_ne (n1 _ _ t4)]; exact t4
end
end L2
set_option Elab.async false
set_option linter.all false
set_option maxRecDepth 100000
/-! ### a call of a lambda that reads one name of the def around it -/
namespace L2
open PySem PySem.Spec PyProof.Rows
/-- the lambda's names: its parameter x, the name y of the def around it -/
structure LamScope (x y : Str) (params : Arguments) (scope : Scope) : Prop where
  kind : scope.kind = .function
  co : scope.isCoroutine = false
  gen : scope.isGenerator = false
  px : scope.names.lookup x = some .local
  py : scope.names.lookup y = some .free
  nocell : ∀ z ∈ scope.names, z.2 ≠ NameKind.cell
  only : ∀ z ∈ scope.names, z.2 = NameKind.free → z.1 = y
  ne : x ≠ y
def lamCx (P : Program) (w : World) (K : PySem.W.Frag) (mg : Str → Option Value) (base : Heap) (x y : Str) (scope : Scope) (f c cl : Addr) (A : Around) (outer : List Env) (s : Shared) (H : Hp) : Cx where
  prog := P
  w := w
  K := K
  mg := mg
  base := base
  A := A.deeper (PySem.W.envX tabQ scope s.heap.objs.size f (.ref c) [(y, cl)])
  N := [x, y]
  s₀ := s
  H₀ := H
  env := PySem.W.envX tabQ scope s.heap.objs.size f (.ref c) [(y, cl)]
  outer := outer
  stack := PySem.W.envX tabQ scope s.heap.objs.size f (.ref c) [(y, cl)] :: outer
  ex := []
  calm := true
  fn := fun _ => false
  pn := []
  xe := fun _ _ => False
theorem lam_start {P : Program} {w : World} {K : PySem.W.Frag} {mg : Str → Option Value} {base : Heap} {x y : Str} {params : Arguments} {scope : Scope} {f c cl : Addr} {A : Around} {outer : List Env} {s : Shared} {H : Hp} {h' : Heap} {tk : Nat} {v l : V} {u ul : Value}
    (S : LamScope x y params scope) (hd : A.handled = none) (e0 : Env0 P w K mg base A outer s H) (rv : RelV v u) (rl : RelV l ul) (hcl : s.heap.IsCell cl (some ul)) (fcl : H cl = none)
    (ns : h'.Ns s.heap.objs.size fun z => [(x, u)].reverse.lookup z) (k : ∀ b o, s.heap.get? b = some o → h'.get? b = some o) :
    Inv (lamCx P w K mg base x y scope f c cl A outer s H) [] [some v, some l] H { s with heap := h', toks := tk } := by
  have noA : ∀ b : Addr, b ∉ (lamCx P w K mg base x y scope f c cl A outer s H).ex := fun b z => absurd (show b ∈ ([] : List Addr) from z) (by simp)
  have one : ∀ z d, (lamCx P w K mg base x y scope f c cl A outer s H).env.cells.lookup z = some d → z = y ∧ d = cl := fun z d h => by
    have h : List.lookup z [(y, cl)] = some d := h
    rw [List.lookup_cons] at h
    split at h
    · rename_i e
      cases h
      exact ⟨eq_of_beq e, rfl⟩
    · cases h
  have hit : (lamCx P w K mg base x y scope f c cl A outer s H).env.cells.lookup y = some cl := by
    show List.lookup y [(y, cl)] = some cl
    simp [List.lookup_cons]
  have cell' : h'.IsCell cl (some ul) := by
    obtain ⟨o, e1, e2⟩ := hcl
    exact ⟨o, k _ _ e1, e2⟩
  refine ⟨⟨e0.mod, S.kind, rfl, rfl, Nat.le_refl _, fun a b d h1 h2 => (one a d h1).1.trans (one b d h2).1.symm, fun z hz => ?_, fun z d hf _ => ?_, fun _ => hd, Around.frames_deeper e0.frames, .inr ⟨rfl, rfl⟩, fun b z => absurd z (noA b), e0.bs, e0.bsz, fun b _ _ => noA b, fun b z => absurd z (noA b), e0.funs, e0.frf⟩,
    rfl, e0.bare, Un.kept k, ⟨_, ns, fun i z v' h1 h2 h3 => ?_⟩, fun z d h => ?_, e0.hok.fresh (Nat.le_refl _), fun z d h => ?_, fun p hp => absurd (show p ∈ ([] : List (Addr × Obj)) from hp) (by simp), e0.hok.kept k, rfl⟩
  · have hz : scope.names.lookup z = some .cell ∨ scope.names.lookup z = some .free := hz
    rcases hz with hz | hz
    · exact absurd rfl (S.nocell _ (PySem.mem_of_lookup hz))
    · have : z = y := S.only _ (PySem.mem_of_lookup hz) rfl
      subst this
      exact ⟨cl, hit⟩
  · exact absurd (show false = true from hf) Bool.false_ne_true
  · have h1 : ([x, y] : List Str)[i]? = some z := h1
    match i, h1, h2 with
    | 0, h1, h2 =>
      cases h1; cases h2
      exact ⟨u, rv, .inl ⟨S.px, by simp [List.lookup_cons]⟩⟩
    | 1, h1, h2 =>
      cases h1; cases h2
      exact ⟨ul, rl, .inr ⟨.inr S.py, cl, hit, cell'⟩⟩
    | i + 2, h1, h2 => simp at h1
  · obtain ⟨rfl, rfl⟩ := one z d h
    exact ⟨_, cell'⟩
  · obtain ⟨rfl, rfl⟩ := one z d h
    exact fcl
/-- f(u), f a lambda -/
theorem lam_run {P : Program} {w : World} {K : PySem.W.Frag} {mg : Str → Option Value} {base : Heap} {x y : Str} {params : Arguments} {body : Expr} {scope : Scope} {f c cl : Addr} {A : Around} {outer : List Env} {s : Shared} {H : Hp} {v l : V} {u ul : Value} {k : Nat} {Q : VK} {t : TE}
    (S : LamScope x y params scope) (hr : Room k A) (e0 : Env0 P w K mg base A outer s H) (hf : H f = some (lamO f c tabQ params body scope [(y, cl)])) (hc : H c = some (codeO c)) (hcl : s.heap.IsCell cl (some ul)) (fcl : H cl = none) (rv : RelV v u) (rl : RelV l ul)
    (hb : ∀ pm ctv, bindArgs (PySem.W.kla_fn "<lambda>" tabQ params body scope [(y, cl)] pm (.ref c) ctv) ⟨[u], []⟩ = pure [(x, u)])
    (ht : PE (lamCx P w K mg base x y scope f c cl A outer s H) body t) (hq : t [some v, some l] H Q) :
    codeAny (model P w) A (.call (.ref f) ⟨[u], []⟩) (CR CX0 outer P w H s Q E0) s := by
  obtain ⟨⟨pm, ctv, ho⟩, _, _⟩ := e0.hok _ _ hf
  have cr : s.heap.CodeRec (.ref c) tabQ := (e0.hok _ _ hc).1
  have lim : s.heap.NoLimit := e0.mod.nolimit.keeps fun b o e => (e0.bs b o e).1
  refine PySem.W.kla_callFunE hr.depth ho rfl S.co S.gen rfl cr ?_
  rw [hb]
  refine wpAny_pure ?_
  refine wpAny_newFunctionEnv S.nocell (fun z hz => ?_) (fun h' ns sb => ?_) S.kind
  · rw [List.mem_singleton.mp hz]; exact S.px
  · have kk : ∀ b o, s.heap.get? b = some o → h'.get? b = some o := fun b o e => sb.extBut b o (Nat.ne_of_lt (Heap.lt_size e)) (Heap.get?_push_of_some _ e)
    refine ⟨lim.keeps kk, PySem.W.kla_codeExpr ?_⟩
    have I := lam_start (tk := s.toks + [(x, u)].length) (f := f) (c := c) S hr.hd e0 rv rl hcl fcl ns kk
    refine wpAny_mono (ht [] _ _ H _ I hq) (fun u' s' hs => ?_) fun e s' hs => hs.elim
    obtain ⟨v', H', J, r', q⟩ := hs
    exact ⟨v', H', J.os, J.bare, J.base, J.hok, r', q⟩
end L2
set_option Elab.async false
set_option linter.all false
set_option maxRecDepth 100000
/-! ### sorted with a key, a lambda that gives a pair of ints -/
namespace L2
open PySem PySem.W PyProof.Rows SortA
section
variable {X : Cx} {pins : List (Addr × Obj)} {σ : St} {H : Hp} {s : Shared}
/-- what a call leaves of what is not tracked -/
def KeepU (X : Cx) (H1 H2 : Hp) (s1 s2 : Shared) : Prop := ∀ b o, s1.heap.get? b = some o → H1 b = none → b ∉ frs X.stack → s2.heap.get? b = some o ∧ H2 b = none
structure KeyAt (X : Cx) (pins : List (Addr × Obj)) (σ : St) (H : Hp) (D kS : Addr) (e1 : Nat) (ps : List (Int × Int)) (i : Nat) (s' : Shared) : Prop where
  ex : ∃ (H' : Hp) (ks : List Value) (xs : List V) (e : Nat), Inv X pins σ H' s' ∧ (∀ a o, H a = some o → H' a = some o) ∧ s'.heap.get? D = some (seqObj "list" #[] e1) ∧ s'.heap.get? kS = some (seqObj "list" ks.toArray e) ∧ H' D = none ∧ H' kS = none ∧ Vals xs ks ∧ PrV H' xs (ps.take i)
theorem keys_loop {A : Around} {E : Value → Shared → Prop} {vs : List Value} {ps : List (Int × Int)} {f D kS : Addr} {e1 : Nat} {Q : PUnit → Shared → Prop} (hlen : vs.length = ps.length) (h64 : vs.length < 64) (nD : D ∉ frs X.stack) (nK : kS ∉ frs X.stack) (hne : D ≠ kS)
    (fK : ∀ H', H' kS = none → FpOk X pins H' kS)
    (hcall : ∀ i v, vs[i]? = some v → ∀ H1 s1, Inv X pins σ H1 s1 → (∀ a o, H a = some o → H1 a = some o) →
      wpAny (model X.prog X.w) A (call (.ref f) [v]) (fun u s2 => ∃ t H2, u = .ref t ∧ Inv X pins σ H2 s2 ∧ (∀ a o, H1 a = some o → H2 a = some o) ∧ H2 t = some (.tup [.int (at2 ps i).1, .int (at2 ps i).2]) ∧ KeepU X H1 H2 s1 s2) (fun _ _ => False) s1)
    (h0 : KeyAt X pins σ H D kS e1 ps 0 s) (hQ : ∀ s', KeyAt X pins σ H D kS e1 ps vs.length s' → Q PUnit.unit s') :
    wpAny (model X.prog X.w) A (forIn vs PUnit.unit fun x __s => do
      let __do_lift ← (call (.ref f) [x]).attempt
      match __do_lift with
        | Except.ok k => do
          Builtin.List.listUpdate (.ref kS) fun x => x.push k
          pure (ForInStep.yield PUnit.unit)
        | Except.error e => do
          rule "list.sort.key-raised"
          let made ← Builtin.List.listItems (.ref kS)
          Builtin.List.listUpdate (.ref kS) fun x => #[]
          letGo made.toList.reverse [e]
          Builtin.List.listUpdate (Value.ref D) fun x => vs.toArray
          throw e
          pure (ForInStep.yield PUnit.unit)) Q E s := by
  refine ksk_fold (KeyAt X pins σ H D kS e1 ps) vs 0 s h0 (fun j x s' hj hI => ?_) (fun s' hI => hQ s' (by simpa using hI))
  obtain ⟨H1, ks, xs, e, I1, st, eD, eK, fD, fK', rv, pr⟩ := hI.ex
  rw [Nat.zero_add] at pr ⊢
  have hjl : j < ps.length := by rw [← hlen]; exact (List.getElem?_eq_some_iff.mp hj).1
  have lks : ks.length = j := by rw [← rv.length, pr.len, List.length_take]; omega
  refine wpAny_bind (wpAny_attempt (wpAny_mono (hcall j x hj H1 s' I1 st) (fun u s2 hu => ?_) fun _ _ z => z.elim))
  obtain ⟨t, H2, rfl, I2, st2, et, kp⟩ := hu
  obtain ⟨eD2, fD2⟩ := kp D _ eD fD nD
  obtain ⟨eK2, fK2⟩ := kp kS _ eK fK' nK
  refine wpAny_bind (listUpdate_at eK2 rfl (wpAny_pure ⟨rfl, ?_⟩) (by rw [List.size_toArray, lks, sizeLine_eq]; omega) (by rw [Array.size_push, List.size_toArray, lks, sizeLine_eq]; omega))
  obtain ⟨e', hk⟩ : ∃ e', (s2.heap.update kS (Obj.mapSeq fun x => x.push (Value.ref t))).get? kS = some (seqObj "list" (ks ++ [Value.ref t]).toArray e') := by
    have := get?_update_seq eK2 fun x => x.push (Value.ref t)
    rw [List.push_toArray] at this
    exact ⟨_, this⟩
  have kk : ∀ b o, b ∉ [kS] → s2.heap.get? b = some o → (s2.heap.update kS (Obj.mapSeq fun x => x.push (Value.ref t))).get? b = some o := fun b o nb q => (Heap.get?_update_other _ _ (Ne.symm (by simpa using nb))).trans q
  refine ⟨H2, ks ++ [Value.ref t], xs ++ [V.ref t], e', I2.turnL (t' := s2.toks) kk (fun b hb => by rw [List.mem_singleton.mp hb]; exact fK H2 fK2), fun a o q => st2 a o (st a o q), kk D _ (by simpa using hne) eD2, hk, fD2, fK2, rv.append (.cons rfl .nil), ?_⟩
  rw [List.take_add_one, List.getElem?_eq_getElem hjl]
  refine PrV.app (pr.keep fun a p q z => st2 _ _ z) ?_
  have ea : at2 ps j = ps[j] := by unfold at2; rw [List.getD_eq_getElem?_getD, List.getElem?_eq_getElem hjl]; rfl
  rw [ea] at et
  exact .cons et .nil
theorem tree_keyed {A : Around} {E : Value → Shared → Prop} {vs : List Value} {ps : List (Int × Int)} {f D : Addr} {n : Nat} {Pf : PySem.Fin → Shared → Prop} (I : Inv X pins σ H s) (ho : s.heap.get? D = some (seqObj "list" vs.toArray n)) (hlen : vs.length = ps.length) (h64 : vs.length < 64) (fD : H D = none)
    (nD : D ∉ frs X.stack) (fpD : ∀ H', H' D = none → FpOk X pins H' D)
    (hcall : ∀ i v, vs[i]? = some v → ∀ H1 s1, Inv X pins σ H1 s1 → (∀ a o, H a = some o → H1 a = some o) →
      wpAny (model X.prog X.w) A (call (.ref f) [v]) (fun u s2 => ∃ t H2, u = .ref t ∧ Inv X pins σ H2 s2 ∧ (∀ a o, H1 a = some o → H2 a = some o) ∧ H2 t = some (.tup [.int (at2 ps i).1, .int (at2 ps i).2]) ∧ KeepU X H1 H2 s1 s2) (fun _ _ => False) s1)
    (h : ∀ out H' s' c, Srt vs ps out → Inv X pins σ H' s' → (∀ a o, H a = some o → H' a = some o) → s'.heap.get? D = some (seqObj "list" out.toArray c) → H' D = none → Pf (.done (.ret .none)) s') :
    wpAny (model X.prog X.w) A (ksk_tree D (.ref f) false) Pf E s := by
  have hD : D < s.heap.objs.size := Heap.lt_size ho
  have s1 := Heap.SameBut.update s.heap D (Obj.mapSeq fun _ => (#[] : Array Value))
  obtain ⟨e1, ho1⟩ : ∃ e1, (s.heap.update D (Obj.mapSeq fun _ => (#[] : Array Value))).get? D = some (seqObj "list" #[] e1) := ⟨_, get?_update_seq ho fun _ => #[]⟩
  have hsz1 : (s.heap.update D (Obj.mapSeq fun _ => (#[] : Array Value))).objs.size = s.heap.objs.size := Heap.size_update _ _ _
  unfold ksk_tree
  refine wpAny_bind (listItems_at ho rfl ?_)
  refine wpAny_bind (listUpdate_at ho rfl ?_ (by rw [List.size_toArray, sizeLine_eq]; omega) (Nat.zero_le _))
  generalize hh1 : s.heap.update D (Obj.mapSeq fun _ => (#[] : Array Value)) = h1 at s1 ho1 hsz1
  refine wpAny_bind (seqEpoch_at ho1 rfl ?_)
  refine wpAny_bind (wpAny_newTuple ?_ (by show vs.length ≤ _; rw [sizeLine_eq]; omega))
  refine wpAny_bind (wpAny_newList ?_ (Nat.zero_le _))
  refine wpAny_holding ?_
  show wpAny (model X.prog X.w) A (ksk_rest D (.ref f) false vs.toArray e1 (.ref (h1.push (seqObj "tuple" vs.toArray 0)).objs.size)) Pf E { s with heap := (h1.push (seqObj "tuple" vs.toArray 0)).push (seqObj "list" #[] 0) }
  have kS0 : (h1.push (seqObj "tuple" vs.toArray 0)).objs.size = s.heap.objs.size + 1 := by rw [size_push', hsz1]
  have eK0 : ((h1.push (seqObj "tuple" vs.toArray 0)).push (seqObj "list" #[] 0)).get? (h1.push (seqObj "tuple" vs.toArray 0)).objs.size = some (seqObj "list" #[] 0) := Heap.get?_push_size _ rfl
  have eD0 : ((h1.push (seqObj "tuple" vs.toArray 0)).push (seqObj "list" #[] 0)).get? D = some (seqObj "list" #[] e1) := Heap.get?_push_of_some _ (Heap.get?_push_of_some _ ho1)
  have k1 : ∀ b o, b ∉ [D] → s.heap.get? b = some o → ((h1.push (seqObj "tuple" vs.toArray 0)).push (seqObj "list" #[] 0)).get? b = some o := fun b o hb e =>
    Heap.get?_push_of_some _ (Heap.get?_push_of_some _ ((s1.2 b (by simpa using hb)).trans e))
  have I0 : Inv X pins σ H { s with heap := (h1.push (seqObj "tuple" vs.toArray 0)).push (seqObj "list" #[] 0), toks := s.toks } := I.turnL k1 fun b hb => by rw [List.mem_singleton.mp hb]; exact fpD H fD
  generalize (h1.push (seqObj "tuple" vs.toArray 0)).push (seqObj "list" #[] 0) = h2 at eK0 eD0 k1 I0
  generalize hkS : (h1.push (seqObj "tuple" vs.toArray 0)).objs.size = kS at kS0 eK0
  have lK : s.heap.objs.size ≤ kS := by rw [kS0]; exact Nat.le_succ _
  have fK : ∀ H', H' kS = none → FpOk X pins H' kS := fun H' hn => I.fpOk lK hn
  have nK : (kS : Addr) ∉ frs X.stack := fun z => by
    rcases List.mem_cons.mp (I.stkSub _ z) with q | q
    · exact (I.fpOk (H' := fun _ => none) lK rfl).2.1 q
    · exact (I.fpOk (H' := fun _ => none) lK rfl).2.2.1 q
  have hne : D ≠ kS := Nat.ne_of_lt (Nat.lt_of_lt_of_le hD lK)
  have hK0 : H kS = none := I.hok.fresh lK
  unfold ksk_rest
  refine wpAny_bind (wpAny_rule ?_)
  rw [List.forIn_toArray]
  refine wpAny_bind (keys_loop (s := { s with heap := h2 }) hlen h64 nD nK hne fK hcall ⟨H, [], [], 0, I0, fun _ _ q => q, eD0, eK0, fD, hK0, .nil, .nil⟩ fun s' hI => ?_)
  obtain ⟨H1, ks, xs, e, I1, st, eD, eK, fD1, fK1, rv, pr⟩ := hI.ex
  rw [hlen, List.take_length] at pr
  have lks : ks.length = vs.length := by rw [← rv.length, pr.len, hlen]
  refine wpAny_bind (listItems_at eK rfl ?_)
  unfold ksk_end
  dsimp only
  rw [if_neg (by decide)]
  have P : Prs s'.heap ks ps := pr.prs I1 rv
  have tail : ∀ (st' : SortSt) (out : List Value), out.length ≤ 64 → Srt vs ps out → failedOf st' = none → (arrOf st').map (·.2) = out.toArray → wpAny (model X.prog X.w) A (ksk_tail D false e1 (.ref kS) st') Pf E s' := by
    intro st' out lo so hf hout
    unfold ksk_tail
    dsimp only
    rw [hout, hf]
    refine wpAny_bind (listUpdate_at eK rfl ?_ (by rw [List.size_toArray, lks, sizeLine_eq]; omega) (Nat.zero_le _))
    have s3 := Heap.SameBut.update s'.heap kS (Obj.mapSeq fun _ => (#[] : Array Value))
    have eD3 : (s'.heap.update kS (Obj.mapSeq fun _ => (#[] : Array Value))).get? D = some (seqObj "list" #[] e1) := (s3.2 D hne).trans eD
    have I3 : Inv X pins σ H1 { s' with heap := s'.heap.update kS (Obj.mapSeq fun _ => (#[] : Array Value)), toks := s'.toks } := I1.turnL (ch := [kS]) (fun b o hb q => (s3.2 b (by simpa using hb)).trans q) fun b hb => by rw [List.mem_singleton.mp hb]; exact fK H1 fK1
    generalize s'.heap.update kS (Obj.mapSeq fun _ => (#[] : Array Value)) = h3 at eD3 I3
    refine wpAny_bind (wpAny_letGo ?_)
    refine wpAny_bind (seqEpoch_at eD3 rfl ?_)
    rw [if_neg (by decide)]
    refine wpAny_bind (listUpdate_at eD3 rfl ?_ (Nat.zero_le _) (by rw [List.size_toArray, sizeLine_eq]; omega))
    have s4 := Heap.SameBut.update h3 D (Obj.mapSeq fun _ => out.toArray)
    obtain ⟨c4, eD4⟩ : ∃ c4, (h3.update D (Obj.mapSeq fun _ => out.toArray)).get? D = some (seqObj "list" out.toArray c4) := ⟨_, get?_update_seq eD3 fun _ => out.toArray⟩
    simp only [bne_self_eq_false, Bool.false_eq_true, if_false]
    have I4 := I3.turnL (ch := [D]) (t' := s'.toks) (h' := h3.update D (Obj.mapSeq fun _ => out.toArray)) (fun b o hb q => (s4.2 b (by simpa using hb)).trans q) fun b hb => by rw [List.mem_singleton.mp hb]; exact fpD H1 fD1
    exact wpAny_pure (h out H1 _ c4 so I4 st eD4 fD1)
  by_cases hn2 : vs.toArray.size < 2
  · rw [if_pos hn2, if_pos hn2]
    have hv : vs.length < 2 := by simpa using hn2
    refine wpAny_bind (wpAny_pure ?_)
    refine wpAny_bind (wpAny_pure ?_)
    dsimp only
    have so : Srt vs ps vs := by
      match vs, ps, hv, hlen with
      | [], [], _, _ => exact ⟨[], rfl, rfl, fun _ h => by simp at h, .refl _, .nil⟩
      | [v], [p], _, _ => exact ⟨[0], rfl, rfl, fun i h => by simp at h; subst h; simp, .refl _, by simp⟩
      | _ :: _ :: _, _, hv, _ => simp only [List.length_cons] at hv; omega
    refine tail _ vs (by omega) so rfl ?_
    rw [if_neg (by decide)]
    show (ks.toArray.zip vs.toArray).map (·.2) = vs.toArray
    apply Array.toList_inj.mp
    rw [Array.toList_map, Array.toList_zip]
    exact List.map_snd_zip (Nat.le_of_eq lks.symm)
  · rw [if_neg hn2, if_neg hn2, if_neg (by decide)]
    have h2 : 2 ≤ vs.length := by simp at hn2; omega
    have ask := pairs_sort (prog := X.prog) (w := X.w) (A := A) (s := s') (by rw [lks]; exact h2) P
      (R := fun p s'' => Srt vs ps (p.toList.map fun i => vs.getD i Value.none) ∧ s'' = s') (fun ix a b c d => ⟨⟨ix, by simp, a, b, c, d⟩, rfl⟩)
    refine wpAny_bind (wpAny_mono ask (fun κ s0 hk => ?_) fun _ _ x => x.elim)
    rw [lks] at hk
    refine wpAny_bind (wpAny_mono (kat_run (Q := fun st' s'' => ∃ p : Array Nat, p.size = vs.length ∧ arrOf st' = p.map (kas_item (ks.toArray.zip vs.toArray)) ∧ failedOf st' = none ∧ Srt vs ps (p.toList.map fun i => vs.getD i Value.none) ∧ s'' = s')
      lks h2 h64 (fun p' st' s'' a1 a2 a3 a4 => ⟨p', a1, a2, a3, a4⟩) hk) ?_ fun _ _ e => e)
    rintro ⟨⟨⟩, st'⟩ s'' ⟨p, hp, har, hf, so, rfl⟩
    dsimp only
    exact tail st' _ (by rw [so.len, ← hlen]; omega) so hf (kat_snds lks har)
end
end L2
set_option Elab.async false
set_option linter.all false
set_option maxRecDepth 100000
/-! ### sorted(.., key=lambda ..) -/
namespace L2
open PySem PySem.W PyProof.Rows SortA
section
variable {X : Cx} {pins : List (Addr × Obj)} {σ : St} {H : Hp} {s : Shared}
theorem Inv.adopt {D : Addr} {o : HO} (I : Inv X pins σ H s) (fp : FpOk X pins H D) (new : ObjOk X.prog X.w (upd H D o) s.heap D o) : Inv X pins σ (upd H D o) s := by
  have nD := fp.1
  have st : ∀ b u, H b = some u → upd H D o b = some u := fun b u e => by rw [upd_ne (ne_of_none e nD)]; exact e
  have := I.step (g' := s.gens) (t' := s.toks) (d' := s.drawn) (h' := s.heap) (H' := upd H D o) (ch := [D]) (fun b hb => by rw [List.mem_singleton.mp hb]; exact ⟨fp.2.2.2.1, fp.2.1, fp.2.2.2.2.1, fp.2.2.2.2.2⟩) (fun b u _ _ _ e _ => e) (fun b u _ _ _ e _ => ⟨u.slots, e⟩) (fun b u hb e n => by rw [upd_ne (by simpa using hb)]; exact n)
    (fun b u _ e => ⟨u, e⟩) (fun b xs e => st b _ e) (fun b u xs e => st b _ e) (fun b ps e => ⟨#[], by rw [st b _ e]; simp⟩) (fun m hm => hm) (fun b u e => ?_) I.bare
  · exact this
  · by_cases hb : b = D
    · subst hb; rw [upd_same] at e; cases e; exact new
    · rw [upd_ne hb] at e
      exact (I.hok b u e).stay (fun c v _ q => q) (fun c q => st c _ q) fun c xs q => st c _ q
theorem sorted_keyed {A : Around} {E : Value → Shared → Prop} {l f : Addr} {vs : List Value} {ps : List (Int × Int)} {Q : Value → Shared → Prop} (I : Inv X pins σ H s) (hl : s.heap.IsList l vs.toArray) (hlen : vs.length = ps.length) (h64 : vs.length < 64)
    (hcall : ∀ i v, vs[i]? = some v → ∀ H1 s1, Inv X pins σ H1 s1 → (∀ a o, H a = some o → H1 a = some o) →
      wpAny (model X.prog X.w) A.in1.in1 (call (.ref f) [v]) (fun u s2 => ∃ t H2, u = .ref t ∧ Inv X pins σ H2 s2 ∧ (∀ a o, H1 a = some o → H2 a = some o) ∧ H2 t = some (.tup [.int (at2 ps i).1, .int (at2 ps i).2]) ∧ KeepU X H1 H2 s1 s2) (fun _ _ => False) s1)
    (h : ∀ D out H' s' c, s.heap.objs.size ≤ D → Srt vs ps out → Inv X pins σ H' s' → (∀ a o, H a = some o → H' a = some o) → s'.heap.get? D = some (seqObj "list" out.toArray c) → H' D = none → FpOk X pins H' D → Q (.ref D) s') :
    wpAny (model X.prog X.w) A (call (.builtin "sorted") [.ref l] [("key", .ref f)]) Q E s := by
  refine call_function_entry_kw kind_sorted plain_sorted entry_sorted (ksk_s1 _ _) ?_
  unfold Builtin.«sorted»
  refine wpAny_bind (m := checkCount "sorted" 1 1 _) (wpAny_pure ?_)
  refine wpAny_bind (collect_list hl ?_ (by rw [sizeLine_eq]; omega))
  refine wpAny_bind (wpAny_newList ?_ (by rw [sizeLine_eq]; omega))
  have hsz : ((s.heap.push (seqObj "list" #[] 0)).update s.heap.objs.size (Obj.mapSeq (· ++ vs.toArray))).objs.size = s.heap.objs.size + 1 := by
    rw [Heap.size_update, size_push']
  have hoL : (((s.heap.push (seqObj "list" #[] 0)).update s.heap.objs.size (Obj.mapSeq (· ++ vs.toArray))).push (seqObj "list" vs.toArray 0)).get? (s.heap.objs.size + 1) = some (seqObj "list" vs.toArray 0) := by
    rw [← hsz]; exact Heap.get?_push_size _ rfl
  have keep : ∀ b o, s.heap.get? b = some o → (((s.heap.push (seqObj "list" #[] 0)).update s.heap.objs.size (Obj.mapSeq (· ++ vs.toArray))).push (seqObj "list" vs.toArray 0)).get? b = some o := fun b o q => by
    have hlt : b < s.heap.objs.size := Heap.lt_size q
    rw [Heap.get?_push_ne _ _ _ (by rw [hsz]; exact Nat.ne_of_lt (Nat.lt_succ_of_lt hlt)), Heap.get?_update_ne _ _ _ _ (Nat.ne_of_lt hlt), Heap.get?_push_ne _ _ _ (Nat.ne_of_lt hlt)]
    exact q
  show wpAny _ _ _ _ _ { s with heap := ((s.heap.push (seqObj "list" #[] 0)).update s.heap.objs.size (Obj.mapSeq (· ++ vs.toArray))).push (seqObj "list" vs.toArray 0) }
  rw [hsz]
  have I1 : Inv X pins σ H { s with heap := ((s.heap.push (seqObj "list" #[] 0)).update s.heap.objs.size (Obj.mapSeq (· ++ vs.toArray))).push (seqObj "list" vs.toArray 0), toks := s.toks } := I.kept keep
  have lD : s.heap.objs.size ≤ s.heap.objs.size + 1 := Nat.le_succ _
  refine wpAny_bind (wpAny_holding (wpAny_call_entry_kw slot_list_sort ⟨_, hoL, rfl⟩ entry_list_sort ?body (ksk_l1 _ _)))
  case body =>
    rw [ksk_t1]
    refine tree_keyed (s := { s with heap := ((s.heap.push (seqObj "list" #[] 0)).update s.heap.objs.size (Obj.mapSeq (· ++ vs.toArray))).push (seqObj "list" vs.toArray 0) }) I1 hoL hlen h64 (I.hok.fresh lD) (fun z => ?_) (fun H' hn => I.fpOk lD hn) hcall fun out H' s' c so I' st e fD => ?_
    · rcases List.mem_cons.mp (I.stkSub _ z) with q | q
      · exact (I.fpOk (H' := fun _ => none) lD rfl).2.1 q
      · exact (I.fpOk (H' := fun _ => none) lD rfl).2.2.1 q
    · exact ⟨_, rfl, wpAny_pure ⟨_, rfl, h _ out H' s' c lD so I' st e fD (I.fpOk lD fD)⟩⟩
end
end L2
set_option Elab.async false
set_option linter.all false
set_option maxRecDepth 100000
/-! ### sorted(.., key=lambda x: (y[x], -x)), the rule -/
namespace L2
open PySem PySem.Spec PySem.W PyProof.Rows SortA
section
variable {X : Cx} {a : Expr} {p pos kpos lpos p1 p2 p3 p4 p5 p6 : Pos} {n1 : Nat} {x y : Str} {params : Arguments} {scope : Scope}
/-- (y[x], -x) -/
abbrev pairE (x y : Str) (n1 : Nat) (p1 p2 p3 p4 p5 p6 : Pos) : Expr := .Tuple [.Subscript (.Name y p1) (.Name x p2) p3, .UnaryOp .USub (.Name x p4) p5] n1 p6
def keyOf (zs : List Int) (n : Int) : Int × Int := (zs.getD n.toNat 0, -n)
/-- one key -/
theorem lam_key {P : Program} {w : World} {K : PySem.W.Frag} {mg : Str → Option Value} {base : Heap} {f c cl l : Addr} {A : Around} {outer : List Env} {s : Shared} {H : Hp} {u ul : Value} {k : Nat} {n : Int} {zs : List Int}
    (S : LamScope x y params scope) (hr : Room k A) (e0 : Env0 P w K mg base A outer s H) (hf : H f = some (lamO f c tabQ params (pairE x y n1 p1 p2 p3 p4 p5 p6) scope [(y, cl)])) (hc : H c = some (codeO c)) (hcl : s.heap.IsCell cl (some ul)) (fcl : H cl = none) (rv : RelV (.int n) u) (rl : RelV (.ref l) ul)
    (hb : ∀ pm ctv, bindArgs (PySem.W.kla_fn "<lambda>" tabQ params (pairE x y n1 p1 p2 p3 p4 p5 p6) scope [(y, cl)] pm (.ref c) ctv) ⟨[u], []⟩ = pure [(x, u)])
    (hdx : (x == ("__debug__" : Str)) = false) (hdy : (y == ("__debug__" : Str)) = false) (hcx : (x == ("__classdict__" : Str)) = false) (hcy : (y == ("__classdict__" : Str)) = false)
    (hl : SqL K H l (zs.map V.int)) (h0 : 0 ≤ n) (h1 : n < zs.length) :
    codeAny (model P w) A (.call (.ref f) ⟨[u], []⟩) (CR CX0 outer P w H s (fun v H' => ∃ t, v = .ref t ∧ H t = none ∧ H' = upd H t (.tup [.int (keyOf zs n).1, .int (keyOf zs n).2])) E0) s := by
  obtain ⟨j, rfl⟩ := Int.eq_ofNat_of_zero_le h0
  have hj : j < zs.length := by omega
  refine lam_run S hr e0 hf hc hcl fcl rv rl hb (t := _) (pe_tup (pa_cons (pe_ix ix_list (pe_var (i := 1) rfl (Or.inr (Or.inr S.py)) hdy hcy) (pe_var (i := 0) rfl (Or.inl S.px) hdx hcx) (fun _ _ => rfl)) (pa_cons (pe_un un_neg (pe_var (i := 0) rfl (Or.inl S.px) hdx hcx)) pa_nil))) ?_
  refine ⟨_, rfl, _, rfl, l, _, _, .int (zs.getD j 0), rfl, rfl, hl, atI_nat ?_, _, rfl, _, rfl, (by show 2 ≤ sizeLine; decide), fun t ht => ⟨t, rfl, ht, ?_⟩⟩
  · rw [List.getElem?_map, List.getElem?_eq_getElem hj, List.getD_eq_getElem?_getD, List.getElem?_eq_getElem hj]; rfl
  · simp [keyOf]
/-- what the sort leaves -/
def SrtI (ns zs ms : List Int) : Prop := ms.Perm ns ∧ ms.Pairwise fun m k => lx (keyOf zs k) (keyOf zs m) = false
theorem srt_ints {ns zs : List Int} {vs out : List Value} (r : Vals (ns.map V.int) vs) (h : Srt vs (ns.map (keyOf zs)) out) : ∃ ms, SrtI ns zs ms ∧ Vals (ms.map V.int) out := by
  obtain ⟨ix, rfl, hl, hb, hp, hw⟩ := h
  have at_ : ∀ i ∈ ix, at2 (ns.map (keyOf zs)) i = keyOf zs (ns.getD i 0) := fun i hi => by
    have := hb i hi
    rw [List.length_map] at this
    unfold at2
    rw [List.getD_eq_getElem?_getD, List.getElem?_map, List.getElem?_eq_getElem this, List.getD_eq_getElem?_getD, List.getElem?_eq_getElem this]; rfl
  have em : ix.map (at2 (ns.map (keyOf zs))) = (ix.map fun i => ns.getD i 0).map (keyOf zs) := by
    rw [List.map_map]
    exact List.map_congr_left at_
  rw [em] at hp hw
  have inv : ∀ l : List Int, (l.map (keyOf zs)).map (fun q => -q.2) = l := fun l => by
    rw [List.map_map]
    have : ((fun q : Int × Int => -q.2) ∘ keyOf zs) = id := by funext n; simp [keyOf]
    rw [this, List.map_id]
  refine ⟨ix.map fun i => ns.getD i 0, ⟨?_, List.pairwise_map.mp hw⟩, ?_⟩
  · have := hp.map (fun q => -q.2)
    rwa [inv, inv] at this
  · clear em hp hw hl
    induction ix with
    | nil => exact .nil
    | cons i ix ih =>
      refine .cons ?_ (ih (fun k hk => hb k (List.mem_cons_of_mem _ hk)) fun k hk => at_ k (List.mem_cons_of_mem _ hk))
      have hi := hb i List.mem_cons_self
      rw [List.length_map] at hi
      refine vals_get r i _ ?_
      show _ = some (V.int (ns.getD i 0))
      rw [List.getElem?_map, List.getElem?_eq_getElem hi, List.getD_eq_getElem?_getD, List.getElem?_eq_getElem hi]; rfl
theorem sq_keep {K : PySem.W.Frag} {H H' : Hp} {a : Addr} {xs : List V} (h : SqL K H a xs) (k : ∀ a o, (∀ ps, o ≠ .tbl ps) → H a = some o → H' a = some o) : SqL K H' a xs := by
  rcases h with (h | ⟨o, h⟩) | h
  · exact .inl (.inl (k _ _ (fun _ z => by cases z) h))
  · exact .inl (.inr ⟨o, k _ _ (fun _ z => by cases z) h⟩)
  · exact .inr h
theorem pe_sortedK {ta : TE} {j k : Nat} {c : Addr} (S : LamScope x y params scope) (hr : Room (k + 2) X.A) (hg : Gl X "sorted") (hm : X.mg "sorted" = none) (hN : X.N[j]? = some y) (hy : X.env.scope.names.lookup y = some .cell)
    (hcl : ∀ cl, X.env.cells.lookup y = some cl → closureFor scope X.env = pure [(y, cl)]) (hgl : X.env.globals = mainGlobals) (hco : X.env.code = .ref c) (hhd : PySem.W.CodeHd X.base c tabP) (hbi : X.base.BuiltinsAt X.mg tabP) (hdf : defaultsOf params X.env = ([], [])) (hq : X.env.qual ++ ("<lambda>" : Str) = tabQ) (hne : mainGlobals ≠ tabP)
    (hb : ∀ u cl c' pm ctv, bindArgs (PySem.W.kla_fn "<lambda>" tabQ params (pairE x y n1 p1 p2 p3 p4 p5 p6) scope [(y, cl)] pm (.ref c') ctv) ⟨[u], []⟩ = pure [(x, u)])
    (hdx : (x == ("__debug__" : Str)) = false) (hdy : (y == ("__debug__" : Str)) = false) (hcx : (x == ("__classdict__" : Str)) = false) (hcy : (y == ("__classdict__" : Str)) = false) (ha : PE X a ta)
    (he : starEach [a] X.env = (false, eval a X.env) :: starEach [] X.env := by rfl) (he2 : backTo pos (starEach [a] X.env) = (false, eval a X.env) :: backTo pos (starEach [] X.env) := by rfl) (hpl : ((backTo pos (starEach [a] X.env)).any fun x => x.1) = false := by rfl) :
    PE X (.Call (.Name "sorted" p) [a] [⟨some "key", .Lambda params (pairE x y n1 p1 p2 p3 p4 p5 p6) scope lpos, kpos⟩] pos)
      (fun σ H Q => ta σ H fun v H1 => ∃ l ns lp zs, v = .ref l ∧ SqL X.K H1 l (ns.map V.int) ∧ σ[j]? = some (some (.ref lp)) ∧ SqL X.K H1 lp (zs.map V.int) ∧ ns.length < 64 ∧ (∀ n ∈ ns, 0 ≤ n ∧ n < zs.length) ∧ TabAt H1 ∧
        ∀ D H' ms, H1 D = none → H' D = some (.lst (ms.map V.int)) → SrtI ns zs ms → TabAt H' → (∀ a o, a ≠ tabP → H1 a = some o → H' a = some o) → Q (.ref D) H') := by
  intro pins s σ H Q I h
  refine wpAny_Call_Name_kw (ld_blt I hg hm boot_sorted ?_)
  let Pd : V → Hp → Prop := fun v H1 => ∃ l ns lp zs, v = .ref l ∧ SqL X.K H1 l (ns.map V.int) ∧ σ[j]? = some (some (.ref lp)) ∧ SqL X.K H1 lp (zs.map V.int) ∧ ns.length < 64 ∧ (∀ n ∈ ns, 0 ≤ n ∧ n < zs.length) ∧ TabAt H1 ∧
        ∀ D H' ms, H1 D = none → H' D = some (.lst (ms.map V.int)) → SrtI ns zs ms → TabAt H' → (∀ a o, a ≠ tabP → H1 a = some o → H' a = some o) → Q (.ref D) H'
  refine callWith_kw (thn (pa_cons ha pa_nil he pos pins s σ H (fun vs H1 => match vs with | [v] => Pd v H1 | _ => False) I h) fun us s1 ⟨vs, H1, I1, r1, q1⟩ => ?_) he2 hpl
  match vs, r1, q1 with
  | [v], r1, q1 =>
    obtain ⟨u, rfl, ru⟩ := vals1 r1
    obtain ⟨l, ns, lp, zs, rfl, hS, hσ, hZ, h64, hin, T, q⟩ := (show Pd v H1 from q1)
    obtain ⟨m, hn, hl⟩ := id I1.loc
    obtain ⟨ul, rl, lk⟩ := hl j y _ hN hσ (.inr (.inl hy))
    obtain ⟨cl, ecl, hcell⟩ : ∃ cl, X.env.cells.lookup y = some cl ∧ s1.heap.IsCell cl (some ul) := by
      rcases lk with ⟨z, _⟩ | ⟨_, cl, z1, z2⟩
      · have z : X.env.scope.names.lookup y = some .local := z
        rw [hy] at z; cases z
      · exact ⟨cl, z1, z2⟩
    show wpAny _ _ (evalAll ((do let v ← eval (.Lambda params (pairE x y n1 p1 p2 p3 p4 p5 p6) scope lpos) X.env; standAt pos; pure v) :: [])) _ _ s1
    refine wpAny_evalAll_cons (wpAny_bind (lam_make I1 (hcl cl ecl) hgl hco hhd hbi hdf hq hne T fun f c' H2 s2 I2 T2 st2 tb2 hf hlam hcode => wpAny_bind (wpAny_standAt (wpAny_pure (wpAny_evalAll_nil ?_)))))
    cases ru
    show wpAny _ _ (call (.builtin "sorted") [.ref l] [("key", .ref f)]) _ _ s2
    have st3 : ∀ a o, (∀ ps, o ≠ .tbl ps) → H1 a = some o → H2 a = some o := fun a o no e => st2 a o (fun z => by
      obtain ⟨ps, t1, _⟩ := T.ex
      rw [z, t1] at e; cases e; exact no _ rfl) e
    have S2 := sq_keep hS st3
    have Z2 := sq_keep hZ st3
    obtain ⟨its, r, ht, hz⟩ := I2.list S2
    have lenI : its.length = ns.length := by rw [← r.length, List.length_map]
    refine sorted_keyed (ps := ns.map (keyOf zs)) I2 ht.isList (by rw [List.length_map]; exact lenI) (by omega) (fun i v hv H3 s3 I3 st3 => ?_) fun D out H' s' c0 lD so I' st e fD fp => ?_
    · have hi : i < ns.length := by rw [← lenI]; exact (List.getElem?_eq_some_iff.mp hv).1
      have rv : RelV (.int ns[i]) v := by
        have := vals_get r i (.int ns[i]) (by rw [List.getElem?_map, List.getElem?_eq_getElem hi]; rfl)
        rwa [List.getD_eq_getElem?_getD, hv] at this
      obtain ⟨m3, hn3, hl3⟩ := id I3.loc
      obtain ⟨ul3, rl3, lk3⟩ := hl3 j y _ hN hσ (.inr (.inl hy))
      have cell3 : s3.heap.IsCell cl (some ul3) := by
        rcases lk3 with ⟨z, _⟩ | ⟨_, cl3, z1, z2⟩
        · have z : X.env.scope.names.lookup y = some .local := z
          rw [hy] at z; cases z
        · rw [ecl] at z1; cases z1; exact z2
      have hb3 := hin ns[i] (List.getElem_mem hi)
      have ek : at2 (ns.map (keyOf zs)) i = keyOf zs ns[i] := by
        unfold at2
        rw [List.getD_eq_getElem?_getD, List.getElem?_map, List.getElem?_eq_getElem hi]; rfl
      rw [ek]
      have Z3 := sq_keep Z2 fun a o _ e => st3 a o e
      refine wpAny_call (codeAny_mono (lam_key S hr.in1.in1 I3.env0.in1.in1 (st3 _ _ hlam) (st3 _ _ hcode) cell3 (I3.freeC y cl ecl) rv rl3 (fun pm ctv => hb _ _ _ pm ctv) hdx hdy hcx hcy Z3 hb3.1 hb3.2) fun rr s4 hq4 => ?_)
      cases rr with
      | error e => exact False.elim hq4
      | ok fl =>
        cases fl with
        | next => exact False.elim hq4
        | brk => exact False.elim hq4
        | cont => exact False.elim hq4
        | ret u4 =>
          obtain ⟨v4, H4, os, bare, un, hok, r4, t, rfl, ht4, eH4⟩ := hq4
          cases r4
          obtain ⟨hh, g, d, tk, os'⟩ := s4
          obtain rfl : os' = s3.os := os
          refine ⟨t, H4, rfl, I3.call (h' := hh) (g' := g) (d' := d) (t' := tk) (ch := []) un hok bare (fun b z => absurd z (by simp)), fun a o e => ?_, by rw [eH4]; exact upd_same, fun b o e n nf => ⟨un.keep b o e n nf (by simp), un.free b o e n (by simp)⟩⟩
          rw [eH4, upd_ne (ne_of_none e ht4)]; exact e
    · obtain ⟨ms, sm, rm⟩ := srt_ints r so
      have nD : ∀ a o, H' a = some o → a ≠ D := fun a o e z => by rw [z, fD] at e; cases e
      have h2D : H2 D = none := I2.hok.fresh lD
      have stD : ∀ a o, H2 a = some o → upd H' D (.lst (ms.map V.int)) a = some o := fun a o e => by rw [upd_ne (nD a o (st a o e))]; exact st a o e
      refine ⟨.ref D, upd H' D (.lst (ms.map V.int)), I'.adopt fp ⟨?_, out, c0, rm, e⟩, rfl, q D _ ms ?_ upd_same sm (T2.same fun a o _ e => stD a o e) fun a o no e => stD a o (st2 a o no e)⟩
      · rw [List.length_map, sm.1.length_eq, sizeLine_eq]; omega
      · cases z : H1 D with
        | none => rfl
        | some o =>
          by_cases nt : ∀ ps, o ≠ .tbl ps
          · rw [st3 D o nt z] at h2D; cases h2D
          · simp only [Classical.not_forall, Classical.not_not] at nt
            obtain ⟨qs, rfl⟩ := nt
            obtain ⟨qs', w'⟩ := tb2 D qs z
            rw [w'] at h2D; cases h2D
end
end L2
set_option Elab.async false
set_option linter.all false
set_option maxRecDepth 100000
/-! The data layer: sorted(e, key=lambda x: (y[x], -x)). -/
namespace L2
open PySem PySem.Spec PySem.W PyProof.Rows SortA
theorem AVs.ints {H : Hp} : ∀ {xs : List V} {ns : List Int}, AVs H xs (ns.map .int) → xs = ns.map V.int
  | _, [], .nil => rfl
  | _, n :: ns, .cons h hs => by rw [List.map_cons, AVs.ints hs, h.int_inv]
section
variable {X : Cx} {α : Ev} {a : Expr} {p pos kpos lpos p1 p2 p3 p4 p5 p6 : Pos} {n1 : Nat} {x y : Str} {params : Arguments} {scope : Scope}
/-- what the def's top says of its lambda -/
structure LamTop (X : Cx) (c : Addr) (x y : Str) (n1 : Nat) (p1 p2 p3 p4 p5 p6 : Pos) (params : Arguments) (scope : Scope) : Prop where
  S : LamScope x y params scope
  hy : X.env.scope.names.lookup y = some .cell
  hcl : ∀ cl, X.env.cells.lookup y = some cl → closureFor scope X.env = pure [(y, cl)]
  hgl : X.env.globals = mainGlobals
  hco : X.env.code = .ref c
  hhd : PySem.W.CodeHd X.base c tabP
  hbi : X.base.BuiltinsAt X.mg tabP
  hdf : defaultsOf params X.env = ([], [])
  hq : X.env.qual ++ ("<lambda>" : Str) = tabQ
  hne : mainGlobals ≠ tabP
  hb : ∀ u cl c' pm ctv, bindArgs (PySem.W.kla_fn "<lambda>" tabQ params (pairE x y n1 p1 p2 p3 p4 p5 p6) scope [(y, cl)] pm (.ref c') ctv) ⟨[u], []⟩ = pure [(x, u)]
  hdx : (x == ("__debug__" : Str)) = false
  hdy : (y == ("__debug__" : Str)) = false
  hcx : (x == ("__classdict__" : Str)) = false
  hcy : (y == ("__classdict__" : Str)) = false
theorem el_sortedK {j k : Nat} {c : Addr} {Q : List PyData → Prop} (T : LamTop X c x y n1 p1 p2 p3 p4 p5 p6 params scope) (hr : Room (k + 2) X.A) (hg : Gl X "sorted") (hm : X.mg "sorted" = none) (hN : X.N[j]? = some y)
    (h : EvD X α a fun d => ∃ ns zs : List Int, d = .list (ns.map .int) ∧ α[j]? = some (some (.dat (.list (zs.map .int)))) ∧ ns.length < 64 ∧ (∀ n ∈ ns, 0 ≤ n ∧ n < zs.length) ∧ ∀ ms, SrtI ns zs ms → Q (ms.map .int))
    (he : starEach [a] X.env = (false, eval a X.env) :: starEach [] X.env := by rfl) (he2 : backTo pos (starEach [a] X.env) = (false, eval a X.env) :: backTo pos (starEach [] X.env) := by rfl) (hpl : ((backTo pos (starEach [a] X.env)).any fun x => x.1) = false := by rfl) :
    EvL X α (.Call (.Name "sorted" p) [a] [⟨some "key", .Lambda params (pairE x y n1 p1 p2 p3 p4 p5 p6) scope lpos, kpos⟩] pos) Q := fun F σ H R m k => by
  refine ⟨_, pe_sortedK (j := j) T.S hr hg hm hN T.hy T.hcl T.hgl T.hco T.hhd T.hbi T.hdf T.hq T.hne T.hb T.hdx T.hdy T.hcx T.hcy pe_eAny he he2 hpl, ?_⟩
  refine h F σ H _ m fun d vx H1 q1 t1 k1 r1 => ?_
  have m1 := m.kz k1 t1
  obtain ⟨ns, zs, rfl, hz, h64, hin, q⟩ := q1
  obtain ⟨l, xs, rfl, g1, g2⟩ := r1.lst_inv
  obtain ⟨v, s1, s2⟩ := m1.dat j _ hz
  obtain ⟨lp, ys, rfl, g3, g4⟩ := s2.lst_inv
  cases g2.ints; cases g4.ints
  refine ⟨l, ns, lp, zs, rfl, SqL.of (sub_some g1).2, s1, SqL.of (sub_some g3).2, h64, hin, t1.tab, fun D H' ms hD hD' sm tb kp => ?_⟩
  have tl : ∀ a xs, H1 a = some (.lst xs) → H' a = some (.lst xs) := fun a xs e => kp a _ (fun z => by
    obtain ⟨ps, e1, _⟩ := t1.tab.ex
    rw [z, e1] at e; cases e) e
  have kz : Kz F H1 H' := fun x o e n => by
    cases q : F.tp with
    | none => exact absurd q t1.has
    | some w =>
      obtain ⟨t, b, c⟩ := w
      exact kp x o (n t b c q).2.2 e
  refine k _ _ H' (q ms sm) ⟨t1.has, fun t b c e => ⟨⟨?_, tb⟩, (t1 t b c e).2⟩⟩ (k1.trans kz) ⟨D, _, rfl, ?_, hD', avs_ints _⟩
  · obtain ⟨n, bs, cs, n1, e1, e2, e3, l1, l2⟩ := (t1 t b c e).1.ex
    exact ⟨n, bs, cs, n1, tl _ _ e1, tl _ _ e2, tl _ _ e3, l1, l2⟩
  · cases z : H D with
    | none => rfl
    | some o => rw [k1 D o z (m.tp.nt (ow0 (m1.fresh hD)))] at hD; cases hD
end
end L2
set_option Elab.async false
set_option linter.all false
set_option maxRecDepth 100000
/-! The data layer: a def whose code is known; list.count of a truth. -/
namespace L2
open PySem PySem.Spec PySem.W PyProof.Rows
section
variable {P : Program} {w : World} {K : PySem.W.Frag} {mg : Str → Option Value} {base : Heap}
theorem fnAc {x qual : Str} {st : Stmt} {f : Addr} {N ps : List Str} {k : Nat} {φ : List A → (A → Prop) → Prop} {oc : Value} {od an : Option Addr} {osl : Array (Option Value)} {kV doc pm cdv ct : Value}
    (lk : K.lookup f = some ⟨oc, od, .func (PySem.W.fnOf x qual (defArgs st) (defBody st) (defScope st) .none kV doc pm an cdv ct), osl⟩) (hcd : PySem.W.codeIn K cdv qual = true) (S : FnScope N ps (defScope st)) (hlen : ∀ as Q, φ as Q → as.length = ps.length)
    (hbody : ∀ (A' : Around) (outer : List Env) (s : Shared) (H : Hp) (E : XK) (as : List A) (Q : A → Prop), Room k (A'.deeper (envOfC qual (defScope st) s.heap.objs.size f cdv)) → φ as Q →
      SvS (cxOf CX0 P w K mg base N qual (defScope st) f cdv A' outer s H E).nox (as.map some ++ List.replicate (N.length - as.length) none) (defBody st) { nx := fun _ => Q (.dat .none), rt := Q }) : FnOk P w K mg base CX0 (k + 1) f (PySem.W.fnOf x qual (defArgs st) (defBody st) (defScope st) .none kV doc pm an cdv ct) ps (spA φ) := by
  refine fn_of lk hcd S (fun vs H Q E h => ?_) (fun A' outer s H vs Qc E hr h => ?_)
  · obtain ⟨F, as, Q', _, _, _, rv, hφ, _⟩ := h
    rw [rv.length, hlen as _ hφ]
  · obtain ⟨F, as, Q', e, t, o, rv, hφ, kk⟩ := h
    have := hbody A' outer s H E as Q' hr hφ F _ H { nx := fun _ H' => Qc .non H', rt := Qc } (M.start e t o rv) ⟨fun α σ H' m q => ?_, fun a v H' r q => kk a v H' q r, fun _ _ _ _ z => z.elim, fun _ _ _ _ z => z.elim⟩
    · obtain ⟨t, h, q⟩ := this
      exact ⟨t, h.nox, q⟩
    · exact kk _ _ _ q ⟨m.tp, m.keep, .non⟩
end
section
variable {X : Cx} {α : Ev} {Q : PyData → Prop} {a b : Expr} {pos : Pos}
end
end L2
set_option Elab.async false
set_option linter.all false
set_option maxRecDepth 100000
/-! ### what marked leaves -/
namespace L2
open PySem PySem.Spec PyProof.Rows SortA
theorem upI_snoc (c : Int) (n : Nat) : upInts c (n + 1) = upInts c n ++ [c + (n : Nat)] := by
  simp [upInts, List.range_succ]
theorem upI_mem {c m : Int} {n : Nat} : m ∈ upInts c n ↔ c ≤ m ∧ m < c + n := by
  simp only [upInts, List.mem_map, List.mem_range]
  constructor
  · rintro ⟨i, hi, rfl⟩; omega
  · rintro ⟨h1, h2⟩; exact ⟨(m - c).toNat, by omega, by omega⟩
theorem upI_nodup (c : Int) : ∀ n : Nat, (upInts c n).Nodup
  | 0 => by simp [upInts]
  | n + 1 => by
    rw [upI_snoc, List.nodup_append]
    refine ⟨upI_nodup c n, by simp, ?_⟩
    intro a ha b hb
    rw [upI_mem] at ha
    simp at hb
    omega
/-- the marks so far: i prices are seen -/
def MkAt (zs : List Int) (many free i : Nat) (bs : List Bool) : Prop :=
  bs.length = zs.length ∧ (∀ j, i / many * many ≤ j → bs.getD j false = false) ∧ ∀ k, k < i / many → ∃ ms : List Int, SrtI (upInts ((k * many : Nat) : Int) many) zs ms ∧ ∀ q, q < many → bs.getD (ms.getD q 0).toNat false = decide (q < free)
theorem mkAt_zero (zs : List Int) {many : Nat} (free : Nat) : MkAt zs many free 0 (List.replicate zs.length false) := by
  refine ⟨by simp, fun j _ => ?_, fun k hk => ?_⟩
  · rw [List.getD_eq_getElem?_getD, List.getElem?_replicate]
    split <;> rfl
  · rw [Nat.zero_div] at hk; omega
theorem div_more {i many : Nat} (h : 0 < many) (h1 : i % many + 1 < many) : (i + 1) / many = i / many ∧ (i + 1) % many = i % many + 1 := by
  have e := Nat.div_add_mod i many
  have e2 : i + 1 = (i % many + 1) + many * (i / many) := by omega
  constructor
  · rw [e2, Nat.add_mul_div_left _ _ h, Nat.div_eq_of_lt h1, Nat.zero_add]
  · rw [e2, Nat.add_mul_mod_self_left, Nat.mod_eq_of_lt h1]
theorem div_full {i many : Nat} (h : 0 < many) (h1 : i % many + 1 = many) : (i + 1) / many = i / many + 1 ∧ (i + 1) % many = 0 ∧ (i / many + 1) * many = i + 1 := by
  have e := Nat.div_add_mod i many
  have e3 : many * (i / many + 1) = i + 1 := by rw [Nat.mul_add, Nat.mul_one]; omega
  refine ⟨?_, ?_, ?_⟩
  · rw [← e3, Nat.mul_div_cancel_left _ h]
  · rw [← e3, Nat.mul_mod_right]
  · rw [Nat.mul_comm]; exact e3
theorem mkAt_more {zs : List Int} {many free i : Nat} {bs : List Bool} (h : 0 < many) (h1 : i % many + 1 < many) (m : MkAt zs many free i bs) : MkAt zs many free (i + 1) bs := by
  unfold MkAt at *
  rw [(div_more h h1).1]
  exact m
theorem srt_mem {lo : Int} {n : Nat} {zs ms : List Int} (s : SrtI (upInts lo n) zs ms) {q : Nat} (h : q < n) : lo ≤ ms.getD q 0 ∧ ms.getD q 0 < lo + n := by
  have hl : ms.length = n := by rw [s.1.length_eq, upInts_length]
  have : ms.getD q 0 ∈ ms := by
    rw [List.getD_eq_getElem?_getD, List.getElem?_eq_getElem (by omega)]
    exact List.getElem_mem _
  exact upI_mem.mp (s.1.mem_iff.mp this)
theorem mkAt_full {zs ms : List Int} {many free i : Nat} {bs bs' : List Bool} (h : 0 < many) (h1 : i % many + 1 = many) (m : MkAt zs many free i bs) (s : SrtI (upInts ((i / many * many : Nat) : Int) many) zs ms)
    (e0 : bs'.length = bs.length) (e1 : ∀ q, q < many → bs'.getD (ms.getD q 0).toNat false = decide (q < free)) (e2 : ∀ j, (∀ q, q < many → (ms.getD q 0).toNat ≠ j) → bs'.getD j false = bs.getD j false) : MkAt zs many free (i + 1) bs' := by
  obtain ⟨d1, d2, d3⟩ := div_full h h1
  obtain ⟨m1, m2, m3⟩ := m
  refine ⟨by rw [e0, m1], fun j hj => ?_, fun k hk => ?_⟩
  · rw [d1, d3] at hj
    have e := Nat.div_add_mod i many
    have e4 : i / many * many = many * (i / many) := Nat.mul_comm _ _
    rw [e2 j fun q hq => ?_, m2 j (by omega)]
    have := srt_mem s hq
    omega
  · rw [d1] at hk
    by_cases hk2 : k = i / many
    · subst hk2
      exact ⟨ms, s, e1⟩
    · obtain ⟨ms2, s2, f2⟩ := m3 k (by omega)
      refine ⟨ms2, s2, fun q hq => ?_⟩
      rw [e2 _ fun q2 hq2 => ?_, f2 q hq]
      have a1 := srt_mem s hq2
      have a2 := srt_mem s2 hq
      have : (k + 1) * many ≤ i / many * many := Nat.mul_le_mul_right _ (by omega)
      rw [Nat.add_mul, Nat.one_mul] at this
      omega
/-- the marks of one bundle -/
theorem count_lt (f : Nat) : ∀ n, ((List.range n).map fun q => decide (q < f)).count true = min f n
  | 0 => by simp
  | n + 1 => by
    rw [List.range_succ, List.map_append, List.count_append, count_lt f n]
    by_cases h : n < f
    · simp [h]; omega
    · simp [h]; omega
theorem cut_get {α : Type} (l : List α) (d : α) (a n : Nat) (h : a + n ≤ l.length) : (l.drop a).take n = (upInts (a : Int) n).map fun m => l.getD m.toNat d := by
  apply List.ext_getElem
  · simp [upInts_length]; omega
  · intro i h1 h2
    have hi : i < n := by simpa [upInts_length] using h2
    simp only [upInts, List.getElem_take, List.getElem_drop, List.getElem_map, List.getElem_range]
    rw [show ((a : Int) + (i : Nat)).toNat = a + i by omega, List.getD_eq_getElem?_getD, List.getElem?_eq_getElem (by omega)]
    rfl
theorem bundle_count {zs ms : List Int} {lo many free : Nat} {bs : List Bool} (s : SrtI (upInts (lo : Int) many) zs ms) (hb : lo + many ≤ bs.length) (h : ∀ q, q < many → bs.getD (ms.getD q 0).toNat false = decide (q < free)) (hf : free ≤ many) : ((bs.drop lo).take many).count true = free := by
  have hl : ms.length = many := by rw [s.1.length_eq, upInts_length]
  rw [cut_get bs false lo many hb, ← (s.1.map fun m => bs.getD m.toNat false).count_eq]
  have : ms.map (fun m => bs.getD m.toNat false) = (List.range many).map fun q => decide (q < free) := by
    apply List.ext_getElem
    · simp [hl]
    · intro i h1 h2
      have hi : i < many := by simpa using h2
      simp only [List.getElem_map, List.getElem_range]
      have := h i hi
      rw [List.getD_eq_getElem?_getD (l := ms), List.getElem?_eq_getElem (by omega)] at this
      exact this
  rw [this, count_lt]
  omega
theorem srt_at {lo : Int} {n : Nat} {zs ms : List Int} (s : SrtI (upInts lo n) zs ms) {m : Int} (h1 : lo ≤ m) (h2 : m < lo + n) : ∃ q, q < n ∧ ms.getD q 0 = m := by
  have hl : ms.length = n := by rw [s.1.length_eq, upInts_length]
  obtain ⟨q, hq, e⟩ := List.mem_iff_getElem.mp (s.1.mem_iff.mpr (upI_mem.mpr ⟨h1, h2⟩))
  exact ⟨q, by omega, by rw [List.getD_eq_getElem?_getD, List.getElem?_eq_getElem hq]; exact e⟩
end L2
set_option Elab.async false
set_option linter.all false
set_option maxRecDepth 100000
/-! ### zip of three lists, list(zip(..)) -/
namespace L2
open PySem PySem.Spec PyProof.Rows
open PySem (IsZip)
section
variable {prog : Program} {w : World} {A : Around} {E : Value → Shared → Prop} {s : Shared}
theorem wpAny_alive {M : Model} {a : Addr} {Q : Option Obj → Shared → Prop} (h : Q (s.heap.get? a) s) : wpAny M A (loadIfAlive a) Q E s := fun Γ p hΓ => by
  show Sem.wp M Γ (.loadIfAlive a .pure) _ _ p s
  rw [Sem.wp_loadIfAlive]
  exact h
/-- a zip object -/
abbrev zO (f0 f1 : Value) (TI TO : Addr) : Obj := { cls := .type "zip", dict := none, data := .fields #[f0, f1, .bool false, .ref TI, .ref TO], slots := #[] }
abbrev tO3 (a b c : Value) : Obj := { cls := .type "tuple", data := .seq #[a, b, c] }
theorem updateSeq_tri {T : Addr} {a b c x : Value} {k : Nat} {Q : Unit → Shared → Prop} (hT : s.heap.get? T = some (tO3 a b c))
    (h : ∀ h', h'.get? T = some { cls := .type "tuple", data := .seq ((#[a, b, c] : Array Value).setIfInBounds k x) } → Heap.SameBut T s.heap h' → Q () { s with heap := h' }) :
    wpAny (model prog w) A (updateSeq T (·.setIfInBounds k x)) Q E s := by
  refine wpAny_updateSeq hT rfl (h _ ?_ (Heap.SameBut.update ..))
  rw [Heap.get?_update_self _ hT rfl]
  simp [Obj.mapSeq]
/-- the parts of a zip of three -/
structure Zip3 (h : Heap) (n : Nat) (l1 l2 l3 : Addr) (k : Nat) (f0 f1 a b c : Value) : Prop where
  z : h.get? (n + 5 : Nat) = some (zO f0 f1 (n + 3 : Nat) (n + 4 : Nat))
  ti : h.get? (n + 3 : Nat) = some (tO3 (.ref (n : Nat)) (.ref (n + 1 : Nat)) (.ref (n + 2 : Nat)))
  to : h.get? (n + 4 : Nat) = some (tO3 a b c)
  i1 : h.IsListIter (n : Nat) l1 k
  i2 : h.IsListIter (n + 1 : Nat) l2 k
  i3 : h.IsListIter (n + 2 : Nat) l3 k
abbrev z3 (n : Nat) : List Addr := [(n : Nat), (n + 1 : Nat), (n + 2 : Nat), (n + 3 : Nat), (n + 4 : Nat), (n + 5 : Nat)]
theorem ne_nn (a b : Nat) (h : a < b ∨ b < a) : @Ne Addr a b := fun e => by
  have e : @Eq Nat a b := e
  omega
theorem zip3_first {n l1 l2 l3 : Nat} {k : Nat} {f1 a b c x y z : Value} {xs ys zs : Array Value} {Q : Value → Shared → Prop} (h1 : l1 < n) (h2 : l2 < n) (h3 : l3 < n) (Z : Zip3 s.heap n l1 l2 l3 k .none f1 a b c)
    (hl1 : s.heap.IsList l1 xs) (hl2 : s.heap.IsList l2 ys) (hl3 : s.heap.IsList l3 zs) (hx : xs[k]? = some x) (hy : ys[k]? = some y) (hz : zs[k]? = some z)
    (hQ : ∀ h', Zip3 h' n l1 l2 l3 (k + 1) (rawInt s.heap.objs.size) (.bool false) x y z → h'.get? s.heap.objs.size = some (tO3 x y z) →
      (∀ c o, c ∉ z3 n → s.heap.get? c = some o → h'.get? c = some o) → Q (.ref s.heap.objs.size) { s with heap := h' }) :
    wpAny (model prog w) A (Builtin.«zip.__next__» ⟨[.ref (n + 5 : Nat)], []⟩) (fun fin s' => ∃ v, fin = .done (.ret v) ∧ Q v s') E s := by
  obtain ⟨hz0, hTI, hTO, g1, g2, g3⟩ := Z
  show wpAny _ _ (field (.ref _) 2 >>= _) _ _ _
  refine wpAny_bind (wpAny_field hz0 rfl (x := .bool false) rfl ?_)
  show wpAny _ _ (field (.ref _) 3 >>= _) _ _ _
  refine wpAny_bind (wpAny_field hz0 rfl (x := .ref (n + 3 : Nat)) rfl ?_)
  refine wpAny_bind (wpAny_seqItems hTI rfl ?_)
  show wpAny _ _ (Builtin.SmallTypes.ownedTupleIsFree (.ref (n + 5 : Nat)) >>= _) _ _ _
  refine wpAny_bind ?_
  unfold Builtin.SmallTypes.ownedTupleIsFree
  refine wpAny_bind (wpAny_field hz0 rfl (x := .none) rfl (wpAny_pure ?_))
  simp only [if_true]
  refine wpAny_bind (wpAny_rule ?_)
  refine wpAny_bind (wpAny_field hz0 rfl (x := .ref (n + 4 : Nat)) rfl ?_)
  refine wpAny_bind (wpAny_setField_rec hz0 (by simp) fun h₁ hz₁ hs₁ => ?_)
  replace hz₁ : h₁.get? (n + 5 : Nat) = some (zO .ellipsis f1 (n + 3 : Nat) (n + 4 : Nat)) := hz₁
  refine wpAny_bind ?_
  simp only [List.zipIdx_cons, List.zipIdx_nil, List.forIn_cons, List.forIn_nil]
  refine wpAny_bind (wpAny_bind (wpAny_onRaise ?_))
  show wpAny _ _ (Builtin.SmallTypes.nextOf (.ref (n : Nat)) >>= _) _ _ _
  refine wpAny_bind (wpAny_nextOf_list_item (g1.extBut hs₁.extBut (by refine ne_nn _ _ ?_; omega)) (hl1.extBut hs₁.extBut (by refine ne_nn _ _ ?_; omega)) hx fun h₂ g1₂ hs₂ => wpAny_pure ?_)
  have hTO₂ : h₂.get? (n + 4 : Nat) = some (tO3 a b c) := hs₂.extBut _ _ (by refine ne_nn _ _ ?_; omega) (hs₁.extBut _ _ (by refine ne_nn _ _ ?_; omega) hTO)
  refine wpAny_bind (wpAny_seqItems hTO₂ rfl ?_)
  refine wpAny_bind (updateSeq_tri hTO₂ fun h₃ hTO₃ hs₃ => ?_)
  replace hTO₃ : h₃.get? (n + 4 : Nat) = some (tO3 x b c) := hTO₃
  refine wpAny_bind (wpAny_letGo (wpAny_pure ?_))
  refine wpAny_bind (wpAny_bind (wpAny_onRaise ?_))
  show wpAny _ _ (Builtin.SmallTypes.nextOf (.ref (n + 1 : Nat)) >>= _) _ _ _
  refine wpAny_bind (wpAny_nextOf_list_item (((g2.extBut hs₁.extBut (by refine ne_nn _ _ ?_; omega)).extBut hs₂.extBut (by refine ne_nn _ _ ?_; omega)).extBut hs₃.extBut (by refine ne_nn _ _ ?_; omega))
    (((hl2.extBut hs₁.extBut (by refine ne_nn _ _ ?_; omega)).extBut hs₂.extBut (by refine ne_nn _ _ ?_; omega)).extBut hs₃.extBut (by refine ne_nn _ _ ?_; omega)) hy fun h₄ g2₄ hs₄ => wpAny_pure ?_)
  have hTO₄ : h₄.get? (n + 4 : Nat) = some (tO3 x b c) := hs₄.extBut _ _ (by refine ne_nn _ _ ?_; omega) hTO₃
  refine wpAny_bind (wpAny_seqItems hTO₄ rfl ?_)
  refine wpAny_bind (updateSeq_tri hTO₄ fun h₅ hTO₅ hs₅ => ?_)
  replace hTO₅ : h₅.get? (n + 4 : Nat) = some (tO3 x y c) := hTO₅
  refine wpAny_bind (wpAny_letGo (wpAny_pure ?_))
  refine wpAny_bind (wpAny_bind (wpAny_onRaise ?_))
  show wpAny _ _ (Builtin.SmallTypes.nextOf (.ref (n + 2 : Nat)) >>= _) _ _ _
  refine wpAny_bind (wpAny_nextOf_list_item (((((g3.extBut hs₁.extBut (by refine ne_nn _ _ ?_; omega)).extBut hs₂.extBut (by refine ne_nn _ _ ?_; omega)).extBut hs₃.extBut (by refine ne_nn _ _ ?_; omega)).extBut hs₄.extBut (by refine ne_nn _ _ ?_; omega)).extBut hs₅.extBut (by refine ne_nn _ _ ?_; omega))
    (((((hl3.extBut hs₁.extBut (by refine ne_nn _ _ ?_; omega)).extBut hs₂.extBut (by refine ne_nn _ _ ?_; omega)).extBut hs₃.extBut (by refine ne_nn _ _ ?_; omega)).extBut hs₄.extBut (by refine ne_nn _ _ ?_; omega)).extBut hs₅.extBut (by refine ne_nn _ _ ?_; omega)) hz fun h₆ g3₆ hs₆ => wpAny_pure ?_)
  have hTO₆ : h₆.get? (n + 4 : Nat) = some (tO3 x y c) := hs₆.extBut _ _ (by refine ne_nn _ _ ?_; omega) hTO₅
  refine wpAny_bind (wpAny_seqItems hTO₆ rfl ?_)
  refine wpAny_bind (updateSeq_tri hTO₆ fun h₇ hTO₇ hs₇ => ?_)
  replace hTO₇ : h₇.get? (n + 4 : Nat) = some (tO3 x y z) := hTO₇
  refine wpAny_bind (wpAny_letGo (wpAny_pure (wpAny_pure ?_)))
  refine wpAny_bind (wpAny_seqItems hTO₇ rfl ?_)
  refine wpAny_bind (wpAny_newTuple ?_)
  have hsz : h₇.objs.size = s.heap.objs.size := by rw [hs₇.1, hs₆.1, hs₅.1, hs₄.1, hs₃.1, hs₂.1, hs₁.1]
  have up7 : ∀ c o, c ≠ (n + 5 : Nat) → c ≠ (n : Nat) → c ≠ (n + 4 : Nat) → c ≠ (n + 1 : Nat) → c ≠ (n + 2 : Nat) → s.heap.get? c = some o → h₇.get? c = some o := fun c o c1 c2 c3 c4 c5 e =>
    hs₇.extBut _ _ c3 (hs₆.extBut _ _ c5 (hs₅.extBut _ _ c3 (hs₄.extBut _ _ c4 (hs₃.extBut _ _ c3 (hs₂.extBut _ _ c2 (hs₁.extBut _ _ c1 e))))))
  have hz₇ : h₇.get? (n + 5 : Nat) = some (zO .ellipsis f1 (n + 3 : Nat) (n + 4 : Nat)) := hs₇.extBut _ _ (by refine ne_nn _ _ ?_; omega) (hs₆.extBut _ _ (by refine ne_nn _ _ ?_; omega) (hs₅.extBut _ _ (by refine ne_nn _ _ ?_; omega) (hs₄.extBut _ _ (by refine ne_nn _ _ ?_; omega) (hs₃.extBut _ _ (by refine ne_nn _ _ ?_; omega) (hs₂.extBut _ _ (by refine ne_nn _ _ ?_; omega) hz₁)))))
  have g1₇ : h₇.IsListIter (n : Nat) l1 (k + 1) := ((((g1₂.extBut hs₃.extBut (by refine ne_nn _ _ ?_; omega)).extBut hs₄.extBut (by refine ne_nn _ _ ?_; omega)).extBut hs₅.extBut (by refine ne_nn _ _ ?_; omega)).extBut hs₆.extBut (by refine ne_nn _ _ ?_; omega)).extBut hs₇.extBut (by refine ne_nn _ _ ?_; omega)
  have g2₇ : h₇.IsListIter (n + 1 : Nat) l2 (k + 1) := ((g2₄.extBut hs₅.extBut (by refine ne_nn _ _ ?_; omega)).extBut hs₆.extBut (by refine ne_nn _ _ ?_; omega)).extBut hs₇.extBut (by refine ne_nn _ _ ?_; omega)
  have g3₇ : h₇.IsListIter (n + 2 : Nat) l3 (k + 1) := g3₆.extBut hs₇.extBut (by refine ne_nn _ _ ?_; omega)
  have hTI₇ := up7 _ _ (by refine ne_nn _ _ ?_; omega) (by refine ne_nn _ _ ?_; omega) (by refine ne_nn _ _ ?_; omega) (by refine ne_nn _ _ ?_; omega) (by refine ne_nn _ _ ?_; omega) hTI
  have hzlt : (n + 5 : Nat) < h₇.objs.size := Heap.lt_size hz₇
  show wpAny _ _ (Builtin.SmallTypes.ownedTupleHandOut (.ref (n + 5 : Nat)) (.ref h₇.objs.size) >>= _) _ _ _
  refine wpAny_bind ?_
  unfold Builtin.SmallTypes.ownedTupleHandOut
  have hz₈ : (h₇.push { cls := .type "tuple", data := .seq #[x, y, z] }).get? (n + 5 : Nat) = some (zO .ellipsis f1 (n + 3 : Nat) (n + 4 : Nat)) := Heap.get?_push_of_some _ hz₇
  refine wpAny_bind (wpAny_setField_rec hz₈ (by simp) fun h₉ hz₉ hs₉ => ?_)
  replace hz₉ : h₉.get? (n + 5 : Nat) = some (zO (rawInt h₇.objs.size) f1 (n + 3 : Nat) (n + 4 : Nat)) := hz₉
  refine wpAny_setField_rec hz₉ (by simp) fun hA hzA hsA => ?_
  replace hzA : hA.get? (n + 5 : Nat) = some (zO (rawInt h₇.objs.size) (.bool false) (n + 3 : Nat) (n + 4 : Nat)) := hzA
  have up : ∀ c o, c ≠ (n + 5 : Nat) → h₇.get? c = some o → hA.get? c = some o := fun c o c1 e => hsA.extBut _ _ c1 (hs₉.extBut _ _ c1 (Heap.get?_push_of_some _ e))
  have hTA : hA.get? h₇.objs.size = some (tO3 x y z) := hsA.extBut _ _ (Nat.ne_of_gt hzlt) (hs₉.extBut _ _ (Nat.ne_of_gt hzlt) (Heap.get?_push_size _ rfl))
  rw [hsz] at hzA hTA
  refine wpAny_pure ⟨_, rfl, ?_⟩
  show Q (.ref h₇.objs.size) _
  rw [hsz]
  refine hQ hA ⟨hzA, up _ _ (by refine ne_nn _ _ ?_; omega) hTI₇, up _ _ (by refine ne_nn _ _ ?_; omega) hTO₇, g1₇.at fun o e => up _ o (by refine ne_nn _ _ ?_; omega) e, g2₇.at fun o e => up _ o (by refine ne_nn _ _ ?_; omega) e, g3₇.at fun o e => up _ o (by refine ne_nn _ _ ?_; omega) e⟩ hTA fun c o hc e => ?_
  simp only [z3, List.mem_cons, List.not_mem_nil, or_false, not_or] at hc
  exact up c o hc.2.2.2.2.2 (up7 c o hc.2.2.2.2.2 hc.1 hc.2.2.2.2.1 hc.2.1 hc.2.2.1 e)
/-- the tuple that was handed out is held: the zip makes a new one -/
theorem zip3_free {n l1 l2 l3 k T : Nat} {f1 a b c : Value} {ot : Obj} {Q : Bool → Shared → Prop} (h1 : l1 < n) (h2 : l2 < n) (h3 : l3 < n) (Z : Zip3 s.heap n l1 l2 l3 k (rawInt (T : Nat)) f1 a b c) (hT : s.heap.get? T = some ot)
    (hQ : ∀ h' f1', Zip3 h' n l1 l2 l3 k (rawInt (T : Nat)) f1' a b c → h'.objs.size = s.heap.objs.size → (∀ c o, c ≠ (n + 5 : Nat) → s.heap.get? c = some o → h'.get? c = some o) → Q false { s with heap := h' }) :
    wpAny (model prog w) A (Builtin.SmallTypes.ownedTupleIsFree (.ref (n + 5 : Nat))) Q E s := by
  obtain ⟨hz0, hTI, hTO, g1, g2, g3⟩ := Z
  unfold Builtin.SmallTypes.ownedTupleIsFree
  refine wpAny_bind (wpAny_field hz0 rfl (x := rawInt (T : Nat)) rfl ?_)
  show wpAny _ _ (loadIfAlive ((T : Int).toNat) >>= _) _ _ _
  refine wpAny_bind (wpAny_alive ?_)
  rw [show ((T : Int).toNat) = T from Int.toNat_natCast T, hT]
  show wpAny _ _ (field (.ref (n + 5 : Nat)) 1 >>= _) _ _ _
  refine wpAny_bind (wpAny_field hz0 rfl (x := f1) rfl ?_)
  refine wpAny_ite_split (fun _ => ?_) (fun _ => ?_)
  · refine wpAny_bind (wpAny_setField_rec hz0 (by simp) fun h₁ hz₁ hs₁ => wpAny_pure ?_)
    replace hz₁ : h₁.get? (n + 5 : Nat) = some (zO (rawInt (T : Nat)) (.bool true) (n + 3 : Nat) (n + 4 : Nat)) := hz₁
    exact hQ h₁ _ ⟨hz₁, hs₁.extBut _ _ (by refine ne_nn _ _ ?_; omega) hTI, hs₁.extBut _ _ (by refine ne_nn _ _ ?_; omega) hTO, g1.extBut hs₁.extBut (by refine ne_nn _ _ ?_; omega), g2.extBut hs₁.extBut (by refine ne_nn _ _ ?_; omega), g3.extBut hs₁.extBut (by refine ne_nn _ _ ?_; omega)⟩ hs₁.1 fun c o hc e => hs₁.extBut _ _ hc e
  · exact wpAny_pure (hQ s.heap f1 ⟨hz0, hTI, hTO, g1, g2, g3⟩ rfl fun _ _ _ e => e)
theorem zip3_more {n l1 l2 l3 k T : Nat} {f1 a b c x y z : Value} {ot : Obj} {xs ys zs : Array Value} {Q : Value → Shared → Prop} (h1 : l1 < n) (h2 : l2 < n) (h3 : l3 < n) (Z : Zip3 s.heap n l1 l2 l3 k (rawInt (T : Nat)) f1 a b c) (hT : s.heap.get? T = some ot)
    (hl1 : s.heap.IsList l1 xs) (hl2 : s.heap.IsList l2 ys) (hl3 : s.heap.IsList l3 zs) (hx : xs[k]? = some x) (hy : ys[k]? = some y) (hz : zs[k]? = some z)
    (hQ : ∀ h' f1', Zip3 h' n l1 l2 l3 (k + 1) (rawInt (T : Nat)) f1' a b c → h'.get? s.heap.objs.size = some (tO3 x y z) →
      (∀ c o, c ∉ z3 n → s.heap.get? c = some o → h'.get? c = some o) → Q (.ref s.heap.objs.size) { s with heap := h' }) :
    wpAny (model prog w) A (Builtin.«zip.__next__» ⟨[.ref (n + 5 : Nat)], []⟩) (fun fin s' => ∃ v, fin = .done (.ret v) ∧ Q v s') E s := by
  show wpAny _ _ (field (.ref _) 2 >>= _) _ _ _
  refine wpAny_bind (wpAny_field Z.z rfl (x := .bool false) rfl ?_)
  show wpAny _ _ (field (.ref _) 3 >>= _) _ _ _
  refine wpAny_bind (wpAny_field Z.z rfl (x := .ref (n + 3 : Nat)) rfl ?_)
  refine wpAny_bind (wpAny_seqItems Z.ti rfl ?_)
  show wpAny _ _ (Builtin.SmallTypes.ownedTupleIsFree (.ref (n + 5 : Nat)) >>= _) _ _ _
  refine wpAny_bind (zip3_free h1 h2 h3 Z hT fun hB f1' ZB szB kB => ?_)
  obtain ⟨hz0, hTI, hTO, g1, g2, g3⟩ := ZB
  replace hl1 : hB.IsList l1 xs := hl1.at fun o e => kB _ o (by refine ne_nn _ _ ?_; omega) e
  replace hl2 : hB.IsList l2 ys := hl2.at fun o e => kB _ o (by refine ne_nn _ _ ?_; omega) e
  replace hl3 : hB.IsList l3 zs := hl3.at fun o e => kB _ o (by refine ne_nn _ _ ?_; omega) e
  simp only [Bool.false_eq_true, if_false]
  rw [List.forIn_toArray]
  simp only [List.forIn_cons, List.forIn_nil]
  refine wpAny_bind (wpAny_bind (wpAny_bind (wpAny_holding ?_)))
  show wpAny _ _ (Builtin.SmallTypes.nextOf (.ref (n : Nat)) >>= _) _ _ _
  refine wpAny_bind (wpAny_nextOf_list_item g1 hl1 hx fun h₂ g1₂ hs₂ => wpAny_pure (wpAny_pure ?_))
  refine wpAny_bind (wpAny_bind (wpAny_holding ?_))
  show wpAny _ _ (Builtin.SmallTypes.nextOf (.ref (n + 1 : Nat)) >>= _) _ _ _
  refine wpAny_bind (wpAny_nextOf_list_item (g2.extBut hs₂.extBut (by refine ne_nn _ _ ?_; omega)) (hl2.extBut hs₂.extBut (by refine ne_nn _ _ ?_; omega)) hy fun h₄ g2₄ hs₄ => wpAny_pure (wpAny_pure ?_))
  refine wpAny_bind (wpAny_bind (wpAny_holding ?_))
  show wpAny _ _ (Builtin.SmallTypes.nextOf (.ref (n + 2 : Nat)) >>= _) _ _ _
  refine wpAny_bind (wpAny_nextOf_list_item ((g3.extBut hs₂.extBut (by refine ne_nn _ _ ?_; omega)).extBut hs₄.extBut (by refine ne_nn _ _ ?_; omega)) ((hl3.extBut hs₂.extBut (by refine ne_nn _ _ ?_; omega)).extBut hs₄.extBut (by refine ne_nn _ _ ?_; omega)) hz fun h₆ g3₆ hs₆ => wpAny_pure (wpAny_pure (wpAny_pure ?_)))
  refine wpAny_bind (wpAny_newTuple ?_ (by show 3 ≤ sizeLine; decide))
  have hsz : h₆.objs.size = s.heap.objs.size := by rw [hs₆.1, hs₄.1, hs₂.1]; exact szB
  have up6 : ∀ c o, c ≠ (n : Nat) → c ≠ (n + 1 : Nat) → c ≠ (n + 2 : Nat) → hB.get? c = some o → h₆.get? c = some o := fun c o c1 c2 c3 e => hs₆.extBut _ _ c3 (hs₄.extBut _ _ c2 (hs₂.extBut _ _ c1 e))
  have up : ∀ c o, h₆.get? c = some o → (h₆.push { cls := .type "tuple", data := .seq #[x, y, z] }).get? c = some o := fun c o e => Heap.get?_push_of_some _ e
  have g1₆ : h₆.IsListIter (n : Nat) l1 (k + 1) := (g1₂.extBut hs₄.extBut (by refine ne_nn _ _ ?_; omega)).extBut hs₆.extBut (by refine ne_nn _ _ ?_; omega)
  have g2₆ : h₆.IsListIter (n + 1 : Nat) l2 (k + 1) := g2₄.extBut hs₆.extBut (by refine ne_nn _ _ ?_; omega)
  refine wpAny_pure ⟨_, rfl, ?_⟩
  show Q (.ref h₆.objs.size) _
  rw [hsz]
  refine hQ _ f1' ⟨up _ _ (up6 _ _ (by refine ne_nn _ _ ?_; omega) (by refine ne_nn _ _ ?_; omega) (by refine ne_nn _ _ ?_; omega) hz0), up _ _ (up6 _ _ (by refine ne_nn _ _ ?_; omega) (by refine ne_nn _ _ ?_; omega) (by refine ne_nn _ _ ?_; omega) hTI), up _ _ (up6 _ _ (by refine ne_nn _ _ ?_; omega) (by refine ne_nn _ _ ?_; omega) (by refine ne_nn _ _ ?_; omega) hTO), g1₆.at fun o e => up _ o e, g2₆.at fun o e => up _ o e, g3₆.at fun o e => up _ o e⟩ ?_ fun c o hc e => ?_
  · rw [← hsz]; exact Heap.get?_push_size _ rfl
  · simp only [z3, List.mem_cons, List.not_mem_nil, or_false, not_or] at hc
    exact up c o (up6 c o hc.1 hc.2.1 hc.2.2.1 (kB c o hc.2.2.2.2.2 e))
theorem zip3_end {n l1 l2 l3 k T : Nat} {f1 a b c : Value} {ot : Obj} {xs : Array Value} {Q : PySem.Fin → Shared → Prop} (hh : A.handled = none) (h1 : l1 < n) (h2 : l2 < n) (h3 : l3 < n) (Z : Zip3 s.heap n l1 l2 l3 k (rawInt (T : Nat)) f1 a b c) (hT : s.heap.get? T = some ot)
    (hl1 : s.heap.IsList l1 xs) (hx : xs[k]? = none)
    (hE : ∀ h' e, (∀ c o, c ∉ z3 n → s.heap.get? c = some o → h'.get? c = some o) → (∃ o, h'.get? e = some o ∧ o.cls = .type "StopIteration") → E (.ref e) { s with heap := h' }) :
    wpAny (model prog w) A (Builtin.«zip.__next__» ⟨[.ref (n + 5 : Nat)], []⟩) Q E s := by
  show wpAny _ _ (field (.ref _) 2 >>= _) _ _ _
  refine wpAny_bind (wpAny_field Z.z rfl (x := .bool false) rfl ?_)
  show wpAny _ _ (field (.ref _) 3 >>= _) _ _ _
  refine wpAny_bind (wpAny_field Z.z rfl (x := .ref (n + 3 : Nat)) rfl ?_)
  refine wpAny_bind (wpAny_seqItems Z.ti rfl ?_)
  show wpAny _ _ (Builtin.SmallTypes.ownedTupleIsFree (.ref (n + 5 : Nat)) >>= _) _ _ _
  refine wpAny_bind (zip3_free h1 h2 h3 Z hT fun hB f1' ZB szB kB => ?_)
  replace hl1 : hB.IsList l1 xs := hl1.at fun o e => kB _ o (by refine ne_nn _ _ ?_; omega) e
  simp only [Bool.false_eq_true, if_false]
  rw [List.forIn_toArray]
  simp only [List.forIn_cons, List.forIn_nil]
  refine wpAny_bind (wpAny_bind (wpAny_bind (wpAny_holding ?_)))
  show wpAny _ _ (Builtin.SmallTypes.nextOf (.ref (n : Nat)) >>= _) _ _ _
  refine wpAny_bind (wpAny_nextOf_list_end hh ZB.i1 hl1 hx fun h₂ e hs₂ he => ?_)
  refine hE h₂ e (fun c o hc q => ?_) he
  simp only [z3, List.mem_cons, List.not_mem_nil, or_false, not_or] at hc
  exact hs₂ _ _ hc.1 (kB _ _ hc.2.2.2.2.2 q)
/-! pyNext of it -/
theorem next3_first {n l1 l2 l3 k : Nat} {f1 a b c x y z : Value} {xs ys zs : Array Value} {Q : Option Value → Shared → Prop} (h1 : l1 < n) (h2 : l2 < n) (h3 : l3 < n) (Z : Zip3 s.heap n l1 l2 l3 k .none f1 a b c)
    (hl1 : s.heap.IsList l1 xs) (hl2 : s.heap.IsList l2 ys) (hl3 : s.heap.IsList l3 zs) (hx : xs[k]? = some x) (hy : ys[k]? = some y) (hz : zs[k]? = some z)
    (hQ : ∀ h', Zip3 h' n l1 l2 l3 (k + 1) (rawInt s.heap.objs.size) (.bool false) x y z → h'.get? s.heap.objs.size = some (tO3 x y z) →
      (∀ c o, c ∉ z3 n → s.heap.get? c = some o → h'.get? c = some o) → Q (some (.ref s.heap.objs.size)) { s with heap := h' }) :
    wpAny (model prog w) A (pyNext (.ref (n + 5 : Nat))) Q E s := by
  have hT : s.TypeIs (.ref (n + 5 : Nat)) "zip" := ⟨_, Z.z, rfl⟩
  unfold pyNext
  exact wpAny_bind (wpAny_attempt (wpAny_callSpecial?_slot (name := Str.ofString "__next__") hT PySem.F.slot_zip_next
    (wpAny_call_entry PySem.F.slot_zip_next hT PySem.F.entry_zip_next
      (zip3_first h1 h2 h3 Z hl1 hl2 hl3 hx hy hz fun h' a1 a2 a3 => wpAny_pure (hQ h' a1 a2 a3)) (PySem.F.args_zip_next_1 _))))
theorem next3_more {n l1 l2 l3 k T : Nat} {f1 a b c x y z : Value} {ot : Obj} {xs ys zs : Array Value} {Q : Option Value → Shared → Prop} (h1 : l1 < n) (h2 : l2 < n) (h3 : l3 < n) (Z : Zip3 s.heap n l1 l2 l3 k (rawInt (T : Nat)) f1 a b c) (hT : s.heap.get? T = some ot)
    (hl1 : s.heap.IsList l1 xs) (hl2 : s.heap.IsList l2 ys) (hl3 : s.heap.IsList l3 zs) (hx : xs[k]? = some x) (hy : ys[k]? = some y) (hz : zs[k]? = some z)
    (hQ : ∀ h' f1', Zip3 h' n l1 l2 l3 (k + 1) (rawInt (T : Nat)) f1' a b c → h'.get? s.heap.objs.size = some (tO3 x y z) →
      (∀ c o, c ∉ z3 n → s.heap.get? c = some o → h'.get? c = some o) → Q (some (.ref s.heap.objs.size)) { s with heap := h' }) :
    wpAny (model prog w) A (pyNext (.ref (n + 5 : Nat))) Q E s := by
  have hT' : s.TypeIs (.ref (n + 5 : Nat)) "zip" := ⟨_, Z.z, rfl⟩
  unfold pyNext
  exact wpAny_bind (wpAny_attempt (wpAny_callSpecial?_slot (name := Str.ofString "__next__") hT' PySem.F.slot_zip_next
    (wpAny_call_entry PySem.F.slot_zip_next hT' PySem.F.entry_zip_next
      (zip3_more h1 h2 h3 Z hT hl1 hl2 hl3 hx hy hz fun h' f1' a1 a2 a3 => wpAny_pure (hQ h' f1' a1 a2 a3)) (PySem.F.args_zip_next_1 _))))
theorem next3_end {n l1 l2 l3 k T : Nat} {f1 a b c : Value} {ot : Obj} {xs : Array Value} {Q : Option Value → Shared → Prop} (hh : A.handled = none) (h1 : l1 < n) (h2 : l2 < n) (h3 : l3 < n) (Z : Zip3 s.heap n l1 l2 l3 k (rawInt (T : Nat)) f1 a b c) (hT : s.heap.get? T = some ot)
    (hl1 : s.heap.IsList l1 xs) (hx : xs[k]? = none)
    (hQ : ∀ h', (∀ c o, c ∉ z3 n → s.heap.get? c = some o → h'.get? c = some o) → Q none { s with heap := h' }) :
    wpAny (model prog w) A (pyNext (.ref (n + 5 : Nat))) Q E s := by
  have hT' : s.TypeIs (.ref (n + 5 : Nat)) "zip" := ⟨_, Z.z, rfl⟩
  unfold pyNext
  refine wpAny_bind (wpAny_attempt (wpAny_callSpecial?_slot (name := Str.ofString "__next__") hT' PySem.F.slot_zip_next
    (wpAny_call_entry PySem.F.slot_zip_next hT' PySem.F.entry_zip_next (zip3_end hh h1 h2 h3 Z hT hl1 hx fun h' e hk he => ?_) (PySem.F.args_zip_next_1 _))))
  obtain ⟨o, ho, hc⟩ := he
  refine wpAny_bind (wpAny_isInstance (T := "StopIteration") (b := true) ⟨o, ho, hc⟩ isSubtype_stop ?_)
  exact wpAny_pure (hQ _ hk)
end
end L2
set_option Elab.async false
set_option linter.all false
set_option maxRecDepth 100000
/-! ### list(zip(a, b, c)) -/
namespace L2
open PySem PySem.Spec PySem.W PyProof.Rows SortA
section
variable {X : Cx} {pins : List (Addr × Obj)} {σ : St} {H : Hp} {s : Shared}
def Tri (H0 H : Hp) (xs ys zs vs : List V) (i : Nat) : Prop := vs.length = i ∧ ∀ j, j < i → ∃ t x y z, vs[j]? = some (.ref t) ∧ xs[j]? = some x ∧ ys[j]? = some y ∧ zs[j]? = some z ∧ H t = some (.tup [x, y, z]) ∧ H0 t = none
structure ZAt (X : Cx) (pins : List (Addr × Obj)) (σ : St) (H : Hp) (n l1 l2 l3 : Nat) (S : Addr) (xs ys zs : List V) (i : Nat) (s' : Shared) : Prop where
  ex : ∃ (H' : Hp) (acc : List Value) (vs : List V) (e : Nat) (f0 f1 a b c : Value), Inv X pins σ H' s' ∧ (∀ a o, H a = some o → H' a = some o) ∧ s'.heap.get? S = some { cls := .type "list", dict := none, data := .seq acc.toArray e, slots := #[] } ∧ H' S = none ∧ (∀ b ∈ z3 n, H' b = none) ∧
    Zip3 s'.heap n l1 l2 l3 i f0 f1 a b c ∧ (i = 0 ∧ f0 = .none ∨ ∃ (T : Nat) (ot : Obj), f0 = rawInt (T : Nat) ∧ s'.heap.get? T = some ot ∧ T ∉ S :: z3 n) ∧ Vals vs acc ∧ Tri H H' xs ys zs vs i
structure ZEnd (X : Cx) (pins : List (Addr × Obj)) (σ : St) (H : Hp) (S : Addr) (xs ys zs : List V) (s' : Shared) : Prop where
  ex : ∃ (H' : Hp) (acc : List Value) (vs : List V) (e : Nat), Inv X pins σ H' s' ∧ (∀ a o, H a = some o → H' a = some o) ∧ s'.heap.get? S = some { cls := .type "list", dict := none, data := .seq acc.toArray e, slots := #[] } ∧ H' S = none ∧ Vals vs acc ∧ Tri H H' xs ys zs vs xs.length
theorem Tri.snoc {H0 H H' : Hp} {xs ys zs vs : List V} {i : Nat} {t : Addr} {x y z : V} (h : Tri H0 H xs ys zs vs i) (k : ∀ a o, H a = some o → H' a = some o) (hx : xs[i]? = some x) (hy : ys[i]? = some y) (hz : zs[i]? = some z) (ht : H' t = some (.tup [x, y, z])) (hn : H0 t = none) : Tri H0 H' xs ys zs (vs ++ [.ref t]) (i + 1) := by
  refine ⟨by rw [List.length_append, h.1]; rfl, fun j hj => ?_⟩
  rcases Nat.lt_or_ge j i with z' | z'
  · obtain ⟨t', x', y', z2, e1, e2, e3, e4, e5, e6⟩ := h.2 j z'
    exact ⟨t', x', y', z2, by rw [List.getElem?_append_left (by rw [h.1]; exact z')]; exact e1, e2, e3, e4, k _ _ e5, e6⟩
  · have : j = i := by omega
    subst this
    exact ⟨t, x, y, z, by rw [List.getElem?_append_right (by rw [h.1]; exact Nat.le_refl _), h.1]; simp, hx, hy, hz, ht, hn⟩
theorem zip3_loop {A : Around} {R : Result → Shared → Prop} {n l1 l2 l3 : Nat} {S : Addr} {xs ys zs : List V} (hh : A.handled = none) (h1 : l1 < n) (h2 : l2 < n) (h3 : l3 < n) (fS : ∀ H', H' S = none → FpOk X pins H' S) (fz : ∀ b ∈ z3 n, ∀ H', H' b = none → FpOk X pins H' b) (hSz : S ∉ z3 n)
    (q1 : SqL X.K H l1 xs) (q2 : SqL X.K H l2 ys) (q3 : SqL X.K H l3 zs) (e2 : ys.length = xs.length) (e3 : zs.length = xs.length) (h0 : 0 < xs.length) (hN : xs.length ≤ 1000)
    (hR : ∀ s', ZEnd X pins σ H S xs ys zs s' → R (.ok (.ret .none)) s') :
    ∀ (k i : Nat) (s : Shared), xs.length - i = k → i ≤ xs.length → ZAt X pins σ H n l1 l2 l3 S xs ys zs i s → codeAny (model X.prog X.w) A (.builtin "list.extend.loop" ⟨[.ref S, .ref (n + 5 : Nat), .none], []⟩) R s := by
  have hh' : A.in1.handled = none := hh
  intro k
  induction k with
  | zero =>
    intro i s hk hi hst
    have hin : i = xs.length := by omega
    subst hin
    obtain ⟨H', acc, vs, e, f0, f1, a, b, c, I, st, hS, nS, nz, Z, fr, rv, tr⟩ := hst.ex
    refine codeAny_builtin PySem.F.entry_extend_loop ?_
    rw [Around.under_plainId PySem.F.plain_extend_loop _]
    show wpAny _ A.in1 (pyNext (.ref (n + 5 : Nat)) >>= _) _ _ s
    rcases fr with ⟨z, _⟩ | ⟨T, ot, rfl, hT, hTn⟩
    · omega
    obtain ⟨its1, rv1, p1, hz1⟩ := I.list (sq_keep q1 fun a o _ e => st a o e)
    refine wpAny_bind (next3_end hh' h1 h2 h3 Z hT p1.isList (by
      rw [List.getElem?_toArray, List.getElem?_eq_none]; rw [rv1.length]; exact Nat.le_refl _) fun h' kk => ?_)
    refine wpAny_pure (hR _ ⟨H', acc, vs, e, I.turnL (t' := s.toks) (ch := z3 n) (fun b o hb q => kk b o hb q) (fun b hb => fz b hb H' (nz b hb)), st, kk _ _ hSz hS, nS, rv, tr⟩)
  | succ k ih =>
    intro i s hk hi hst
    have hlt : i < xs.length := by omega
    obtain ⟨H', acc, vs, e, f0, f1, a, b, c, I, st, hS, nS, nz, Z, fr, rv, tr⟩ := hst.ex
    refine codeAny_builtin PySem.F.entry_extend_loop ?_
    rw [Around.under_plainId PySem.F.plain_extend_loop _]
    show wpAny _ A.in1 (pyNext (.ref (n + 5 : Nat)) >>= _) _ _ s
    obtain ⟨its1, rv1, p1, hz1⟩ := I.list (sq_keep q1 fun a o _ e => st a o e)
    obtain ⟨its2, rv2, p2, hz2⟩ := I.list (sq_keep q2 fun a o _ e => st a o e)
    obtain ⟨its3, rv3, p3, hz3⟩ := I.list (sq_keep q3 fun a o _ e => st a o e)
    have gx : xs[i]? = some xs[i] := List.getElem?_eq_getElem hlt
    have gy : ys[i]? = some ys[i] := List.getElem?_eq_getElem (by omega)
    have gz : zs[i]? = some zs[i] := List.getElem?_eq_getElem (by omega)
    obtain ⟨u, hu, ru⟩ := rv1.get gx
    obtain ⟨v, hv, rv'⟩ := rv2.get gy
    obtain ⟨w, hw, rw'⟩ := rv3.get gz
    have lacc : acc.length = i := by rw [← rv.length, tr.1]
    have zlt : ∀ b ∈ z3 n, b < s.heap.objs.size := fun b hb => by
      have : ∃ o, s.heap.get? b = some o := by
        simp only [z3, List.mem_cons, List.not_mem_nil, or_false] at hb
        obtain ⟨o1, q1, _⟩ := Z.i1
        obtain ⟨o2, q2, _⟩ := Z.i2
        obtain ⟨o3, q3, _⟩ := Z.i3
        rcases hb with rfl | rfl | rfl | rfl | rfl | rfl
        · exact ⟨_, q1⟩
        · exact ⟨_, q2⟩
        · exact ⟨_, q3⟩
        · exact ⟨_, Z.ti⟩
        · exact ⟨_, Z.to⟩
        · exact ⟨_, Z.z⟩
      obtain ⟨o, q⟩ := this
      exact Heap.lt_size q
    have main : ∀ (h' : Heap) (f0' f1' a' b' c' : Value), Zip3 h' n l1 l2 l3 (i + 1) f0' f1' a' b' c' → (∃ (T : Nat) (ot : Obj), f0' = rawInt (T : Nat) ∧ h'.get? T = some ot ∧ T ∉ S :: z3 n) → h'.get? s.heap.objs.size = some (tO3 u v w) →
        (∀ c o, c ∉ z3 n → s.heap.get? c = some o → h'.get? c = some o) → wpAny (model X.prog X.w) A.in1 (updateSeq S (·.push (.ref s.heap.objs.size)) >>= fun _ => again (.builtin "list.extend.loop" ⟨[.ref S, .ref (n + 5 : Nat), .none], []⟩))
          (fun fin s' => match fin with | .done f => R (.ok f) s' | .again c' => c'.quiet = true ∧ codeAny (model X.prog X.w) A c' R s') (fun e s' => R (.error e) s') { s with heap := h' } := by
      intro h' f0' f1' a' b' c' Z' ⟨T, ot, hf, hT, hTn⟩ gT kk
      have nT : H' s.heap.objs.size = none := I.hok.fresh (Nat.le_refl _)
      have nT0 : H s.heap.objs.size = none := by
        cases q : H s.heap.objs.size with
        | none => rfl
        | some o => rw [st _ _ q] at nT; cases nT
      have stT : ∀ a o, H' a = some o → upd H' s.heap.objs.size (.tup [xs[i], ys[i], zs[i]]) a = some o := fun a o q => by rw [upd_ne (ne_of_none q nT)]; exact q
      have J := I.turnLay (t' := s.toks) (h' := h') (ch := z3 n) (T := s.heap.objs.size) (o := .tup [xs[i], ys[i], zs[i]]) kk (fun b hb => fz b hb H' (nz b hb)) (Nat.le_refl _) ⟨by show 3 ≤ sizeLine; decide, [u, v, w], .cons ru (.cons rv' (.cons rw' .nil)), _, gT, rfl, 0, rfl⟩
      have hS' := kk _ _ hSz hS
      have SltS : S < s.heap.objs.size := Heap.lt_size hS
      have nS' : upd H' s.heap.objs.size (.tup [xs[i], ys[i], zs[i]]) S = none := by rw [upd_ne (Nat.ne_of_lt SltS)]; exact nS
      obtain ⟨e', hSn⟩ : ∃ e', (h'.update S (Obj.mapSeq (·.push (Value.ref s.heap.objs.size)))).get? S = some { cls := .type "list", dict := none, data := .seq (acc ++ [Value.ref s.heap.objs.size]).toArray e', slots := #[] } := by
        have := get?_update_seq (c := "list") hS' fun x => x.push (Value.ref s.heap.objs.size)
        rw [List.push_toArray] at this
        exact ⟨_, this⟩
      refine wpAny_bind ?_
      refine wpAny_updateSeq hS' rfl (wpAny_pure ⟨plainId_quiet PySem.F.plain_extend_loop _, ih (i + 1) _ (by omega) hlt ⟨_, acc ++ [.ref s.heap.objs.size], vs ++ [.ref s.heap.objs.size], e', f0', f1', a', b', c',
        J.turnL (t' := s.toks) (ch := [S]) (fun b o hb q => (Heap.get?_update_other _ _ (Ne.symm (by simpa using hb))).trans q) (fun b hb => by rw [List.mem_singleton.mp hb]; exact fS _ nS'), fun a o q => stT _ _ (st a o q), hSn, nS', fun b hb => ?_, ?_, .inr ⟨T, ot, hf, ?_, hTn⟩, rv.append (.cons (show RelV (.ref s.heap.objs.size) (.ref s.heap.objs.size) from rfl) .nil), tr.snoc stT gx gy gz upd_same nT0⟩⟩)
        (by rw [List.size_toArray, lacc, sizeLine_eq]; omega) (by show (acc.toArray.push _).size ≤ sizeLine + 1; rw [Array.size_push, List.size_toArray, lacc, sizeLine_eq]; omega)
      · rw [upd_ne]
        · exact nz b hb
        · exact Nat.ne_of_lt (zlt b hb)
      · have oth : ∀ b o, b ≠ S → h'.get? b = some o → (h'.update S (Obj.mapSeq (·.push (Value.ref s.heap.objs.size)))).get? b = some o := fun b o hb q => (Heap.get?_update_other _ _ (Ne.symm hb)).trans q
        simp only [z3, List.mem_cons, List.not_mem_nil, or_false, not_or] at hSz
        obtain ⟨d1, d2, d3, d4, d5, d6⟩ := hSz
        exact ⟨oth _ _ (Ne.symm d6) Z'.z, oth _ _ (Ne.symm d4) Z'.ti, oth _ _ (Ne.symm d5) Z'.to, Z'.i1.at fun o q => oth _ o (Ne.symm d1) q, Z'.i2.at fun o q => oth _ o (Ne.symm d2) q, Z'.i3.at fun o q => oth _ o (Ne.symm d3) q⟩
      · exact (Heap.get?_update_other _ _ (fun z => hTn (by rw [← z]; exact List.mem_cons_self))).trans hT
    rcases fr with ⟨_, rfl⟩ | ⟨T, ot, rfl, hT, hTn⟩
    · refine wpAny_bind (next3_first h1 h2 h3 Z p1.isList p2.isList p3.isList (by simpa using hu) (by simpa using hv) (by simpa using hw) fun h' Z' gT kk => ?_)
      refine main h' _ _ _ _ _ Z' ⟨s.heap.objs.size, _, rfl, gT, ?_⟩ gT kk
      intro z
      rcases List.mem_cons.mp z with z | z
      · exact absurd (Heap.lt_size hS) (by rw [← z]; exact Nat.lt_irrefl _)
      · exact absurd (zlt _ z) (Nat.lt_irrefl _)
    · refine wpAny_bind (next3_more h1 h2 h3 Z hT p1.isList p2.isList p3.isList (by simpa using hu) (by simpa using hv) (by simpa using hw) fun h' f1' Z' gT kk => ?_)
      exact main h' _ _ _ _ _ Z' ⟨T, ot, rfl, kk _ _ (fun z => hTn (List.mem_cons_of_mem _ z)) hT, hTn⟩ gT kk
end
end L2
set_option Elab.async false
set_option linter.all false
set_option maxRecDepth 100000
namespace L2
open PySem PySem.Spec PySem.W PyProof.Rows SortA
theorem typeCall_zip_3 (a b c : Value) : checkTypeCall "zip" ⟨[a, b, c], []⟩ = pure () := by kernel_rfl
theorem newCall_zip_3 (a b c : Value) : checkBuiltinCall "zip.__new__" ⟨[.type "zip", a, b, c], []⟩ = pure () := by kernel_rfl
theorem args_object_init_4 (a b c d : Value) : argsOk "object.__init__" ⟨[a, b, c, d], []⟩ := by
  unfold argsOk; rw [signature?_of (id := "object.__init__") (n := ['_', '_', 't', 'i', 'n', 'i', '_', '_']) (o := ['t', 'c', 'e', 'j', 'b', 'o']) (by kernel_rfl) PySem.F.owner_object]; kernel_rfl
theorem zip_no_len : typeLookup (.type "zip") "__len__" = pure none := by rw [typeLookup_type, builtinLookup_eq_fast]; kernel_rfl
theorem zip_no_hint : typeLookup (.type "zip") "__length_hint__" = pure none := by rw [typeLookup_type, builtinLookup_eq_fast]; kernel_rfl
abbrev itO (l : Addr) : Obj := { cls := .type "list_iterator", data := .fields #[.ref l, .int 0 0] }
abbrev zh3 (h : Heap) (l1 l2 l3 : Addr) : Heap := ((h.push (itO l1)).push (itO l2)).push (itO l3)
abbrev zh4 (h : Heap) (l1 l2 l3 : Addr) : Heap := (zh3 h l1 l2 l3).push (tO3 (.ref h.objs.size) (.ref (h.push (itO l1)).objs.size) (.ref ((h.push (itO l1)).push (itO l2)).objs.size))
abbrev zh5 (h : Heap) (l1 l2 l3 : Addr) : Heap := (zh4 h l1 l2 l3).push (tO3 .none .none .none)
abbrev zh6 (h : Heap) (l1 l2 l3 : Addr) : Heap := (zh5 h l1 l2 l3).push (zO .none (.bool false) (zh3 h l1 l2 l3).objs.size (zh4 h l1 l2 l3).objs.size)
set_option maxHeartbeats 8000000 in
theorem meets_zip_new3 (l1 l2 l3 : Addr) (xs ys zs : Array Value) :
    Meets (Builtin.«zip.__new__» ⟨[.type "zip", .ref l1, .ref l2, .ref l3], []⟩) (fun _ R s => s.heap.IsList l1 xs ∧ s.heap.IsList l2 ys ∧ s.heap.IsList l3 zs ∧
      R (.ok (.ret (.ref (zh5 s.heap l1 l2 l3).objs.size))) { s with heap := zh6 s.heap l1 l2 l3 }) :=
  .of_wp fun prog w A R s h => by
    obtain ⟨hp, g, d, tk, os⟩ := s; obtain ⟨hl1, hl2, hl3, h⟩ := h
    have hsub := sub_zip
    have hL1 : Heap.IsList (Shared.heap ⟨hp, g, d, tk, os⟩) l1 xs := hl1
    have hL2 : Heap.IsList (Shared.heap ⟨hp.push { cls := .type "list_iterator", data := .fields #[.ref l1, .int 0 0] }, g, d, tk, os⟩) l2 ys := Heap.IsList.push hl2 _
    have hL3 : Heap.IsList (Shared.heap ⟨(hp.push { cls := .type "list_iterator", data := .fields #[.ref l1, .int 0 0] }).push { cls := .type "list_iterator", data := .fields #[.ref l2, .int 0 0] }, g, d, tk, os⟩) l3 zs := Heap.IsList.push (Heap.IsList.push hl3 _) _
    wp_walk using wpAny_pyIter_list hL1, wpAny_pyIter_list hL2, wpAny_pyIter_list hL3
    exact ⟨_, rfl, h⟩
section
variable {prog : Program} {w : World} {A : Around} {E : Value → Shared → Prop} {s : Shared}
theorem call_zip_3 {l1 l2 l3 : Addr} {xs ys zs : Array Value} {Q : Value → Shared → Prop} (hl1 : s.heap.IsList l1 xs) (hl2 : s.heap.IsList l2 ys) (hl3 : s.heap.IsList l3 zs)
    (h : ∀ h', Zip3 h' s.heap.objs.size l1 l2 l3 0 .none (.bool false) .none .none .none → h'.objs.size = s.heap.objs.size + 6 → (∀ c o, s.heap.get? c = some o → h'.get? c = some o) → Q (.ref (s.heap.objs.size + 5)) { s with heap := h' }) :
    wpAny (model prog w) A (call (.type "zip") [.ref l1, .ref l2, .ref l3]) Q E s := by
  refine callType_new PySem.F.called_zip (by decide) (typeCall_zip_3 _ _ _) (newCall_zip_3 _ _ _) (fun obj => args_object_init_4 obj _ _ _) PySem.F.entry_zip_new
    (meets_zip_new3 l1 l2 l3 xs ys zs) ⟨hl1, hl2, hl3, ?_⟩
  have z1 : (s.heap.push (itO l1)).objs.size = s.heap.objs.size + 1 := Heap.size_push ..
  have z2 : ((s.heap.push (itO l1)).push (itO l2)).objs.size = s.heap.objs.size + 2 := by rw [Heap.size_push, z1]
  have z3' : (zh3 s.heap l1 l2 l3).objs.size = s.heap.objs.size + 3 := by rw [Heap.size_push, z2]
  have z4 : (zh4 s.heap l1 l2 l3).objs.size = s.heap.objs.size + 4 := by rw [Heap.size_push, z3']
  have z5 : (zh5 s.heap l1 l2 l3).objs.size = s.heap.objs.size + 5 := by rw [Heap.size_push, z4]
  have z6 : (zh6 s.heap l1 l2 l3).objs.size = s.heap.objs.size + 6 := by rw [Heap.size_push, z5]
  have g6 : (zh6 s.heap l1 l2 l3).get? (zh5 s.heap l1 l2 l3).objs.size = some _ := Heap.get?_push_size _ rfl
  have g5 : (zh6 s.heap l1 l2 l3).get? (zh4 s.heap l1 l2 l3).objs.size = some _ := Heap.get?_push_of_some _ (Heap.get?_push_size _ rfl)
  have g4 : (zh6 s.heap l1 l2 l3).get? (zh3 s.heap l1 l2 l3).objs.size = some _ := Heap.get?_push_of_some _ (Heap.get?_push_of_some _ (Heap.get?_push_size _ rfl))
  have g3 : (zh6 s.heap l1 l2 l3).get? ((s.heap.push (itO l1)).push (itO l2)).objs.size = some _ := Heap.get?_push_of_some _ (Heap.get?_push_of_some _ (Heap.get?_push_of_some _ (Heap.get?_push_size _ rfl)))
  have g2 : (zh6 s.heap l1 l2 l3).get? (s.heap.push (itO l1)).objs.size = some _ := Heap.get?_push_of_some _ (Heap.get?_push_of_some _ (Heap.get?_push_of_some _ (Heap.get?_push_of_some _ (Heap.get?_push_size _ rfl))))
  have g1 : (zh6 s.heap l1 l2 l3).get? s.heap.objs.size = some _ := Heap.get?_push_of_some _ (Heap.get?_push_of_some _ (Heap.get?_push_of_some _ (Heap.get?_push_of_some _ (Heap.get?_push_of_some _ (Heap.get?_push_size _ rfl)))))
  show _ ∧ _
  rw [z5, z4, z3'] at g6
  rw [z4] at g5
  rw [z3', z2, z1] at g4
  rw [z2] at g3
  rw [z1] at g2
  rw [z5]
  exact ⟨⟨_, g6, rfl⟩, h _ ⟨g6, g4, g5, ⟨_, g1, rfl, rfl⟩, ⟨_, g2, rfl, rfl⟩, ⟨_, g3, rfl, rfl⟩⟩ z6 fun c o x =>
    Heap.get?_push_of_some _ (Heap.get?_push_of_some _ (Heap.get?_push_of_some _ (Heap.get?_push_of_some _ (Heap.get?_push_of_some _ (Heap.get?_push_of_some _ x)))))⟩
end
section
variable {X : Cx} {pins : List (Addr × Obj)} {σ : St} {H : Hp} {s : Shared}
/-- list.__init__ of a new list by a zip of three -/
theorem init_zip3 {A : Around} {R : Result → Shared → Prop} {n l1 l2 l3 : Nat} {S : Addr} {xs ys zs : List V} (hh : A.handled = none) (h1 : l1 < n) (h2 : l2 < n) (h3 : l3 < n) (I : Inv X pins σ H s) (Z : Zip3 s.heap n l1 l2 l3 0 .none (.bool false) .none .none .none) (hS : s.heap.get? S = some { cls := .type "list", data := .seq #[] })
    (nS : H S = none) (nz : ∀ b ∈ z3 n, H b = none) (fS : ∀ H', H' S = none → FpOk X pins H' S) (fz : ∀ b ∈ z3 n, ∀ H', H' b = none → FpOk X pins H' b) (hSz : S ∉ z3 n)
    (q1 : SqL X.K H l1 xs) (q2 : SqL X.K H l2 ys) (q3 : SqL X.K H l3 zs) (e2 : ys.length = xs.length) (e3 : zs.length = xs.length) (h0 : 0 < xs.length) (hN : xs.length ≤ 1000)
    (hR : ∀ s', ZEnd X pins σ H S xs ys zs s' → R (.ok (.ret .none)) s') :
    wpAny (model X.prog X.w) A.in1 (Builtin.«list.__init__» ⟨[.ref S, .ref (n + 5 : Nat)], []⟩)
      (fun fin s' => match fin with | .done f => R (.ok f) s' | .again c' => c'.quiet = true ∧ codeAny (model X.prog X.w) A c' R s') (fun e s' => R (.error e) s') s := by
  have hSz' := hSz
  simp only [z3, List.mem_cons, List.not_mem_nil, or_false, not_or] at hSz'
  obtain ⟨d1, d2, d3, d4, d5, d6⟩ := hSz'
  show wpAny _ _ (do let old ← Builtin.List.listItems (.ref S); Builtin.List.listUpdate (.ref S) (fun _ => #[]); letGo old.toList.reverse; Builtin.List.listExtendWith (.ref S) (.ref (n + 5 : Nat)) .none) _ _ s
  refine wpAny_bind ?_
  unfold Builtin.List.listItems
  refine wpAny_bind (wpAny_seqItems hS rfl (wpAny_pure ?_))
  show wpAny _ _ (updateSeq S (fun _ => #[]) >>= fun _ => letGo (#[] : Array Value).toList.reverse >>= fun _ => Builtin.List.listExtendWith (.ref S) (.ref (n + 5 : Nat)) .none) _ _ s
  refine wpAny_bind (wpAny_updateSeq hS rfl ?_)
  obtain ⟨e', hS₂⟩ : ∃ e', (s.heap.update S (Obj.mapSeq (fun _ => (#[] : Array Value)))).get? S = some { cls := .type "list", dict := none, data := .seq #[] e', slots := #[] } := ⟨_, get?_update_seq (c := "list") hS fun _ => #[]⟩
  have oth : ∀ b o, b ≠ S → s.heap.get? b = some o → (s.heap.update S (Obj.mapSeq (fun _ => (#[] : Array Value)))).get? b = some o :=
    fun b o hb e => (Heap.get?_update_other _ _ (Ne.symm hb)).trans e
  have Z₂ : Zip3 (s.heap.update S (Obj.mapSeq (fun _ => (#[] : Array Value)))) n l1 l2 l3 0 .none (.bool false) .none .none .none := ⟨oth _ _ (Ne.symm d6) Z.z, oth _ _ (Ne.symm d4) Z.ti, oth _ _ (Ne.symm d5) Z.to, Z.i1.at fun o q => oth _ o (Ne.symm d1) q, Z.i2.at fun o q => oth _ o (Ne.symm d2) q, Z.i3.at fun o q => oth _ o (Ne.symm d3) q⟩
  refine wpAny_bind (wpAny_letGo ?_)
  have I₂ : Inv X pins σ H { s with heap := s.heap.update S (Obj.mapSeq (fun _ => (#[] : Array Value))), toks := s.toks } := I.turnL (ch := [S]) (fun b o hb q => oth b o (by simpa using hb) q) fun b hb => by rw [List.mem_singleton.mp hb]; exact fS H nS
  have hT : ({ s with heap := s.heap.update S (Obj.mapSeq (fun _ => (#[] : Array Value))) } : Shared).TypeIs (.ref (n + 5 : Nat)) "zip" := ⟨_, Z₂.z, rfl⟩
  unfold Builtin.List.listExtendWith
  refine wpAny_bind (wpAny_typeOf hT ?_)
  have b1 : Builtin.List.listSameRef (.ref S) (.ref (n + 5 : Nat)) = false := by simp [Builtin.List.listSameRef]; exact d6
  have b2 : (Value.type "zip" == Value.type "list") = false := by decide
  have b3 : (Value.type "zip" == Value.type "tuple") = false := by decide
  simp only [b1, b2, b3, Bool.or_false, Bool.false_eq_true, if_false]
  refine wpAny_bind (wpAny_pyIter_slot hT PySem.F.slot_zip_iter (wpAny_call_entry PySem.F.slot_zip_iter hT PySem.F.entry_zip_iter ?_ (PySem.F.args_zip_iter_1 _)))
  show wpAny _ _ (ret (.ref (n + 5 : Nat))) _ _ _
  refine wpAny_pure ⟨_, rfl, "zip", _, hT, PySem.F.slot_zip_next.lookup, ?_⟩
  refine wpAny_bind (wpAny_holding ?_)
  unfold Builtin.List.listLengthHint
  refine wpAny_bind (wpAny_specialOf hT zip_no_len ?_)
  show wpAny _ _ (specialOf (Value.ref (n + 5 : Nat)) (Str.ofString "__length_hint__") >>= _) _ _ _
  refine wpAny_bind (wpAny_specialOf hT zip_no_hint ?_)
  refine wpAny_pure ?_
  have key : ∀ (h : Heap) (e : Nat), h.get? S = some { cls := .type "list", dict := none, data := .seq #[] e, slots := #[] } → (∀ b o, b ≠ S → s.heap.get? b = some o → h.get? b = some o) → codeAny (model X.prog X.w) A (.builtin "list.extend.loop" ⟨[.ref S, .ref (n + 5 : Nat), .none], []⟩) R { s with heap := h } := by
    intro h e hS' oth'
    refine zip3_loop hh h1 h2 h3 fS fz hSz q1 q2 q3 e2 e3 h0 hN hR xs.length 0 _ (by omega) (Nat.zero_le _) ⟨H, [], [], e, .none, .bool false, .none, .none, .none, I.turnL (t' := s.toks) (ch := [S]) (fun b o hb q => oth' b o (by simpa using hb) q) (fun b hb => by rw [List.mem_singleton.mp hb]; exact fS H nS), fun _ _ e => e, hS', nS, nz, ?_, .inl ⟨rfl, rfl⟩, .nil, rfl, fun j hj => absurd hj (Nat.not_lt_zero _)⟩
    exact ⟨oth' _ _ (Ne.symm d6) Z.z, oth' _ _ (Ne.symm d4) Z.ti, oth' _ _ (Ne.symm d5) Z.to, Z.i1.at fun o q => oth' _ o (Ne.symm d1) q, Z.i2.at fun o q => oth' _ o (Ne.symm d2) q, Z.i3.at fun o q => oth' _ o (Ne.symm d3) q⟩
  refine wpAny_ite_split (fun _ => ?_) (fun _ => wpAny_pure ⟨plainId_quiet PySem.F.plain_extend_loop _, key _ _ hS₂ oth⟩)
  refine wpAny_bind (wpAny_rule ?_)
  refine wpAny_bind ?_
  show wpAny _ _ (updateSeq S (·.push .none) >>= fun _ => updateSeq S (·.pop)) _ _ _
  refine wpAny_bind (wpAny_updateSeq hS₂ rfl ?_)
  obtain ⟨e3', hS₃⟩ : ∃ e', ((s.heap.update S (Obj.mapSeq (fun _ => (#[] : Array Value)))).update S (Obj.mapSeq (·.push Value.none))).get? S = some { cls := .type "list", dict := none, data := .seq #[.none] e', slots := #[] } := ⟨_, get?_update_seq (c := "list") hS₂ fun x => x.push Value.none⟩
  refine wpAny_updateSeq (hz := by seq_fits) hS₃ rfl ?_
  obtain ⟨e4', hS₄⟩ : ∃ e', (((s.heap.update S (Obj.mapSeq (fun _ => (#[] : Array Value)))).update S (Obj.mapSeq (·.push Value.none))).update S (Obj.mapSeq (·.pop))).get? S = some { cls := .type "list", dict := none, data := .seq #[] e', slots := #[] } := ⟨_, get?_update_seq (c := "list") hS₃ fun x => x.pop⟩
  refine wpAny_pure ⟨plainId_quiet PySem.F.plain_extend_loop _, key _ _ hS₄ fun b o hb e => ?_⟩
  exact (Heap.get?_update_other _ _ (Ne.symm hb)).trans ((Heap.get?_update_other _ _ (Ne.symm hb)).trans (oth b o hb e))
end
end L2
set_option Elab.async false
set_option linter.all false
set_option maxRecDepth 100000
namespace L2
open PySem PySem.Spec PySem.W PyProof.Rows SortA
section
variable {X : Cx} {pins : List (Addr × Obj)} {σ : St} {H : Hp} {s : Shared}
theorem call_list_zip3 {A : Around} {E : Value → Shared → Prop} {Q : Value → Shared → Prop} {n l1 l2 l3 : Nat} {xs ys zs : List V} (hh : A.handled = none) (h1 : l1 < n) (h2 : l2 < n) (h3 : l3 < n) (I : Inv X pins σ H s) (Z : Zip3 s.heap n l1 l2 l3 0 .none (.bool false) .none .none .none)
    (nz : ∀ b ∈ z3 n, H b = none) (fz : ∀ b ∈ z3 n, ∀ H', H' b = none → FpOk X pins H' b)
    (q1 : SqL X.K H l1 xs) (q2 : SqL X.K H l2 ys) (q3 : SqL X.K H l3 zs) (e2 : ys.length = xs.length) (e3 : zs.length = xs.length) (h0 : 0 < xs.length) (hN : xs.length ≤ 1000)
    (hQ : ∀ D s', s.heap.objs.size ≤ D → ZEnd X pins σ H D xs ys zs s' → (∀ H', H' D = none → FpOk X pins H' D) → Q (.ref D) s') :
    wpAny (model X.prog X.w) A (call (.type "list") [.ref (n + 5 : Nat)]) Q E s := by
  refine callType_codes (Q₁ := fun obj s₁ => obj = .ref s.heap.objs.size ∧ s₁ = { s with heap := s.heap.push { cls := .type "list", data := .seq #[] } }) PySem.F.called_list (PySem.F.typeCall_list_1 _) PySem.F.entry_list_init
    (code_list_new _ ⟨rfl, rfl⟩) fun obj s₁ h₁ => ?_
  obtain ⟨rfl, rfl⟩ := h₁
  have hS : (s.heap.push { cls := .type "list", data := .seq #[] }).get? s.heap.objs.size = some { cls := .type "list", data := .seq #[] } := Heap.get?_push_size _ rfl
  have up : ∀ b o, s.heap.get? b = some o → (s.heap.push { cls := .type "list", data := .seq #[] }).get? b = some o := fun b o e => Heap.get?_push_of_some _ e
  have fS : ∀ H' : Hp, H' s.heap.objs.size = none → FpOk X pins H' s.heap.objs.size := fun H' h => I.fpOk (Nat.le_refl _) h
  have hSz : s.heap.objs.size ∉ z3 n := fun hb => by
    have : ∃ o, s.heap.get? s.heap.objs.size = some o := by
      simp only [z3, List.mem_cons, List.not_mem_nil, or_false] at hb
      obtain ⟨o1, q1, _⟩ := Z.i1
      obtain ⟨o2, q2, _⟩ := Z.i2
      obtain ⟨o3, q3, _⟩ := Z.i3
      rcases hb with z | z | z | z | z | z <;> rw [z]
      · exact ⟨_, q1⟩
      · exact ⟨_, q2⟩
      · exact ⟨_, q3⟩
      · exact ⟨_, Z.ti⟩
      · exact ⟨_, Z.to⟩
      · exact ⟨_, Z.z⟩
    obtain ⟨o, q⟩ := this
    exact absurd (Heap.lt_size q) (Nat.lt_irrefl _)
  refine ⟨⟨_, hS, rfl⟩, PySem.F.args_list_init_2 _ _, init_zip3 (A := A.in1) hh h1 h2 h3 (I.kept (t' := s.toks) up) ⟨up _ _ Z.z, up _ _ Z.ti, up _ _ Z.to, Z.i1.at fun o q => up _ o q, Z.i2.at fun o q => up _ o q, Z.i3.at fun o q => up _ o q⟩ hS (I.hok.fresh (Nat.le_refl _)) nz fS fz hSz q1 q2 q3 e2 e3 h0 hN fun s' ze => ⟨rfl, hQ _ s' (Nat.le_refl _) ze fS⟩⟩
variable {a b c : Expr} {p p0 pos pos2 : Pos}
set_option maxHeartbeats 2000000 in
theorem pe_listZip3 {ta : TA} (hc : X.calm = true) (hgl : Gl X "list") (hml : X.mg "list" = none) (hg : Gl X "zip") (hm : X.mg "zip" = none) (ha : PA X [a, b, c] ta)
    (hs0 : starEach [.Call (.Name "zip" p) [a, b, c] [] pos2] X.env = [(false, eval (.Call (.Name "zip" p) [a, b, c] [] pos2) X.env)] := by rfl)
    (hs : starEach [a, b, c] X.env = (false, eval a X.env) :: starEach [b, c] X.env := by rfl) (hpl : (backTo pos2 (starEach [b, c] X.env)).any (·.1) = false := by rfl) :
    PE X (.Call (.Name "list" p0) [.Call (.Name "zip" p) [a, b, c] [] pos2] [] pos) (fun σ H Q => ta σ H fun vs H1 => ∃ (l1 l2 l3 : Addr) (xs ys zs : List V), vs = [.ref l1, .ref l2, .ref l3] ∧ SqL X.K H1 l1 xs ∧ SqL X.K H1 l2 ys ∧ SqL X.K H1 l3 zs ∧ ys.length = xs.length ∧ zs.length = xs.length ∧ 0 < xs.length ∧ xs.length ≤ 1000 ∧
      ∀ D H' vs, H1 D = none → (∀ a o, H1 a = some o → H' a = some o) → H' D = some (.lst vs) → (∃ H'', (∀ a o, H'' a = some o → a ≠ D ∧ H' a = some o) ∧ Tri H1 H'' xs ys zs vs xs.length) → Q (.ref D) H') := by
  intro pins s σ H Q I h
  refine Call_ (ld_blt I hgl hml boot_list (PyProof.Rows.callWith_type1 ?_ hs0 rfl))
  rw [hs0]
  show wpAny _ _ (spliced ((false, eval _ X.env) :: backTo pos [])) _ _ s
  refine Calls.spliced_cons ?_
  refine Call_ (ld_blt I hg hm boot_zip (PyProof.Rows.callWith_type1 (thn (ha pos2 pins s σ H _ I h) fun us s1 ⟨vs, H1, I1, r1, q1⟩ => ?_) hs hpl))
  obtain ⟨l1, l2, l3, xs, ys, zs, e, hq1, hq2, hq3, e2, e3, h0, hN, q⟩ := q1
  subst e
  obtain ⟨u, v, w, rfl, ru, rv, rw'⟩ : ∃ u v w, us = [u, v, w] ∧ RelV (.ref l1) u ∧ RelV (.ref l2) v ∧ RelV (.ref l3) w := by
    cases r1 with
    | cons a r1 =>
      cases r1 with
      | cons b r1 =>
        cases r1 with
        | cons c r1 =>
          cases r1
          exact ⟨_, _, _, rfl, a, b, c⟩
  cases (show u = Value.ref l1 from ru)
  cases (show v = Value.ref l2 from rv)
  cases (show w = Value.ref l3 from rw')
  obtain ⟨its1, rv1, p1, hz1⟩ := I1.list hq1
  obtain ⟨its2, rv2, p2, hz2⟩ := I1.list hq2
  obtain ⟨its3, rv3, p3, hz3⟩ := I1.list hq3
  refine call_zip_3 p1.isList p2.isList p3.isList fun h' Z sz hk => ?_
  have lt1 : l1 < s1.heap.objs.size := by obtain ⟨o, e, _⟩ := p1.isList; exact Heap.lt_size e
  have lt2 : l2 < s1.heap.objs.size := by obtain ⟨o, e, _⟩ := p2.isList; exact Heap.lt_size e
  have lt3 : l3 < s1.heap.objs.size := by obtain ⟨o, e, _⟩ := p3.isList; exact Heap.lt_size e
  have le : ∀ b ∈ z3 s1.heap.objs.size, s1.heap.objs.size ≤ b := fun b hb => by
    simp only [z3, List.mem_cons, List.not_mem_nil, or_false] at hb
    have key : ∀ n b : Nat, (b = n ∨ b = n + 1 ∨ b = n + 2 ∨ b = n + 3 ∨ b = n + 4 ∨ b = n + 5) → n ≤ b := fun n b h => by omega
    exact key _ _ hb
  have I2 : Inv X pins σ H1 { s1 with heap := h', toks := s1.toks } := I1.kept fun b o e => hk b o e
  refine wpAny_mono (Q := _) (show wpAny _ _ (spliced []) (fun vs s₁ => vs = [] ∧ s₁ = { s1 with heap := h' }) X.xe { s1 with heap := h' } from wpAny_pure ⟨rfl, rfl⟩) (fun vs s2 hv => ?_) fun _ _ z => z
  obtain ⟨rfl, rfl⟩ := hv
  refine call_list_zip3 (s := { s1 with heap := h' }) (I.ok.hd hc) lt1 lt2 lt3 I2 Z (fun b hb => I1.hok.fresh (le b hb)) (fun b hb H' hn => I1.fpOk (le b hb) hn) hq1 hq2 hq3 e2 e3 h0 hN fun D s' lD ze fD => ?_
  obtain ⟨H', acc, vs, e, I', st, hD, nD, rvs, tri⟩ := ze.ex
  have nD1 : H1 D = none := I2.hok.fresh lD
  have stD : ∀ a o, H' a = some o → a ≠ D ∧ upd H' D (.lst vs) a = some o := fun a o q => by
    have n : a ≠ D := fun z => by rw [z, nD] at q; cases q
    exact ⟨n, by rw [upd_ne n]; exact q⟩
  refine ⟨.ref D, upd H' D (.lst vs), I'.adopt (fD H' nD) ⟨?_, acc, e, rvs, hD⟩, rfl, q D _ vs nD1 (fun a o q => (stD a o (st a o q)).2) upd_same ⟨H', stD, tri⟩⟩
  rw [tri.1, sizeLine_eq]; omega
end
end L2
set_option Elab.async false
set_option linter.all false
set_option maxRecDepth 100000
/-! The data layer: list(zip(a, b, c)), sum of ints. -/
namespace L2
open PySem PySem.Spec PySem.W PyProof.Rows SortA
def tri3 (a b c : PyData) : PyData := .tuple [a, b, c]
def zip3D : List PyData → List PyData → List PyData → List PyData
  | a :: as, b :: bs, c :: cs => tri3 a b c :: zip3D as bs cs
  | _, _, _ => []
theorem zip3D_len : ∀ {as bs cs : List PyData}, bs.length = as.length → cs.length = as.length → (zip3D as bs cs).length = as.length
  | [], _, _, _, _ => rfl
  | a :: as, b :: bs, c :: cs, h1, h2 => by
    rw [zip3D, List.length_cons, List.length_cons, zip3D_len (by simpa using h1) (by simpa using h2)]
theorem zip3D_get : ∀ {as bs cs : List PyData} {j : Nat} {d : PyData}, (zip3D as bs cs)[j]? = some d → ∃ a b c, as[j]? = some a ∧ bs[j]? = some b ∧ cs[j]? = some c ∧ d = tri3 a b c
  | [], _, _, j, d, h => by simp [zip3D] at h
  | a :: as, [], _, j, d, h => by simp [zip3D] at h
  | a :: as, b :: bs, [], j, d, h => by simp [zip3D] at h
  | a :: as, b :: bs, c :: cs, 0, d, h => by simp [zip3D] at h; exact ⟨a, b, c, rfl, rfl, rfl, h.symm⟩
  | a :: as, b :: bs, c :: cs, j + 1, d, h => by
    obtain ⟨x, y, z, e1, e2, e3, e4⟩ := zip3D_get (as := as) (bs := bs) (cs := cs) (j := j) (d := d) (by simpa [zip3D] using h)
    exact ⟨x, y, z, by simpa using e1, by simpa using e2, by simpa using e3, e4⟩
theorem avs_get {G : Hp} : ∀ {vs : List V} {ds : List PyData}, vs.length = ds.length → (∀ (j : Nat) d, ds[j]? = some d → ∃ v, vs[j]? = some v ∧ AV G v d) → AVs G vs ds
  | [], [], _, _ => .nil
  | v :: vs, d :: ds, hl, h => by
    obtain ⟨v', e, a⟩ := h 0 d rfl
    cases e
    exact .cons a (avs_get (by simpa using hl) fun j d' hd => h (j + 1) d' (by simpa using hd))
section
variable {X : Cx} {α : Ev} {a b c : Expr} {p p0 pos pos2 : Pos}
theorem el_listZip3 {Q : List PyData → Prop} (hc : X.calm = true) (hgl : Gl X "list") (hml : X.mg "list" = none) (hg : Gl X "zip") (hm : X.mg "zip" = none)
    (h : EvA X α [a, b, c] fun as => ∃ ds es fs, as = [.dat (.list ds), .dat (.list es), .dat (.list fs)] ∧ es.length = ds.length ∧ fs.length = ds.length ∧ 0 < ds.length ∧ ds.length ≤ 1000 ∧ Q (zip3D ds es fs))
    (hs0 : starEach [.Call (.Name "zip" p) [a, b, c] [] pos2] X.env = [(false, eval (.Call (.Name "zip" p) [a, b, c] [] pos2) X.env)] := by rfl)
    (hs : starEach [a, b, c] X.env = (false, eval a X.env) :: starEach [b, c] X.env := by rfl) (hpl : (backTo pos2 (starEach [b, c] X.env)).any (·.1) = false := by rfl) :
    EvL X α (.Call (.Name "list" p0) [.Call (.Name "zip" p) [a, b, c] [] pos2] [] pos) Q := fun F σ H R m k => by
  refine ⟨_, pe_listZip3 hc hgl hml hg hm pa_aAny hs0 hs hpl, ?_⟩
  refine h F σ H _ m fun as vs H1 q1 t1 k1 rv => ?_
  have m1 := m.kz k1 t1
  obtain ⟨ds, es, fs, rfl, l2, l3, l0, lN, q⟩ := q1
  cases rv with
  | cons r1 rv =>
    cases rv with
    | cons r2 rv =>
      cases rv with
      | cons r3 rv =>
        cases rv
        obtain ⟨a1, xs, rfl, g1, A1⟩ := AV.lst_inv r1
        obtain ⟨a2, ys, rfl, g2, A2⟩ := AV.lst_inv r2
        obtain ⟨a3, zs, rfl, g3, A3⟩ := AV.lst_inv r3
        have y1 := A1.length
        have y2 := A2.length
        have y3 := A3.length
        refine ⟨a1, a2, a3, xs, ys, zs, rfl, SqL.of (sub_some g1).2, SqL.of (sub_some g2).2, SqL.of (sub_some g3).2, by omega, by omega, by omega, by omega, fun D H' vs hD st hD' tr => ?_⟩
        obtain ⟨H'', sb, tri⟩ := tr
        have sm : Same H1 H' := fun a o e => st a o e
        refine k _ _ H' q (t1.same sm) (k1.trans (Kz.of_same sm)) ⟨D, vs, rfl, ?_, hD', ?_⟩
        · cases z : H D with
          | none => rfl
          | some o => rw [k1 D o z (m.tp.nt (ow0 (m1.fresh hD)))] at hD; cases hD
        · have gs : Same (Gz F α σ H1) (sub (fun x => ¬ Ow F α σ x ∧ x ≠ D) H') := same_sub fun a o h e => ⟨⟨h, ne_of_none e hD⟩, st a o e⟩
          refine avs_get (by rw [tri.1, zip3D_len l2 l3]; exact y1) fun j d hd => ?_
          obtain ⟨d1, d2, d3, e1, e2, e3, rfl⟩ := zip3D_get hd
          have hj : j < xs.length := by rw [y1]; exact (List.getElem?_eq_some_iff.mp e1).1
          obtain ⟨t, x, y, z, f1, f2, f3, f4, f5, f6⟩ := tri.2 j hj
          obtain ⟨x', ex, ax⟩ := A1.get e1
          obtain ⟨y', ey, ay⟩ := A2.get e2
          obtain ⟨z', ez, az⟩ := A3.get e3
          rw [f2] at ex; cases ex
          rw [f3] at ey; cases ey
          rw [f4] at ez; cases ez
          obtain ⟨nt, ht⟩ := sb t _ f5
          exact ⟨_, f1, .tup (sub_of ⟨m1.fresh f6, nt⟩ ht) (.cons (ax.same gs) (.cons (ay.same gs) (.cons (az.same gs) .nil)))⟩
theorem vals_ints' : ∀ {ns : List Int} {its : List Value}, Vals (ns.map V.int) its → ∃ ps : List (Int × Tok), its = ps.map (fun p => Value.int p.1 p.2) ∧ ps.map (·.1) = ns
  | [], _, .nil => ⟨[], rfl, rfl⟩
  | n :: ns, _, .cons h hs => by
    obtain ⟨ps, e1, e2⟩ := vals_ints' hs
    obtain ⟨t, rfl⟩ := h
    exact ⟨(n, t) :: ps, by rw [e1]; rfl, by rw [← e2]; rfl⟩
theorem numAt_list (ps : List (Int × Tok)) (k : Nat) : numAt ps.toArray k = (ps.map (·.1)).getD k 0 := by
  unfold numAt
  rw [List.getElem?_toArray, List.getD_eq_getElem?_getD, List.getElem?_map]
theorem preSum_take (ps : List (Int × Tok)) : ∀ k, k ≤ ps.length → preSum (numAt ps.toArray) k = ((ps.map (·.1)).take k).sum
  | 0, _ => by simp [preSum]
  | k + 1, h => by
    have hk : k < (ps.map (·.1)).length := by rw [List.length_map]; omega
    rw [preSum, preSum_take ps k (by omega), numAt_list, List.take_add_one, List.getElem?_eq_getElem hk, List.sum_append, List.getD_eq_getElem?_getD, List.getElem?_eq_getElem hk]
    simp
def Fits (ns : List Int) : Prop := ∀ k, k ≤ ns.length → -(2 ^ 62) ≤ (ns.take k).sum ∧ (ns.take k).sum < 2 ^ 62
theorem call_sumI (hc : X.calm = true) : CallR X (.builtin "sum") (fun xs H Q => ∃ (l : Addr) (ns : List Int), xs = [.ref l] ∧ SqL X.K H l (ns.map V.int) ∧ (∀ n ∈ ns, -(2 ^ 62) ≤ n ∧ n < 2 ^ 62) ∧ Fits ns ∧ Q (.int ns.sum) H) := by
  intro pins s σ H xs us Q I r h
  obtain ⟨l, ns, rfl, hS, hb, hf, q⟩ := h
  obtain ⟨u, rfl, rx⟩ := Vals.one r
  cases (show u = Value.ref l from rx)
  obtain ⟨its, rv, p, hz⟩ := I.list hS
  obtain ⟨ps, rfl, rfl⟩ := vals_ints' rv
  have hl : s.heap.IsList l (intItems ps.toArray) := by
    have := p.isList
    rwa [show intItems ps.toArray = (ps.map fun p => Value.int p.1 p.2).toArray by simp [intItems]]
  refine sum_intList (I.ok.hd hc) hl (fun j hj => ?_) fun h' tk t' hk => ?_
  · have hj' : j < ps.length := by simpa using hj
    have hk : j < (ps.map (·.1)).length := by rw [List.length_map]; exact hj'
    rw [preSum_take ps (j + 1) (by omega), numAt_list, List.getD_eq_getElem?_getD, List.getElem?_eq_getElem hk]
    have h1 := hb _ (List.getElem_mem hk)
    have h2 := hf (j + 1) (by omega)
    refine ⟨⟨?_, ?_⟩, ?_, ?_⟩
    · show -(2 ^ 63) ≤ (ps.map (·.1))[j]; omega
    · show (ps.map (·.1))[j] < 2 ^ 63; omega
    · omega
    · omega
  · rw [show preSum (numAt ps.toArray) ps.toArray.size = (ps.map (·.1)).sum by
      rw [List.size_toArray, preSum_take ps ps.length (Nat.le_refl _), ← List.length_map (f := (·.1)) (as := ps), List.take_length]]
    exact ⟨.int _, H, I.kept (t' := tk) hk, ⟨_, rfl⟩, q⟩
theorem ev_sumI {Q : PyData → Prop} {e : Expr} (hc : X.calm = true) (hg : Gl X "sum") (hm : X.mg "sum" = none) (h : EvD X α e fun x => ∃ ns : List Int, x = .list (ns.map .int) ∧ (∀ n ∈ ns, -(2 ^ 62) ≤ n ∧ n < 2 ^ 62) ∧ Fits ns ∧ Q (.int ns.sum)) (he : starEach [e] X.env = (false, eval e X.env) :: starEach [] X.env := by rfl) :
    EvD X α (.Call (.Name "sum" p) [e] [] pos) Q := by
  refine ev_callB (call_sumI hc) hg hm boot_sum (ea_cons (h.imp fun x ⟨ns, e1, hb, hf, q⟩ => ea_nil ?_) he) (he := he)
  intro F σ H vs R m rv k
  subst e1
  obtain ⟨v, rfl, av⟩ := rv.one
  obtain ⟨a, xs, rfl, h1, h2⟩ := av.lst_inv
  cases h2.ints
  exact ⟨a, ns, rfl, SqL.of (sub_some h1).2, hb, hf, k _ _ H q m.tp Kz.refl (.int _)⟩
end
end L2
set_option Elab.async false
set_option linter.all false
set_option maxRecDepth 100000
/-! ### marks of alike prices; what is paid -/
namespace L2
open PySem PySem.Spec PyProof.Rows SortA
/-- what is not free -/
def paids : List Int → List Bool → List Int
  | z :: zs, b :: bs => if b = true then paids zs bs else z :: paids zs bs
  | _, _ => []
theorem paids_mem : ∀ {zs : List Int} {bs : List Bool} {z : Int}, z ∈ paids zs bs → z ∈ zs
  | [], _, z, h => by simp [paids] at h
  | y :: zs, [], z, h => by simp [paids] at h
  | y :: zs, b :: bs, z, h => by
    rw [paids] at h
    split at h
    · exact List.mem_cons_of_mem _ (paids_mem h)
    · rcases List.mem_cons.mp h with e | h
      · rw [e]; exact List.mem_cons_self
      · exact List.mem_cons_of_mem _ (paids_mem h)
theorem paids_len : ∀ (zs : List Int) (bs : List Bool), (paids zs bs).length ≤ zs.length
  | [], _ => by simp [paids]
  | y :: zs, [] => by simp [paids]
  | y :: zs, b :: bs => by
    rw [paids]
    have := paids_len zs bs
    split
    · rw [List.length_cons]; omega
    · rw [List.length_cons, List.length_cons]; omega
theorem sum_bound : ∀ {ns : List Int} {m : Int}, 0 ≤ m → (∀ n ∈ ns, 0 ≤ n ∧ n ≤ m) → 0 ≤ ns.sum ∧ ns.sum ≤ ns.length * m
  | [], m, _, _ => by simp
  | n :: ns, m, h0, h => by
    obtain ⟨a, b⟩ := sum_bound h0 fun x hx => h x (List.mem_cons_of_mem _ hx)
    have := h n List.mem_cons_self
    rw [List.sum_cons, List.length_cons, Int.natCast_add, Int.add_mul]
    constructor
    · omega
    · simp; omega
theorem fits_small {ns : List Int} (h : ∀ n ∈ ns, 0 ≤ n ∧ n ≤ 1000000000000) (hl : ns.length ≤ 1000) : Fits ns := fun k hk => by
  obtain ⟨a, b⟩ := sum_bound (ns := ns.take k) (m := 1000000000000) (by decide) fun n hn => h n (List.mem_of_mem_take hn)
  have : ((ns.take k).length : Int) * 1000000000000 ≤ 1000 * 1000000000000 := by
    apply Int.mul_le_mul_of_nonneg_right _ (by decide)
    rw [List.length_take]; omega
  omega
def rowD (p : Nat) : PyData → PyData
  | .tuple [a, b, c] => if p = 1 then b else c
  | _ => .none
def rowFree : PyData → Bool
  | .tuple [_, _, .bool b] => b
  | _ => false
theorem rows_paids : ∀ {ds : List PyData} {zs : List Int} {bs : List Bool}, zs.length = ds.length → bs.length = ds.length → ((zip3D ds (zs.map .int) (bs.map .bool)).filter fun d => !rowFree d).map (rowD 1) = (paids zs bs).map .int
  | [], [], [], _, _ => rfl
  | d :: ds, z :: zs, b :: bs, h1, h2 => by
    have ih := rows_paids (ds := ds) (zs := zs) (bs := bs) (by simpa using h1) (by simpa using h2)
    rw [List.map_cons, List.map_cons, zip3D, paids, List.filter_cons]
    cases b with
    | true => simpa [rowFree, tri3] using ih
    | false => simp [rowFree, tri3, rowD]; exact ih
/-- which marks there are, by a deal or none -/
def MkFor (d : PyData) (zs : List Int) (bs : List Bool) : Prop := (d = .none ∧ bs = List.replicate zs.length false) ∨ ∃ many free : Nat, d = .tuple [.int many, .int free] ∧ MkAt zs many free zs.length bs
theorem MkFor.len {d : PyData} {zs : List Int} {bs : List Bool} (h : MkFor d zs bs) : bs.length = zs.length := by
  rcases h with ⟨_, rfl⟩ | ⟨_, _, _, h⟩
  · simp
  · exact h.1
end L2
set_option Elab.async false
set_option linter.all false
set_option maxRecDepth 100000
/-! ### what is free is the least of all choices of as many or more -/
namespace L2
open PySem PySem.Spec PyProof.Rows SortA
/-- the sum of what is marked -/
def freeS : List Int → List Bool → Int
  | z :: zs, b :: bs => (if b = true then z else 0) + freeS zs bs
  | _, _ => 0
theorem paids_free : ∀ {zs : List Int} {bs : List Bool}, bs.length = zs.length → (paids zs bs).sum = zs.sum - freeS zs bs
  | [], [], _ => by simp [paids, freeS]
  | z :: zs, b :: bs, h => by
    have ih := paids_free (zs := zs) (bs := bs) (by simpa using h)
    rw [paids, freeS, List.sum_cons]
    cases b with
    | true => rw [if_pos rfl, if_pos rfl, ih]; omega
    | false => rw [if_neg (by decide), if_neg (by decide), List.sum_cons, ih]; omega
theorem freeS_app : ∀ {zs ys : List Int} {bs cs : List Bool}, bs.length = zs.length → freeS (zs ++ ys) (bs ++ cs) = freeS zs bs + freeS ys cs
  | [], ys, [], cs, _ => by simp [freeS]
  | z :: zs, ys, b :: bs, cs, h => by
    rw [List.cons_append, List.cons_append, freeS, freeS, freeS_app (by simpa using h)]
    omega
theorem freeS_none : ∀ {zs : List Int} {bs : List Bool}, (∀ b ∈ bs, b = false) → freeS zs bs = 0
  | [], _, _ => by simp [freeS]
  | _ :: _, [], _ => by simp [freeS]
  | z :: zs, b :: bs, h => by
    rw [freeS, h b List.mem_cons_self, freeS_none fun x hx => h x (List.mem_cons_of_mem _ hx)]
    rfl
theorem freeS_nonneg : ∀ {zs : List Int} {bs : List Bool}, (∀ z ∈ zs, 0 ≤ z) → 0 ≤ freeS zs bs
  | [], _, _ => by simp [freeS]
  | _ :: _, [], _ => by simp [freeS]
  | z :: zs, b :: bs, h => by
    have ih := freeS_nonneg (zs := zs) (bs := bs) fun x hx => h x (List.mem_cons_of_mem _ hx)
    have := h z List.mem_cons_self
    rw [freeS]
    split <;> omega
theorem freeS_le : ∀ {zs ys : List Int} {bs : List Bool}, ys.length = zs.length → (∀ i, i < zs.length → zs.getD i 0 ≤ ys.getD i 0) → freeS zs bs ≤ freeS ys bs
  | [], [], _, _, _ => by simp [freeS]
  | _ :: _, _ :: _, [], _, _ => by simp [freeS]
  | z :: zs, y :: ys, b :: bs, hl, h => by
    have ih := freeS_le (zs := zs) (ys := ys) (bs := bs) (by simpa using hl) fun i hi => by
      have := h (i + 1) (by simpa using hi)
      simpa using this
    have h0 := h 0 (by simp)
    simp at h0
    rw [freeS, freeS]
    split <;> omega
theorem freeS_more : ∀ {zs ys : List Int} {bs : List Bool} {d : Int}, ys.length = zs.length → ys.sum = zs.sum + d → (∀ i, i < zs.length → zs.getD i 0 ≤ ys.getD i 0) → freeS ys bs ≤ freeS zs bs + d
  | [], [], _, d, _, hs, _ => by simp [freeS] at hs ⊢; omega
  | z :: zs, y :: ys, [], d, hl, hs, h => by
    have ih := freeS_more (zs := zs) (ys := ys) (bs := []) (d := d - (y - z)) (by simpa using hl) (by rw [List.sum_cons, List.sum_cons] at hs; omega) fun i hi => by
      have := h (i + 1) (by simpa using hi)
      simpa using this
    have h0 := h 0 (by simp)
    simp at h0
    have e1 : freeS ys [] = 0 := by cases ys <;> rfl
    have e2 : freeS zs [] = 0 := by cases zs <;> rfl
    rw [e1, e2] at ih
    show (0 : Int) ≤ 0 + d
    omega
  | z :: zs, y :: ys, b :: bs, d, hl, hs, h => by
    have ih := freeS_more (zs := zs) (ys := ys) (bs := bs) (d := d - (y - z)) (by simpa using hl) (by rw [List.sum_cons, List.sum_cons] at hs; omega) fun i hi => by
      have := h (i + 1) (by simpa using hi)
      simpa using this
    have h0 := h 0 (by simp)
    simp at h0
    rw [freeS, freeS]
    split <;> omega
/-- by a line between what is marked and what is not -/
theorem line_min {t : Int} : ∀ {zs : List Int} {bs cs : List Bool}, bs.length = zs.length → cs.length = zs.length → (∀ i, i < zs.length → (bs.getD i false = true → zs.getD i 0 ≤ t) ∧ (bs.getD i false = false → t ≤ zs.getD i 0)) →
    freeS zs bs - t * (bs.count true : Nat) ≤ freeS zs cs - t * (cs.count true : Nat)
  | [], [], [], _, _, _ => by simp [freeS]
  | z :: zs, b :: bs, c :: cs, h1, h2, h => by
    have ih := line_min (t := t) (zs := zs) (bs := bs) (cs := cs) (by simpa using h1) (by simpa using h2) fun i hi => by
      have := h (i + 1) (by simpa using hi)
      simpa using this
    have h0 := h 0 (by simp)
    simp only [List.getD_cons_zero] at h0
    rw [freeS, freeS]
    have eb : t * (((b :: bs).count true : Nat) : Int) = t * (bs.count true : Nat) + (if b = true then t else 0) := by
      cases b with
      | true => rw [List.count_cons_self, Int.natCast_add, Int.mul_add, if_pos rfl]; simp
      | false => rw [List.count_cons_of_ne (by decide), if_neg (by decide)]; simp
    have ecc : t * (((c :: cs).count true : Nat) : Int) = t * (cs.count true : Nat) + (if c = true then t else 0) := by
      cases c with
      | true => rw [List.count_cons_self, Int.natCast_add, Int.mul_add, if_pos rfl]; simp
      | false => rw [List.count_cons_of_ne (by decide), if_neg (by decide)]; simp
    rw [eb, ecc]
    generalize t * ((bs.count true : Nat) : Int) = x at *
    generalize t * ((cs.count true : Nat) : Int) = y at *
    cases b with
    | true =>
      have := h0.1 rfl
      cases c <;> simp <;> omega
    | false =>
      have := h0.2 rfl
      cases c <;> simp <;> omega
/-- one bundle -/
theorem bundle_min {zs ms : List Int} {lo many free : Nat} {bs cs : List Bool} (s : SrtI (upInts (lo : Int) many) zs ms) (hz : lo + many ≤ zs.length) (hb : bs.length = zs.length) (h : ∀ q, q < many → bs.getD (ms.getD q 0).toNat false = decide (q < free)) (f0 : 0 < free) (hf : free ≤ many) (h0 : ∀ z ∈ zs, 0 ≤ z)
    (hc : cs.length = many) (hn : free ≤ cs.count true) : freeS ((zs.drop lo).take many) ((bs.drop lo).take many) ≤ freeS ((zs.drop lo).take many) cs := by
  have hl : ms.length = many := by rw [s.1.length_eq, upInts_length]
  have lz : ((zs.drop lo).take many).length = many := by rw [List.length_take, List.length_drop]; omega
  have lb : ((bs.drop lo).take many).length = many := by rw [List.length_take, List.length_drop]; omega
  have gb : ∀ a, a < many → ((bs.drop lo).take many).getD a false = bs.getD (lo + a) false := fun a ha => by
    rw [List.getD_eq_getElem?_getD, List.getD_eq_getElem?_getD, List.getElem?_take_of_lt ha, List.getElem?_drop]
  have gz : ∀ a, a < many → ((zs.drop lo).take many).getD a 0 = zs.getD (lo + a) 0 := fun a ha => by
    rw [List.getD_eq_getElem?_getD, List.getD_eq_getElem?_getD, List.getElem?_take_of_lt ha, List.getElem?_drop]
  have up : ∀ p q, p < q → q < many → zs.getD (ms.getD p 0).toNat 0 ≤ zs.getD (ms.getD q 0).toNat 0 := fun p q hpq hq => by
    have w := List.pairwise_iff_getElem.mp s.2 p q (by omega) (by omega) hpq
    have w := of_decide_eq_false (show decide _ = false from w)
    simp only [keyOf] at w
    rw [List.getD_eq_getElem?_getD (l := ms), List.getD_eq_getElem?_getD (l := ms), List.getElem?_eq_getElem (by omega), List.getElem?_eq_getElem (by omega)]
    simp only [Option.getD_some]
    omega
  have line := line_min (t := zs.getD (ms.getD (free - 1) 0).toNat 0) (zs := (zs.drop lo).take many) (bs := (bs.drop lo).take many) (cs := cs) (by rw [lb, lz]) (by rw [hc, lz]) fun i hi => by
    rw [lz] at hi
    rw [gb i hi, gz i hi]
    obtain ⟨q, hq, e⟩ := srt_at s (m := ((lo + i : Nat) : Int)) (by omega) (by omega)
    have fq := h q hq
    rw [e, Int.toNat_natCast] at fq
    have eq : zs.getD (lo + i) 0 = zs.getD (ms.getD q 0).toNat 0 := by rw [e, Int.toNat_natCast]
    rw [fq, eq]
    constructor
    · intro hd
      have hd := of_decide_eq_true hd
      by_cases he : q = free - 1
      · rw [he]; exact Int.le_refl _
      · exact up q (free - 1) (by omega) (by omega)
    · intro hd
      have hd := of_decide_eq_false hd
      exact up (free - 1) q (by omega) hq
  have hcnt := bundle_count s (by omega) h hf
  rw [hcnt] at line
  have t0 : 0 ≤ zs.getD (ms.getD (free - 1) 0).toNat 0 := by
    have := srt_mem s (q := free - 1) (by omega)
    have hlt : (ms.getD (free - 1) 0).toNat < zs.length := by omega
    rw [List.getD_eq_getElem?_getD (l := zs), List.getElem?_eq_getElem hlt]
    exact h0 _ (List.getElem_mem _)
  generalize zs.getD (ms.getD (free - 1) 0).toNat 0 = t at *
  have : t * (free : Nat) ≤ t * (cs.count true : Nat) := Int.mul_le_mul_of_nonneg_left (by omega) t0
  omega
end L2
set_option Elab.async false
set_option linter.all false
set_option maxRecDepth 100000
/-! ### sums by deals: dearer nights, better deals -/
namespace L2
open PySem PySem.Spec PyProof.Rows SortA
theorem mk_min_to {zs ys : List Int} {many free free' : Nat} {bs cs : List Bool} (mk : MkAt zs many free zs.length bs) (mk' : MkAt ys many free' ys.length cs) (hl : ys.length = zs.length) (f0 : 0 < free) (hff : free ≤ free') (hf : free' ≤ many) (h0 : ∀ z ∈ zs, 0 ≤ z) :
    ∀ k, k ≤ zs.length / many → freeS (zs.take (k * many)) (bs.take (k * many)) ≤ freeS (zs.take (k * many)) (cs.take (k * many))
  | 0, _ => by simp [freeS]
  | k + 1, hk => by
    obtain ⟨ms, s, f⟩ := mk.2.2 k hk
    obtain ⟨ms', s', f'⟩ := mk'.2.2 k (by rw [hl]; exact hk)
    have hkm : (k + 1) * many ≤ zs.length := Nat.le_trans (Nat.mul_le_mul_right _ hk) (Nat.div_mul_le_self _ _)
    rw [Nat.add_mul, Nat.one_mul] at hkm ⊢
    have b1 := mk.1
    have c1 := mk'.1
    have ih := mk_min_to mk mk' hl f0 hff hf h0 k (by omega)
    have one := bundle_min (cs := (cs.drop (k * many)).take many) s hkm b1 f f0 (by omega) h0 (by rw [List.length_take, List.length_drop]; omega) (by rw [bundle_count s' (by omega) f' hf]; exact hff)
    rw [List.take_add, List.take_add, List.take_add, freeS_app (by rw [List.length_take, List.length_take]; omega), freeS_app (by rw [List.length_take, List.length_take]; omega)]
    omega
theorem mk_cut {zs : List Int} {many free : Nat} {bs : List Bool} (ys : List Int) (hy : ys.length = zs.length) (mk : MkAt zs many free zs.length bs) : freeS ys bs = freeS (ys.take (zs.length / many * many)) (bs.take (zs.length / many * many)) := by
  have hw := Nat.div_mul_le_self zs.length many
  have b1 := mk.1
  have e1 : freeS ys bs = freeS (ys.take (zs.length / many * many) ++ ys.drop (zs.length / many * many)) (bs.take (zs.length / many * many) ++ bs.drop (zs.length / many * many)) := by rw [List.take_append_drop, List.take_append_drop]
  rw [e1, freeS_app (by rw [List.length_take, List.length_take]; omega), freeS_none (zs := ys.drop _) (bs := bs.drop _) fun b hb => ?_, Int.add_zero]
  obtain ⟨j, hj, rfl⟩ := List.mem_iff_getElem.mp hb
  rw [List.getElem_drop]
  rw [List.length_drop] at hj
  have := mk.2.1 (zs.length / many * many + j) (by omega)
  rw [List.getD_eq_getElem?_getD, List.getElem?_eq_getElem (by omega)] at this
  exact this
theorem mk_min {zs ys : List Int} {many free free' : Nat} {bs cs : List Bool} (mk : MkAt zs many free zs.length bs) (mk' : MkAt ys many free' ys.length cs) (hl : ys.length = zs.length) (f0 : 0 < free) (hff : free ≤ free') (hf : free' ≤ many) (h0 : ∀ z ∈ zs, 0 ≤ z) : freeS zs bs ≤ freeS zs cs := by
  have e2 := mk_cut zs hl.symm mk'
  rw [hl] at e2
  rw [mk_cut zs rfl mk, e2]
  exact mk_min_to mk mk' hl f0 hff hf h0 _ (Nat.le_refl _)
def DealOk (d : PyData) : Prop := d = .none ∨ ∃ many free : Nat, d = .tuple [.int many, .int free] ∧ 0 < free ∧ free < many ∧ many < 64
theorem for_deal {many free : Nat} {zs : List Int} {bs : List Bool} (h : MkFor (.tuple [.int many, .int free]) zs bs) : MkAt zs many free zs.length bs := by
  rcases h with ⟨h, _⟩ | ⟨m', f', h, mk⟩
  · cases h
  · injection h with h
    injection h with h1 h2
    injection h2 with h2 _
    injection h1 with h1
    injection h2 with h2
    have e1 : m' = many := by omega
    have e2 : f' = free := by omega
    rw [e1, e2] at mk
    exact mk
theorem for_none {zs : List Int} {bs : List Bool} (h : MkFor .none zs bs) : freeS zs bs = 0 := by
  rcases h with ⟨_, rfl⟩ | ⟨_, _, h, _⟩
  · exact freeS_none fun b hb => (List.mem_replicate.mp hb).2
  · cases h
/-- a dearer night -/
theorem for_dearer {d : PyData} {zs ys : List Int} {bs cs : List Bool} {e : Int} (hb : MkFor d zs bs) (hc : MkFor d ys cs) (hd : DealOk d) (hl : ys.length = zs.length) (hs : ys.sum = zs.sum + e) (hle : ∀ i, i < zs.length → zs.getD i 0 ≤ ys.getD i 0) (h0 : ∀ z ∈ zs, 0 ≤ z) (h1 : ∀ z ∈ ys, 0 ≤ z) :
    (paids zs bs).sum ≤ (paids ys cs).sum ∧ (paids ys cs).sum ≤ (paids zs bs).sum + e := by
  rw [paids_free hb.len, paids_free hc.len, hs]
  rcases hd with rfl | ⟨many, free, rfl, f0, fm, _⟩
  · rw [for_none hb, for_none hc]
    have := freeS_more (bs := []) hl hs hle
    have e1 : freeS ys [] = 0 := by cases ys <;> rfl
    have e2 : freeS zs [] = 0 := by cases zs <;> rfl
    rw [e1, e2] at this
    omega
  · have mk := for_deal hb
    have mk' := for_deal hc
    have a1 := mk_min mk mk' hl f0 (Nat.le_refl _) (by omega) h0
    have a2 := mk_min mk' mk hl.symm f0 (Nat.le_refl _) (by omega) h1
    have a3 := freeS_le (bs := cs) hl hle
    have a4 := freeS_more (bs := bs) hl hs hle
    omega
/-- a deal, a better deal -/
theorem for_better {zs : List Int} {bs cs : List Bool} {many free free' : Nat} (hb : MkFor (.tuple [.int many, .int free]) zs bs) (hc : MkFor (.tuple [.int many, .int free']) zs cs) (f0 : 0 < free) (hff : free ≤ free') (hf : free' ≤ many) (h0 : ∀ z ∈ zs, 0 ≤ z) : (paids zs cs).sum ≤ (paids zs bs).sum := by
  rw [paids_free hb.len, paids_free hc.len]
  have := mk_min (for_deal hb) (for_deal hc) rfl f0 hff hf h0
  omega
theorem for_all {d : PyData} {zs : List Int} {bs : List Bool} (hb : MkFor d zs bs) (h0 : ∀ z ∈ zs, 0 ≤ z) : (paids zs bs).sum ≤ zs.sum := by
  rw [paids_free hb.len]
  have := freeS_nonneg (bs := bs) h0
  omega
theorem for_non {zs : List Int} {bs : List Bool} (hb : MkFor .none zs bs) : (paids zs bs).sum = zs.sum := by
  rw [paids_free hb.len, for_none hb]
  omega
end L2
set_option Elab.async false
set_option linter.all false
set_option maxRecDepth 100000
namespace K34
open PySem PySem.Spec PyProof.Rows L2
def top (i : Nat) : Stmt := PySem.Challenge.pw_stayprice_k34_whole_dearer_nights.main.body.getD i (.Pass ⟨0, 0, 0, 0⟩)
abbrev sTape : Stmt := top 44
abbrev sDraw : Stmt := top 45
def scopeTape : Scope := match defBody sTape with
  | [.Return (some (.List (.ListComp _ _ sc _ :: _) _)) _] => sc
  | _ => defScope sTape
section
variable {P : Program} {w : World} {K : PySem.W.Frag} {mg : Str → Option Value} {base : Heap}
theorem scTape : FnScope ["_law_script"] ["_law_script"] (defScope sTape) := ⟨rfl, rfl, rfl, by decide +kernel, rfl, by decide +kernel, by decide +kernel⟩
theorem csTape : CompScope ["_law_script"] (defScope sTape) ["_law_cell"] [none] scopeTape := ⟨rfl, by decide +kernel, by decide +kernel, by decide +kernel, by decide +kernel, rfl, by decide +kernel⟩
theorem ok_tape {f : Addr} {fd : FuncData} (F : Fun K "_law_tape" "_law_tape" sTape f fd) (T : TxtT mg) : FnOk P w K mg base CX0 1 f fd ["_law_script"] (spTape K) := by
  refine F.ok scTape (fun vs H Q E h => ?_) (fun cdv A outer s H vs Q E hr h => ?_)
  · obtain ⟨a, ns, rfl, _⟩ := h
    rfl
  · obtain ⟨a, ns, rfl, hS, hlen, tb, k⟩ := h
    refine ⟨_, pss_one (ps_ret (pe_lst (pa_cons
      (pe_lc rfl csTape (pi_list (pe_slice sl_list (pv 0) po_none (po_some pe_int)))
        (fun _ _ _ _ => pg_name (i := 0) csTape.nd rfl (Or.inl rfl))
        (fun _ _ _ _ => pts_one (pt_cmpR op_ge (pe_callB call_abs (by rfl) T.abs boot_abs (pa_cons (pv 0) pa_nil)) (pe_op op_pow pe_int pe_int) (nomark _)))
        (fun _ _ _ _ => pe_callB call_abs (by rfl) T.abs boot_abs (pa_cons (pv 0) pa_nil)))
      (pa_cons (pe_callTy call_list_of (by rfl) T.list boot_list (pa_cons (pe_slice sl_list (pv 0) po_none (po_some pe_int)) pa_nil))
      (pa_cons pe_int pa_nil))))), ?_⟩
    -- script[:63]
    refine ⟨_, rfl, 63, rfl, a, _, rfl, hS, fun l hl => ?_⟩
    obtain ⟨ms, em, lm⟩ := cutV_map ns none (some 63)
    rw [em]
    refine ⟨l, rfl, ⟨_, SqL.of upd_same⟩, fun acc hacc => ?_⟩
    have nal : acc ≠ l := fun z => by rw [z, upd_same] at hacc; cases hacc
    have hacc' : H acc = none := by rw [upd_ne nal] at hacc; exact hacc
    have s0 : Same H (upd H l (.lst (ms.map V.int))) := fun b o e => by rw [upd_ne (ne_of_none e hl)]; exact e
    refine comp_list (K := K) (a := l) (xs := ms.map V.int) (fun i ys τ H2 => ∃ (bs : List Int) (v : Option V), ys = bs.map V.int ∧ bs.length ≤ i ∧ τ = [v] ∧ H2 = upd (upd H l (.lst (ms.map V.int))) acc (.lst (bs.map V.int)))
      ⟨[], none, rfl, Nat.le_refl _, rfl, rfl⟩ ?_ ?_ ?_
    · rintro i ys τ H2 _ ⟨bs, v, rfl, _, rfl, rfl⟩
      exact SqL.of (by rw [upd_ne nal.symm, upd_same])
    · rintro i x ys τ H2 hx ⟨bs, v, rfl, hb, rfl, rfl⟩
      have hi : i < ms.length := by
        have := (List.getElem?_eq_some_iff.mp hx).1
        rwa [List.length_map] at this
      obtain ⟨z, rfl⟩ : ∃ z, x = V.int z := by
        rw [List.getElem?_map] at hx
        cases e : ms[i]? with
        | none => rw [e] at hx; cases hx
        | some z => rw [e] at hx; exact ⟨z, (Option.some.inj hx).symm⟩
      refine ⟨_, rfl, z, rfl, _, _, rfl, rfl, ⟨by decide, by decide, by decide⟩, _, _, rfl, rfl, _, rfl, ?_⟩
      refine ite2 (fun _ => ?_) (fun _ => ?_)
      · refine ⟨_, rfl, z, rfl, upd_same, ?_, bs ++ [if z < 0 then -z else z], _, ?_, ?_, rfl, ?_⟩
        · rw [List.length_map]; exact small1000 (by omega)
        · rw [List.map_append]; rfl
        · rw [List.length_append]; simp; omega
        · rw [upd_upd, List.map_append]; rfl
      · exact ⟨bs, _, rfl, by omega, rfl, rfl⟩
    · rintro ys τ H2 ⟨bs, v, rfl, hb, rfl, rfl⟩
      rw [List.length_map] at hb
      -- list(script[:63])
      have s1 : Same H (upd (upd H l (.lst (ms.map V.int))) acc (.lst (bs.map V.int))) := fun b o e => by rw [upd_ne (ne_of_none e hacc')]; exact s0 b o e
      refine ⟨_, rfl, 63, rfl, a, _, rfl, s1.seq hS, fun l2 hl2 => ?_⟩
      rw [em]
      refine ⟨l2, _, rfl, .inl (SqL.of upd_same), fun c hc => ?_⟩
      refine ⟨(by show 3 ≤ sizeLine; decide), fun t ht => ?_⟩
      have n1 : l2 ≠ acc := fun z => by rw [z, upd_same] at hl2; cases hl2
      have n2 : c ≠ l2 := fun z => by rw [z, upd_same] at hc; cases hc
      have hc2 : upd (upd H l (.lst (ms.map V.int))) acc (.lst (bs.map V.int)) c = none := by rw [upd_ne n2] at hc; exact hc
      have n3 : c ≠ acc := fun z => by rw [z, upd_same] at hc2; cases hc2
      have n4 : t ≠ c := fun z => by rw [z, upd_same] at ht; cases ht
      have ht2 : upd (upd (upd H l (.lst (ms.map V.int))) acc (.lst (bs.map V.int))) l2 (.lst (ms.map V.int)) t = none := by rw [upd_ne n4] at ht; exact ht
      have n5 : t ≠ l2 := fun z => by rw [z, upd_same] at ht2; cases ht2
      have ht3 : upd (upd H l (.lst (ms.map V.int))) acc (.lst (bs.map V.int)) t = none := by rw [upd_ne n5] at ht2; exact ht2
      have n6 : t ≠ acc := fun z => by rw [z, upd_same] at ht3; cases ht3
      have sF : Same H (upd (upd (upd (upd (upd H l (.lst (ms.map V.int))) acc (.lst (bs.map V.int))) l2 (.lst (ms.map V.int))) c (.lst (ms.map V.int))) t (.lst [.ref acc, .ref c, .int 0])) := fun b o e => by
        have e1 := s1 b o e
        rw [upd_ne (ne_of_none e1 ht3), upd_ne (ne_of_none e1 hc2), upd_ne (ne_of_none e1 hl2)]
        exact e1
      refine k t acc c _ ⟨⟨0, bs, ms, n3.symm, upd_same, ?_, ?_, by omega, by omega⟩, tb.same fun b o _ e => sF b o e⟩ (s1.free ht3) hacc' (s1.free hc2) sF
      · rw [upd_ne n6.symm, upd_ne n3.symm, upd_ne n1.symm, upd_same]
      · rw [upd_ne n4.symm, upd_same]

theorem scDraw : FnScope ["_law_tape_here", "_law_many", "_law_found", "_law_cell", "_law_number"] ["_law_tape_here", "_law_many"] (defScope sDraw) := ⟨rfl, rfl, rfl, by decide +kernel, rfl, by decide +kernel, by decide +kernel⟩
theorem ok_draw {f : Addr} {fd : FuncData} (F : Fun K "_law_draw" "_law_draw" sDraw f fd) (T : TxtT mg) : FnOk P w K mg base CX0 1 f fd ["_law_tape_here", "_law_many"] spDraw := by
  refine F.ok scDraw (fun vs H Q E h => ?_) (fun cdv A outer s H vs Q E hr h => ?_)
  · obtain ⟨t, b, c, many, rfl, _⟩ := h
    rfl
  · obtain ⟨t, b, c, many, rfl, ⟨⟨n, bs, cs, nbc, ht, hb, hc, lb, lc⟩, tb⟩, hm0, hm1, k⟩ := h
    have k := fun (v : Int) (H' : Hp) (a1 : 0 ≤ v) (a2 : v < many) (ex : ∃ (n : Int) (bs cs : List Int), b ≠ c ∧ H' t = some (.lst [.ref b, .ref c, .int n]) ∧ H' b = some (.lst (bs.map V.int)) ∧ H' c = some (.lst (cs.map V.int)) ∧ bs.length ≤ 63 ∧ cs.length ≤ 63) (off : OffT t b H H') => k v H' a1 a2 ⟨ex, tb.offT ht hb off⟩ off
    have ntb : t ≠ b := ne_of ht hb (ints_ne bs)
    have ntc : t ≠ c := ne_of ht hc (ints_ne cs)
    have hlog : many.natAbs.log2 < 9000 := log2_small hm0 hm1
    -- tape[2] = tape[2] + 1
    refine pss_cut (fun σ H1 => σ = [some (.ref t), some (.int many), none, none, none] ∧ H1 = upd H t (.lst [.ref b, .ref c, .int (n + 1)]))
      ⟨_, ps_asg (pe_op op_add (pe_ix ix_list (pv 0) pe_int (fun _ _ => rfl)) pe_int) (pg_sub (pv 0) pe_int set_list), ?_⟩ ?_
    · exact ⟨_, rfl, t, _, 2, _, rfl, rfl, SqL.of ht, rfl, _, _, rfl, rfl, _, rfl, t, _, 2, 2, rfl, rfl, ht, rfl, rfl, rfl⟩
    rintro σ H1 ⟨rfl, hH1⟩
    have ht1 : H1 t = some (.lst [.ref b, .ref c, .int (n + 1)]) := by rw [hH1]; exact upd_same
    have hb1 : H1 b = some (.lst (bs.map V.int)) := by rw [hH1, upd_ne ntb.symm]; exact hb
    have hc1 : H1 c = some (.lst (cs.map V.int)) := by rw [hH1, upd_ne ntc.symm]; exact hc
    have off1 : OffT t b H H1 := fun a h1 h2 => by rw [hH1, upd_ne h1]
    clear hH1
    -- while len(tape[0]) > 0 and tape[0][0] == 0: tape[0].pop(0)
    refine pss_cut (fun σ H2 => ∃ bs2 : List Int, bs2.length ≤ 63 ∧ σ = [some (.ref t), some (.int many), none, none, none] ∧ H2 t = some (.lst [.ref b, .ref c, .int (n + 1)]) ∧ H2 b = some (.lst (bs2.map V.int)) ∧ H2 c = some (.lst (cs.map V.int)) ∧ OffT t b H H2)
      ⟨_, ps_while PassesOwn.never (pw_and (pt_cmpR op_gt (pe_callB call_len_seq (by rfl) T.len PySem.boot_len (pa_cons (pe_ix ix_list (pv 0) pe_int (fun _ _ => rfl)) pa_nil)) pe_int (nomark _))
          (pw_and1 (pt_cmpR op_eq (pe_ix ix_list (pe_ix ix_list (pv 0) pe_int (fun _ _ => rfl)) pe_int (fun _ _ => rfl)) pe_int (nomark _)))).pt
        (pss_one (ps_expr (pe_bm PySem.F.plainAttrs_list PySem.F.slot_list_pop PySem.F.type_list_pop mt_popAt (pe_ix ix_list (pv 0) pe_int (fun _ _ => rfl)) (pa_cons pe_int pa_nil)))), ?_⟩ ?_
    · refine ⟨fun m σ H2 => ∃ bs2 : List Int, m = bs2.length ∧ bs2.length ≤ 63 ∧ σ = [some (.ref t), some (.int many), none, none, none] ∧ H2 t = some (.lst [.ref b, .ref c, .int (n + 1)]) ∧ H2 b = some (.lst (bs2.map V.int)) ∧ H2 c = some (.lst (cs.map V.int)) ∧ OffT t b H H2,
        ⟨_, bs, rfl, lb, rfl, ht1, hb1, hc1, off1⟩, ?_⟩
      rintro m σ H2 ⟨bs2, rfl, lb2, rfl, ht2, hb2, hc2, off2⟩
      refine ⟨_, rfl, t, _, 0, _, rfl, rfl, SqL.of ht2, rfl, b, _, rfl, .inl (SqL.of hb2), _, _, rfl, rfl, _, rfl, ?_⟩
      refine ite2 (fun _ => ?_) (fun _ => ?_)
      · cases bs2 with
        | nil => rename_i z; simp at z
        | cons z r =>
          refine ⟨_, rfl, t, _, 0, _, rfl, rfl, SqL.of ht2, rfl, b, _, 0, _, rfl, rfl, SqL.of hb2, at0, rfl, _, rfl, ?_⟩
          refine ite2 (fun _ => ?_) (fun _ => ?_)
          · refine ⟨_, fun σ' H' h' => h', _, rfl, t, _, 0, _, rfl, rfl, SqL.of ht2, rfl, .inl ⟨rfl, _, SqL.of hb2⟩, b, _, 0, 0, _, rfl, rfl, hb2, by decide, by decide, seq0, rfl, r.length, ?_, r, rfl, ?_, rfl, ?_, upd_same, ?_, ?_⟩
            · simp
            · simp at lb2; omega
            · rw [upd_ne ntb]; exact ht2
            · rw [upd_ne nbc.symm]; exact hc2
            · exact off2.trans fun a h1 h2 => by rw [upd_ne h2]
          · exact ⟨_, lb2, rfl, ht2, hb2, hc2, off2⟩
      · exact ⟨_, lb2, rfl, ht2, hb2, hc2, off2⟩
    rintro σ H2 ⟨bs2, lb2, rfl, ht2, hb2, hc2, off2⟩
    -- if len(tape[0]) > 0: ..
    refine pss_cut (fun σ H3 => σ = [some (.ref t), some (.int many), none, none, none] ∧ H2 = H3)
      ⟨_, ps_if (pt_cmpR op_gt (pe_callB call_len_seq (by rfl) T.len PySem.boot_len (pa_cons (pe_ix ix_list (pv 0) pe_int (fun _ _ => rfl)) pa_nil)) pe_int (nomark _))
        (pss_cons (ps_set (i := 2) scDraw.nd rfl (Or.inl rfl) (pe_op op_mod (pe_ix ix_list (pe_ix ix_list (pv 0) pe_int (fun _ _ => rfl)) pe_int (fun _ _ => rfl)) (pv 1)))
        (pss_cons (ps_asg (pe_op op_fdivL (pe_ix ix_list (pe_ix ix_list (pv 0) pe_int (fun _ _ => rfl)) pe_int (fun _ _ => rfl)) (pv 1)) (pg_sub (pe_ix ix_list (pv 0) pe_int (fun _ _ => rfl)) pe_int set_list))
        (pss_one (ps_ret (pv 2))))) pss_nil, ?_⟩ ?_
    · refine ⟨_, rfl, t, _, 0, _, rfl, rfl, SqL.of ht2, rfl, b, _, rfl, .inl (SqL.of hb2), _, _, rfl, rfl, _, rfl, ?_⟩
      refine ite2 (fun _ => ?_) (fun _ => ?_)
      · cases bs2 with
        | nil => rename_i z; simp at z
        | cons z r =>
          refine ⟨_, rfl, t, _, 0, _, rfl, rfl, SqL.of ht2, rfl, b, _, 0, _, rfl, rfl, SqL.of hb2, at0, _, rfl, _, _, rfl, rfl, hm0, ?_⟩
          refine ⟨_, rfl, t, _, 0, _, rfl, rfl, SqL.of ht2, rfl, b, _, 0, _, rfl, rfl, SqL.of hb2, at0, _, rfl, _, _, rfl, rfl, ⟨hm0, hlog⟩, ?_⟩
          refine ⟨_, rfl, t, _, 0, _, rfl, rfl, SqL.of ht2, rfl, b, _, 0, 0, rfl, rfl, hb2, ix0, _, rfl, ?_⟩
          refine k _ _ (Int.emod_nonneg _ (Int.ne_of_gt hm0)) (Int.emod_lt_of_pos _ hm0) ⟨n + 1, (z / many) :: r, cs, nbc, ?_, upd_same, ?_, ?_, lc⟩ ?_
          · rw [upd_ne ntb]; exact ht2
          · rw [upd_ne nbc.symm]; exact hc2
          · simpa using lb2
          · exact off2.trans fun a h1 h2 => by rw [upd_ne h2]
      · exact ⟨rfl, rfl⟩
    rintro σ H3 ⟨rfl, rfl⟩
    -- cell = 5; if len(tape[1]) > 0: ..
    refine pss_cut (fun σ H3 => σ = [some (.ref t), some (.int many), none, some (.int 5), none] ∧ H2 = H3) ⟨_, ps_set (i := 3) scDraw.nd rfl (Or.inl rfl) pe_int, rfl, rfl⟩ ?_
    rintro σ H3 ⟨rfl, rfl⟩
    refine pss_cut (fun σ H3 => ∃ z : Int, σ = [some (.ref t), some (.int many), none, some (.int z), none] ∧ H2 = H3)
      ⟨_, ps_if (pt_cmpR op_gt (pe_callB call_len_seq (by rfl) T.len PySem.boot_len (pa_cons (pe_ix ix_list (pv 0) pe_int (fun _ _ => rfl)) pa_nil)) pe_int (nomark _))
        (pss_one (ps_set (i := 3) scDraw.nd rfl (Or.inl rfl) (pe_ix ix_list (pe_ix ix_list (pv 0) pe_int (fun _ _ => rfl)) (pe_op op_mod (pe_ix ix_list (pv 0) pe_int (fun _ _ => rfl)) (pe_callB call_len_seq (by rfl) T.len PySem.boot_len (pa_cons (pe_ix ix_list (pv 0) pe_int (fun _ _ => rfl)) pa_nil))) (fun _ _ => rfl)))) pss_nil, ?_⟩ ?_
    · refine ⟨_, rfl, t, _, 1, _, rfl, rfl, SqL.of ht2, rfl, c, _, rfl, .inl (SqL.of hc2), _, _, rfl, rfl, _, rfl, ?_⟩
      refine ite2 (fun hpos => ?_) (fun _ => ?_)
      · have hpos' : 0 < cs.length := by simpa using hpos
        have hp : (0 : Int) < ((cs.map V.int).length : Int) := by rw [List.length_map]; omega
        have h1 := Int.emod_nonneg (n + 1) (Int.ne_of_gt hp)
        have h2 := Int.emod_lt_of_pos (n + 1) hp
        obtain ⟨j, hj⟩ := Int.eq_ofNat_of_zero_le h1
        have hjl : j < cs.length := by rw [hj, List.length_map] at h2; omega
        refine ⟨_, rfl, t, _, 1, _, rfl, rfl, SqL.of ht2, rfl, _, rfl, t, _, 2, _, rfl, rfl, SqL.of ht2, rfl, _, rfl, t, _, 1, _, rfl, rfl, SqL.of ht2, rfl, c, _, rfl, .inl (SqL.of hc2), _, _, rfl, rfl, hp, c, _, _, V.int cs[j], rfl, rfl, SqL.of hc2, ?_, cs[j], rfl, rfl⟩
        rw [hj]
        exact atI_nat (by rw [List.getElem?_map, List.getElem?_eq_getElem hjl]; rfl)
      · exact ⟨5, rfl, rfl⟩
    rintro σ H3 ⟨z, rfl, rfl⟩
    -- the numbers
    refine pss_cut (fun σ H3 => ∃ y : Int, (0 ≤ y ∧ y < 2147483647) ∧ σ = [some (.ref t), some (.int many), none, some (.int z), some (.int y)] ∧ H2 = H3)
      ⟨_, ps_set (i := 4) scDraw.nd rfl (Or.inl rfl) (pe_op op_mod (pe_op op_mul (pe_op op_add (pe_op op_add (pe_op op_mod (pv 3) pe_int) (pe_op op_mul pe_int (pe_ix ix_list (pv 0) pe_int (fun _ _ => rfl)))) pe_int) pe_int) pe_int), ?_⟩ ?_
    · exact ⟨_, rfl, _, _, rfl, rfl, (by show (0 : Int) < 999983; decide), _, rfl, t, _, 2, _, rfl, rfl, SqL.of ht2, rfl, _, _, rfl, rfl, .inl ⟨by decide, by decide⟩, _, _, rfl, rfl, _, _, rfl, rfl, _, _, rfl, rfl, .inr ⟨by decide, by decide⟩, _, _, rfl, rfl, (by show (0 : Int) < 2147483647; decide),
        _, ⟨Int.emod_nonneg _ (by decide), Int.emod_lt_of_pos _ (by decide)⟩, rfl, rfl⟩
    rintro σ H3 ⟨y, ⟨hy0, hy1⟩, rfl, rfl⟩
    refine pss_cut (fun σ H3 => ∃ y : Int, (0 ≤ y ∧ y < 2147483647) ∧ σ = [some (.ref t), some (.int many), none, some (.int z), some (.int y)] ∧ H2 = H3)
      ⟨_, ps_set (i := 4) scDraw.nd rfl (Or.inl rfl) (pe_op op_mod (pe_op op_add (pe_op op_add (pe_op op_mul (pv 4) (pv 4)) (pe_op op_mul pe_int (pe_ix ix_list (pv 0) pe_int (fun _ _ => rfl)))) pe_int) pe_int), ?_⟩ ?_
    · refine ⟨_, rfl, _, rfl, _, _, rfl, rfl, .inl ⟨by omega, by omega⟩, _, rfl, t, _, 2, _, rfl, rfl, SqL.of ht2, rfl, _, _, rfl, rfl, .inl ⟨by decide, by decide⟩, _, _, rfl, rfl, _, _, rfl, rfl, _, _, rfl, rfl, (by show (0 : Int) < 2147483629; decide),
        _, ⟨Int.emod_nonneg _ (by decide), Int.lt_trans (Int.emod_lt_of_pos _ (by decide)) (by decide)⟩, rfl, rfl⟩
    rintro σ H3 ⟨y2, ⟨hy0, hy1⟩, rfl, rfl⟩
    refine ⟨_, pss_one (ps_ret (pe_op op_mod (pe_op op_fdivL (pe_op op_mod (pe_op op_mul (pe_op op_fdivL (pv 4) pe_int) pe_int) pe_int) pe_int) (pv 1))), ?_⟩
    refine ⟨_, rfl, _, _, rfl, rfl, ⟨by decide, by decide +kernel⟩, _, _, rfl, rfl, .inr ⟨by decide, by decide⟩, _, _, rfl, rfl, (by show (0 : Int) < 2147483587; decide), _, _, rfl, rfl, ⟨by decide, by decide +kernel⟩, _, rfl, _, _, rfl, rfl, hm0, ?_⟩
    exact k _ _ (Int.emod_nonneg _ (Int.ne_of_gt hm0)) (Int.emod_lt_of_pos _ hm0) ⟨n + 1, bs2, cs, nbc, ht2, hb2, hc2, lb2, lc⟩ off2
end
end K34
set_option Elab.async false
set_option linter.all false
set_option maxRecDepth 100000
namespace K34
open PySem PySem.Spec PyProof.Rows L2
abbrev sWhole : Stmt := top 3
abbrev sWithin : Stmt := top 4
abbrev sPair : Stmt := top 5
abbrev sDay : Stmt := top 6
abbrev sDays : Stmt := top 7
abbrev sStretch : Stmt := top 8
structure TxtD (mg : Str → Option Value) (fW fI fP fD fPD : Addr) : Prop where
  isi : mg "isinstance" = none
  int : mg "int" = none
  bool : mg "bool" = none
  tuple : mg "tuple" = none
  len : mg "len" = none
  last : ∃ t, mg "LAST_DAY" = some (.int 1000000 t)
  most : ∃ t, mg "MOST_NIGHTS" = some (.int 14 t)
  whole : mg "is_whole" = some (.ref fW)
  within : mg "is_whole_within" = some (.ref fI)
  pair : mg "is_pair" = some (.ref fP)
  day : mg "is_day" = some (.ref fD)
  days : mg "is_pair_of_days" = some (.ref fPD)
section
variable {P : Program} {w : World} {K : PySem.W.Frag} {mg : Str → Option Value} {base : Heap} {fW fI fP fD fPD : Addr}
theorem scWhole : FnScope ["thing"] ["thing"] (defScope sWhole) := ⟨rfl, rfl, rfl, by decide +kernel, rfl, by decide +kernel, by decide +kernel⟩
theorem ok_whole {f : Addr} {fd : FuncData} (F : Fun K "is_whole" "is_whole" sWhole f fd) (T : TxtD mg fW fI fP fD fPD) : FnOk P w K mg base CX0 1 f fd ["thing"] (spPred wholeD) := by
  refine F.ok scWhole (fun vs H Q E h => ?_) (fun cdv A outer s H vs Q E hr h => ?_)
  · obtain ⟨x, d, rfl, _⟩ := h
    rfl
  · obtain ⟨x, d, rfl, hd, q⟩ := h
    refine ⟨_, pss_one (ps_ret (pe_and (pe_callB call_isiD (by rfl) T.isi boot_isinstance (pa_cons (pv 0) (pa_cons (pe_bltn (v := .ty "int") (by rfl) T.int boot_int rfl) pa_nil)))
      (pe_one (pe_not (pe_callB call_isiD (by rfl) T.isi boot_isinstance (pa_cons (pv 0) (pa_cons (pe_bltn (v := .ty "bool") (by rfl) T.bool boot_bool rfl) pa_nil))))))), ?_⟩
    rw [wholeD_eq] at q
    refine ⟨_, rfl, x, "int", d, _, rfl, hd, isi_int d, _, rfl, ?_⟩
    refine ite2 (fun h => ?_) (fun h => ?_)
    · rw [h, Bool.true_and] at q
      exact ⟨_, rfl, x, "bool", d, _, rfl, hd, isi_bool d, _, rfl, q⟩
    · rw [Bool.eq_false_iff.mpr h, Bool.false_and] at q
      exact q
theorem scWithin : FnScope ["thing", "lowest", "highest"] ["thing", "lowest", "highest"] (defScope sWithin) := ⟨rfl, rfl, rfl, by decide +kernel, rfl, by decide +kernel, by decide +kernel⟩
theorem ok_within {f : Addr} {fd fdW : FuncData} (F : Fun K "is_whole_within" "is_whole_within" sWithin f fd) (T : TxtD mg fW fI fP fD fPD) (FW : Fun K "is_whole" "is_whole" sWhole fW fdW) (bW : Binds K fdW ["thing"] []) :
    FnOk P w K mg base CX0 2 f fd ["thing", "lowest", "highest"] spWithin := by
  have GW : FnOk P w K mg base CX0 1 fW fdW ["thing"] (spPred wholeD) := ok_whole FW T
  refine F.ok scWithin (fun vs H Q E h => ?_) (fun cdv A outer s H vs Q E hr h => ?_)
  · obtain ⟨x, d, lo, hi, rfl, _⟩ := h
    rfl
  · obtain ⟨x, d, lo, hi, rfl, hd, q⟩ := h
    refine ⟨_, pss_one (ps_ret (pe_and (pe_call GW hr (by rfl) T.whole FW.kp bW .nil pass0 (pa_cons (pv 0) pa_nil)) (pe_one (pe_chain op_le op_le (pv 1) (pv 0) (pv 2))))), ?_⟩
    refine ⟨_, rfl, x, d, rfl, hd, _, rfl, ?_⟩
    cases hd with
    | int i =>
      have q' : Q (.bl (decide (lo ≤ i) && decide (i ≤ hi))) H := q
      refine iteT ⟨_, rfl, _, rfl, _, _, rfl, rfl, _, rfl, ?_⟩
      refine ite2 (fun h => ?_) (fun h => ?_)
      · rw [h, Bool.true_and] at q'
        exact ⟨_, rfl, _, _, rfl, rfl, q'⟩
      · rw [Bool.eq_false_iff.mpr h, Bool.false_and] at q'
        exact q'
    | _ => exact iteF q
theorem scPair : FnScope ["thing"] ["thing"] (defScope sPair) := ⟨rfl, rfl, rfl, by decide +kernel, rfl, by decide +kernel, by decide +kernel⟩
theorem ok_pair {f : Addr} {fd : FuncData} (F : Fun K "is_pair" "is_pair" sPair f fd) (T : TxtD mg fW fI fP fD fPD) : FnOk P w K mg base CX0 1 f fd ["thing"] (spPred pairD) := by
  refine F.ok scPair (fun vs H Q E h => ?_) (fun cdv A outer s H vs Q E hr h => ?_)
  · obtain ⟨x, d, rfl, _⟩ := h
    rfl
  · obtain ⟨x, d, rfl, hd, q⟩ := h
    refine ⟨_, pss_one (ps_ret (pe_and (pe_callB call_isiD (by rfl) T.isi boot_isinstance (pa_cons (pv 0) (pa_cons (pe_bltn (v := .ty "tuple") (by rfl) T.tuple boot_tuple rfl) pa_nil)))
      (pe_one (pe_cmpR op_eq (pe_callB call_len_seq (by rfl) T.len PySem.boot_len (pa_cons (pv 0) pa_nil)) pe_int (nomark _))))), ?_⟩
    refine ⟨_, rfl, x, "tuple", d, _, rfl, hd, isi_tuple d, _, rfl, ?_⟩
    cases hd with
    | @tup a xs ds e hs =>
      refine iteT ⟨_, rfl, a, _, rfl, .inr (SqT.of e), rfl, ?_⟩
      rw [dec_len, hs.length]
      exact q
    | _ => exact iteF q
theorem scDay : FnScope ["thing"] ["thing"] (defScope sDay) := ⟨rfl, rfl, rfl, by decide +kernel, rfl, by decide +kernel, by decide +kernel⟩
theorem ok_day {f : Addr} {fd fdI : FuncData} (F : Fun K "is_day" "is_day" sDay f fd) (T : TxtD mg fW fI fP fD fPD) (GI : FnOk P w K mg base CX0 2 fI fdI ["thing", "lowest", "highest"] spWithin) (kI : PySem.W.keepIn K (.ref fI) = true) (bI : Binds K fdI ["thing", "lowest", "highest"] []) :
    FnOk P w K mg base CX0 3 f fd ["thing"] (spPred dayD) := by
  obtain ⟨tl, hl⟩ := T.last
  refine F.ok scDay (fun vs H Q E h => ?_) (fun cdv A outer s H vs Q E hr h => ?_)
  · obtain ⟨x, d, rfl, _⟩ := h
    rfl
  · obtain ⟨x, d, rfl, hd, q⟩ := h
    refine ⟨_, pss_one (ps_ret (pe_call GI hr (by rfl) T.within kI bI .nil pass0 (pa_cons (pv 0) (pa_cons pe_int (pa_cons (pe_glob (v := .int 1000000) (by rfl) hl ⟨tl, rfl⟩) pa_nil))))), ?_⟩
    exact ⟨_, rfl, x, d, _, _, rfl, hd, q⟩
theorem scDays : FnScope ["thing"] ["thing"] (defScope sDays) := ⟨rfl, rfl, rfl, by decide +kernel, rfl, by decide +kernel, by decide +kernel⟩
theorem ok_days {f : Addr} {fd fdP fdD : FuncData} (F : Fun K "is_pair_of_days" "is_pair_of_days" sDays f fd) (T : TxtD mg fW fI fP fD fPD) (GP : FnOk P w K mg base CX0 1 fP fdP ["thing"] (spPred pairD)) (kP : PySem.W.keepIn K (.ref fP) = true) (bP : Binds K fdP ["thing"] [])
    (GD : FnOk P w K mg base CX0 3 fD fdD ["thing"] (spPred dayD)) (kD : PySem.W.keepIn K (.ref fD) = true) (bD : Binds K fdD ["thing"] []) : FnOk P w K mg base CX0 4 f fd ["thing"] (spPred daysD) := by
  refine F.ok scDays (fun vs H Q E h => ?_) (fun cdv A outer s H vs Q E hr h => ?_)
  · obtain ⟨x, d, rfl, _⟩ := h
    rfl
  · obtain ⟨x, d, rfl, hd, q⟩ := h
    have hr1 : Room 1 _ := hr.mono (by decide)
    refine ⟨_, pss_one (ps_ret (pe_and (pe_call GP hr1 (by rfl) T.pair kP bP .nil pass0 (pa_cons (pv 0) pa_nil))
      (pe_and (pe_call GD hr (by rfl) T.day kD bD .nil pass0 (pa_cons (pe_ix ix_tup (pv 0) pe_int (fun _ _ => rfl)) pa_nil))
      (pe_one (pe_call GD hr (by rfl) T.day kD bD .nil pass0 (pa_cons (pe_ix ix_tup (pv 0) pe_int (fun _ _ => rfl)) pa_nil)))))), ?_⟩
    refine ⟨_, rfl, x, d, rfl, hd, _, rfl, ?_⟩
    refine ite2 (fun h => ?_) (fun h => ?_)
    · obtain ⟨a, b, rfl⟩ := pairD_tuple h
      cases hd with
      | tup e hs =>
        cases hs with
        | cons ha hs =>
          cases hs with
          | cons hb hs =>
            cases hs
            have q' : Q (.bl (dayD a && dayD b)) H := q
            refine ⟨_, rfl, _, _, 0, _, rfl, rfl, SqT.of e, rfl, _, _, rfl, ha, _, rfl, ?_⟩
            refine ite2 (fun h => ?_) (fun h => ?_)
            · rw [h, Bool.true_and] at q'
              exact ⟨_, rfl, _, _, 1, _, rfl, rfl, SqT.of e, rfl, _, _, rfl, hb, q'⟩
            · rw [Bool.eq_false_iff.mpr h, Bool.false_and] at q'
              exact q'
    · have e : daysD d = false := by
        unfold daysD
        split
        · exact absurd rfl h
        · rfl
      rw [e] at q
      exact q
theorem scStretch : FnScope ["thing"] ["thing"] (defScope sStretch) := ⟨rfl, rfl, rfl, by decide +kernel, rfl, by decide +kernel, by decide +kernel⟩
theorem ok_stretch {f : Addr} {fd fdP : FuncData} (F : Fun K "is_stretch" "is_stretch" sStretch f fd) (T : TxtD mg fW fI fP fD fPD) (G : FnOk P w K mg base CX0 4 fPD fdP ["thing"] (spPred daysD)) (kP : PySem.W.keepIn K (.ref fPD) = true) (bP : Binds K fdP ["thing"] []) :
    FnOk P w K mg base CX0 5 f fd ["thing"] (spPred stretchD) := by
  refine F.ok scStretch (fun vs H Q E h => ?_) (fun cdv A outer s H vs Q E hr h => ?_)
  · obtain ⟨x, d, rfl, _⟩ := h
    rfl
  · obtain ⟨x, d, rfl, hd, q⟩ := h
    refine ⟨_, pss_one (ps_ret (pe_and (pe_call G hr (by rfl) T.days kP bP .nil pass0 (pa_cons (pv 0) pa_nil))
      (pe_one (pe_cmpR op_le (pe_ix ix_tup (pv 0) pe_int (fun _ _ => rfl)) (pe_ix ix_tup (pv 0) pe_int (fun _ _ => rfl)) (nomark _))))), ?_⟩
    refine ⟨_, rfl, x, d, rfl, hd, _, rfl, ?_⟩
    refine ite2 (fun h => ?_) (fun h => ?_)
    · obtain ⟨a, b, rfl, ef⟩ := daysD_ints h
      unfold stretchD at q
      rw [ef] at q
      have q' : Q (.bl (decide (0 ≤ b - a))) H := q
      have eq1 : decide (0 ≤ b - a) = decide (a ≤ b) := by
        rw [decide_eq_decide]
        omega
      rw [eq1] at q'
      cases hd with
      | tup e hs =>
        cases hs with
        | cons ha hs =>
          cases ha
          cases hs with
          | cons hb hs =>
            cases hb
            cases hs
            exact ⟨_, rfl, _, _, 0, _, rfl, rfl, SqT.of e, rfl, _, rfl, _, _, 1, _, rfl, rfl, SqT.of e, rfl, _, _, rfl, rfl, q'⟩
    · rw [daysD_pair] at h
      unfold stretchD at q
      cases ef : farD d with
      | some k => rw [ef] at h; exact absurd rfl h
      | none =>
        rw [ef] at q
        exact q
end
end K34
set_option Elab.async false
set_option linter.all false
set_option maxRecDepth 100000
namespace K34
open PySem PySem.Spec PyProof.Rows L2
abbrev sInit : Stmt := inClass (top 23) 0
abbrev sTold : Stmt := inClass (top 23) 2
abbrev sTells : Stmt := inClass (top 23) 3
abbrev sWPrice : Stmt := inClass (top 24) 0
abbrev sWCome : Stmt := inClass (top 25) 0
abbrev sWGo : Stmt := inClass (top 26) 0
abbrev sWLeast : Stmt := inClass (top 27) 0
abbrev sWMost : Stmt := inClass (top 28) 0
abbrev sWDeal : Stmt := inClass (top 29) 0
abbrev sWFee : Stmt := inClass (top 30) 0
abbrev sCoins : Stmt := top 32
abbrev sIsDeal : Stmt := top 33
abbrev sWorth : Stmt := top 34
abbrev sIsRule : Stmt := top 35
abbrev sMade : Stmt := top 36
abbrev sRuleOf : Stmt := top 37
structure TxtR (mg : Str → Option Value) (fW fI fP fD fPD fS fC fDl fWo fR fM : Addr) (cs : Cs) : Prop where
  d : TxtD mg fW fI fP fD fPD
  coinsMost : ∃ t, mg "MOST_COINS" = some (.int 1000000000000 t)
  stretch : mg "is_stretch" = some (.ref fS)
  coins : mg "is_coins" = some (.ref fC)
  deal : mg "is_deal" = some (.ref fDl)
  worth : mg "is_worth" = some (.ref fWo)
  rule : mg "is_rule" = some (.ref fR)
  made : mg "made" = some (.ref fM)
  cPrice : mg "Price" = some (.ref cs.price)
  cCome : mg "Come" = some (.ref cs.come)
  cGo : mg "Go" = some (.ref cs.go)
  cLeast : mg "Least" = some (.ref cs.least)
  cMost : mg "Most" = some (.ref cs.most)
  cDeal : mg "Deal" = some (.ref cs.deal)
  cFee : mg "Fee" = some (.ref cs.fee)
section
variable {P : Program} {w : World} {K : PySem.W.Frag} {mg : Str → Option Value} {base : Heap} {fW fI fP fD fPD fS fC fDl fWo fR fM : Addr} {cs : Cs}
/-! the methods -/
theorem scInit : FnScope ["self", "first", "last", "worth"] ["self", "first", "last", "worth"] (defScope sInit) := ⟨rfl, rfl, rfl, by decide +kernel, rfl, by decide +kernel, by decide +kernel⟩
theorem ok_init {f C fT fE fWd : Addr} {fd : FuncData} (F : Fun K "__init__" "Rule.__init__" sInit f fd) (R : ClsR K C f fT fE fWd) : FnOk P w K mg base CX0 1 f fd ["self", "first", "last", "worth"] (spInit C) := by
  refine F.ok scInit (fun vs H Q E h => ?_) (fun cdv A outer s H vs Q E hr h => ?_)
  · obtain ⟨p, dx, x, y, z, rfl, _⟩ := h
    rfl
  · obtain ⟨p, dx, x, y, z, rfl, hp, q⟩ := h
    refine ⟨_, pss_cons (ps_fld (pv 0) (pv 1) rfl) (pss_cons (ps_fld (pv 0) (pv 2) rfl) (pss_one (ps_fld (pv 0) (pv 3) rfl))), ?_⟩
    refine ⟨_, rfl, _, rfl, p, C, dx, [], rfl, hp, R.cl, R.nf, (by show 0 < 1000; decide), ?_⟩
    refine ⟨_, rfl, _, rfl, p, C, dx, _, rfl, upd_same, R.cl, R.nl, (by show 1 < 1000; decide), ?_⟩
    refine ⟨_, rfl, _, rfl, p, C, dx, putF "last" y (putF "first" x []), rfl, upd_same, R.cl, R.nw, ?_, ?_⟩
    · show (if ("first" : Str) = "last" then _ else _ : List (Str × V)).length < 1000
      rw [if_neg (fun e => ne_lf e.symm)]
      show 2 < 1000
      decide
    · rw [upd_upd, upd_upd]
      exact q
theorem scWPrice : FnScope ["self"] ["self"] (defScope sWPrice) := ⟨rfl, rfl, rfl, by decide +kernel, rfl, by decide +kernel, by decide +kernel⟩
theorem scWCome : FnScope ["self"] ["self"] (defScope sWCome) := ⟨rfl, rfl, rfl, by decide +kernel, rfl, by decide +kernel, by decide +kernel⟩
theorem scWGo : FnScope ["self"] ["self"] (defScope sWGo) := ⟨rfl, rfl, rfl, by decide +kernel, rfl, by decide +kernel, by decide +kernel⟩
theorem scWLeast : FnScope ["self"] ["self"] (defScope sWLeast) := ⟨rfl, rfl, rfl, by decide +kernel, rfl, by decide +kernel, by decide +kernel⟩
theorem scWMost : FnScope ["self"] ["self"] (defScope sWMost) := ⟨rfl, rfl, rfl, by decide +kernel, rfl, by decide +kernel, by decide +kernel⟩
theorem scWDeal : FnScope ["self"] ["self"] (defScope sWDeal) := ⟨rfl, rfl, rfl, by decide +kernel, rfl, by decide +kernel, by decide +kernel⟩
theorem scWFee : FnScope ["self"] ["self"] (defScope sWFee) := ⟨rfl, rfl, rfl, by decide +kernel, rfl, by decide +kernel, by decide +kernel⟩
theorem ok_wPrice {f : Addr} {fd : FuncData} (F : Fun K "word" "Price.word" sWPrice f fd) : FnOk P w K mg base CX0 1 f fd ["self"] (spWord "price") := by
  refine F.ok scWPrice (fun vs H Q E h => ?_) (fun cdv A outer s H vs Q E hr h => ?_)
  · obtain ⟨p, rfl, _⟩ := h; rfl
  · obtain ⟨p, rfl, q⟩ := h; exact ⟨_, pss_one (ps_ret pe_str), q⟩
theorem ok_wCome {f : Addr} {fd : FuncData} (F : Fun K "word" "Come.word" sWCome f fd) : FnOk P w K mg base CX0 1 f fd ["self"] (spWord "come") := by
  refine F.ok scWCome (fun vs H Q E h => ?_) (fun cdv A outer s H vs Q E hr h => ?_)
  · obtain ⟨p, rfl, _⟩ := h; rfl
  · obtain ⟨p, rfl, q⟩ := h; exact ⟨_, pss_one (ps_ret pe_str), q⟩
theorem ok_wGo {f : Addr} {fd : FuncData} (F : Fun K "word" "Go.word" sWGo f fd) : FnOk P w K mg base CX0 1 f fd ["self"] (spWord "go") := by
  refine F.ok scWGo (fun vs H Q E h => ?_) (fun cdv A outer s H vs Q E hr h => ?_)
  · obtain ⟨p, rfl, _⟩ := h; rfl
  · obtain ⟨p, rfl, q⟩ := h; exact ⟨_, pss_one (ps_ret pe_str), q⟩
theorem ok_wLeast {f : Addr} {fd : FuncData} (F : Fun K "word" "Least.word" sWLeast f fd) : FnOk P w K mg base CX0 1 f fd ["self"] (spWord "least") := by
  refine F.ok scWLeast (fun vs H Q E h => ?_) (fun cdv A outer s H vs Q E hr h => ?_)
  · obtain ⟨p, rfl, _⟩ := h; rfl
  · obtain ⟨p, rfl, q⟩ := h; exact ⟨_, pss_one (ps_ret pe_str), q⟩
theorem ok_wMost {f : Addr} {fd : FuncData} (F : Fun K "word" "Most.word" sWMost f fd) : FnOk P w K mg base CX0 1 f fd ["self"] (spWord "most") := by
  refine F.ok scWMost (fun vs H Q E h => ?_) (fun cdv A outer s H vs Q E hr h => ?_)
  · obtain ⟨p, rfl, _⟩ := h; rfl
  · obtain ⟨p, rfl, q⟩ := h; exact ⟨_, pss_one (ps_ret pe_str), q⟩
theorem ok_wDeal {f : Addr} {fd : FuncData} (F : Fun K "word" "Deal.word" sWDeal f fd) : FnOk P w K mg base CX0 1 f fd ["self"] (spWord "deal") := by
  refine F.ok scWDeal (fun vs H Q E h => ?_) (fun cdv A outer s H vs Q E hr h => ?_)
  · obtain ⟨p, rfl, _⟩ := h; rfl
  · obtain ⟨p, rfl, q⟩ := h; exact ⟨_, pss_one (ps_ret pe_str), q⟩
theorem ok_wFee {f : Addr} {fd : FuncData} (F : Fun K "word" "Fee.word" sWFee f fd) : FnOk P w K mg base CX0 1 f fd ["self"] (spWord "fee") := by
  refine F.ok scWFee (fun vs H Q E h => ?_) (fun cdv A outer s H vs Q E hr h => ?_)
  · obtain ⟨p, rfl, _⟩ := h; rfl
  · obtain ⟨p, rfl, q⟩ := h; exact ⟨_, pss_one (ps_ret pe_str), q⟩
theorem scTold : FnScope ["self"] ["self"] (defScope sTold) := ⟨rfl, rfl, rfl, by decide +kernel, rfl, by decide +kernel, by decide +kernel⟩
theorem no_word (x y z : V) : (flds x y z).lookup ("word" : Str) = none := flds_no x y z (by decide +kernel) (by decide +kernel) (by decide +kernel)
theorem ok_told {f C fIn fE fWd : Addr} {fd fdW : FuncData} {wd : Str} (F : Fun K "told" "Rule.told" sTold f fd) (R : ClsR K C fIn f fE fWd) (GW : FnOk P w K mg base CX0 1 fWd fdW ["self"] (spWord wd)) (bW : Binds K fdW ["self"] []) :
    FnOk P w K mg base CX0 2 f fd ["self"] (spTold C wd) := by
  refine F.ok scTold (fun vs H Q E h => ?_) (fun cdv A outer s H vs Q E hr h => ?_)
  · obtain ⟨p, dx, x, y, z, rfl, _⟩ := h
    rfl
  · obtain ⟨p, dx, x, y, z, rfl, hp, q⟩ := h
    refine ⟨_, pss_one (ps_ret (pe_tup (pa_cons (pe_meth0 (pv 0) R.cl R.word GW hr bW .nil pass0) (pa_cons (pe_fld (pv 0) rfl) (pa_cons (pe_fld (pv 0) rfl) (pa_cons (pe_fld (pv 0) rfl) pa_nil)))))), ?_⟩
    refine ⟨_, rfl, p, dx, _, rfl, hp, no_word _ _ _, p, rfl, ?_⟩
    exact ⟨_, rfl, p, C, dx, _, _, rfl, hp, R.cl, R.nf, flds_first _ _ _, _, rfl, p, C, dx, _, _, rfl, hp, R.cl, R.nl, flds_last _ _ _, _, rfl, p, C, dx, _, _, rfl, hp, R.cl, R.nw, flds_worth _ _ _, (by show 4 ≤ sizeLine; decide), q⟩
theorem scTells : FnScope ["self", "day"] ["self", "day"] (defScope sTells) := ⟨rfl, rfl, rfl, by decide +kernel, rfl, by decide +kernel, by decide +kernel⟩
theorem ok_tells {f C fIn fT fWd : Addr} {fd : FuncData} (F : Fun K "tells" "Rule.tells" sTells f fd) (R : ClsR K C fIn fT f fWd) : FnOk P w K mg base CX0 1 f fd ["self", "day"] (spTells C) := by
  refine F.ok scTells (fun vs H Q E h => ?_) (fun cdv A outer s H vs Q E hr h => ?_)
  · obtain ⟨p, dx, a, b, day, z, rfl, _⟩ := h
    rfl
  · obtain ⟨p, dx, a, b, day, z, rfl, hp, q⟩ := h
    refine ⟨_, pss_one (ps_ret (pe_chain op_le op_le (pe_fld (pv 0) rfl) (pv 1) (pe_fld (pv 0) rfl))), ?_⟩
    refine ⟨_, rfl, p, C, dx, _, _, rfl, hp, R.cl, R.nf, flds_first _ _ _, _, rfl, _, _, rfl, rfl, _, rfl, ?_⟩
    refine ite2 (fun h => ?_) (fun h => ?_)
    · rw [h, Bool.true_and] at q
      exact ⟨_, rfl, p, C, dx, _, _, rfl, hp, R.cl, R.nl, flds_last _ _ _, _, _, rfl, rfl, q⟩
    · rw [Bool.eq_false_iff.mpr h, Bool.false_and] at q
      exact q
/-! what a rule is -/
theorem scCoins : FnScope ["thing"] ["thing"] (defScope sCoins) := ⟨rfl, rfl, rfl, by decide +kernel, rfl, by decide +kernel, by decide +kernel⟩
theorem ok_coins {f : Addr} {fd fdI : FuncData} (F : Fun K "is_coins" "is_coins" sCoins f fd) (T : TxtR mg fW fI fP fD fPD fS fC fDl fWo fR fM cs) (GI : FnOk P w K mg base CX0 2 fI fdI ["thing", "lowest", "highest"] spWithin) (kI : PySem.W.keepIn K (.ref fI) = true) (bI : Binds K fdI ["thing", "lowest", "highest"] []) :
    FnOk P w K mg base CX0 3 f fd ["thing"] (spPred coinsD) := by
  obtain ⟨tl, hl⟩ := T.coinsMost
  refine F.ok scCoins (fun vs H Q E h => ?_) (fun cdv A outer s H vs Q E hr h => ?_)
  · obtain ⟨x, d, rfl, _⟩ := h
    rfl
  · obtain ⟨x, d, rfl, hd, q⟩ := h
    refine ⟨_, pss_one (ps_ret (pe_call GI hr (by rfl) T.d.within kI bI .nil pass0 (pa_cons (pv 0) (pa_cons pe_int (pa_cons (pe_glob (v := .int 1000000000000) (by rfl) hl ⟨tl, rfl⟩) pa_nil))))), ?_⟩
    exact ⟨_, rfl, x, d, _, _, rfl, hd, q⟩
theorem scIsDeal : FnScope ["thing"] ["thing"] (defScope sIsDeal) := ⟨rfl, rfl, rfl, by decide +kernel, rfl, by decide +kernel, by decide +kernel⟩
theorem ok_isDeal {f : Addr} {fd fdI fdP : FuncData} (F : Fun K "is_deal" "is_deal" sIsDeal f fd) (T : TxtR mg fW fI fP fD fPD fS fC fDl fWo fR fM cs) (GI : FnOk P w K mg base CX0 2 fI fdI ["thing", "lowest", "highest"] spWithin) (kI : PySem.W.keepIn K (.ref fI) = true) (bI : Binds K fdI ["thing", "lowest", "highest"] [])
    (GP : FnOk P w K mg base CX0 1 fP fdP ["thing"] (spPred pairD)) (kP : PySem.W.keepIn K (.ref fP) = true) (bP : Binds K fdP ["thing"] []) : FnOk P w K mg base CX0 3 f fd ["thing"] (spPred dealD) := by
  obtain ⟨tm, hm⟩ := T.d.most
  refine F.ok scIsDeal (fun vs H Q E h => ?_) (fun cdv A outer s H vs Q E hr h => ?_)
  · obtain ⟨x, d, rfl, _⟩ := h
    rfl
  · obtain ⟨x, d, rfl, hd, q⟩ := h
    have hr1 : Room 1 _ := hr.mono (by decide)
    refine ⟨_, pss_one (ps_ret (pe_and (pe_call GP hr1 (by rfl) T.d.pair kP bP .nil pass0 (pa_cons (pv 0) pa_nil))
      (pe_and (pe_call GI hr (by rfl) T.d.within kI bI .nil pass0 (pa_cons (pe_ix ix_tup (pv 0) pe_int (fun _ _ => rfl)) (pa_cons pe_int (pa_cons (pe_glob (v := .int 14) (by rfl) hm ⟨tm, rfl⟩) pa_nil))))
      (pe_one (pe_call GI hr (by rfl) T.d.within kI bI .nil pass0 (pa_cons (pe_ix ix_tup (pv 0) pe_int (fun _ _ => rfl)) (pa_cons pe_int (pa_cons (pe_op op_sub (pe_ix ix_tup (pv 0) pe_int (fun _ _ => rfl)) pe_int) pa_nil)))))))), ?_⟩
    refine ⟨_, rfl, x, d, rfl, hd, _, rfl, ?_⟩
    refine ite2 (fun h => ?_) (fun h => ?_)
    · obtain ⟨a, b, rfl⟩ := pairD_tuple h
      cases hd with
      | tup e hs =>
        cases hs with
        | cons ha hs =>
          cases hs with
          | cons hb hs =>
            cases hs
            refine ⟨_, rfl, _, _, 0, _, rfl, rfl, SqT.of e, rfl, _, _, _, _, rfl, ha, _, rfl, ?_⟩
            cases ha with
            | int m =>
              have q' : Q (.bl (withinD 2 14 (.int m) && withinD 1 (m - 1) b)) H := q
              refine ite2 (fun h => ?_) (fun h => ?_)
              · rw [h, Bool.true_and] at q'
                exact ⟨_, rfl, _, _, 1, _, rfl, rfl, SqT.of e, rfl, _, rfl, _, _, 0, _, rfl, rfl, SqT.of e, rfl, _, _, rfl, rfl, _, _, _, _, rfl, hb, q'⟩
              · rw [Bool.eq_false_iff.mpr h, Bool.false_and] at q'
                exact q'
            | _ => exact iteF q
    · have e : dealD d = false := by
        unfold dealD
        split
        · exact absurd rfl h
        · rfl
      rw [e] at q
      exact q
theorem scWorth : FnScope ["word", "thing"] ["word", "thing"] (defScope sWorth) := ⟨rfl, rfl, rfl, by decide +kernel, rfl, by decide +kernel, by decide +kernel⟩
theorem ok_worth {f : Addr} {fd fdI fdC fdDl : FuncData} (F : Fun K "is_worth" "is_worth" sWorth f fd) (T : TxtR mg fW fI fP fD fPD fS fC fDl fWo fR fM cs) (GI : FnOk P w K mg base CX0 2 fI fdI ["thing", "lowest", "highest"] spWithin) (kI : PySem.W.keepIn K (.ref fI) = true) (bI : Binds K fdI ["thing", "lowest", "highest"] [])
    (GC : FnOk P w K mg base CX0 3 fC fdC ["thing"] (spPred coinsD)) (kC : PySem.W.keepIn K (.ref fC) = true) (bC : Binds K fdC ["thing"] []) (GDl : FnOk P w K mg base CX0 3 fDl fdDl ["thing"] (spPred dealD)) (kDl : PySem.W.keepIn K (.ref fDl) = true) (bDl : Binds K fdDl ["thing"] []) :
    FnOk P w K mg base CX0 4 f fd ["word", "thing"] spWorth := by
  obtain ⟨tm, hm⟩ := T.d.most
  refine F.ok scWorth (fun vs H Q E h => ?_) (fun cdv A outer s H vs Q E hr h => ?_)
  · obtain ⟨x, y, dw, dv, rfl, _⟩ := h
    rfl
  · obtain ⟨x, y, dw, dv, rfl, hx, sw, hy, q⟩ := h
    have hr2 : Room 2 _ := hr.mono (by decide)
    have hu := hr.units
    have st : ∀ {z : Str}, z ∈ words → SeqAt.shaped (.str z) = true := fun {z} hz => shaped_str (by
      simp only [words, List.mem_cons, List.not_mem_nil, or_false] at hz
      rcases hz with rfl | rfl | rfl | rfl | rfl | rfl | rfl <;> decide +kernel)
    unfold worthD at q
    -- if word == 'price'
    refine pss_cut (fun σ H1 => σ = [some x, some y] ∧ eqS dw "price" = false ∧ H = H1)
      ⟨_, ps_if (pt_cmpR (op_eqD hu) (pv 0) pe_str (nomark _)) (pss_one (ps_ret (pe_or (pe_cmpR op_isN (pv 1) pe_non (nomark _)) (pe_one (pe_call GC hr (by rfl) T.coins kC bC .nil pass0 (pa_cons (pv 1) pa_nil)))))) pss_nil, ?_⟩ ?_
    · refine ⟨_, rfl, dw, .str "price", hx, .str _, sw, st (by simp [words]), _, rfl, ?_⟩
      refine ite2 (fun h => ?_) (fun h => ⟨rfl, Bool.eq_false_iff.mpr h, rfl⟩)
      rw [if_pos h] at q
      refine ⟨_, rfl, rfl, _, rfl, ?_⟩
      rw [hy.non_iff]
      refine ite2 (fun h2 => ?_) (fun h2 => ?_)
      · rw [h2, Bool.true_or] at q
        exact q
      · rw [Bool.eq_false_iff.mpr h2, Bool.false_or] at q
        exact ⟨_, rfl, y, dv, rfl, hy, q⟩
    rintro σ H1 ⟨rfl, e1, rfl⟩
    rw [e1, if_neg Bool.false_ne_true] at q
    -- if word == 'come' or word == 'go'
    refine pss_cut (fun σ H1 => σ = [some x, some y] ∧ (eqS dw "come" || eqS dw "go") = false ∧ H = H1)
      ⟨_, ps_if (PW.pt (pw_or (pt_cmpR (op_eqD hu) (pv 0) pe_str (nomark _)) (pw_or1 (pt_cmpR (op_eqD hu) (pv 0) pe_str (nomark _))))) (pss_one (ps_ret (pe_callB call_isiD (by rfl) T.d.isi boot_isinstance (pa_cons (pv 1) (pa_cons (pe_bltn (v := .ty "bool") (by rfl) T.d.bool boot_bool rfl) pa_nil))))) pss_nil, ?_⟩ ?_
    · refine ⟨_, rfl, dw, .str "come", hx, .str _, sw, st (by simp [words]), _, rfl, ?_⟩
      refine ite2 (fun h => ?_) (fun h => ?_)
      · have h' : eqS dw "come" = true := h
        rw [h', Bool.true_or, if_pos rfl] at q
        exact iteT ⟨_, rfl, y, "bool", dv, _, rfl, hy, isi_bool dv, q⟩
      · have h' : eqS dw "come" = false := Bool.eq_false_iff.mpr h
        refine ⟨_, rfl, dw, .str "go", hx, .str _, sw, st (by simp [words]), _, rfl, ?_⟩
        refine ite2 (fun h2 => ?_) (fun h2 => ?_)
        · have h2' : eqS dw "go" = true := h2
          rw [h', h2', Bool.false_or, if_pos rfl] at q
          exact ⟨_, rfl, y, "bool", dv, _, rfl, hy, isi_bool dv, q⟩
        · have h2' : eqS dw "go" = false := Bool.eq_false_iff.mpr h2
          exact ⟨rfl, by rw [h', h2']; rfl, rfl⟩
    rintro σ H1 ⟨rfl, e2, rfl⟩
    rw [e2, if_neg Bool.false_ne_true] at q
    -- if word == 'least' or word == 'most'
    refine pss_cut (fun σ H1 => σ = [some x, some y] ∧ (eqS dw "least" || eqS dw "most") = false ∧ H = H1)
      ⟨_, ps_if (PW.pt (pw_or (pt_cmpR (op_eqD hu) (pv 0) pe_str (nomark _)) (pw_or1 (pt_cmpR (op_eqD hu) (pv 0) pe_str (nomark _))))) (pss_one (ps_ret (pe_call GI hr2 (by rfl) T.d.within kI bI .nil pass0 (pa_cons (pv 1) (pa_cons pe_int (pa_cons (pe_glob (v := .int 14) (by rfl) hm ⟨tm, rfl⟩) pa_nil)))))) pss_nil, ?_⟩ ?_
    · refine ⟨_, rfl, dw, .str "least", hx, .str _, sw, st (by simp [words]), _, rfl, ?_⟩
      refine ite2 (fun h => ?_) (fun h => ?_)
      · have h' : eqS dw "least" = true := h
        rw [h', Bool.true_or, if_pos rfl] at q
        exact iteT ⟨_, rfl, y, dv, _, _, rfl, hy, q⟩
      · have h' : eqS dw "least" = false := Bool.eq_false_iff.mpr h
        refine ⟨_, rfl, dw, .str "most", hx, .str _, sw, st (by simp [words]), _, rfl, ?_⟩
        refine ite2 (fun h2 => ?_) (fun h2 => ?_)
        · have h2' : eqS dw "most" = true := h2
          rw [h', h2', Bool.false_or, if_pos rfl] at q
          exact ⟨_, rfl, y, dv, _, _, rfl, hy, q⟩
        · have h2' : eqS dw "most" = false := Bool.eq_false_iff.mpr h2
          exact ⟨rfl, by rw [h', h2']; rfl, rfl⟩
    rintro σ H1 ⟨rfl, e3, rfl⟩
    rw [e3, if_neg Bool.false_ne_true] at q
    -- if word == 'deal'
    refine pss_cut (fun σ H1 => σ = [some x, some y] ∧ eqS dw "deal" = false ∧ H = H1)
      ⟨_, ps_if (pt_cmpR (op_eqD hu) (pv 0) pe_str (nomark _)) (pss_one (ps_ret (pe_or (pe_cmpR op_isN (pv 1) pe_non (nomark _)) (pe_one (pe_call GDl hr (by rfl) T.deal kDl bDl .nil pass0 (pa_cons (pv 1) pa_nil)))))) pss_nil, ?_⟩ ?_
    · refine ⟨_, rfl, dw, .str "deal", hx, .str _, sw, st (by simp [words]), _, rfl, ?_⟩
      refine ite2 (fun h => ?_) (fun h => ⟨rfl, Bool.eq_false_iff.mpr h, rfl⟩)
      rw [if_pos h] at q
      refine ⟨_, rfl, rfl, _, rfl, ?_⟩
      rw [hy.non_iff]
      refine ite2 (fun h2 => ?_) (fun h2 => ?_)
      · rw [h2, Bool.true_or] at q
        exact q
      · rw [Bool.eq_false_iff.mpr h2, Bool.false_or] at q
        exact ⟨_, rfl, y, dv, rfl, hy, q⟩
    rintro σ H1 ⟨rfl, e4, rfl⟩
    rw [e4, if_neg Bool.false_ne_true] at q
    refine ⟨_, pss_one (ps_ret (pe_and (pe_cmpR (op_eqD hu) (pv 0) pe_str (nomark _)) (pe_one (pe_call GC hr (by rfl) T.coins kC bC .nil pass0 (pa_cons (pv 1) pa_nil))))), ?_⟩
    refine ⟨_, rfl, dw, .str "fee", hx, .str _, sw, st (by simp [words]), _, rfl, ?_⟩
    refine ite2 (fun h => ?_) (fun h => ?_)
    · have h' : eqS dw "fee" = true := h
      rw [h', Bool.true_and] at q
      exact ⟨_, rfl, y, dv, rfl, hy, q⟩
    · have h' : eqS dw "fee" = false := Bool.eq_false_iff.mpr h
      rw [h', Bool.false_and] at q
      exact q
theorem scIsRule : FnScope ["thing"] ["thing"] (defScope sIsRule) := ⟨rfl, rfl, rfl, by decide +kernel, rfl, by decide +kernel, by decide +kernel⟩
theorem ok_isRule {f : Addr} {fd fdS fdWo : FuncData} (F : Fun K "is_rule" "is_rule" sIsRule f fd) (T : TxtR mg fW fI fP fD fPD fS fC fDl fWo fR fM cs) (GS : FnOk P w K mg base CX0 5 fS fdS ["thing"] (spPred stretchD)) (kS : PySem.W.keepIn K (.ref fS) = true) (bS : Binds K fdS ["thing"] [])
    (GW : FnOk P w K mg base CX0 4 fWo fdWo ["word", "thing"] spWorth) (kW : PySem.W.keepIn K (.ref fWo) = true) (bW : Binds K fdWo ["word", "thing"] []) : FnOk P w K mg base CX0 6 f fd ["thing"] spRule := by
  refine F.ok scIsRule (fun vs H Q E h => ?_) (fun cdv A outer s H vs Q E hr h => ?_)
  · obtain ⟨x, d, rfl, _⟩ := h
    rfl
  · obtain ⟨x, d, rfl, hd, sd, q⟩ := h
    have hr4 : Room 4 _ := hr.mono (by decide)
    refine ⟨_, pss_one (ps_ret (pe_and (pe_callB call_isiD (by rfl) T.d.isi boot_isinstance (pa_cons (pv 0) (pa_cons (pe_bltn (v := .ty "tuple") (by rfl) T.d.tuple boot_tuple rfl) pa_nil)))
      (pe_and (pe_cmpR op_eq (pe_callB call_len_seq (by rfl) T.d.len PySem.boot_len (pa_cons (pv 0) pa_nil)) pe_int (nomark _))
      (pe_and (pe_call GS hr (by rfl) T.stretch kS bS .nil pass0 (pa_cons (pe_tup (pa_cons (pe_ix ix_tup (pv 0) pe_int (fun _ _ => rfl)) (pa_cons (pe_ix ix_tup (pv 0) pe_int (fun _ _ => rfl)) pa_nil))) pa_nil))
      (pe_one (pe_call GW hr4 (by rfl) T.worth kW bW .nil pass0 (pa_cons (pe_ix ix_tup (pv 0) pe_int (fun _ _ => rfl)) (pa_cons (pe_ix ix_tup (pv 0) pe_int (fun _ _ => rfl)) pa_nil)))))))), ?_⟩
    refine ⟨_, rfl, x, "tuple", d, _, rfl, hd, isi_tuple d, _, rfl, ?_⟩
    cases hd with
    | @tup a xs ds e hs =>
      refine iteT ⟨_, rfl, a, _, rfl, .inr (SqT.of e), rfl, _, rfl, ?_⟩
      match xs, ds, hs with
      | _, [dw, da, db, dv], .cons (x := xw) hw (.cons (x := xa) ha (.cons (x := xb) hb (.cons (x := xv) hv .nil))) =>
        refine ite2 (fun _ => ?_) (fun h => absurd rfl h)
        refine ⟨_, rfl, a, _, 1, _, rfl, rfl, SqT.of e, rfl, _, rfl, a, _, 2, _, rfl, rfl, SqT.of e, rfl, (by show 2 ≤ sizeLine; decide), fun p hp => ?_⟩
        have s1 : Same H (upd H p (.tup [xa, xb])) := same_new hp
        refine ⟨_, .tuple [da, db], rfl, .tup upd_same (.cons (ha.same s1) (.cons (hb.same s1) .nil)), _, rfl, ?_⟩
        have q' : Q (.bl (stretchD (.tuple [da, db]) && worthD dw dv)) (upd H p (.tup [xa, xb])) := q _ s1
        refine ite2 (fun h => ?_) (fun h => ?_)
        · rw [h, Bool.true_and] at q'
          exact ⟨_, rfl, a, _, 0, _, rfl, rfl, SqT.of (s1 _ _ e), rfl, _, rfl, a, _, 3, _, rfl, rfl, SqT.of (s1 _ _ e), rfl, _, _, _, _, rfl, hw.same s1, shaped_items sd dw (by simp), hv.same s1, q'⟩
        · rw [Bool.eq_false_iff.mpr h, Bool.false_and] at q'
          exact q'
      | _, [], .nil => exact ite2 (fun h => absurd h (by simp)) (fun _ => q H (Same.refl H))
      | _, [_], .cons _ .nil => exact ite2 (fun h => absurd h (by simp)) (fun _ => q H (Same.refl H))
      | _, [_, _], .cons _ (.cons _ .nil) => exact ite2 (fun h => absurd h (by simp)) (fun _ => q H (Same.refl H))
      | _, [_, _, _], .cons _ (.cons _ (.cons _ .nil)) => exact ite2 (fun h => absurd h (by simp)) (fun _ => q H (Same.refl H))
      | _, _ :: _ :: _ :: _ :: _ :: _, .cons _ (.cons _ (.cons _ (.cons _ (.cons _ _)))) => exact ite2 (fun h => absurd h (by simp; omega)) (fun _ => q H (Same.refl H))
    | _ => exact iteF (q H (Same.refl H))
end
end K34
set_option Elab.async false
set_option linter.all false
set_option maxRecDepth 100000
namespace K34
open PySem PySem.Spec PyProof.Rows L2
section
variable {P : Program} {w : World} {K : PySem.W.Frag} {mg : Str → Option Value} {base : Heap} {fW fI fP fD fPD fS fC fDl fWo fR fM : Addr} {cs : Cs}
/-- the seven classes as the top has made them -/
structure ClsAll (K : PySem.W.Frag) (cs : Cs) (fIn fTo fTe w1 w2 w3 w4 w5 w6 w7 : Addr) : Prop where
  price : ClsR K cs.price fIn fTo fTe w1
  come : ClsR K cs.come fIn fTo fTe w2
  go : ClsR K cs.go fIn fTo fTe w3
  least : ClsR K cs.least fIn fTo fTe w4
  most : ClsR K cs.most fIn fTo fTe w5
  deal : ClsR K cs.deal fIn fTo fTe w6
  fee : ClsR K cs.fee fIn fTo fTe w7
theorem of_price (cs : Cs) : cs.of "price" = cs.price := by unfold Cs.of; rw [if_pos rfl]
theorem of_come (cs : Cs) : cs.of "come" = cs.come := by unfold Cs.of; rw [if_neg (by decide +kernel), if_pos rfl]
theorem of_go (cs : Cs) : cs.of "go" = cs.go := by unfold Cs.of; rw [if_neg (by decide +kernel), if_neg (by decide +kernel), if_pos rfl]
theorem of_least (cs : Cs) : cs.of "least" = cs.least := by unfold Cs.of; rw [if_neg (by decide +kernel), if_neg (by decide +kernel), if_neg (by decide +kernel), if_pos rfl]
theorem of_most (cs : Cs) : cs.of "most" = cs.most := by unfold Cs.of; rw [if_neg (by decide +kernel), if_neg (by decide +kernel), if_neg (by decide +kernel), if_neg (by decide +kernel), if_pos rfl]
theorem of_deal (cs : Cs) : cs.of "deal" = cs.deal := by unfold Cs.of; rw [if_neg (by decide +kernel), if_neg (by decide +kernel), if_neg (by decide +kernel), if_neg (by decide +kernel), if_neg (by decide +kernel), if_pos rfl]
theorem of_fee (cs : Cs) : cs.of "fee" = cs.fee := by unfold Cs.of; rw [if_neg (by decide +kernel), if_neg (by decide +kernel), if_neg (by decide +kernel), if_neg (by decide +kernel), if_neg (by decide +kernel), if_neg (by decide +kernel)]
theorem str_of {x y : Str} (h : decide (V.str x = V.str y) = true) : x = y := by
  have := of_decide_eq_true h
  injection this
theorem str_ne {x y : Str} (h : ¬ decide (V.str x = V.str y) = true) : x ≠ y := fun e => h (by rw [e]; exact decide_eq_true rfl)
/-- an instance is made: what is wanted behind -/
theorem make_end {C p dx : Addr} {H : Hp} {x y z : V} {Q : VK} (k : ∀ (p dx : Addr) (H' : Hp), H' p = some (.ins C dx (flds x y z)) → H p = none → Same H H' → Q (.ref p) H') (hp : H p = none) (hx : H dx = none) (n : dx ≠ p) :
    Q (.ref p) (upd (upd (upd H dx (.own p)) p (.ins C dx [])) p (.ins C dx (flds x y z))) := by
  refine k p dx _ upd_same hp fun a o e => ?_
  rw [upd_upd, upd_ne (ne_of_none e hp), upd_ne (ne_of_none e hx)]
  exact e
theorem scMade : FnScope ["word", "first", "last", "worth"] ["word", "first", "last", "worth"] (defScope sMade) := ⟨rfl, rfl, rfl, by decide +kernel, rfl, by decide +kernel, by decide +kernel⟩
set_option maxHeartbeats 4000000 in
theorem ok_made {f fIn fTo fTe w1 w2 w3 w4 w5 w6 w7 : Addr} {fd fdIn : FuncData} (F : Fun K "made" "made" sMade f fd) (T : TxtR mg fW fI fP fD fPD fS fC fDl fWo fR fM cs) (A7 : ClsAll K cs fIn fTo fTe w1 w2 w3 w4 w5 w6 w7)
    (FI : Fun K "__init__" "Rule.__init__" sInit fIn fdIn) (bI : Binds K fdIn ["self", "first", "last", "worth"] []) : FnOk P w K mg base CX0 3 f fd ["word", "first", "last", "worth"] (spMade cs) := by
  refine F.ok scMade (fun vs H Q E h => ?_) (fun cdv A outer s H vs Q E hr h => ?_)
  · obtain ⟨wd, x, y, z, rfl, _⟩ := h
    rfl
  · obtain ⟨wd, x, y, z, rfl, hw, k⟩ := h
    refine pss_cut (fun σ H1 => σ = [some (.str wd), some x, some y, some z] ∧ wd ≠ "price" ∧ H = H1)
      ⟨_, ps_if (pt_cmpR op_eq (pv 0) pe_str (nomark _)) (pss_one (ps_ret (pe_make A7.price.makes (ok_init FI A7.price) hr (by rfl) T.cPrice bI .nil pass0 (pa_cons (pv 1) (pa_cons (pv 2) (pa_cons (pv 3) pa_nil)))))) pss_nil, ?_⟩ ?_
    · refine ⟨_, rfl, rfl, _, rfl, ite2 (fun h => ?_) (fun h => ⟨rfl, str_ne h, rfl⟩)⟩
      rw [str_of h, of_price] at k
      exact ⟨_, rfl, _, rfl, _, rfl, fun p dx hp hx n => ⟨p, dx, _, _, _, rfl, upd_same, rfl, make_end k hp hx n⟩⟩
    rintro σ H1 ⟨rfl, n1, rfl⟩
    refine pss_cut (fun σ H1 => σ = [some (.str wd), some x, some y, some z] ∧ wd ≠ "come" ∧ H = H1)
      ⟨_, ps_if (pt_cmpR op_eq (pv 0) pe_str (nomark _)) (pss_one (ps_ret (pe_make A7.come.makes (ok_init FI A7.come) hr (by rfl) T.cCome bI .nil pass0 (pa_cons (pv 1) (pa_cons (pv 2) (pa_cons (pv 3) pa_nil)))))) pss_nil, ?_⟩ ?_
    · refine ⟨_, rfl, rfl, _, rfl, ite2 (fun h => ?_) (fun h => ⟨rfl, str_ne h, rfl⟩)⟩
      rw [str_of h, of_come] at k
      exact ⟨_, rfl, _, rfl, _, rfl, fun p dx hp hx n => ⟨p, dx, _, _, _, rfl, upd_same, rfl, make_end k hp hx n⟩⟩
    rintro σ H1 ⟨rfl, n2, rfl⟩
    refine pss_cut (fun σ H1 => σ = [some (.str wd), some x, some y, some z] ∧ wd ≠ "go" ∧ H = H1)
      ⟨_, ps_if (pt_cmpR op_eq (pv 0) pe_str (nomark _)) (pss_one (ps_ret (pe_make A7.go.makes (ok_init FI A7.go) hr (by rfl) T.cGo bI .nil pass0 (pa_cons (pv 1) (pa_cons (pv 2) (pa_cons (pv 3) pa_nil)))))) pss_nil, ?_⟩ ?_
    · refine ⟨_, rfl, rfl, _, rfl, ite2 (fun h => ?_) (fun h => ⟨rfl, str_ne h, rfl⟩)⟩
      rw [str_of h, of_go] at k
      exact ⟨_, rfl, _, rfl, _, rfl, fun p dx hp hx n => ⟨p, dx, _, _, _, rfl, upd_same, rfl, make_end k hp hx n⟩⟩
    rintro σ H1 ⟨rfl, n3, rfl⟩
    refine pss_cut (fun σ H1 => σ = [some (.str wd), some x, some y, some z] ∧ wd ≠ "least" ∧ H = H1)
      ⟨_, ps_if (pt_cmpR op_eq (pv 0) pe_str (nomark _)) (pss_one (ps_ret (pe_make A7.least.makes (ok_init FI A7.least) hr (by rfl) T.cLeast bI .nil pass0 (pa_cons (pv 1) (pa_cons (pv 2) (pa_cons (pv 3) pa_nil)))))) pss_nil, ?_⟩ ?_
    · refine ⟨_, rfl, rfl, _, rfl, ite2 (fun h => ?_) (fun h => ⟨rfl, str_ne h, rfl⟩)⟩
      rw [str_of h, of_least] at k
      exact ⟨_, rfl, _, rfl, _, rfl, fun p dx hp hx n => ⟨p, dx, _, _, _, rfl, upd_same, rfl, make_end k hp hx n⟩⟩
    rintro σ H1 ⟨rfl, n4, rfl⟩
    refine pss_cut (fun σ H1 => σ = [some (.str wd), some x, some y, some z] ∧ wd ≠ "most" ∧ H = H1)
      ⟨_, ps_if (pt_cmpR op_eq (pv 0) pe_str (nomark _)) (pss_one (ps_ret (pe_make A7.most.makes (ok_init FI A7.most) hr (by rfl) T.cMost bI .nil pass0 (pa_cons (pv 1) (pa_cons (pv 2) (pa_cons (pv 3) pa_nil)))))) pss_nil, ?_⟩ ?_
    · refine ⟨_, rfl, rfl, _, rfl, ite2 (fun h => ?_) (fun h => ⟨rfl, str_ne h, rfl⟩)⟩
      rw [str_of h, of_most] at k
      exact ⟨_, rfl, _, rfl, _, rfl, fun p dx hp hx n => ⟨p, dx, _, _, _, rfl, upd_same, rfl, make_end k hp hx n⟩⟩
    rintro σ H1 ⟨rfl, n5, rfl⟩
    refine pss_cut (fun σ H1 => σ = [some (.str wd), some x, some y, some z] ∧ wd ≠ "deal" ∧ H = H1)
      ⟨_, ps_if (pt_cmpR op_eq (pv 0) pe_str (nomark _)) (pss_one (ps_ret (pe_make A7.deal.makes (ok_init FI A7.deal) hr (by rfl) T.cDeal bI .nil pass0 (pa_cons (pv 1) (pa_cons (pv 2) (pa_cons (pv 3) pa_nil)))))) pss_nil, ?_⟩ ?_
    · refine ⟨_, rfl, rfl, _, rfl, ite2 (fun h => ?_) (fun h => ⟨rfl, str_ne h, rfl⟩)⟩
      rw [str_of h, of_deal] at k
      exact ⟨_, rfl, _, rfl, _, rfl, fun p dx hp hx n => ⟨p, dx, _, _, _, rfl, upd_same, rfl, make_end k hp hx n⟩⟩
    rintro σ H1 ⟨rfl, n6, rfl⟩
    have e7 : wd = "fee" := by
      simp only [words, List.mem_cons, List.not_mem_nil, or_false] at hw
      rcases hw with e | e | e | e | e | e | e
      · exact absurd e n1
      · exact absurd e n2
      · exact absurd e n3
      · exact absurd e n4
      · exact absurd e n5
      · exact absurd e n6
      · exact e
    rw [e7, of_fee] at k
    refine ⟨_, pss_one (ps_ret (pe_make A7.fee.makes (ok_init FI A7.fee) hr (by rfl) T.cFee bI .nil pass0 (pa_cons (pv 1) (pa_cons (pv 2) (pa_cons (pv 3) pa_nil))))), ?_⟩
    exact ⟨_, rfl, _, rfl, _, rfl, fun p dx hp hx n => ⟨p, dx, _, _, _, rfl, upd_same, rfl, make_end k hp hx n⟩⟩
theorem scRuleOf : FnScope ["thing"] ["thing"] (defScope sRuleOf) := ⟨rfl, rfl, rfl, by decide +kernel, rfl, by decide +kernel, by decide +kernel⟩
theorem ok_ruleOf {f : Addr} {fd fdR fdM : FuncData} (F : Fun K "rule_of" "rule_of" sRuleOf f fd) (T : TxtR mg fW fI fP fD fPD fS fC fDl fWo fR fM cs) (GR : FnOk P w K mg base CX0 6 fR fdR ["thing"] spRule) (kR : PySem.W.keepIn K (.ref fR) = true) (bR : Binds K fdR ["thing"] [])
    (GM : FnOk P w K mg base CX0 3 fM fdM ["word", "first", "last", "worth"] (spMade cs)) (kM : PySem.W.keepIn K (.ref fM) = true) (bM : Binds K fdM ["word", "first", "last", "worth"] []) : FnOk P w K mg base CX0 7 f fd ["thing"] (spRuleOf cs) := by
  refine F.ok scRuleOf (fun vs H Q E h => ?_) (fun cdv A outer s H vs Q E hr h => ?_)
  · obtain ⟨x, d, rfl, _⟩ := h
    rfl
  · obtain ⟨x, d, rfl, hd, sd, k0, k1⟩ := h
    have hr3 : Room 3 _ := hr.mono (by decide)
    refine pss_cut (fun σ H1 => σ = [some x] ∧ ruleD d = true ∧ Same H H1)
      ⟨_, ps_if (pt_not (pt_val (pe_call GR hr (by rfl) T.rule kR bR .nil pass0 (pa_cons (pv 0) pa_nil)))) (pss_one (ps_ret pe_non)) pss_nil, ?_⟩ ?_
    · refine ⟨_, rfl, x, d, rfl, hd, sd, fun H1 s1 => ⟨_, rfl, ?_⟩⟩
      refine ite2 (fun h => ?_) (fun h => ?_)
      · exact k0 (by simpa using h) H1 s1
      · exact ⟨rfl, by simpa using h, s1⟩
    rintro σ H1 ⟨rfl, er, s1⟩
    obtain ⟨sw, da, db, dv, hsw, rfl⟩ := ruleD_parts er
    cases hd with
    | @tup r xs ds e hs =>
      cases hs with
      | @cons xw _ _ _ hw hs =>
        cases hw
        cases hs with
        | @cons xa _ _ _ ha hs =>
          cases hs with
          | @cons xb _ _ _ hb hs =>
            cases hs with
            | @cons xv _ _ _ hv hs =>
              cases hs
              have e1 := s1 _ _ e
              refine ⟨_, pss_one (ps_ret (pe_call GM hr3 (by rfl) T.made kM bM .nil pass0 (pa_cons (pe_ix ix_tup (pv 0) pe_int (fun _ _ => rfl)) (pa_cons (pe_ix ix_tup (pv 0) pe_int (fun _ _ => rfl)) (pa_cons (pe_ix ix_tup (pv 0) pe_int (fun _ _ => rfl)) (pa_cons (pe_ix ix_tup (pv 0) pe_int (fun _ _ => rfl)) pa_nil)))))), ?_⟩
              refine ⟨_, rfl, r, _, 0, _, rfl, rfl, SqT.of e1, rfl, _, rfl, r, _, 1, _, rfl, rfl, SqT.of e1, rfl, _, rfl, r, _, 2, _, rfl, rfl, SqT.of e1, rfl, _, rfl, r, _, 3, _, rfl, rfl, SqT.of e1, rfl, sw, _, _, _, rfl, hsw, fun p dx H2 h2 hp s2 => ?_⟩
              exact k1 r sw xa xb xv p dx H2 rfl er hsw e h2 (s1.free hp) (s1.trans s2)
end
end K34
set_option Elab.async false
set_option linter.all false
set_option maxRecDepth 100000
namespace K34
open PySem PySem.Spec PyProof.Rows L2
abbrev sLCoins : Stmt := top 46
abbrev sLWorth : Stmt := top 47
def spLCoins : Sp := fun vs H Q _ => ∃ t b c, vs = [.ref t] ∧ TapeAt H t b c ∧ ∀ (v : Int) (H' : Hp), 0 ≤ v → v ≤ 1000000000000 → TapeAt H' t b c → KpT t b H H' → Q (.int v) H'
def spLWorth : Sp := fun vs H Q _ => ∃ t b c wd, vs = [.ref t, .str wd] ∧ wd ∈ words ∧ TapeAt H t b c ∧ ∀ (x : V) (d : PyData) (H' : Hp), DV (nu H H') x d → worthD (.str wd) d = true → Nice 5000 d → d.depth ≤ 1 → TapeAt H' t b c → KpT t b H H' → Q x H'
structure TxtW (mg : Str → Option Value) (fDr fLC fLW : Addr) : Prop where
  t : TxtT mg
  draw : mg "_law_draw" = some (.ref fDr)
  coins : mg "_law_coins" = some (.ref fLC)
  worth : mg "_law_worth" = some (.ref fLW)
theorem worth_price (d : PyData) : worthD (.str "price") d = (isNone d || coinsD d) := by unfold worthD; rw [if_pos (by decide +kernel)]
theorem worth_come (d : PyData) : worthD (.str "come") d = isBool d := by unfold worthD; rw [if_neg (by decide +kernel), if_pos (by decide +kernel)]
theorem worth_go (d : PyData) : worthD (.str "go") d = isBool d := by unfold worthD; rw [if_neg (by decide +kernel), if_pos (by decide +kernel)]
theorem worth_least (d : PyData) : worthD (.str "least") d = withinD 1 14 d := by unfold worthD; rw [if_neg (by decide +kernel), if_neg (by decide +kernel), if_pos (by decide +kernel)]
theorem worth_most (d : PyData) : worthD (.str "most") d = withinD 1 14 d := by unfold worthD; rw [if_neg (by decide +kernel), if_neg (by decide +kernel), if_pos (by decide +kernel)]
theorem worth_deal (d : PyData) : worthD (.str "deal") d = (isNone d || dealD d) := by unfold worthD; rw [if_neg (by decide +kernel), if_neg (by decide +kernel), if_neg (by decide +kernel), if_pos (by decide +kernel)]
theorem worth_fee (d : PyData) : worthD (.str "fee") d = coinsD d := by
  unfold worthD
  rw [if_neg (by decide +kernel), if_neg (by decide +kernel), if_neg (by decide +kernel), if_neg (by decide +kernel), show eqS (.str "fee") "fee" = true by decide +kernel, Bool.true_and]
theorem within_int {lo hi i : Int} (h1 : lo ≤ i) (h2 : i ≤ hi) : withinD lo hi (.int i) = true := by
  show (decide (lo ≤ i) && decide (i ≤ hi)) = true
  rw [decide_eq_true h1, decide_eq_true h2]; rfl
section
variable {P : Program} {w : World} {K : PySem.W.Frag} {mg : Str → Option Value} {base : Heap} {fDr fLC fLW : Addr}
/-- an item of a list that was made ahead of the draw -/
theorem item_after {t b c p : Addr} {H H' : Hp} {xs : List V} (T : TapeAt H t b c) (hp : H p = none) (off : OffT t b (upd H p (.lst xs)) H') : H' p = some (.lst xs) := by
  rw [off p (T.free hp).1 (T.free hp).2.1]; exact upd_same
theorem scLCoins : FnScope ["_law_tape_here"] ["_law_tape_here"] (defScope sLCoins) := ⟨rfl, rfl, rfl, by decide +kernel, rfl, by decide +kernel, by decide +kernel⟩
set_option maxHeartbeats 4000000 in
theorem ok_lcoins {f : Addr} {fd fdD : FuncData} (F : Fun K "_law_coins" "_law_coins" sLCoins f fd) (T : TxtW mg fDr fLC fLW) (FR : Fun K "_law_draw" "_law_draw" sDraw fDr fdD) (bR : Binds K fdD ["_law_tape_here", "_law_many"] []) :
    FnOk P w K mg base CX0 2 f fd ["_law_tape_here"] spLCoins := by
  have GR : FnOk P w K mg base CX0 1 fDr fdD ["_law_tape_here", "_law_many"] spDraw := ok_draw FR T.t
  refine F.ok scLCoins (fun vs H Q E h => ?_) (fun cdv A outer s H vs Q E hr h => ?_)
  · obtain ⟨t, b, c, rfl, _⟩ := h
    rfl
  · obtain ⟨t, b, c, rfl, TA, k⟩ := h
    refine ⟨_, pss_one (ps_ret (pe_ix ix_list (pe_lst (pa_cons pe_int (pa_cons (pe_call GR hr (by rfl) T.draw FR.kp bR .nil pass0 (pa_cons (pv 0) (pa_cons pe_int pa_nil))) (pa_cons (pe_call GR hr (by rfl) T.draw FR.kp bR .nil pass0 (pa_cons (pv 0) (pa_cons pe_int pa_nil)))
      (pa_cons (pe_op op_pow pe_int pe_int) (pa_cons (pe_call GR hr (by rfl) T.draw FR.kp bR .nil pass0 (pa_cons (pv 0) (pa_cons (pe_op op_add (pe_op op_pow pe_int pe_int) pe_int) pa_nil))) pa_nil))))))
      (pe_call GR hr (by rfl) T.draw FR.kp bR .nil pass0 (pa_cons (pv 0) (pa_cons pe_int pa_nil))) (fun _ _ => rfl))), ?_⟩
    refine ⟨_, rfl, t, b, c, 60, rfl, TA, by decide, by decide, fun v1 H1 a1 b1 T1 o1 => ⟨_, rfl, t, b, c, 60, rfl, T1, by decide, by decide, fun v2 H2 a2 b2 T2 o2 => ?_⟩⟩
    refine ⟨_, _, rfl, rfl, ⟨by decide, by decide, by decide⟩, _, rfl, _, _, rfl, rfl, ⟨by decide, by decide, by decide⟩, _, _, rfl, rfl, t, b, c, _, rfl, T2, by decide +kernel, by decide +kernel, fun v3 H3 a3 b3 T3 o3 => ?_⟩
    refine ⟨(by show 5 ≤ sizeLine; decide), fun p hp => ⟨_, rfl, t, b, c, 5, rfl, tape_new T3 hp, by decide, by decide, fun u H4 u0 u1 T4 o4 => ?_⟩⟩
    have e12 : (10 : Int) ^ (12 : Int).toNat = 1000000000000 := by decide +kernel
    have h4 := item_after T3 hp o4
    dsimp only at h4
    rw [e12] at h4 b3
    have kp : KpT t b H H4 := (((KpT.of_off o1).trans (.of_off o2)).trans (.of_off o3)).trans ((KpT.of_same (same_new hp)).trans (.of_off o4))
    rcases (show u = 0 ∨ u = 1 ∨ u = 2 ∨ u = 3 ∨ u = 4 by omega) with rfl | rfl | rfl | rfl | rfl
    · exact ⟨p, _, 0, _, rfl, rfl, SqL.of h4, rfl, k _ _ (by omega) (by omega) T4 kp⟩
    · exact ⟨p, _, 1, _, rfl, rfl, SqL.of h4, rfl, k _ _ (by omega) (by omega) T4 kp⟩
    · exact ⟨p, _, 2, _, rfl, rfl, SqL.of h4, rfl, k _ _ (by omega) (by omega) T4 kp⟩
    · exact ⟨p, _, 3, _, rfl, rfl, SqL.of h4, rfl, k _ _ (by omega) (by omega) T4 kp⟩
    · exact ⟨p, _, 4, _, rfl, rfl, SqL.of h4, rfl, k _ _ (by omega) (by omega) T4 kp⟩
theorem scLWorth : FnScope ["_law_tape_here", "_law_word", "_law_many"] ["_law_tape_here", "_law_word"] (defScope sLWorth) := ⟨rfl, rfl, rfl, by decide +kernel, rfl, by decide +kernel, by decide +kernel⟩
theorem nice_int {i : Int} (h0 : -2000000000000 ≤ i) (h1 : i ≤ 2000000000000) : Nice 2000 (.int i) := Nice.int (by unfold big; omega) (by unfold big; omega)
set_option maxHeartbeats 4000000 in
theorem ok_lworth {f : Addr} {fd fdD fdC : FuncData} (F : Fun K "_law_worth" "_law_worth" sLWorth f fd) (T : TxtW mg fDr fLC fLW) (FR : Fun K "_law_draw" "_law_draw" sDraw fDr fdD) (bR : Binds K fdD ["_law_tape_here", "_law_many"] [])
    (GC : FnOk P w K mg base CX0 2 fLC fdC ["_law_tape_here"] spLCoins) (kC : PySem.W.keepIn K (.ref fLC) = true) (bC : Binds K fdC ["_law_tape_here"] []) : FnOk P w K mg base CX0 3 f fd ["_law_tape_here", "_law_word"] spLWorth := by
  have GR : FnOk P w K mg base CX0 1 fDr fdD ["_law_tape_here", "_law_many"] spDraw := ok_draw FR T.t
  refine F.ok scLWorth (fun vs H Q E h => ?_) (fun cdv A outer s H vs Q E hr h => ?_)
  · obtain ⟨t, b, c, wd, rfl, _⟩ := h
    rfl
  · obtain ⟨t, b, c, wd, rfl, hw, TA, k⟩ := h
    have hr1 : Room 1 _ := hr.mono (by decide)
    -- 'price'
    refine pss_cut (fun σ H1 => σ = [some (.ref t), some (.str wd), none] ∧ wd ≠ "price" ∧ H = H1)
      ⟨_, ps_if (pt_cmpR op_eq (pv 1) pe_str (nomark _)) (pss_one (ps_ret (pe_ix ix_list (pe_lst (pa_cons pe_non (pa_cons (pe_call GC hr (by rfl) T.coins kC bC .nil pass0 (pa_cons (pv 0) pa_nil)) (pa_cons (pe_call GC hr (by rfl) T.coins kC bC .nil pass0 (pa_cons (pv 0) pa_nil)) pa_nil))))
        (pe_call GR hr1 (by rfl) T.draw FR.kp bR .nil pass0 (pa_cons (pv 0) (pa_cons pe_int pa_nil))) (fun _ _ => rfl)))) pss_nil, ?_⟩ ?_
    · refine ⟨_, rfl, rfl, _, rfl, ite2 (fun h => ?_) (fun h => ⟨rfl, str_ne h, rfl⟩)⟩
      rw [str_of h] at k
      refine ⟨_, rfl, t, b, c, rfl, TA, fun v1 H1 a1 b1 T1 o1 => ⟨_, rfl, t, b, c, rfl, T1, fun v2 H2 a2 b2 T2 o2 => ⟨(by show 3 ≤ sizeLine; decide), fun p hp => ⟨_, rfl, t, b, c, 3, rfl, tape_new T2 hp, by decide, by decide, fun u H3 u0 u1 T3 o3 => ?_⟩⟩⟩⟩
      have h3 := item_after T2 hp o3
      have kp : KpT t b H H3 := (o1.trans o2).trans ((KpT.of_same (same_new hp)).trans (.of_off o3))
      rcases (show u = 0 ∨ u = 1 ∨ u = 2 by omega) with rfl | rfl | rfl
      · exact ⟨p, _, 0, _, rfl, rfl, SqL.of h3, rfl, k _ .none _ .non (by rw [worth_price]; rfl) (Nice.none.mono (by decide)) (Nat.zero_le _) T3 kp⟩
      · exact ⟨p, _, 1, _, rfl, rfl, SqL.of h3, rfl, k _ (.int v1) _ (.int v1) (by rw [worth_price, show coinsD (.int _) = true from within_int (by omega) (by omega), Bool.or_true]) ((nice_int (by omega) (by omega)).mono (by decide)) (Nat.zero_le _) T3 kp⟩
      · exact ⟨p, _, 2, _, rfl, rfl, SqL.of h3, rfl, k _ (.int v2) _ (.int v2) (by rw [worth_price, show coinsD (.int _) = true from within_int (by omega) (by omega), Bool.or_true]) ((nice_int (by omega) (by omega)).mono (by decide)) (Nat.zero_le _) T3 kp⟩
    rintro σ H1 ⟨rfl, n1, rfl⟩
    -- 'come', 'go'
    refine pss_cut (fun σ H1 => σ = [some (.ref t), some (.str wd), none] ∧ (wd ≠ "come" ∧ wd ≠ "go") ∧ H = H1)
      ⟨_, ps_if (PW.pt (pw_or (pt_cmpR op_eq (pv 1) pe_str (nomark _)) (pw_or1 (pt_cmpR op_eq (pv 1) pe_str (nomark _))))) (pss_one (ps_ret (pe_cmpR op_eq (pe_call GR hr1 (by rfl) T.draw FR.kp bR .nil pass0 (pa_cons (pv 0) (pa_cons pe_int pa_nil))) pe_int (nomark _)))) pss_nil, ?_⟩ ?_
    · refine ⟨_, rfl, rfl, _, rfl, ite2 (fun h => ?_) (fun h => ⟨_, rfl, rfl, _, rfl, ite2 (fun h2 => ?_) (fun h2 => ⟨rfl, ⟨str_ne h, str_ne h2⟩, rfl⟩)⟩)⟩
      · rw [str_of h] at k
        exact iteT ⟨_, rfl, t, b, c, 2, rfl, TA, by decide, by decide, fun u H3 u0 u1 T3 o3 => ⟨rfl, k _ (.bool _) _ (.bl _) (by rw [worth_come]; rfl) ((Nice.bool _).mono (by decide)) (Nat.zero_le _) T3 (.of_off o3)⟩⟩
      · rw [str_of h2] at k
        exact ⟨_, rfl, t, b, c, 2, rfl, TA, by decide, by decide, fun u H3 u0 u1 T3 o3 => ⟨rfl, k _ (.bool _) _ (.bl _) (by rw [worth_go]; rfl) ((Nice.bool _).mono (by decide)) (Nat.zero_le _) T3 (.of_off o3)⟩⟩
    rintro σ H1 ⟨rfl, ⟨n2, n3⟩, rfl⟩
    -- 'least', 'most'
    refine pss_cut (fun σ H1 => σ = [some (.ref t), some (.str wd), none] ∧ (wd ≠ "least" ∧ wd ≠ "most") ∧ H = H1)
      ⟨_, ps_if (PW.pt (pw_or (pt_cmpR op_eq (pv 1) pe_str (nomark _)) (pw_or1 (pt_cmpR op_eq (pv 1) pe_str (nomark _))))) (pss_one (ps_ret (pe_op op_add pe_int (pe_call GR hr1 (by rfl) T.draw FR.kp bR .nil pass0 (pa_cons (pv 0) (pa_cons pe_int pa_nil)))))) pss_nil, ?_⟩ ?_
    · refine ⟨_, rfl, rfl, _, rfl, ite2 (fun h => ?_) (fun h => ⟨_, rfl, rfl, _, rfl, ite2 (fun h2 => ?_) (fun h2 => ⟨rfl, ⟨str_ne h, str_ne h2⟩, rfl⟩)⟩)⟩
      · rw [str_of h] at k
        exact iteT ⟨_, rfl, t, b, c, 14, rfl, TA, by decide, by decide, fun u H3 u0 u1 T3 o3 => ⟨_, _, rfl, rfl, k _ (.int _) _ (.int _) (by rw [worth_least]; exact within_int (by omega) (by omega)) ((nice_int (by omega) (by omega)).mono (by decide)) (Nat.zero_le _) T3 (.of_off o3)⟩⟩
      · rw [str_of h2] at k
        exact ⟨_, rfl, t, b, c, 14, rfl, TA, by decide, by decide, fun u H3 u0 u1 T3 o3 => ⟨_, _, rfl, rfl, k _ (.int _) _ (.int _) (by rw [worth_most]; exact within_int (by omega) (by omega)) ((nice_int (by omega) (by omega)).mono (by decide)) (Nat.zero_le _) T3 (.of_off o3)⟩⟩
    rintro σ H1 ⟨rfl, ⟨n4, n5⟩, rfl⟩
    -- 'deal'
    refine pss_cut (fun σ H1 => σ = [some (.ref t), some (.str wd), none] ∧ wd ≠ "deal" ∧ H = H1)
      ⟨_, ps_if (pt_cmpR op_eq (pv 1) pe_str (nomark _)) pss_any pss_nil, ?_⟩ ?_
    · refine ⟨_, rfl, rfl, _, rfl, ite2 (fun h => ?_) (fun h => ⟨rfl, str_ne h, rfl⟩)⟩
      rw [str_of h] at k
      refine pss_cut (fun σ H1 => ∃ m : Int, (2 ≤ m ∧ m ≤ 14) ∧ σ = [some (.ref t), some (.str wd), some (.int m)] ∧ TapeAt H1 t b c ∧ KpT t b H H1)
        ⟨_, ps_set (i := 2) scLWorth.nd rfl (Or.inl rfl) (pe_op op_add pe_int (pe_call GR hr1 (by rfl) T.draw FR.kp bR .nil pass0 (pa_cons (pv 0) (pa_cons pe_int pa_nil)))), ?_⟩ ?_
      · exact ⟨_, rfl, t, b, c, 13, rfl, TA, by decide, by decide, fun u H3 u0 u1 T3 o3 => ⟨_, _, rfl, rfl, 2 + u, ⟨by omega, by omega⟩, rfl, T3, .of_off o3⟩⟩
      rintro σ H1 ⟨m, ⟨m0, m1⟩, rfl, T1, kp1⟩
      refine ⟨_, pss_one (ps_ret (pe_ix ix_list (pe_lst (pa_cons pe_non (pa_cons (pe_tup (pa_cons (pv 2) (pa_cons (pe_op op_add pe_int (pe_call GR hr1 (by rfl) T.draw FR.kp bR .nil pass0 (pa_cons (pv 0) (pa_cons (pe_op op_sub (pv 2) pe_int) pa_nil)))) pa_nil)))
        (pa_cons (pe_tup (pa_cons pe_int (pa_cons pe_int pa_nil))) (pa_cons (pe_tup (pa_cons (pv 2) (pa_cons (pe_op op_sub (pv 2) pe_int) pa_nil))) pa_nil)))))
        (pe_call GR hr1 (by rfl) T.draw FR.kp bR .nil pass0 (pa_cons (pv 0) (pa_cons pe_int pa_nil))) (fun _ _ => rfl))), ?_⟩
      refine ⟨_, rfl, _, rfl, _, rfl, _, _, rfl, rfl, t, b, c, _, rfl, T1, by omega, by unfold big; omega, fun u H2 u0 u1 T2 o2 => ⟨_, _, rfl, rfl, (by show 2 ≤ sizeLine; decide), fun p1 hp1 => ?_⟩⟩
      refine ⟨(by show 2 ≤ sizeLine; decide), fun p2 hp2 => ⟨_, rfl, _, rfl, _, _, rfl, rfl, (by show 2 ≤ sizeLine; decide), fun p3 hp3 => ⟨(by show 4 ≤ sizeLine; decide), fun p4 hp4 => ?_⟩⟩⟩
      have T3 := tape_new (o := .tup [.int m, .int (1 + u)]) T2 hp1
      have T4 := tape_new (o := .tup [.int 2, .int 1]) T3 hp2
      have T5 := tape_new (o := .tup [.int m, .int (m - 1)]) T4 hp3
      refine ⟨_, rfl, t, b, c, 4, rfl, tape_new T5 hp4, by decide, by decide, fun v H6 v0 v1 T6 o6 => ?_⟩
      have h6 := item_after T5 hp4 o6
      have s1 := same_new (o := .tup [.int m, .int (1 + u)]) hp1
      have s2 := same_new (o := .tup [.int 2, .int 1]) hp2
      have s3 := same_new (o := .tup [.int m, .int (m - 1)]) hp3
      have s4 := same_new (o := .lst [.non, .ref p1, .ref p2, .ref p3]) hp4
      have kp2 : KpT t b H H2 := kp1.trans (.of_off o2)
      have kp : KpT t b H H6 := kp2.trans ((KpT.of_same (((s1.trans s2).trans s3).trans s4)).trans (.of_off o6))
      have f1 : H p1 = none := kp2.free T2 hp1
      have f2 : H p2 = none := kp2.free T2 (s1.free hp2)
      have f3 : H p3 = none := kp2.free T2 ((s1.trans s2).free hp3)
      have g1 : H6 p1 = some (.tup [.int m, .int (1 + u)]) := by
        rw [o6 p1 (T2.free hp1).1 (T2.free hp1).2.1]; exact ((s2.trans s3).trans s4) _ _ upd_same
      have g2 : H6 p2 = some (.tup [.int 2, .int 1]) := by
        rw [o6 p2 (T3.free hp2).1 (T3.free hp2).2.1]; exact (s3.trans s4) _ _ upd_same
      have g3 : H6 p3 = some (.tup [.int m, .int (m - 1)]) := by
        rw [o6 p3 (T4.free hp3).1 (T4.free hp3).2.1]; exact s4 _ _ upd_same
      have fin : ∀ (q : Addr) (i j : Int), H q = none → H6 q = some (.tup [.int i, .int j]) → 2 ≤ i → i ≤ 14 → 1 ≤ j → j ≤ i - 1 → Q (.ref q) H6 := fun q i j e1 e2 i0 i1 j0 j1 =>
        k _ (.tuple [.int i, .int j]) _ (.tup (sub_of e1 e2) (.cons (.int i) (.cons (.int j) .nil))) (by
          rw [worth_deal]
          show (false || (withinD 2 14 (.int i) && withinD 1 (i - 1) (.int j))) = true
          rw [within_int i0 i1, within_int j0 j1]; rfl)
          (Nice.tuple (NiceAll.two (nice_int (by omega) (by omega)) (nice_int (by omega) (by omega)) (Nat.zero_le _) (Nat.zero_le _)) (by show 2 * (2000 + 2) + 3 ≤ 5000; decide)) (by simp only [PyData.depth, PyData.depthAll]; decide) T6 kp
      rcases (show v = 0 ∨ v = 1 ∨ v = 2 ∨ v = 3 by omega) with rfl | rfl | rfl | rfl
      · exact ⟨p4, _, 0, _, rfl, rfl, SqL.of h6, rfl, k _ .none _ .non (by rw [worth_deal]; rfl) (Nice.none.mono (by decide)) (Nat.zero_le _) T6 kp⟩
      · exact ⟨p4, _, 1, _, rfl, rfl, SqL.of h6, rfl, fin p1 _ _ f1 g1 (by omega) (by omega) (by omega) (by omega)⟩
      · exact ⟨p4, _, 2, _, rfl, rfl, SqL.of h6, rfl, fin p2 _ _ f2 g2 (by omega) (by omega) (by omega) (by omega)⟩
      · exact ⟨p4, _, 3, _, rfl, rfl, SqL.of h6, rfl, fin p3 _ _ f3 g3 (by omega) (by omega) (by omega) (by omega)⟩
    rintro σ H1 ⟨rfl, n6, rfl⟩
    have e7 : wd = "fee" := by
      simp only [words, List.mem_cons, List.not_mem_nil, or_false] at hw
      rcases hw with e | e | e | e | e | e | e
      · exact absurd e n1
      · exact absurd e n2
      · exact absurd e n3
      · exact absurd e n4
      · exact absurd e n5
      · exact absurd e n6
      · exact e
    rw [e7] at k
    refine ⟨_, pss_one (ps_ret (pe_call GC hr (by rfl) T.coins kC bC .nil pass0 (pa_cons (pv 0) pa_nil))), ?_⟩
    exact ⟨_, rfl, t, b, c, rfl, TA, fun v1 H1 a1 b1 T1 o1 => k _ (.int v1) _ (.int v1) (by rw [worth_fee]; exact within_int (by omega) (by omega)) ((nice_int (by omega) (by omega)).mono (by decide)) (Nat.zero_le _) T1 o1⟩
end
end K34
set_option Elab.async false
set_option linter.all false
set_option maxRecDepth 100000
namespace K34
open PySem PySem.Spec PyProof.Rows L2
abbrev sKept : Stmt := top 41
abbrev sBInit : Stmt := inClass (top 40) 0
abbrev sBRules : Stmt := inClass (top 40) 1
/-- a rule's instance, of its tuple -/
def ruleI (C : Addr) (a b v : PyData) : PyData := insD C [(.str "first", a), (.str "last", b), (.str "worth", v)]
def insOf (cs : Cs) : PyData → PyData
  | .tuple [.str w, a, b, v] => ruleI (cs.of w) a b v
  | _ => .none
def bookD (C : Addr) (cs : Cs) (ds : List PyData) : PyData := insD C [(.str "kept", .list (ds.map (insOf cs)))]
/-- rules, as tuples -/
def Rules (ds : List PyData) : Prop := ∀ d ∈ ds, ruleD d = true ∧ SeqAt.shaped d = true ∧ d.hasDict = false
def phRuleOf (cs : Cs) : List A → (A → Prop) → Prop := fun as Q => ∃ d, as = [.dat d] ∧ d.hasDict = false ∧ SeqAt.shaped d = true ∧ (ruleD d = false → Q (.dat .none)) ∧ (ruleD d = true → Q (.dat (insOf cs d)))
def phKept (cs : Cs) : List A → (A → Prop) → Prop := fun as Q => ∃ ds, as = [.dat (.list ds)] ∧ Rules ds ∧ ds.length ≤ 24 ∧ Q (.own (ds.map (insOf cs)))
def phBook (C : Addr) (cs : Cs) : List A → (A → Prop) → Prop := fun as Q => ∃ ds, (as = [.dat (.list ds)] ∨ (as = [.dat .none] ∧ ds = [])) ∧ Rules ds ∧ ds.length ≤ 24 ∧ Q (.dat (bookD C cs ds))
def phTold (C : Addr) (w : Str) : List A → (A → Prop) → Prop := fun as Q => ∃ a b v, as = [.dat (ruleI C a b v)] ∧ Q (.dat (.tuple [.str w, a, b, v]))
def phRules (C : Addr) (cs : Cs) : List A → (A → Prop) → Prop := fun as Q => ∃ ds, as = [.dat (bookD C cs ds)] ∧ Rules ds ∧ ds.length ≤ 1000 ∧ Q (.own ds)
theorem flds_eq (x y z : V) : flds x y z = [(("first" : Str), x), (("last" : Str), y), (("worth" : Str), z)] := by
  unfold flds
  show putF "worth" z (if ("first" : Str) = "last" then _ else _) = _
  rw [if_neg (fun e => ne_lf e.symm)]
  show (if ("first" : Str) = "worth" then _ else _) = _
  rw [if_neg (fun e => ne_wf e.symm)]
  show _ :: (if ("last" : Str) = "worth" then _ else _) = _
  rw [if_neg (fun e => ne_wl e.symm)]
  rfl
theorem insOf_rule {cs : Cs} {d : PyData} (h : ruleD d = true) : ∃ (s : Str) (a b v : PyData), s ∈ words ∧ d = .tuple [.str s, a, b, v] ∧ insOf cs d = ruleI (cs.of s) a b v := by
  obtain ⟨s, a, b, v, hs, rfl⟩ := ruleD_parts h
  exact ⟨s, a, b, v, hs, rfl, rfl⟩
def scRulesC : Scope := match defBody sBRules with
  | [.Return (some (.ListComp _ _ sc _)) _] => sc
  | _ => defScope sBRules
section
variable {P : Program} {w : World} {K : PySem.W.Frag} {mg : Str → Option Value} {base : Heap} {cs : Cs}
theorem cal_ruleOf {k : Nat} {f : Addr} {fd : FuncData} {ps : List Str} (hm : mg "rule_of" = some (.ref f)) (hk : PySem.W.keepIn K (.ref f) = true) (hb : Binds K fd ps []) (G : FnOk P w K mg base CX0 k f fd ps (spRuleOf cs)) : Cal P w K mg base "rule_of" k (phRuleOf cs) := by
  refine ⟨f, fd, _, hm, hk, hb, G.imp fun vs H Q E h => ?_⟩
  obtain ⟨F, as, Q', rfl, t, o, rv, ⟨d, rfl, nd, sh, q0, q1⟩, kk⟩ := h
  obtain ⟨x, rfl, av⟩ := rv.one
  have oo : ∀ {a : Addr}, F.H0 a = none → ¬ F.O0 a := fun {a} e z => by
    obtain ⟨u, hu, _⟩ := o a z
    rw [e] at hu; cases hu
  refine ⟨x, d, rfl, (av.dv nd).same sub_same, sh, fun hr H' s => kk _ _ _ (q0 hr) ⟨t.same s, Kz.of_same s, .non⟩, fun r wd x1 x2 x3 p dx H' hx hr hw he hp' hp s => kk _ _ _ (q1 hr) ⟨t.same s, Kz.of_same s, ?_⟩⟩
  subst hx
  obtain ⟨s', a, b, v, _, rfl⟩ := ruleD_parts hr
  obtain ⟨r', xs, e1, e2, e3⟩ := av.tup_inv
  cases e1
  have e4 := (sub_some e2).2
  rw [he] at e4
  cases e4
  have gs : Same (sub (fun x => ¬ F.O0 x) F.H0) (sub (fun x => ¬ F.O0 x) H') := same_sub fun a u h e => ⟨h, s _ _ e⟩
  cases e3 with
  | cons g1 e3 =>
    cases g1.str_inv
    cases e3 with
    | cons g2 e3 =>
      cases e3 with
      | cons g3 e3 =>
        cases e3 with
        | cons g4 e3 =>
          cases e3
          rw [flds_eq] at hp'
          exact .ins (sub_of (oo hp) hp') (.cons (g2.same gs) (.cons (g3.same gs) (.cons (g4.same gs) .nil)))
theorem calM_told {C f fIn fE fWd : Addr} {fd : FuncData} {wd : Str} (R : ClsR K C fIn f fE fWd) (hb : Binds K fd ["self"] []) (G : FnOk P w K mg base CX0 2 f fd ["self"] (spTold C wd)) : CalM P w K mg base C "told" 2 (phTold C wd) := by
  refine ⟨f, fd, _, R.cl, R.told, hb, G.imp fun vs H Q E h => ?_⟩
  obtain ⟨F, as, Q', rfl, t, o, rv, ⟨a, b, v, rfl, q⟩, kk⟩ := h
  obtain ⟨x, rfl, av⟩ := rv.one
  obtain ⟨p, dx, fs, rfl, h1, h2⟩ := av.ins_inv
  cases h2 with
  | cons g1 h2 =>
    cases h2 with
    | cons g2 h2 =>
      cases h2 with
      | cons g3 h2 =>
        cases h2
        refine ⟨p, dx, _, _, _, rfl, by rw [flds_eq]; exact (sub_some h1).2, fun r hr => kk _ _ _ q ⟨t.same (same_new hr), Kz.of_same (same_new hr), ?_⟩⟩
        have gs : ∀ o' : HO, Same (sub (fun x => ¬ F.O0 x) F.H0) (sub (fun x => ¬ F.O0 x) (upd F.H0 r o')) := fun o' => same_sub fun a u h e => ⟨h, by rw [upd_ne (ne_of_none e hr)]; exact e⟩
        refine .tup (sub_of (fun z => ?_) upd_same) (.cons (.str _) (.cons (g1.same (gs _)) (.cons (g2.same (gs _)) (.cons (g3.same (gs _)) .nil))))
        obtain ⟨u, hu, _⟩ := o r z
        rw [hr] at hu; cases hu
/-! ### kept_rules, Book -/
theorem scKe : FnScope ["things", "kept", "number", "thing", "rule"] ["things"] (defScope sKept) := ⟨rfl, rfl, rfl, by decide +kernel, rfl, by decide +kernel, by decide +kernel⟩
set_option maxHeartbeats 4000000 in
theorem cal_kept {f : Addr} {fd : FuncData} (F : Fun K "kept_rules" "kept_rules" sKept f fd) (hm : mg "kept_rules" = some (.ref f)) (hb : Binds K fd ["things"] []) (nb : NbT mg) (gM : ∃ t, mg "MOST_RULES" = some (.int 24 t)) (CRO : Cal P w K mg base "rule_of" 7 (phRuleOf cs)) : Cal P w K mg base "kept_rules" 8 (phKept cs) := by
  refine calA F hm hb scKe (fun as Q h => ?_) (fun cdv A' outer s H E as Q hr h => ?_)
  · obtain ⟨ds, rfl, _⟩ := h
    rfl
  · obtain ⟨ds, rfl, rd, hl, q⟩ := h
    refine sv_setL 1 scKe.nd (el_lst (ea_nil (⟨_, rfl, Nat.le_of_ble_eq_true rfl, ?_⟩)))
    refine sv_for (pat := .many [2, 3]) PassesOwn.never rfl (pg_tupK' (n := 2) (K := K) rfl rfl (pgs_cons (pg_name (i := 2) scKe.nd rfl (Or.inl rfl)) (pgs_cons (pg_name (i := 3) scKe.nd rfl (Or.inl rfl)) (pgs_nil)))) (ei_enum (by rfl) nb.enumerate (ev_var 0 rfl (⟨_, rfl, ?_⟩)))
    refine loop_inv (fun i α => ∃ v2 v3 v4, α = [some (.dat (.list ds)), some (.own ((ds.take i).map (insOf cs))), v2, v3, v4]) ⟨none, none, none, rfl⟩ ?_ ?_
    · rintro i d α hd ⟨v2, v3, v4, rfl⟩
      obtain ⟨e, he, rfl⟩ := enumD_get hd
      obtain ⟨r1, r2, r3⟩ := rd e (List.mem_of_getElem? he)
      have hi : i < ds.length := (List.getElem?_eq_some_iff.mp he).1
      refine ⟨_, rfl, ?_⟩
      refine sv_set 4 scKe.nd (ev_cal CRO hr (by rfl) (ea_cons (ev_var 3 rfl (ea_nil (⟨_, rfl, r3, r2, fun z => (by rw [r1] at z; cases z), fun _ => ?_⟩)))))
      refine sv_if (et_isN (ev_var 4 rfl ?_))
      obtain ⟨s', a, b, v, hs, rfl, ei⟩ := insOf_rule (cs := cs) r1
      refine sv_iteB (fun h => by rw [show (A.dat (insOf cs (.tuple [.str s', a, b, v]))).d = ruleI (cs.of s') a b v from rfl] at h; cases h) (fun _ => sv_nil ?_)
      refine sv_append 1 rfl (ev_var 4 rfl ⟨by rw [List.length_map, List.length_take]; omega, ?_⟩)
      refine sv_nil ⟨some (.dat (.int ((0 + i : Nat) : Int))), some (.dat (.tuple [.str s', a, b, v])), some (.dat (insOf cs (.tuple [.str s', a, b, v]))), ?_⟩
      rw [List.take_add_one, he, List.map_append]
      rfl
    · rintro α ⟨v2, v3, v4, rfl⟩
      rw [enumD_len, List.take_length]
      refine sv_if (et_lend 1 rfl (et_gt (ev_len (by rfl) nb.len (ev_var 1 rfl ⟨_, rfl, ev_globI (by rfl) gM ⟨_, _, rfl, rfl, ?_⟩⟩))))
      refine sv_ite (fun h => ?_) (fun _ => sv_nil ?_)
      · rw [List.length_map] at h
        omega
      · exact sv_retO 1 rfl q
theorem scBI : FnScope ["self", "rules"] ["self", "rules"] (defScope sBInit) := ⟨rfl, rfl, rfl, by decide +kernel, rfl, by decide +kernel, by decide +kernel⟩
theorem noL_worth {w' v : PyData} (h : worthD w' v = true) : noL v = true := by
  have wi : ∀ {lo hi : Int} {x : PyData}, withinD lo hi x = true → noL x = true := fun {lo hi x} h => by
    cases x with
    | int i => rfl
    | _ => cases h
  have nn : ∀ {x : PyData}, isNone x = true → noL x = true := fun {x} h => by
    cases x with
    | none => rfl
    | _ => cases h
  unfold worthD at h
  split at h
  · rcases (Bool.or_eq_true _ _).mp h with h | h
    · exact nn h
    · exact wi h
  · split at h
    · cases v with
      | bool b => rfl
      | _ => cases h
    · split at h
      · exact wi h
      · split at h
        · rcases (Bool.or_eq_true _ _).mp h with h | h
          · exact nn h
          · unfold dealD at h
            split at h
            · rw [Bool.and_eq_true] at h
              simp only [noL, noLs, wi h.2, Bool.and_self]
            · cases h
        · rw [Bool.and_eq_true] at h
          exact wi h.2
theorem noL_rule {s' : Str} {a b v : PyData} (h : ruleD (.tuple [.str s', a, b, v]) = true) : noL a = true ∧ noL b = true ∧ noL v = true := by
  have h' : (stretchD (.tuple [a, b]) && worthD (.str s') v) = true := h
  rw [Bool.and_eq_true] at h'
  refine ⟨?_, ?_, noL_worth h'.2⟩
  · have := h'.1
    unfold stretchD farD at this
    split at this
    · rename_i k e
      split at e
      · rename_i z; cases z; rfl
      · cases e
    · cases this
  · have := h'.1
    unfold stretchD farD at this
    split at this
    · rename_i k e
      split at e
      · rename_i z; cases z; rfl
      · cases e
    · cases this
theorem noLs_ins {ds : List PyData} (rd : Rules ds) : noLs (ds.map (insOf cs)) = true := by
  induction ds with
  | nil => rfl
  | cons d r ih =>
    have ih' := ih fun x hx => rd x (List.mem_cons_of_mem _ hx)
    have h1 := (rd d List.mem_cons_self).1
    obtain ⟨s', a, b, v, hs, rfl, ei⟩ := insOf_rule (cs := cs) h1
    obtain ⟨z1, z2, z3⟩ := noL_rule h1
    rw [List.map_cons, ei]
    simp only [noLs, ih', Bool.and_true]
    simp [ruleI, insD, noL, noLk, z1, z2, z3]
theorem ok_binit {f C : Addr} {dV : Value} {fd : FuncData} (F : FunV K "__init__" "Book.__init__" sBInit dV f fd) (c : Cls K C) (na : NoAttr K C "kept") (CK : Cal P w K mg base "kept_rules" 8 (phKept cs)) : FnOk P w K mg base CX0 9 f fd ["self", "rules"] (spI C (phBook C cs)) := by
  refine initA (N := []) F scBI c na rfl (fun as Q h => ?_) (fun cdv A' outer s H E as Q hr h => ?_) (fun _ _ _ _ _ _ => rfl) (Or.inl rfl)
  · obtain ⟨ds, h | ⟨h, _⟩, _⟩ := h <;> rw [h] <;> rfl
  · obtain ⟨ds, h | ⟨h, hz⟩, rd, hl, q⟩ := h
    · subst h
      exact el_cal CK hr (by rfl) (ea_cons (ev_ifx (et_isN (ev_var 1 rfl (iteF (ev_var 1 rfl (ea_nil ⟨_, rfl, rd, hl, _, rfl, noLs_ins rd, q⟩)))))))
    · subst h hz
      exact el_cal CK hr (by rfl) (ea_cons (ev_ifx (et_isN (ev_var 1 rfl (iteT (EvL.d (el_lst (ea_nil ⟨_, rfl, Nat.le_of_ble_eq_true rfl, ea_nil ⟨[], rfl, rd, hl, _, rfl, noLs_ins rd, q⟩⟩))))))))
theorem scBR : FnScope ["self"] ["self"] (defScope sBRules) := ⟨rfl, rfl, rfl, by decide +kernel, rfl, by decide +kernel, by decide +kernel⟩
theorem csBR : CompScope ["self"] (defScope sBRules) ["rule"] [none] scRulesC := ⟨rfl, by decide +kernel, by decide +kernel, by decide +kernel, by decide +kernel, rfl, by decide +kernel⟩
set_option maxHeartbeats 4000000 in
theorem ok_brules {f C : Addr} {fd : FuncData} (F : Fun K "rules" "Book.rules" sBRules f fd) (c : Cls K C) (na : NoAttr K C "kept") (hb : Binds K fd ["self"] []) (O : ∀ w' ∈ words, CalM P w K mg base (cs.of w') "told" 2 (phTold (cs.of w') w')) : FnOk P w K mg base CX0 3 f fd ["self"] (spA (phRules C cs)) := by
  refine fnA F scBR (fun as Q h => ?_) (fun cdv A' outer s H E as Q hr h => ?_)
  · obtain ⟨ds, rfl, _⟩ := h
    rfl
  · obtain ⟨ds, rfl, rd, hl, q⟩ := h
    refine sv_retL (el_lc (pat := .one 0) rfl csBR rfl (fun _ _ _ _ => pg_name (i := 0) csBR.nd rfl (Or.inl rfl)) (ei_list (ev_fld c na (ev_var 0 rfl ⟨_, _, rfl, rfl, ⟨_, rfl, by rw [List.length_map]; exact hl, ?comp⟩⟩))))
    case comp =>
      refine compW_inv (fun i acc => acc = ds.take i) rfl ?_ (fun acc h => ?_)
      · rintro i d acc hd rfl
        rw [List.getElem?_map, Option.map_eq_some_iff] at hd
        obtain ⟨e, he, rfl⟩ := hd
        obtain ⟨s', a, b, v, hs, rfl, ei⟩ := insOf_rule (cs := cs) (rd e (List.mem_of_getElem? he)).1
        refine ⟨_, rfl, fun C s2 H2 fp => es_nil ?_⟩
        rw [if_pos rfl]
        refine fun C s2 H2 fp => ev_meth0 (O s' hs) hr (ev_var 0 rfl ⟨_, rfl, rfl, _, _, _, rfl, ?_⟩)
        show ds.take i ++ [_] = ds.take (i + 1)
        rw [List.take_add_one, he]
        rfl
      · rw [List.length_map, List.take_length] at h
        rw [h]
        exact q
end
end K34
set_option Elab.async false
set_option linter.all false
set_option maxRecDepth 100000
namespace K34
open PySem PySem.Spec PyProof.Rows L2
/-! ### usual, word, tells, tells_of of a book of rules -/
abbrev sBTells : Stmt := inClass (top 40) 2
abbrev sUsual : Stmt := top 31
def tbU : List (Str × V) := [("price", .non), ("come", .bl true), ("go", .bl true), ("least", .int 1), ("most", .int 14), ("deal", .non), ("fee", .int 0)]
def dueD (x : Str) : PyData := if x = "price" ∨ x = "deal" then .none else if x = "come" ∨ x = "go" then .bool true else if x = "least" then .int 1 else if x = "most" then .int 14 else .int 0
theorem tb_due {x : Str} (h : x ∈ words) : ∃ v, tbU.lookup x = some v ∧ scV (dueD x) = some v := by
  simp only [words, List.mem_cons, List.not_mem_nil, or_false] at h
  rcases h with rfl | rfl | rfl | rfl | rfl | rfl | rfl
  · exact ⟨.non, by decide +kernel, by decide +kernel⟩
  · exact ⟨.bl true, by decide +kernel, by decide +kernel⟩
  · exact ⟨.bl true, by decide +kernel, by decide +kernel⟩
  · exact ⟨.int 1, by decide +kernel, by decide +kernel⟩
  · exact ⟨.int 14, by decide +kernel, by decide +kernel⟩
  · exact ⟨.non, by decide +kernel, by decide +kernel⟩
  · exact ⟨.int 0, by decide +kernel, by decide +kernel⟩
def hitD (w : Str) (day : Int) : PyData → Bool
  | .tuple [.str x, .int a, .int b, _] => decide (x = w) && (decide (a ≤ day) && decide (day ≤ b))
  | _ => false
def worthOf : PyData → PyData
  | .tuple [_, _, _, v] => v
  | _ => .none
/-- what a book of these rules tells -/
def tellsD (ds : List PyData) (w : Str) (day : Int) : PyData := match ds.reverse.find? (hitD w day) with
  | some d => worthOf d
  | none => dueD w
theorem tellsD_snoc (ds : List PyData) (d : PyData) (w : Str) (day : Int) : tellsD (ds ++ [d]) w day = if hitD w day d = true then worthOf d else tellsD ds w day := by
  unfold tellsD
  rw [List.reverse_append, List.reverse_singleton, List.singleton_append, List.find?_cons]
  cases hitD w day d <;> simp
theorem find_first {p : PyData → Bool} {e : PyData} : ∀ {l : List PyData} {i : Nat}, (∀ j < i, ∀ d, l[j]? = some d → p d = false) → l[i]? = some e → p e = true → l.find? p = some e
  | [], i, _, h, _ => by simp at h
  | d :: l, 0, _, h, q => by
    simp at h; subst h
    simp [List.find?_cons, q]
  | d :: l, i + 1, a, h, q => by
    have hd := a 0 (Nat.succ_pos _) d rfl
    rw [List.find?_cons, hd]
    exact find_first (i := i) (fun j hj x hx => a (j + 1) (Nat.succ_lt_succ hj) x (by simpa using hx)) (by simpa using h) q
theorem find_no {p : PyData → Bool} {l : List PyData} (h : ∀ (j : Nat) d, l[j]? = some d → p d = false) : l.find? p = none := by
  rw [List.find?_eq_none]
  intro x hx
  obtain ⟨j, hj⟩ := List.mem_iff_getElem?.mp hx
  rw [h j x hj]; simp
theorem ruleD_ints {d : PyData} (h : ruleD d = true) : ∃ (s : Str) (i j : Int) (v : PyData), s ∈ words ∧ d = .tuple [.str s, .int i, .int j, v] ∧ 0 ≤ i ∧ i ≤ j ∧ j ≤ 1000000 ∧ worthD (.str s) v = true := by
  obtain ⟨s, a, b, v, hs, rfl⟩ := ruleD_parts h
  have h' : (stretchD (.tuple [a, b]) && worthD (.str s) v) = true := h
  rw [Bool.and_eq_true] at h'
  have h1 := h'.1
  unfold stretchD farD at h1
  split at h1
  · rename_i k e
    split at e
    · rename_i z
      cases z
      split at e
      · rename_i q
        cases e
        rw [Bool.and_eq_true] at q
        rename_i a' b'
        have qa : (decide (0 ≤ a') && decide (a' ≤ 1000000)) = true := q.1
        have qb : (decide (0 ≤ b') && decide (b' ≤ 1000000)) = true := q.2
        rw [Bool.and_eq_true, decide_eq_true_eq, decide_eq_true_eq] at qa qb
        have h2 := of_decide_eq_true h1
        exact ⟨s, a', b', v, hs, rfl, qa.1, by omega, qb.2, h'.2⟩
      · cases e
    · cases e
  · cases h1
theorem fld_worth (a b v : PyData) : fldD [(.str "first", a), (.str "last", b), (.str "worth", v)] "worth" = some v := by
  show (if ("worth" : Str) = "first" then _ else _) = _
  rw [if_neg ne_wf]
  show (if ("worth" : Str) = "last" then _ else _) = _
  rw [if_neg ne_wl]
  show (if ("worth" : Str) = "worth" then _ else _) = _
  rw [if_pos rfl]
def phUsual : List A → (A → Prop) → Prop := fun as Q => ∃ x, as = [.dat (.str x)] ∧ x ∈ words ∧ Q (.dat (dueD x))
def phWord (C : Addr) (w : Str) : List A → (A → Prop) → Prop := fun as Q => ∃ a b v, as = [.dat (ruleI C a b v)] ∧ Q (.dat (.str w))
def phRTells (C : Addr) : List A → (A → Prop) → Prop := fun as Q => ∃ (a b day : Int) (v : PyData), as = [.dat (ruleI C (.int a) (.int b) v), .dat (.int day)] ∧ Q (.dat (.bool (decide (a ≤ day) && decide (day ≤ b))))
def phTells (C : Addr) (cs : Cs) : List A → (A → Prop) → Prop := fun as Q => ∃ ds x day, as = [.dat (bookD C cs ds), .dat (.str x), .dat (.int day)] ∧ Rules ds ∧ x ∈ words ∧ Q (.dat (tellsD ds x day))
section
variable {P : Program} {w : World} {K : PySem.W.Frag} {mg : Str → Option Value} {base : Heap} {cs : Cs}
theorem scUs : FnScope ["word"] ["word"] (defScope sUsual) := ⟨rfl, rfl, rfl, by decide +kernel, rfl, by decide +kernel, by decide +kernel⟩
theorem cal_usual {f dU : Addr} {fd : FuncData} (F : Fun K "usual" "usual" sUsual f fd) (hm : mg "usual" = some (.ref f)) (hb : Binds K fd ["word"] []) (mU : mg "USUAL" = some (.ref dU)) (DU : DictK K w dU tbU) : Cal P w K mg base "usual" 1 phUsual := by
  refine calA F hm hb scUs (fun as Q h => ?_) (fun cdv A' outer s H E as Q hr h => ?_)
  · obtain ⟨x, rfl, _⟩ := h
    rfl
  · obtain ⟨x, rfl, hx, q⟩ := h
    obtain ⟨v, h1, h2⟩ := tb_due hx
    exact sv_ret (ev_dictK (by rfl) mU DU (ev_var 0 rfl ⟨x, dueD x, v, rfl, h1, h2, q⟩))
theorem calM_word {C f fIn fT fE : Addr} {fd : FuncData} {wd : Str} (R : ClsR K C fIn fT fE f) (hb : Binds K fd ["self"] []) (G : FnOk P w K mg base CX0 1 f fd ["self"] (spWord wd)) : CalM P w K mg base C "word" 1 (phWord C wd) := by
  refine ⟨f, fd, _, R.cl, R.word, hb, G.imp fun vs H Q E h => ?_⟩
  obtain ⟨F, as, Q', rfl, t, o, rv, ⟨a, b, v, rfl, q⟩, kk⟩ := h
  obtain ⟨x, rfl, av⟩ := rv.one
  obtain ⟨p, dx, fs, rfl, h1, h2⟩ := av.ins_inv
  exact ⟨p, rfl, kk _ _ _ q ⟨t, Kz.refl, .str _⟩⟩
theorem calM_rtells {C f fIn fT fWd : Addr} {fd : FuncData} (R : ClsR K C fIn fT f fWd) (hb : Binds K fd ["self", "day"] []) (G : FnOk P w K mg base CX0 1 f fd ["self", "day"] (spTells C)) : CalM P w K mg base C "tells" 1 (phRTells C) := by
  refine ⟨f, fd, _, R.cl, R.tells, hb, G.imp fun vs H Q E h => ?_⟩
  obtain ⟨F, as, Q', rfl, t, o, rv, ⟨a, b, day, v, rfl, q⟩, kk⟩ := h
  obtain ⟨x, y, rfl, av, ay⟩ := rv.two
  cases ay.int_inv
  obtain ⟨p, dx, fs, rfl, h1, h2⟩ := av.ins_inv
  cases h2 with
  | cons g1 h2 =>
    cases h2 with
    | cons g2 h2 =>
      cases h2 with
      | cons g3 h2 =>
        cases h2
        cases g1.int_inv
        cases g2.int_inv
        exact ⟨p, dx, a, b, day, _, rfl, by rw [flds_eq]; exact (sub_some h1).2, kk _ _ _ q ⟨t, Kz.refl, .bl _⟩⟩
theorem scBT : FnScope ["self", "word", "day", "rule"] ["self", "word", "day"] (defScope sBTells) := ⟨rfl, rfl, rfl, by decide +kernel, rfl, by decide +kernel, by decide +kernel⟩
set_option maxHeartbeats 4000000 in
theorem ok_btells {f C : Addr} {fd : FuncData} (F : Fun K "tells_of" "Book.tells_of" sBTells f fd) (c : Cls K C) (na : NoAttr K C "kept") (nb : NbT mg) (CU : Cal P w K mg base "usual" 1 phUsual) (OW : ∀ u ∈ words, CalM P w K mg base (cs.of u) "word" 1 (phWord (cs.of u) u)) (OR : ∀ u ∈ words, CalM P w K mg base (cs.of u) "tells" 1 (phRTells (cs.of u)))
    (OC : ∀ u ∈ words, Cls K (cs.of u) ∧ NoAttr K (cs.of u) "worth") : FnOk P w K mg base CX0 2 f fd ["self", "word", "day"] (spA (phTells C cs)) := by
  refine fnA F scBT (fun as Q h => ?_) (fun cdv A' outer s H E as Q hr h => ?_)
  · obtain ⟨ds, x, d, rfl, _⟩ := h
    rfl
  · obtain ⟨ds, x, day, rfl, rd, hx, q⟩ := h
    refine sv_for (pat := .one 3) PassesOwn.never rfl (pg_name (i := 3) scBT.nd rfl (Or.inl rfl)) (ei_rev (by rfl) nb.reversed (ev_fld c na (ev_var 0 rfl ⟨_, _, rfl, rfl, ⟨_, rfl, ?_⟩⟩)))
    refine loop_inv (fun i α => (∃ v3, α = [some (.dat (bookD C cs ds)), some (.dat (.str x)), some (.dat (.int day)), v3]) ∧ ∀ j < i, ∀ d, ds.reverse[j]? = some d → hitD x day d = false) ⟨⟨none, rfl⟩, fun j hj => absurd hj (Nat.not_lt_zero _)⟩ ?_ ?_
    · rintro i d α hd ⟨⟨v3, rfl⟩, hno⟩
      rw [← List.map_reverse, List.getElem?_map, Option.map_eq_some_iff] at hd
      obtain ⟨e, he, rfl⟩ := hd
      have hme : e ∈ ds := List.mem_reverse.mp (List.mem_of_getElem? he)
      obtain ⟨u, a, b, v, hu, rfl, _, _, _, _⟩ := ruleD_ints (rd e hme).1
      refine ⟨_, rfl, ?_⟩
      refine sv_if (EvW.t (ew_andP (fun _ k => et_eqS (ev_meth0 (OW u hu) hr (ev_var 3 rfl ⟨_, rfl, rfl, _, _, _, rfl, ev_var 1 rfl ⟨_, _, rfl, rfl, k⟩⟩)))
        (fun hp _ k => ew_and1 (et_val (ev_meth (OR u hu) hr (ev_var 3 rfl ⟨_, rfl, rfl, ea_cons (ev_var 2 rfl (ea_nil ⟨_, _, _, _, rfl, _, rfl, k⟩))⟩)))) ?_))
      refine sv_iteB (fun h => ?_) (fun h => ?_)
      · refine sv_ret (ev_fld (OC u hu).1 (OC u hu).2 (ev_var 3 rfl ⟨_, _, rfl, fld_worth _ _ _, ?_⟩))
        have e1 : ds.reverse.find? (hitD x day) = some (.tuple [.str u, .int a, .int b, v]) := find_first hno he h
        unfold tellsD at q
        rw [e1] at q
        exact q
      · refine sv_nil (sv_nil ⟨⟨_, rfl⟩, fun j hj d' hd' => ?_⟩)
        rcases Nat.lt_or_ge j i with z | z
        · exact hno j z d' hd'
        · have : j = i := by omega
          subst this
          rw [he] at hd'; cases hd'
          exact h
    · rintro α ⟨⟨v3, rfl⟩, hno⟩
      refine sv_ret (ev_cal CU (hr.mono (by decide)) (by rfl) (ea_cons (ev_var 1 rfl (ea_nil ⟨x, rfl, hx, ?_⟩))))
      have e1 : ds.reverse.find? (hitD x day) = none := find_no fun j d hd => hno j (by
        have := (List.getElem?_eq_some_iff.mp hd).1
        rw [List.length_reverse, List.length_map]
        rwa [List.length_reverse] at this) d hd
      unfold tellsD at q
      rw [e1] at q
      exact q
end
end K34
set_option Elab.async false
set_option linter.all false
set_option maxRecDepth 100000
namespace K34
open PySem PySem.Spec PyProof.Rows L2
/-! ### the draws of rules, as data -/
structure RuleOk (d : PyData) : Prop where
  rule : ruleD d = true
  nice : Nice 20011 d
  dep : d.depth ≤ 2
  wn : Nice 5000 (worthOf d)
def RulesOk (ds : List PyData) : Prop := ∀ d ∈ ds, RuleOk d
theorem nice_word {s : Str} (h : s ∈ words) : Nice 2000 (.str s) := by
  simp only [words, List.mem_cons, List.not_mem_nil, or_false] at h
  rcases h with rfl | rfl | rfl | rfl | rfl | rfl | rfl <;> exact ⟨rfl, rfl, Nat.zero_le _, by decide +kernel, by decide +kernel⟩
theorem RuleOk.of {s : Str} {i j : Int} {d : PyData} (hs : s ∈ words) (i0 : 0 ≤ i) (ij : i ≤ j) (j1 : j ≤ 1000000) (hw : worthD (.str s) d = true) (hn : Nice 5000 d) (hd : d.depth ≤ 1) : RuleOk (.tuple [.str s, .int i, .int j, d]) := by
  have hbig : (1000001 : Int) < big := by decide
  have hneg : -big < (0 : Int) := by decide
  have na : NiceAll 5000 [.str s, .int i, .int j, d] := by
    constructor
    · intro x hx
      simp only [List.mem_cons, List.not_mem_nil, or_false] at hx
      rcases hx with rfl | rfl | rfl | rfl
      · exact (nice_word hs).mono (by decide)
      · exact (Nice.int (by omega) (by omega)).mono (by decide)
      · exact (Nice.int (by omega) (by omega)).mono (by decide)
      · exact hn
    · intro x hx
      simp only [List.mem_cons, List.not_mem_nil, or_false] at hx
      rcases hx with rfl | rfl | rfl | rfl
      · exact Nat.zero_le _
      · exact Nat.zero_le _
      · exact Nat.zero_le _
      · omega
  refine ⟨?_, Nice.tuple na (by show 4 * (5000 + 2) + 3 ≤ 20011; decide), ?_, hn⟩
  · show (stretchD (.tuple [.int i, .int j]) && worthD (.str s) d) = true
    rw [hw, Bool.and_true]
    unfold stretchD farD
    have h1 : (dayD (.int i) && dayD (.int j)) = true := by
      show ((decide (0 ≤ i) && decide (i ≤ 1000000)) && (decide (0 ≤ j) && decide (j ≤ 1000000))) = true
      simp only [Bool.and_eq_true, decide_eq_true_eq]
      omega
    simp only [h1, if_true, decide_eq_true_eq]
    omega
  · simp only [PyData.depth, PyData.depthAll]
    omega
theorem RulesOk.rules {ds : List PyData} (h : RulesOk ds) : Rules ds := fun d hd => ⟨(h d hd).rule, (h d hd).nice.shaped, (h d hd).nice.nod⟩
section
variable {X : Cx} {α : Ev} {a b : Expr} {pos : Pos}
end
theorem mem_cut {ds : List PyData} {lo hi : Option Int} {d : PyData} (h : d ∈ L2.cutD ds lo hi) : d ∈ ds := by
  unfold L2.cutD at h
  exact List.mem_of_mem_drop (List.mem_of_mem_take h)
end K34
set_option Elab.async false
set_option linter.all false
set_option maxRecDepth 100000
namespace K34
open PySem PySem.Spec PyProof.Rows L2
/-! ### coins and worths drawn, as data -/
def phCoins : List A → (A → Prop) → Prop := fun as Q => as = [.tape] ∧ ∀ z : Int, 0 ≤ z → z ≤ 1000000000000 → Q (.dat (.int z))
def phWorthL : List A → (A → Prop) → Prop := fun as Q => ∃ wd, as = [.tape, .dat (.str wd)] ∧ wd ∈ words ∧ ∀ d, worthD (.str wd) d = true → Nice 5000 d → d.depth ≤ 1 → Q (.dat d)
section
variable {P : Program} {w : World} {K : PySem.W.Frag} {mg : Str → Option Value} {base : Heap}
theorem cal_coins {k : Nat} {f : Addr} {fd : FuncData} {ps : List Str} (hm : mg "_law_coins" = some (.ref f)) (hk : PySem.W.keepIn K (.ref f) = true) (hb : Binds K fd ps []) (G : FnOk P w K mg base CX0 k f fd ps spLCoins) : Cal P w K mg base "_law_coins" k phCoins := by
  refine ⟨f, fd, _, hm, hk, hb, G.imp fun vs H Q E h => ?_⟩
  obtain ⟨F, as, Q', rfl, t, o, rv, ⟨rfl, hq⟩, kk⟩ := h
  cases rv with
  | cons a1 r =>
    cases r
    obtain ⟨ta, b, c, e, rfl⟩ := a1
    refine ⟨ta, b, c, rfl, (t ta b c e).1, fun z H' z0 z1 TA kp => kk _ _ _ (hq z z0 z1) ⟨⟨t.has, fun t' b' c' e' => ?_⟩, fun y u hy n => kp y u (n _ _ _ e).1 (n _ _ _ e).2.1 hy, .int z⟩⟩
    rw [e] at e'; cases e'
    exact ⟨TA, (t ta b c e).2⟩
theorem cal_worth {k : Nat} {f : Addr} {fd : FuncData} {ps : List Str} (hm : mg "_law_worth" = some (.ref f)) (hk : PySem.W.keepIn K (.ref f) = true) (hb : Binds K fd ps []) (G : FnOk P w K mg base CX0 k f fd ps spLWorth) : Cal P w K mg base "_law_worth" k phWorthL := by
  refine ⟨f, fd, _, hm, hk, hb, G.imp fun vs H Q E h => ?_⟩
  obtain ⟨F, as, Q', rfl, t, o, rv, ⟨wd, rfl, hw, hq⟩, kk⟩ := h
  cases rv with
  | cons a1 r =>
    obtain ⟨ta, b, c, e, rfl⟩ := a1
    obtain ⟨v, rfl, av⟩ := r.one
    cases av.str_inv
    refine ⟨ta, b, c, wd, rfl, hw, (t ta b c e).1, fun x d H' hd hwd hn hdp TA kp => kk _ _ _ (hq d hwd hn hdp) ⟨⟨t.has, fun t' b' c' e' => ?_⟩, fun y u hy n => kp y u (n _ _ _ e).1 (n _ _ _ e).2.1 hy, ?_⟩⟩
    · rw [e] at e'; cases e'
      exact ⟨TA, (t ta b c e).2⟩
    · exact AV.same (same_sub fun a u h q => ⟨(fun z => by obtain ⟨u', hu, _⟩ := o a z; rw [h] at hu; cases hu), q⟩) hd.av
end
end K34
set_option Elab.async false
set_option linter.all false
set_option maxRecDepth 100000
namespace K34
open PySem PySem.Spec PyProof.Rows L2
/-! ### the draws of books of prices -/
abbrev sPriceR : Stmt := top 48
abbrev sOtherR : Stmt := top 49
abbrev sRulesF : Stmt := top 50
abbrev sStay : Stmt := top 51
def Bd (bs dy : Int) : Prop := 0 ≤ bs ∧ bs ≤ 999980 ∧ 4 ≤ dy ∧ dy ≤ 14
def phPriceR : List A → (A → Prop) → Prop := fun as Q => ∃ bs dy : Int, as = [.tape, .dat (.int bs), .dat (.int dy)] ∧ Bd bs dy ∧ ∀ ds, RulesOk ds → ds.length ≤ 5 → Q (.own ds)
def phStay : List A → (A → Prop) → Prop := fun as Q => ∃ bs dy : Int, as = [.tape, .dat (.int bs), .dat (.int dy)] ∧ Bd bs dy ∧ ∀ c g : Int, bs ≤ c → c < g → g ≤ bs + dy → Q (.dat (.tuple [.int c, .int g]))
def phRulesF : List A → (A → Prop) → Prop := fun as Q => ∃ bs dy : Int, as = [.tape, .dat (.int bs), .dat (.int dy)] ∧ Bd bs dy ∧ ∀ ds, RulesOk ds → ds.length ≤ 10 → Q (.dat (.list ds))
theorem RulesOk.snoc {ds : List PyData} {d : PyData} (h : RulesOk ds) (hd : RuleOk d) : RulesOk (ds ++ [d]) := fun x hx => by
  rcases List.mem_append.mp hx with hx | hx
  · exact h x hx
  · rw [List.mem_singleton.mp hx]; exact hd
theorem RulesOk.app {ds es : List PyData} (h : RulesOk ds) (h' : RulesOk es) : RulesOk (ds ++ es) := fun x hx => by
  rcases List.mem_append.mp hx with hx | hx
  · exact h x hx
  · exact h' x hx
theorem RulesOk.nil : RulesOk [] := fun x hx => by simp at hx
theorem coins_ok {c : Int} (h0 : 0 ≤ c) (h1 : c ≤ 1000000000000) : coinsD (.int c) = true := within_int h0 h1
theorem price_int {i j c : Int} (i0 : 0 ≤ i) (ij : i ≤ j) (j1 : j ≤ 1000000) (h0 : 0 ≤ c) (h1 : c ≤ 1000000000000) : RuleOk (.tuple [.str "price", .int i, .int j, .int c]) :=
  RuleOk.of (by simp [words]) i0 ij j1 (by rw [worth_price, coins_ok h0 h1, Bool.or_true]) ((nice_int (by omega) (by omega)).mono (by decide)) (Nat.zero_le _)
theorem price_non {i j : Int} (i0 : 0 ≤ i) (ij : i ≤ j) (j1 : j ≤ 1000000) : RuleOk (.tuple [.str "price", .int i, .int j, .none]) :=
  RuleOk.of (by simp [words]) i0 ij j1 (by rw [worth_price]; rfl) (Nice.none.mono (by decide)) (Nat.zero_le _)
section
variable {P : Program} {w : World} {K : PySem.W.Frag} {mg : Str → Option Value} {base : Heap}
theorem scPR : FnScope ["_law_tape_here", "_law_base", "_law_days", "_law_found", "_law_k", "_law_first", "_law_worth_here"] ["_law_tape_here", "_law_base", "_law_days"] (defScope sPriceR) := ⟨rfl, rfl, rfl, by decide +kernel, rfl, by decide +kernel, by decide +kernel⟩
set_option maxHeartbeats 4000000 in
theorem cal_priceR {f : Addr} {fd : FuncData} (F : Fun K "_law_price_rules" "_law_price_rules" sPriceR f fd) (hm : mg "_law_price_rules" = some (.ref f)) (hb : Binds K fd ["_law_tape_here", "_law_base", "_law_days"] []) (nb : NbT mg) (CD : Cal P w K mg base "_law_draw" 1 phDraw) (CC : Cal P w K mg base "_law_coins" 2 phCoins) : Cal P w K mg base "_law_price_rules" 3 phPriceR := by
  refine calA F hm hb scPR (fun as Q h => ?_) (fun cdv A' outer s H E as Q hr h => ?_)
  · obtain ⟨bs, dy, rfl, _⟩ := h
    rfl
  · obtain ⟨bs, dy, rfl, ⟨b1, b2, b3, b4⟩, q⟩ := h
    have hbig : (1000001 : Int) < big := by decide
    refine sv_setL 3 scPR.nd (el_lst (ea_cons (ev_tup (ea_cons (ev_str (ea_cons (ev_var 1 rfl (ea_cons (ev_add (ev_var 1 rfl (ev_var 2 rfl (⟨_, _, rfl, rfl, ea_cons (ev_cal CC hr (by rfl) (ea_tape 0 rfl (ea_nil (⟨rfl, fun c1 p1 q1 => ea_nil (⟨_, rfl, Nat.le_of_ble_eq_true rfl, ea_nil (⟨_, rfl, Nat.le_of_ble_eq_true rfl, ?_⟩)⟩)⟩))))⟩))))))))))))
    refine sv_for (pat := .one 4) PassesOwn.never rfl (pg_name (i := 4) scPR.nd rfl (by first | exact Or.inl rfl | exact Or.inr rfl)) (ei_range1 (by rfl) nb.range (ev_cal CD (hr.mono (by decide)) (by rfl) (ea_tape 0 rfl (ea_cons (ev_int (ea_nil (⟨_, rfl, by decide, by decide, fun v2 h2 g2 => ⟨_, rfl, by omega, by omega, ?_⟩⟩)))))))
    refine loop_inv (fun i α => ∃ v4 v5 v6 ds, α = [some .tape, some (.dat (.int bs)), some (.dat (.int dy)), some (.own ds), v4, v5, v6] ∧ RulesOk ds ∧ ds.length ≤ 1 + i) ⟨none, none, none, _, rfl, RulesOk.nil.snoc (price_int (by omega) (by omega) (by omega) p1 q1), Nat.le_refl _⟩ ?_ ?_
    · rintro i d α hd ⟨v4, v5, v6, ds, rfl, ro, ld⟩
      have hi : i < 4 := by
        have := (List.getElem?_eq_some_iff.mp hd).1
        rw [List.length_map, upInts_length] at this
        omega
      refine ⟨_, rfl, ?_⟩
      refine sv_set 5 scPR.nd (ev_add (ev_var 1 rfl (ev_cal CD (hr.mono (by decide)) (by rfl) (ea_tape 0 rfl (ea_cons (ev_var 2 rfl (ea_nil (⟨_, rfl, by omega, by omega, fun v3 h3 g3 => ⟨_, _, rfl, rfl, ?_⟩⟩))))))))
      refine sv_set 6 scPR.nd (EvD.imp (Q' := fun d => d = .none ∨ ∃ c : Int, d = .int c ∧ 0 ≤ c ∧ c ≤ 1000000000000) (ev_ixL (fun _ _ => rfl) (EvL.d (el_lst (ea_cons (ev_non (ea_cons (ev_cal CC hr (by rfl) (ea_tape 0 rfl (ea_nil (⟨rfl, fun c7 p7 q7 => ea_cons (ev_cal CC hr (by rfl) (ea_tape 0 rfl (ea_nil (⟨rfl, fun c6 p6 q6 => ea_cons (ev_cal CC hr (by rfl) (ea_tape 0 rfl (ea_nil (⟨rfl, fun c5 p5 q5 => ea_nil (⟨_, rfl, Nat.le_of_ble_eq_true rfl, ev_cal CD (hr.mono (by decide)) (by rfl) (ea_tape 0 rfl (ea_cons (ev_int (ea_nil (⟨_, rfl, by decide, by decide, fun v4 h4 g4 => ?pick⟩)))))⟩)⟩))))⟩))))⟩)))))))))) ?_)
      case pick =>
        obtain ⟨z, hz, e⟩ := pickD (ds := [PyData.none, .int c7, .int c6, .int c5]) h4 g4
        refine ⟨_, _, z, rfl, rfl, e, ?_⟩
        simp only [List.mem_cons, List.not_mem_nil, or_false] at hz
        rcases hz with rfl | rfl | rfl | rfl
        · exact .inl rfl
        · exact .inr ⟨_, rfl, p7, q7⟩
        · exact .inr ⟨_, rfl, p6, q6⟩
        · exact .inr ⟨_, rfl, p5, q5⟩
      intro d6 hd6
      refine sv_append 3 rfl (ev_tup (ea_cons (ev_str (ea_cons (ev_var 5 rfl (ea_cons (ev_add (ev_var 5 rfl (ev_cal CD (hr.mono (by decide)) (by rfl) (ea_tape 0 rfl (ea_cons (ev_int (ea_nil (⟨_, rfl, by decide, by decide, fun v8 h8 g8 => ⟨_, _, rfl, rfl, ea_cons (ev_var 6 rfl (ea_nil (⟨_, rfl, Nat.le_of_ble_eq_true rfl, ⟨by omega, ?_⟩⟩)))⟩⟩))))))))))))))
      refine sv_nil ⟨some (.dat d), some (.dat (.int (bs + v3))), some (.dat d6), ds ++ [.tuple [.str "price", .int (bs + v3), .int (bs + v3 + v8), d6]], rfl, ro.snoc ?_, by rw [List.length_append, List.length_singleton]; omega⟩
      rcases hd6 with rfl | ⟨c, rfl, c0, c1⟩
      · exact price_non (by omega) (by omega) (by omega)
      · exact price_int (by omega) (by omega) (by omega) c0 c1
    · rintro α ⟨v4, v5, v6, ds, rfl, ro, ld⟩
      rw [List.length_map, upInts_length] at ld
      exact sv_retO 3 rfl (q ds ro (by omega))
theorem scOR : FnScope ["_law_tape_here", "_law_base", "_law_days", "_law_found", "_law_k", "_law_word", "_law_first"] ["_law_tape_here", "_law_base", "_law_days"] (defScope sOtherR) := ⟨rfl, rfl, rfl, by decide +kernel, rfl, by decide +kernel, by decide +kernel⟩
set_option maxHeartbeats 4000000 in
theorem cal_otherR {f : Addr} {fd : FuncData} (F : Fun K "_law_other_rules" "_law_other_rules" sOtherR f fd) (hm : mg "_law_other_rules" = some (.ref f)) (hb : Binds K fd ["_law_tape_here", "_law_base", "_law_days"] []) (nb : NbT mg) (CD : Cal P w K mg base "_law_draw" 1 phDraw) (CW : Cal P w K mg base "_law_worth" 3 phWorthL) : Cal P w K mg base "_law_other_rules" 4 phPriceR := by
  refine calA F hm hb scOR (fun as Q h => ?_) (fun cdv A' outer s H E as Q hr h => ?_)
  · obtain ⟨bs, dy, rfl, _⟩ := h
    rfl
  · obtain ⟨bs, dy, rfl, ⟨b1, b2, b3, b4⟩, q⟩ := h
    have hbig : (1000001 : Int) < big := by decide
    refine sv_setL 3 scOR.nd (el_lst (ea_nil (⟨_, rfl, Nat.le_of_ble_eq_true rfl, ?_⟩)))
    refine sv_for (pat := .one 4) PassesOwn.never rfl (pg_name (i := 4) scOR.nd rfl (by first | exact Or.inl rfl | exact Or.inr rfl)) (ei_range1 (by rfl) nb.range (ev_cal CD (hr.mono (by decide)) (by rfl) (ea_tape 0 rfl (ea_cons (ev_int (ea_nil (⟨_, rfl, by decide, by decide, fun v1 h1 g1 => ⟨_, rfl, by omega, by omega, ?_⟩⟩)))))))
    refine loop_inv (fun i α => ∃ v4 v5 v6 ds, α = [some .tape, some (.dat (.int bs)), some (.dat (.int dy)), some (.own ds), v4, v5, v6] ∧ RulesOk ds ∧ ds.length ≤ i) ⟨none, none, none, _, rfl, RulesOk.nil, Nat.le_refl _⟩ ?_ ?_
    · rintro i d α hd ⟨v4, v5, v6, ds, rfl, ro, ld⟩
      have hi : i < 5 := by
        have := (List.getElem?_eq_some_iff.mp hd).1
        rw [List.length_map, upInts_length] at this
        omega
      refine ⟨_, rfl, ?_⟩
      refine sv_set 5 scOR.nd (EvD.imp (Q' := fun d => ∃ x, d = .str x ∧ x ∈ words) (ev_ixL (fun _ _ => rfl) (EvL.d (el_lst (ea_cons (ev_str (ea_cons (ev_str (ea_cons (ev_str (ea_cons (ev_str (ea_cons (ev_str (ea_cons (ev_str (ea_nil (⟨_, rfl, Nat.le_of_ble_eq_true rfl, ev_cal CD (hr.mono (by decide)) (by rfl) (ea_tape 0 rfl (ea_cons (ev_int (ea_nil (⟨_, rfl, by decide, by decide, fun v2 h2 g2 => ?pick⟩)))))⟩))))))))))))))))) ?_)
      case pick =>
        obtain ⟨z, hz, e⟩ := pickD (ds := [PyData.str "come", .str "go", .str "least", .str "most", .str "deal", .str "fee"]) h2 g2
        refine ⟨_, _, z, rfl, rfl, e, ?_⟩
        simp only [List.mem_cons, List.not_mem_nil, or_false] at hz
        rcases hz with rfl | rfl | rfl | rfl | rfl | rfl <;> exact ⟨_, rfl, by simp [words]⟩
      rintro _ ⟨wd, rfl, hw⟩
      refine sv_set 6 scOR.nd (ev_add (ev_var 1 rfl (ev_cal CD (hr.mono (by decide)) (by rfl) (ea_tape 0 rfl (ea_cons (ev_var 2 rfl (ea_nil (⟨_, rfl, by omega, by omega, fun v3 h3 g3 => ⟨_, _, rfl, rfl, ?_⟩⟩))))))))
      refine sv_append 3 rfl (ev_tup (ea_cons (ev_var 5 rfl (ea_cons (ev_var 6 rfl (ea_cons (ev_add (ev_var 6 rfl (ev_cal CD (hr.mono (by decide)) (by rfl) (ea_tape 0 rfl (ea_cons (ev_int (ea_nil (⟨_, rfl, by decide, by decide, fun v5 h5 g5 => ⟨_, _, rfl, rfl, ea_cons (ev_cal CW hr (by rfl) (ea_tape 0 rfl (ea_cons (ev_var 5 rfl (ea_nil (⟨_, rfl, hw, fun d4 a4 b4 c4 => ea_nil (⟨_, rfl, Nat.le_of_ble_eq_true rfl, ⟨by omega, ?_⟩⟩)⟩))))))⟩⟩))))))))))))))
      exact sv_nil ⟨some (.dat d), some (.dat (.str wd)), some (.dat (.int (bs + v3))), ds ++ [.tuple [.str wd, .int (bs + v3), .int (bs + v3 + v5), d4]], rfl, ro.snoc (RuleOk.of hw (by omega) (by omega) (by omega) a4 b4 c4), by rw [List.length_append, List.length_singleton]; omega⟩
    · rintro α ⟨v4, v5, v6, ds, rfl, ro, ld⟩
      rw [List.length_map, upInts_length] at ld
      exact sv_retO 3 rfl (q ds ro (by omega))
theorem scRF : FnScope ["_law_tape_here", "_law_base", "_law_days", "_law_ones", "_law_others"] ["_law_tape_here", "_law_base", "_law_days"] (defScope sRulesF) := ⟨rfl, rfl, rfl, by decide +kernel, rfl, by decide +kernel, by decide +kernel⟩
set_option maxHeartbeats 4000000 in
theorem cal_rulesF {f : Addr} {fd : FuncData} (F : Fun K "_law_rules" "_law_rules" sRulesF f fd) (hm : mg "_law_rules" = some (.ref f)) (hb : Binds K fd ["_law_tape_here", "_law_base", "_law_days"] []) (CD : Cal P w K mg base "_law_draw" 1 phDraw) (CP : Cal P w K mg base "_law_price_rules" 3 phPriceR) (CO : Cal P w K mg base "_law_other_rules" 4 phPriceR) : Cal P w K mg base "_law_rules" 5 phRulesF := by
  refine calA F hm hb scRF (fun as Q h => ?_) (fun cdv A' outer s H E as Q hr h => ?_)
  · obtain ⟨bs, dy, rfl, _⟩ := h
    rfl
  · obtain ⟨bs, dy, rfl, bd, q⟩ := h
    refine sv_set 3 scRF.nd (EvL.d (el_cal CP (hr.mono (by decide)) (by rfl) (ea_tape 0 rfl (ea_cons (ev_var 1 rfl (ea_cons (ev_var 2 rfl (ea_nil (⟨_, _, rfl, bd, fun ds1 r1 l1 => ⟨_, rfl, ?_⟩⟩)))))))))
    refine sv_set 4 scRF.nd (EvL.d (el_cal CO hr (by rfl) (ea_tape 0 rfl (ea_cons (ev_var 1 rfl (ea_cons (ev_var 2 rfl (ea_nil (⟨_, _, rfl, bd, fun ds2 r2 l2 => ⟨_, rfl, ?_⟩⟩)))))))))
    refine sv_ret (ev_ixL (fun _ _ => rfl) (EvL.d (el_lst (ea_cons (EvL.d (el_cat (ev_var 3 rfl (ev_var 4 rfl (⟨_, _, rfl, rfl, by omega, ea_cons (EvL.d (el_cat (ev_var 4 rfl (ev_var 3 rfl (⟨_, _, rfl, rfl, by omega, ea_nil (⟨_, rfl, Nat.le_of_ble_eq_true rfl, ev_cal CD (hr.mono (by decide)) (by rfl) (ea_tape 0 rfl (ea_cons (ev_int (ea_nil (⟨_, rfl, by decide, by decide, fun v3 h3 g3 => ?_⟩)))))⟩)⟩)))))⟩)))))))))
    obtain ⟨z, hz, e⟩ := pickD (ds := [PyData.list (ds1 ++ ds2), .list (ds2 ++ ds1)]) h3 g3
    refine ⟨_, _, z, rfl, rfl, e, ?_⟩
    simp only [List.mem_cons, List.not_mem_nil, or_false] at hz
    rcases hz with rfl | rfl
    · exact q _ (r1.app r2) (by rw [List.length_append]; omega)
    · exact q _ (r2.app r1) (by rw [List.length_append]; omega)
theorem scSt : FnScope ["_law_tape_here", "_law_base", "_law_days", "_law_many", "_law_come"] ["_law_tape_here", "_law_base", "_law_days"] (defScope sStay) := ⟨rfl, rfl, rfl, by decide +kernel, rfl, by decide +kernel, by decide +kernel⟩
theorem cal_stay {f : Addr} {fd : FuncData} (F : Fun K "_law_stay" "_law_stay" sStay f fd) (hm : mg "_law_stay" = some (.ref f)) (hb : Binds K fd ["_law_tape_here", "_law_base", "_law_days"] []) (CD : Cal P w K mg base "_law_draw" 1 phDraw) : Cal P w K mg base "_law_stay" 2 phStay := by
  refine calA F hm hb scSt (fun as Q h => ?_) (fun cdv A' outer s H E as Q hr h => ?_)
  · obtain ⟨bs, dy, rfl, _⟩ := h
    rfl
  · obtain ⟨bs, dy, rfl, ⟨b1, b2, b3, b4⟩, q⟩ := h
    have hbig : (1000001 : Int) < big := by decide
    refine sv_set 3 scSt.nd (ev_add (ev_int (ev_cal CD hr (by rfl) (ea_tape 0 rfl (ea_cons (ev_var 2 rfl (ea_nil (⟨_, rfl, by omega, by omega, fun v1 h1 g1 => ⟨_, _, rfl, rfl, ?_⟩⟩))))))))
    refine sv_set 4 scSt.nd (ev_add (ev_var 1 rfl (ev_cal CD hr (by rfl) (ea_tape 0 rfl (ea_cons (ev_add (ev_sub (ev_var 2 rfl (ev_var 3 rfl (⟨_, _, rfl, rfl, ev_int (⟨_, _, rfl, rfl, ea_nil (⟨_, rfl, by omega, by omega, fun v2 h2 g2 => ⟨_, _, rfl, rfl, ?_⟩⟩)⟩)⟩))))))))))
    refine sv_ret (ev_tup (ea_cons (ev_var 4 rfl (ea_cons (ev_add (ev_var 4 rfl (ev_var 3 rfl (⟨_, _, rfl, rfl, ea_nil (⟨_, rfl, Nat.le_of_ble_eq_true rfl, ?_⟩)⟩))))))))
    exact q _ _ (by omega) (by omega) (by omega)
end
end K34
set_option Elab.async false
set_option linter.all false
set_option maxRecDepth 100000
namespace K34
open PySem PySem.Spec PyProof.Rows L2
/-! ### nights_of, what is told of a word, bars -/
abbrev sNights : Stmt := top 9
def phNights : List A → (A → Prop) → Prop := fun as Q => ∃ c g : Int, as = [.dat (.tuple [.int c, .int g])] ∧ -100 ≤ c ∧ c < g ∧ g ≤ c + 500 ∧ c ≤ 1000100 ∧ Q (.own ((upInts c (g - c).toNat).map .int))
section
variable {P : Program} {w : World} {K : PySem.W.Frag} {mg : Str → Option Value} {base : Heap} {cs : Cs}
theorem scNi : FnScope ["stay"] ["stay"] (defScope sNights) := ⟨rfl, rfl, rfl, by decide +kernel, rfl, by decide +kernel, by decide +kernel⟩
theorem cal_nights {f : Addr} {fd : FuncData} (F : Fun K "nights_of" "nights_of" sNights f fd) (hm : mg "nights_of" = some (.ref f)) (hb : Binds K fd ["stay"] []) (nb : NbT mg) : Cal P w K mg base "nights_of" 1 phNights := by
  refine calA F hm hb scNi (fun as Q h => ?_) (fun cdv A' outer s H E as Q hr h => ?_)
  · obtain ⟨c, g, rfl, _⟩ := h
    rfl
  · obtain ⟨c, g, rfl, h1, h2, h3, h4, q⟩ := h
    exact sv_retL (el_listR rfl (by rfl) nb.list (by rfl) nb.range (ev_ixT (fun _ _ => rfl) (ev_var 0 rfl (ev_int (⟨_, _, _, rfl, rfl, rfl, ev_ixT (fun _ _ => rfl) (ev_var 0 rfl (ev_int (⟨_, _, _, rfl, rfl, rfl, ⟨_, _, rfl, rfl, ⟨by omega, by omega, by omega, by omega⟩, by omega, q⟩⟩)))⟩)))))
end
end K34
set_option Elab.async false
set_option linter.all false
set_option maxRecDepth 100000
namespace K34
open PySem PySem.Spec PyProof.Rows L2
abbrev sCheap : Stmt := top 16
def lamOf : Arguments × Scope := match defBody sCheap with
  | [.Return (some (.Call _ _ [⟨_, .Lambda ps _ sc _, _⟩] _)) _] => (ps, sc)
  | _ => (defArgs sCheap, defScope sCheap)
section
variable {P : Program} {w : World} {K : PySem.W.Frag} {mg : Str → Option Value} {base : Heap}
theorem scCheap : FnScope ["prices", "places"] ["prices", "places"] (defScope sCheap) := ⟨rfl, rfl, rfl, by decide +kernel, rfl, by decide +kernel, by decide +kernel⟩
theorem scLam : LamScope "place" "prices" lamOf.1 lamOf.2 := ⟨rfl, rfl, rfl, rfl, rfl, by decide +kernel, by decide +kernel, by decide⟩
theorem lamTop {f c : Addr} {A' : Around} {outer : List Env} {s : Shared} {H : Hp} {E : XK} {n1 : Nat} {p1 p2 p3 p4 p5 p6 : Pos} (hhd : PySem.W.codeHdIn K c tabP = true) (KX : K.In base) (hbi : base.BuiltinsAt mg tabP) :
    LamTop (cxOf CX0 P w K mg base ["prices", "places"] "cheapest_first" (defScope sCheap) f (.ref c) A' outer s H E).nox c "place" "prices" n1 p1 p2 p3 p4 p5 p6 lamOf.1 lamOf.2 where
  S := scLam
  hy := rfl
  hcl := fun cl h => by
    have e : lamOf.2.names = [(("prices" : Str), NameKind.free), (("place" : Str), NameKind.local)] ∨ lamOf.2.names = [(("place" : Str), NameKind.local), (("prices" : Str), NameKind.free)] := by decide +kernel
    unfold closureFor
    rcases e with e | e <;> rw [e] <;> simp [cellOf, h]
  hgl := rfl
  hco := rfl
  hhd := PySem.W.codeHd_of_K KX hhd
  hbi := hbi
  hdf := rfl
  hq := rfl
  hne := by decide
  hb := fun u cl c' pm ctv => rfl
  hdx := by decide
  hdy := by decide
  hcx := by decide
  hcy := by decide
def phCheap : List A → (A → Prop) → Prop := fun as Q => ∃ ns zs : List Int, as = [.dat (.list (zs.map .int)), .dat (.list (ns.map .int))] ∧ ns.length < 64 ∧ (∀ n ∈ ns, 0 ≤ n ∧ n < zs.length) ∧ ∀ ms, SrtI ns zs ms → Q (.own (ms.map .int))
theorem cal_cheap {f c : Addr} {oc : Value} {od an : Option Addr} {osl : Array (Option Value)} {kV doc pm ct : Value} (lk : K.lookup f = some ⟨oc, od, .func (PySem.W.fnOf "cheapest_first" "cheapest_first" (defArgs sCheap) (defBody sCheap) (defScope sCheap) .none kV doc pm an (.ref c) ct), osl⟩) (hcd : PySem.W.codeIn K (.ref c) "cheapest_first" = true) (kp : PySem.W.keepIn K (.ref f) = true)
    (hm : mg "cheapest_first" = some (.ref f)) (hb : Binds K (PySem.W.fnOf "cheapest_first" "cheapest_first" (defArgs sCheap) (defBody sCheap) (defScope sCheap) .none kV doc pm an (.ref c) ct) ["prices", "places"] []) (nb : NbT mg) (hhd : PySem.W.codeHdIn K c tabP = true) (KX : K.In base) (hbi : base.BuiltinsAt mg tabP) : Cal P w K mg base "cheapest_first" 3 phCheap := by
  refine ⟨f, _, _, hm, kp, hb, fnAc lk hcd scCheap (fun as Q h => by obtain ⟨ns, zs, rfl, _⟩ := h; rfl) fun A' outer s H E as Q hr h => ?_⟩
  obtain ⟨ns, zs, rfl, h64, hin, q⟩ := h
  exact sv_retL (el_sortedK (j := 0) (k := 0) (lamTop hhd KX hbi) hr (by rfl) nb.sorted rfl (ev_var 1 rfl ⟨ns, zs, rfl, rfl, h64, hin, fun ms sm => q ms sm⟩))
end
end K34
set_option Elab.async false
set_option linter.all false
set_option maxRecDepth 100000
namespace K34
open PySem PySem.Spec PyProof.Rows L2
abbrev sMarked : Stmt := top 17
def scMkC : Scope := match defBody sMarked with
  | .Assign _ (.ListComp _ _ sc _) _ :: _ => sc
  | _ => defScope sMarked
def phMarked : List A → (A → Prop) → Prop := fun as Q => ∃ (zs : List Int) (d : PyData), as = [.dat (.list (zs.map .int)), .dat d] ∧ zs.length ≤ 500 ∧
  ((d = .none ∧ Q (.own ((List.replicate zs.length false).map .bool))) ∨ ∃ many free : Nat, d = .tuple [.int many, .int free] ∧ 0 < many ∧ many < 64 ∧ ∀ bs, MkAt zs many free zs.length bs → Q (.own (bs.map .bool)))
theorem noLs_ints (ns : List Int) : noLs (ns.map .int) = true := by
  induction ns with
  | nil => rfl
  | cons n ns ih => rw [List.map_cons, noLs, ih]; rfl
section
variable {P : Program} {w : World} {K : PySem.W.Frag} {mg : Str → Option Value} {base : Heap}
theorem scMk : FnScope ["prices", "deal", "marks", "bundle", "place", "rank", "other"] ["prices", "deal"] (defScope sMarked) := ⟨rfl, rfl, rfl, by decide +kernel, rfl, by decide +kernel, by decide +kernel⟩
theorem csMk : CompScope ["prices", "deal", "marks", "bundle", "place", "rank", "other"] (defScope sMarked) ["price"] [none] scMkC := ⟨rfl, by decide +kernel, by decide +kernel, by decide +kernel, by decide +kernel, rfl, by decide +kernel⟩
set_option maxHeartbeats 4000000 in
theorem cal_marked {f : Addr} {fd : FuncData} (F : Fun K "marked" "marked" sMarked f fd) (hm : mg "marked" = some (.ref f)) (hb : Binds K fd ["prices", "deal"] []) (nb : NbT mg) (CC : Cal P w K mg base "cheapest_first" 3 phCheap) : Cal P w K mg base "marked" 4 phMarked := by
  refine calA F hm hb scMk (fun as Q h => ?_) (fun cdv A' outer s H E as Q hr h => ?_)
  · obtain ⟨zs, d, rfl, _⟩ := h
    rfl
  · obtain ⟨zs, d, rfl, hlen, h⟩ := h
    refine sv_lc 2 (pat := .one 0) scMk.nd rfl csMk rfl (fun _ _ _ _ => pg_name (i := 0) csMk.nd rfl (Or.inl rfl)) (ei_list (ev_var 0 rfl ⟨_, rfl, ?_, ?comp⟩))
    · rw [List.length_map]; omega
    refine compW_pure (fun _ => true) (fun _ => .bool false) (fun d hd => ⟨_, rfl, fun _ _ _ _ _ k => es_nil k, fun _ _ _ _ _ _ k => ev_bl k⟩) ?_
    have e0 : ([] : List PyData) ++ List.map (fun _ => PyData.bool false) (List.filter (fun _ => true) (List.map PyData.int zs)) = (List.replicate zs.length false).map .bool := by
      rw [List.nil_append, filt_all, List.map_map, List.map_replicate]
      exact List.eq_replicate_iff.mpr ⟨by simp, by simp⟩
    rw [e0]
    rcases h with ⟨rfl, q⟩ | ⟨many, free, rfl, hp, hm64, q⟩
    · refine sv_if (et_isN (ev_var 1 rfl ?_))
      exact sv_retO 2 rfl q
    refine sv_if (et_isN (ev_var 1 rfl (sv_nil ?_)))
    refine sv_setL 3 scMk.nd (el_lst (ea_nil ⟨_, rfl, Nat.zero_le _, ?_⟩))
    refine sv_for (pat := .one 4) PassesOwn.never rfl (pg_name (i := 4) scMk.nd rfl (Or.inl rfl)) (ei_range1 (by rfl) nb.range (ev_len (by rfl) nb.len (ev_var 0 rfl ⟨_, rfl, ⟨_, rfl, by omega, by rw [List.length_map]; omega, ?_⟩⟩)))
    refine loop_inv (fun i α => ∃ (bs : List Bool) (o4 o5 o6 : Option A), MkAt zs many free i bs ∧ α = [some (.dat (.list (zs.map .int))), some (.dat (.tuple [.int many, .int free])), some (.own (bs.map .bool)), some (.own ((upInts ((i / many * many : Nat) : Int) (i % many)).map .int)), o4, o5, o6]) ?_ ?_ ?_
    · refine ⟨_, none, none, none, mkAt_zero zs free, ?_⟩
      rw [Nat.zero_mod, Nat.zero_div]
      rfl
    · rintro i d α hd ⟨bs, o4, o5, o6, mk, rfl⟩
      have hi : i < zs.length := by
        have := (List.getElem?_eq_some_iff.mp hd).1
        simpa [upInts_length] using this
      obtain rfl : d = .int (i : Int) := by
        rw [List.getElem?_map, upInts_get (by simpa using hi)] at hd
        simpa using hd.symm
      refine ⟨_, rfl, ?_⟩
      have hmod := Nat.mod_lt i hp
      refine sv_append 3 rfl (ev_var 4 rfl ⟨by rw [List.length_map, upInts_length]; omega, ?_⟩)
      have eb : List.map PyData.int (upInts ((i / many * many : Nat) : Int) (i % many)) ++ [PyData.int (i : Int)] = (upInts ((i / many * many : Nat) : Int) (i % many + 1)).map .int := by
        have e := Nat.div_add_mod i many
        have e4 : i / many * many = many * (i / many) := Nat.mul_comm _ _
        rw [upI_snoc, List.map_append]
        congr 1
        simp only [List.map_cons, List.map_nil]
        congr 2
        omega
      rw [eb]
      refine sv_if (et_lend 3 rfl (et_eqI (ev_len (by rfl) nb.len (ev_var 3 rfl ⟨_, rfl, ev_ixT (fun _ _ => rfl) (ev_var 1 rfl (ev_int ⟨_, _, _, rfl, rfl, at0, _, _, rfl, rfl, ?_⟩))⟩))))
      refine sv_ite (fun hc => ?_) (fun hc => sv_nil ?_)
      · have hfull : i % many + 1 = many := by
          rw [List.length_map, upInts_length] at hc
          omega
        rw [hfull]
        have hin : ∀ n ∈ upInts ((i / many * many : Nat) : Int) many, 0 ≤ n ∧ n < zs.length := fun n hn => by
          rw [upI_mem] at hn
          have e := Nat.div_add_mod i many
          have e4 : i / many * many = many * (i / many) := Nat.mul_comm _ _
          omega
        refine sv_for (pat := .many [5, 6]) PassesOwn.never rfl (pg_tupK' (n := 2) (K := K) rfl rfl (pgs_cons (pg_name (i := 5) scMk.nd rfl (Or.inl rfl)) (pgs_cons (pg_name (i := 6) scMk.nd rfl (Or.inl rfl)) (pgs_nil))))
          (ei_enum (by rfl) nb.enumerate (EvL.d (el_lend 3 rfl (el_cal CC hr (by rfl) (ea_cons (ev_var 0 rfl (ea_cons (ev_var 3 rfl (ea_nil ⟨_, zs, rfl, by rw [upInts_length]; exact hm64, hin, fun ms sm => ⟨_, rfl, noLs_ints ms, _, rfl, ?_⟩⟩)))))))))
        have hml : ms.length = many := by rw [sm.1.length_eq, upInts_length]
        refine loop_inv (fun r α => ∃ (bs' : List Bool) (p5 p6 : Option A), (bs'.length = bs.length ∧ (∀ q, q < r → bs'.getD (ms.getD q 0).toNat false = decide (q < free)) ∧ ∀ j, (∀ q, q < r → (ms.getD q 0).toNat ≠ j) → bs'.getD j false = bs.getD j false) ∧
          α = [some (.dat (.list (zs.map .int))), some (.dat (.tuple [.int many, .int free])), some (.own (bs'.map .bool)), some (.own ((upInts ((i / many * many : Nat) : Int) many).map .int)), some (.dat (.int i)), p5, p6]) ?_ ?_ ?_
        · exact ⟨bs, o5, o6, ⟨rfl, fun q h => absurd h (Nat.not_lt_zero _), fun _ _ => rfl⟩, rfl⟩
        · rintro r d α hd ⟨bs', p5, p6, ⟨f0, f1, f2⟩, rfl⟩
          obtain ⟨e, he, rfl⟩ := enumD_get hd
          have hr' : r < ms.length := by
            have := (List.getElem?_eq_some_iff.mp he).1
            simpa using this
          obtain rfl : e = .int (ms.getD r 0) := by
            rw [List.getElem?_map, List.getElem?_eq_getElem hr'] at he
            rw [List.getD_eq_getElem?_getD, List.getElem?_eq_getElem hr']
            simpa using he.symm
          refine ⟨_, rfl, ?_⟩
          have hmem := srt_mem sm (q := r) (by omega)
          have hub := hin (ms.getD r 0) (upI_mem.mpr hmem)
          obtain ⟨j, hj⟩ := Int.eq_ofNat_of_zero_le hub.1
          rw [hj]
          have jl : j < bs'.length := by rw [f0, mk.1]; omega
          refine sv_put 2 rfl (ev_lt (ev_var 5 rfl (ev_ixT (fun _ _ => rfl) (ev_var 1 rfl (ev_int ⟨_, _, _, rfl, rfl, atI_nat (j := 1) rfl, _, _, rfl, rfl, ev_var 6 rfl ⟨_, j, rfl, ?_, sv_nil ?_⟩⟩))))) 
          · unfold ixN
            rw [if_pos (by omega), if_pos (by rw [List.length_map]; omega)]
            simp
          · refine ⟨bs'.set j (decide (r < free)), some (.dat (.int ((0 + r : Nat) : Int))), some (.dat (.int (j : Int))), ⟨?_, fun q hq => ?_, fun l hl => ?_⟩, ?_⟩
            · rw [List.length_set, f0]
            · by_cases hqr : q = r
              · subst hqr
                rw [hj, Int.toNat_natCast, List.getD_eq_getElem?_getD, List.getElem?_set_self jl]
                rfl
              · have hne : (ms.getD q 0).toNat ≠ j := fun z => by
                  have nd : ms.Nodup := sm.1.nodup_iff.mpr (upI_nodup _ _)
                  have a1 := (srt_mem sm (q := q) (by omega)).1
                  have z2 : ms.getD q 0 = ms.getD r 0 := by rw [hj]; omega
                  rw [List.getD_eq_getElem?_getD, List.getD_eq_getElem?_getD, List.getElem?_eq_getElem (by omega), List.getElem?_eq_getElem hr'] at z2
                  exact (List.pairwise_iff_getElem.mp nd q r (by omega) hr' (by omega)) z2
                rw [List.getD_eq_getElem?_getD, List.getElem?_set_ne hne.symm, ← List.getD_eq_getElem?_getD, f1 q (by omega)]
            · have hne : j ≠ l := fun z => hl r (Nat.lt_succ_self _) (by rw [hj]; omega)
              rw [List.getD_eq_getElem?_getD, List.getElem?_set_ne hne, ← List.getD_eq_getElem?_getD, f2 l fun q hq => hl q (by omega)]
            · have ed : decide (((0 + r : Nat) : Int) < (free : Int)) = decide (r < free) := by
                rw [decide_eq_decide]; omega
              rw [ed, List.map_set]
              rfl
        · rintro α ⟨bs', p5, p6, ⟨f0, f1, f2⟩, rfl⟩
          refine sv_setL 3 scMk.nd (el_lst (ea_nil ⟨_, rfl, Nat.zero_le _, sv_nil ?_⟩))
          rw [enumD_len, List.length_map, hml] at f1 f2
          refine sv_nil ?_
          refine ⟨bs', some (.dat (.int i)), p5, p6, mkAt_full hp hfull mk sm f0 f1 f2, ?_⟩
          rw [(div_full hp hfull).2.1]
          rfl
      · have hmore : i % many + 1 < many := by
          rw [List.length_map, upInts_length] at hc
          omega
        refine sv_nil ?_
        refine ⟨bs, some (.dat (.int i)), o5, o6, mkAt_more hp hmore mk, ?_⟩
        rw [(div_more hp hmore).1, (div_more hp hmore).2]
        rfl
    · rintro α ⟨bs, o4, o5, o6, mk, rfl⟩
      have el : (List.map PyData.int (upInts 0 ((List.map PyData.int zs).length : Int).toNat)).length = zs.length := by simp [upInts_length]
      rw [el] at mk
      exact sv_retO 2 rfl (q bs mk)
end
end K34
set_option Elab.async false
set_option linter.all false
set_option maxRecDepth 100000
namespace K34
open PySem PySem.Spec PyProof.Rows L2
abbrev sNP : Stmt := top 18
abbrev sBill : Stmt := top 19
def scBillC : Scope := match (defBody sBill).getD 5 (.Pass ⟨0, 0, 0, 0⟩) with
  | .Assign _ (.Call _ [.ListComp _ _ sc _] _ _) _ => sc
  | _ => defScope sBill
def phNP (C : Addr) (cs : Cs) : List A → (A → Prop) → Prop := fun as Q => ∃ (ds : List PyData) (ns : List Int) (pr : Int → Int), as = [.dat (bookD C cs ds), .dat (.list (ns.map .int))] ∧ Rules ds ∧ ns.length ≤ 900 ∧ (∀ z ∈ ns, tellsD ds "price" z = .int (pr z)) ∧ Q (.own ((ns.map pr).map .int))
def phBill (C : Addr) (cs : Cs) : List A → (A → Prop) → Prop := fun as Q => ∃ (ds : List PyData) (c g fee : Int) (pr : Int → Int), as = [.dat (bookD C cs ds), .dat (.tuple [.int c, .int g])] ∧ Rules ds ∧ 0 ≤ c ∧ c < g ∧ g ≤ c + 400 ∧ c ≤ 1000000 ∧ (∀ z, c ≤ z → z < g → tellsD ds "price" z = .int (pr z) ∧ 0 ≤ pr z ∧ pr z ≤ 1000000000000) ∧
  (tellsD ds "deal" c = .none ∨ ∃ many free : Nat, tellsD ds "deal" c = .tuple [.int many, .int free] ∧ 0 < many ∧ many < 64) ∧ tellsD ds "fee" c = .int fee ∧
  ∀ bs, MkFor (tellsD ds "deal" c) ((upInts c (g - c).toNat).map pr) bs → Q (.dat (.tuple [.int ((paids ((upInts c (g - c).toNat).map pr) bs).sum + fee), .list (zip3D ((upInts c (g - c).toNat).map .int) (((upInts c (g - c).toNat).map pr).map .int) (bs.map .bool)), .int fee]))
section
variable {P : Program} {w : World} {K : PySem.W.Frag} {mg : Str → Option Value} {base : Heap} {cs : Cs}
theorem scNP : FnScope ["book", "nights", "prices", "night", "price"] ["book", "nights"] (defScope sNP) := ⟨rfl, rfl, rfl, by decide +kernel, rfl, by decide +kernel, by decide +kernel⟩
set_option maxHeartbeats 4000000 in
theorem cal_np {f C : Addr} {fd : FuncData} (F : Fun K "night_prices" "night_prices" sNP f fd) (hm : mg "night_prices" = some (.ref f)) (hb : Binds K fd ["book", "nights"] []) (MT : CalM P w K mg base C "tells_of" 2 (phTells C cs)) : Cal P w K mg base "night_prices" 3 (phNP C cs) := by
  refine calA F hm hb scNP (fun as Q h => ?_) (fun cdv A' outer s H E as Q hr h => ?_)
  · obtain ⟨ds, ns, pr, rfl, _⟩ := h
    rfl
  · obtain ⟨ds, ns, pr, rfl, rd, hl, hp, q⟩ := h
    refine sv_setL 2 scNP.nd (el_lst (ea_nil ⟨_, rfl, Nat.zero_le _, ?_⟩))
    refine sv_for (pat := .one 3) PassesOwn.never rfl (pg_name (i := 3) scNP.nd rfl (Or.inl rfl)) (ei_list (ev_var 1 rfl ⟨_, rfl, ?_⟩))
    refine loop_inv (fun i α => ∃ o3 o4 : Option A, α = [some (.dat (bookD C cs ds)), some (.dat (.list (ns.map .int))), some (.own (((ns.take i).map pr).map .int)), o3, o4]) ⟨none, none, rfl⟩ ?_ ?_
    · rintro i d α hd ⟨o3, o4, rfl⟩
      rw [List.getElem?_map, Option.map_eq_some_iff] at hd
      obtain ⟨z, hz, rfl⟩ := hd
      have hi : i < ns.length := (List.getElem?_eq_some_iff.mp hz).1
      have e := hp z (List.mem_of_getElem? hz)
      refine ⟨_, rfl, ?_⟩
      refine sv_set 4 scNP.nd (ev_meth MT hr (ev_var 0 rfl ⟨_, rfl, rfl, ea_cons (ev_str (ea_cons (ev_var 3 rfl (ea_nil ⟨ds, _, _, rfl, rd, by simp [words], ?_⟩))))⟩))
      show SvS _ (List.set _ _ (some (.dat (tellsD ds "price" z)))) _ _
      rw [e]
      refine sv_if (et_isN (ev_var 4 rfl ?_))
      refine sv_iteB (fun h => by cases h) (fun _ => sv_nil ?_)
      refine sv_append 2 rfl (ev_var 4 rfl ⟨by rw [List.length_map, List.length_map, List.length_take]; omega, sv_nil ⟨some (.dat (.int z)), some (.dat (.int (pr z))), ?_⟩⟩)
      rw [List.take_add_one, hz, List.map_append, List.map_append]
      rfl
    · rintro α ⟨o3, o4, rfl⟩
      rw [List.length_map, List.take_length]
      exact sv_retO 2 rfl q
theorem scBi : FnScope ["book", "stay", "nights", "prices", "marks", "fee", "rows", "paid"] ["book", "stay"] (defScope sBill) := ⟨rfl, rfl, rfl, by decide +kernel, rfl, by decide +kernel, by decide +kernel⟩
theorem csBi : CompScope ["book", "stay", "nights", "prices", "marks", "fee", "rows", "paid"] (defScope sBill) ["row"] [none] scBillC := ⟨rfl, by decide +kernel, by decide +kernel, by decide +kernel, by decide +kernel, rfl, by decide +kernel⟩
set_option maxHeartbeats 4000000 in
theorem cal_bill {f C : Addr} {fd : FuncData} (F : Fun K "bill" "bill" sBill f fd) (hm : mg "bill" = some (.ref f)) (hb : Binds K fd ["book", "stay"] []) (nb : NbT mg) (MT : CalM P w K mg base C "tells_of" 2 (phTells C cs)) (CN : Cal P w K mg base "nights_of" 1 phNights) (CP : Cal P w K mg base "night_prices" 3 (phNP C cs)) (CM : Cal P w K mg base "marked" 4 phMarked) :
    Cal P w K mg base "bill" 5 (phBill C cs) := by
  refine calA F hm hb scBi (fun as Q h => ?_) (fun cdv A' outer s H E as Q hr h => ?_)
  · obtain ⟨ds, c, g, fee, pr, rfl, _⟩ := h
    rfl
  · obtain ⟨ds, c, g, fee, pr, rfl, rd, c0, cg, gl, c1, hpr, hdeal, hfee, q⟩ := h
    generalize hn : (g - c).toNat = n at q
    have hn0 : 0 < n := by omega
    have hn4 : n ≤ 400 := by omega
    refine sv_set 2 scBi.nd (EvL.d (el_cal CN (hr.mono (by decide)) (by rfl) (ea_cons (ev_var 1 rfl (ea_nil ⟨c, g, rfl, by omega, cg, by omega, by omega, _, rfl, ?_⟩)))))
    rw [hn]
    refine sv_set 3 scBi.nd (EvL.d (el_cal CP (hr.mono (by decide)) (by rfl) (ea_cons (ev_var 0 rfl (ea_cons (ev_var 2 rfl (ea_nil ⟨ds, upInts c n, pr, rfl, rd, by rw [upInts_length]; omega, fun z hz => (hpr z (upI_mem.mp hz).1 (by have := (upI_mem.mp hz).2; omega)).1, _, rfl, ?_⟩)))))))
    have lz : ((upInts c n).map pr).length = n := by rw [List.length_map, upInts_length]
    refine sv_set 4 scBi.nd (EvL.d (el_cal CM hr (by rfl) (ea_cons (ev_var 3 rfl (ea_cons (ev_meth MT (hr.mono (by decide)) (ev_var 0 rfl ⟨_, rfl, rfl, ea_cons (ev_str (ea_cons (ev_ixT (fun _ _ => rfl) (ev_var 1 rfl (ev_int ⟨_, _, _, rfl, rfl, at0, ea_nil ⟨ds, _, _, rfl, rd, by simp [words], ea_nil ⟨_, _, rfl, by omega, ?_⟩⟩⟩)))))⟩)))))))
    have key : ∀ bs, MkFor (tellsD ds "deal" c) ((upInts c n).map pr) bs → SvS (cxOf CX0 P w K mg base ["book", "stay", "nights", "prices", "marks", "fee", "rows", "paid"] "bill" (defScope sBill) f cdv A' outer s H E).nox
        [some (.dat (bookD C cs ds)), some (.dat (.tuple [.int c, .int g])), some (.dat (.list ((upInts c n).map .int))), some (.dat (.list (((upInts c n).map pr).map .int))), some (.dat (.list (bs.map .bool))), none, none, none] ((defBody sBill).drop 3) { nx := fun _ => Q (.dat .none), rt := Q } := by
      intro bs mk
      have lb := mk.len
      refine sv_set 5 scBi.nd (ev_meth MT (hr.mono (by decide)) (ev_var 0 rfl ⟨_, rfl, rfl, ea_cons (ev_str (ea_cons (ev_ixT (fun _ _ => rfl) (ev_var 1 rfl (ev_int ⟨_, _, _, rfl, rfl, at0, ea_nil ⟨ds, _, _, rfl, rd, by simp [words], ?_⟩⟩)))))⟩))
      show SvS _ (List.set _ _ (some (.dat (tellsD ds "fee" c)))) _ _
      rw [hfee]
      refine sv_set 6 scBi.nd (EvL.d (el_listZip3 rfl (by rfl) nb.list (by rfl) nb.zip (ea_cons (ev_var 2 rfl (ea_cons (ev_var 3 rfl (ea_cons (ev_var 4 rfl (ea_nil ⟨_, _, _, rfl, ?_, ?_, ?_, ?_, ?_⟩)))))))))
      · rw [List.length_map, List.length_map, List.length_map]
      · rw [List.length_map, List.length_map, lb, lz, upInts_length]
      · rw [List.length_map, upInts_length]; omega
      · rw [List.length_map, upInts_length]; omega
      have pm : ∀ z ∈ paids ((upInts c n).map pr) bs, 0 ≤ z ∧ z ≤ 1000000000000 := fun z hz => by
        obtain ⟨y, hy, rfl⟩ := List.mem_map.mp (paids_mem hz)
        have hy := upI_mem.mp hy
        exact (hpr y hy.1 (by omega)).2
      refine sv_set 7 scBi.nd (ev_sumI rfl (by rfl) nb.sum (EvL.d (el_lc (pat := .one 0) rfl csBi rfl (fun _ _ _ _ => pg_name (i := 0) csBi.nd rfl (Or.inl rfl)) (ei_list (ev_var 6 rfl ⟨_, rfl, ?_, ?comp⟩)))))
      · rw [zip3D_len (by rw [List.length_map, List.length_map, List.length_map]) (by rw [List.length_map, List.length_map, lb, lz, upInts_length]), List.length_map, upInts_length]; omega
      refine compW_pure (fun d => !rowFree d) (rowD 1) (fun d hd => ?_) ?_
      · obtain ⟨j, hj⟩ := List.mem_iff_getElem?.mp hd
        obtain ⟨x, y, z, e1, e2, e3, rfl⟩ := zip3D_get hj
        rw [List.getElem?_map, Option.map_eq_some_iff] at e3
        obtain ⟨b, _, rfl⟩ := e3
        exact ⟨_, rfl, fun _ _ _ _ _ k => es_one (et_not (et_val (ev_ixT (fun _ _ => rfl) (ev_var 0 rfl (ev_int ⟨_, _, _, rfl, rfl, atI_nat (j := 2) rfl, ⟨_, rfl, k⟩⟩))))), fun _ _ _ _ _ _ k => ev_ixT (fun _ _ => rfl) (ev_var 0 rfl (ev_int ⟨_, _, _, rfl, rfl, atI_nat (j := 1) rfl, k⟩))⟩
      · rw [List.nil_append, rows_paids (by rw [lz, List.length_map, upInts_length]) (by rw [lb, lz, List.length_map, upInts_length])]
        refine ⟨_, rfl, fun z hz => by have := pm z hz; omega, fits_small pm (Nat.le_trans (paids_len _ _) (by omega)), ?_⟩
        exact sv_ret (ev_tup (ea_cons (ev_add (ev_var 7 rfl (ev_var 5 rfl ⟨_, _, rfl, rfl, ea_cons (ev_var 6 rfl (ea_cons (ev_var 5 rfl (ea_nil ⟨_, rfl, Nat.le_of_ble_eq_true rfl, q bs mk⟩))))⟩)))))
    rcases hdeal with hd | ⟨many, free, hd, m0, m64⟩
    · exact .inl ⟨hd, ⟨_, rfl, key _ (.inl ⟨hd, rfl⟩)⟩⟩
    · exact .inr ⟨many, free, hd, m0, m64, fun bs mk => ⟨_, rfl, key bs (.inr ⟨many, free, hd, mk⟩)⟩⟩
end
end K34
set_option Elab.async false
set_option linter.all false
set_option maxRecDepth 100000
namespace K34
open PySem PySem.Spec PyProof.Rows L2
abbrev sLaid : Stmt := top 42
abbrev sSold : Stmt := top 52
abbrev sSum : Stmt := top 53
theorem worth_due {x : Str} (h : x ∈ words) : worthD (.str x) (dueD x) = true := by
  simp only [words, List.mem_cons, List.not_mem_nil, or_false] at h
  rcases h with rfl | rfl | rfl | rfl | rfl | rfl | rfl <;> decide +kernel
theorem tells_worth {ds : List PyData} (h : ∀ d ∈ ds, ruleD d = true) {x : Str} (hx : x ∈ words) (day : Int) : worthD (.str x) (tellsD ds x day) = true := by
  unfold tellsD
  split
  · rename_i d e
    obtain ⟨u, i, j, v, hu, rfl, _, _, _, hw⟩ := ruleD_ints (h d (List.mem_reverse.mp (List.mem_of_find?_eq_some e)))
    have := List.find?_some e
    have h2 : (decide (u = x) && (decide (i ≤ day) && decide (day ≤ j))) = true := this
    rw [Bool.and_eq_true, decide_eq_true_eq] at h2
    rw [← h2.1]
    exact hw
  · exact worth_due hx
theorem within_inv {lo hi : Int} {d : PyData} (h : withinD lo hi d = true) : ∃ i, d = .int i ∧ lo ≤ i ∧ i ≤ hi := by
  cases d with
  | int i =>
    have h' : (decide (lo ≤ i) && decide (i ≤ hi)) = true := h
    rw [Bool.and_eq_true, decide_eq_true_eq, decide_eq_true_eq] at h'
    exact ⟨i, rfl, h'⟩
  | _ => cases h
section
variable {ds : List PyData} (h : ∀ d ∈ ds, ruleD d = true) (day : Int)
include h
theorem t_fee : ∃ i, tellsD ds "fee" day = .int i ∧ 0 ≤ i ∧ i ≤ 1000000000000 := within_inv (by
  have := tells_worth h (x := "fee") (by simp [words]) day
  rw [worth_fee] at this
  exact this)
theorem t_price : tellsD ds "price" day = .none ∨ ∃ i, tellsD ds "price" day = .int i ∧ 0 ≤ i ∧ i ≤ 1000000000000 := by
  have := tells_worth h (x := "price") (by simp [words]) day
  rw [worth_price, Bool.or_eq_true] at this
  rcases this with z | z
  · left
    cases e : tellsD ds "price" day with
    | none => rfl
    | _ => rw [e] at z; cases z
  · exact .inr (within_inv z)
end
def soldTail : List Stmt := match defBody sSold with
  | .For _ _ [.If _ b _ _] _ _ :: _ => b.drop 2
  | _ => []
def numOf : PyData → Int
  | .int i => i
  | _ => 0
theorem deal_inv {d : PyData} (h : dealD d = true) : ∃ many free : Nat, d = .tuple [.int many, .int free] ∧ 0 < free ∧ free < many ∧ many < 64 := by
  unfold dealD at h
  split at h
  · rename_i m r
    rw [Bool.and_eq_true] at h
    obtain ⟨i, e, i0, i1⟩ := within_inv h.1
    obtain ⟨j, e2, j0, j1⟩ := within_inv h.2
    subst e2
    injection e with e
    subst e
    refine ⟨m.toNat, j.toNat, ?_, by omega, by omega, by omega⟩
    rw [show ((m.toNat : Nat) : Int) = m by omega, show ((j.toNat : Nat) : Int) = j by omega]
  · cases h
theorem t_deal {ds : List PyData} (h : ∀ d ∈ ds, ruleD d = true) (day : Int) : DealOk (tellsD ds "deal" day) := by
  have := tells_worth h (x := "deal") (by simp [words]) day
  rw [worth_deal, Bool.or_eq_true] at this
  rcases this with z | z
  · left
    cases e : tellsD ds "deal" day with
    | none => rfl
    | _ => rw [e] at z; cases z
  · exact .inr (deal_inv z)
theorem RulesOk.all {ds : List PyData} (h : RulesOk ds) : ∀ d ∈ ds, ruleD d = true := fun d hd => (h d hd).rule
/-- all nights are sold -/
def Sold (ds : List PyData) (c g : Int) : Prop := ∀ z, c ≤ z → z < g → isNon (tellsD ds "price" z) = false
def prs (ds : List PyData) (c g : Int) : List Int := (upInts c (g - c).toNat).map fun z => numOf (tellsD ds "price" z)
def feeOf (ds : List PyData) (c : Int) : Int := numOf (tellsD ds "fee" c)
theorem sold_price {ds : List PyData} {c g z : Int} (h : RulesOk ds) (s : Sold ds c g) (h0 : c ≤ z) (h1 : z < g) : tellsD ds "price" z = .int (numOf (tellsD ds "price" z)) ∧ 0 ≤ numOf (tellsD ds "price" z) ∧ numOf (tellsD ds "price" z) ≤ 1000000000000 := by
  rcases t_price h.all z with e | ⟨i, e, i0, i1⟩
  · have := s z h0 h1
    rw [e] at this; cases this
  · rw [e]; exact ⟨rfl, i0, i1⟩
theorem fee_int {ds : List PyData} (h : RulesOk ds) (c : Int) : tellsD ds "fee" c = .int (feeOf ds c) ∧ 0 ≤ feeOf ds c ∧ feeOf ds c ≤ 1000000000000 := by
  obtain ⟨i, e, i0, i1⟩ := t_fee h.all c
  unfold feeOf
  rw [e]; exact ⟨rfl, i0, i1⟩
/-- a stay -/
def StayB (c g : Int) : Prop := 0 ≤ c ∧ c < g ∧ g ≤ c + 14 ∧ g ≤ 1000000
def phBillR (C : Addr) (cs : Cs) : List A → (A → Prop) → Prop := fun as Q => ∃ (ds : List PyData) (c g : Int), as = [.dat (bookD C cs ds), .dat (.tuple [.int c, .int g])] ∧ RulesOk ds ∧ StayB c g ∧ Sold ds c g ∧
  ∀ bs rows, MkFor (tellsD ds "deal" c) (prs ds c g) bs → Q (.dat (.tuple [.int ((paids (prs ds c g) bs).sum + feeOf ds c), rows, .int (feeOf ds c)]))
def phLaid (C : Addr) (cs : Cs) : List A → (A → Prop) → Prop := fun as Q => ∃ ds es, as = [.dat (bookD C cs ds), .dat (bookD C cs es)] ∧ RulesOk ds ∧ RulesOk es ∧ ds.length + es.length ≤ 24 ∧ Q (.dat (bookD C cs (ds ++ es)))
def phSold (C : Addr) (cs : Cs) : List A → (A → Prop) → Prop := fun as Q => ∃ (ds : List PyData) (c g : Int), as = [.dat (bookD C cs ds), .dat (.tuple [.int c, .int g])] ∧ RulesOk ds ∧ ds.length ≤ 20 ∧ StayB c g ∧ ∀ es, RulesOk es → es.length ≤ 20 → Sold es c g → Q (.dat (bookD C cs es))
def phSum (C : Addr) (cs : Cs) : List A → (A → Prop) → Prop := fun as Q => ∃ (ds : List PyData) (r : PyData) (c g : Int), as = [.dat (bookD C cs ds), .dat r, .dat (.tuple [.int c, .int g])] ∧ RulesOk ds ∧ ds.length ≤ 20 ∧ RuleOk r ∧ StayB c g ∧ Sold (ds ++ [r]) c g ∧
  ∀ bs, MkFor (tellsD (ds ++ [r]) "deal" c) (prs (ds ++ [r]) c g) bs → Q (.dat (.int ((paids (prs (ds ++ [r]) c g) bs).sum + feeOf (ds ++ [r]) c)))
section
variable {P : Program} {w : World} {K : PySem.W.Frag} {mg : Str → Option Value} {base : Heap} {cs : Cs}
theorem cal_billR {C : Addr} (CB : Cal P w K mg base "bill" 5 (phBill C cs)) : Cal P w K mg base "bill" 5 (phBillR C cs) := by
  refine CB.imp fun as Q h => ?_
  obtain ⟨ds, c, g, rfl, ro, ⟨c0, cg, g1, g2⟩, so, q⟩ := h
  refine ⟨ds, c, g, feeOf ds c, fun z => numOf (tellsD ds "price" z), rfl, ro.rules, c0, cg, by omega, by omega, fun z z0 z1 => sold_price ro so z0 z1, ?_, (fee_int ro c).1, fun bs mk => q bs _ mk⟩
  rcases t_deal ro.all c with e | ⟨m, f, e, f0, fm, m6⟩
  · exact .inl e
  · exact .inr ⟨m, f, e, by omega, m6⟩
theorem scLd : FnScope ["elder", "newer"] ["elder", "newer"] (defScope sLaid) := ⟨rfl, rfl, rfl, by decide +kernel, rfl, by decide +kernel, by decide +kernel⟩
set_option maxHeartbeats 4000000 in
theorem cal_laid {f C : Addr} {fd : FuncData} (F : Fun K "laid" "laid" sLaid f fd) (hm : mg "laid" = some (.ref f)) (hb : Binds K fd ["elder", "newer"] []) (CK : CalK P w K mg base "Book" 9 [] (phBook C cs)) (MR : CalM P w K mg base C "rules" 3 (phRules C cs)) : Cal P w K mg base "laid" 11 (phLaid C cs) := by
  refine calA F hm hb scLd (fun as Q h => ?_) (fun cdv A' outer s H E as Q hr h => ?_)
  · obtain ⟨ds, es, rfl, _⟩ := h
    rfl
  · obtain ⟨ds, es, rfl, rd, re, hl, q⟩ := h
    exact sv_ret (EvN.d (en_make CK hr (by rfl) (ea_cons (EvL.d (el_cat (EvL.d (el_meth0 MR (hr.mono (by decide)) (ev_var 0 rfl ⟨_, rfl, rfl, ds, rfl, rd.rules, by omega, _, rfl, EvL.d (el_meth0 MR (hr.mono (by decide)) (ev_var 1 rfl ⟨_, rfl, rfl, es, rfl, re.rules, by omega, _, rfl, ⟨_, _, rfl, rfl, by omega, ea_nil ⟨ds ++ es, .inl rfl, (rd.app re).rules, by rw [List.length_append]; exact hl, q⟩⟩⟩))⟩))))))))
theorem scSd : FnScope ["_law_book", "_law_stay_here", "_law_night", "_law_rules_here"] ["_law_book", "_law_stay_here"] (defScope sSold) := ⟨rfl, rfl, rfl, by decide +kernel, rfl, by decide +kernel, by decide +kernel⟩
theorem hit_price {z y : Int} {v : PyData} {i j : Int} : hitD "price" z (.tuple [.str "price", .int i, .int j, v]) = (decide (i ≤ z) && decide (z ≤ j)) := by
  show (decide (("price" : Str) = "price") && _) = _
  rw [decide_eq_true (rfl : ("price" : Str) = "price")]
  exact Bool.true_and _
set_option maxHeartbeats 4000000 in
theorem cal_sold {f C : Addr} {fd : FuncData} (F : Fun K "_law_sold" "_law_sold" sSold f fd) (hm : mg "_law_sold" = some (.ref f)) (hb : Binds K fd ["_law_book", "_law_stay_here"] []) (nb : NbT mg) (CK : CalK P w K mg base "Book" 9 [] (phBook C cs)) (MR : CalM P w K mg base C "rules" 3 (phRules C cs)) (MT : CalM P w K mg base C "tells_of" 2 (phTells C cs)) : Cal P w K mg base "_law_sold" 11 (phSold C cs) := by
  refine calA F hm hb scSd (fun as Q h => ?_) (fun cdv A' outer s H E as Q hr h => ?_)
  · obtain ⟨ds, c, g, rfl, _⟩ := h
    rfl
  · obtain ⟨ds0, c, g, rfl, ro0, l0, ⟨c0, cg, g1, g2⟩, q⟩ := h
    refine sv_for (pat := .one 2) PassesOwn.never rfl (pg_name (i := 2) scSd.nd rfl (Or.inl rfl)) (ei_range2 (by rfl) nb.range (ev_ixT (fun _ _ => rfl) (ev_var 1 rfl (ev_int ⟨_, _, _, rfl, rfl, at0, ev_ixT (fun _ _ => rfl) (ev_var 1 rfl (ev_int ⟨_, _, _, rfl, rfl, atI_nat (j := 1) rfl, ⟨_, _, rfl, rfl, ⟨by omega, by omega, by omega, by omega⟩, ?_⟩⟩))⟩))))
    refine loop_inv (fun i α => ∃ (ds : List PyData) (o2 o3 : Option A), (RulesOk ds ∧ ds.length ≤ 20 ∧ Sold ds c (c + (i : Int))) ∧ α = [some (.dat (bookD C cs ds)), some (.dat (.tuple [.int c, .int g])), o2, o3]) ⟨ds0, none, none, ⟨ro0, l0, fun z h0 h1 => by omega⟩, rfl⟩ ?_ ?_
    · rintro i d α hd ⟨ds, o2, o3, ⟨ro, ld, so⟩, rfl⟩
      have hi : i < (g - c).toNat := by
        have := (List.getElem?_eq_some_iff.mp hd).1
        simpa [upInts_length] using this
      obtain rfl : d = .int (c + (i : Int)) := by
        rw [List.getElem?_map, upInts_get hi] at hd
        simpa using hd.symm
      refine ⟨_, rfl, ?_⟩
      refine sv_if (et_isN (ev_meth MT (hr.mono (by decide)) (ev_var 0 rfl ⟨_, rfl, rfl, ea_cons (ev_str (ea_cons (ev_var 2 rfl (ea_nil ⟨ds, _, _, rfl, ro.rules, by simp [words], ?_⟩))))⟩)))
      refine sv_iteB (fun hn => ?_) (fun hn => sv_nil (sv_nil ⟨ds, _, _, ⟨ro, ld, fun z h0 h1 => ?_⟩, rfl⟩))
      · have fin : ∀ es, RulesOk es → es.length ≤ 19 → (Sold es c (c + (i : Int))) → RulesOk (es ++ [PyData.tuple [.str "price", .int (c + (i : Int)), .int (c + (i : Int)), .int 5]]) ∧ (es ++ [PyData.tuple [.str "price", .int (c + (i : Int)), .int (c + (i : Int)), .int 5]]).length ≤ 20 ∧ Sold (es ++ [PyData.tuple [.str "price", .int (c + (i : Int)), .int (c + (i : Int)), .int 5]]) c (c + ((i + 1 : Nat) : Int)) := fun es re le se => by
          refine ⟨re.snoc (price_int (by omega) (by omega) (by omega) (by omega) (by omega)), by rw [List.length_append]; show es.length + 1 ≤ 20; omega, fun z h0 h1 => ?_⟩
          rw [tellsD_snoc, hit_price (y := 0)]
          by_cases hz : z = c + (i : Int)
          · subst hz
            simp [worthOf, isNon]
          · have h2 : z < c + (i : Int) := by omega
            rw [decide_eq_false (by omega : ¬ c + (i : Int) ≤ z), Bool.false_and, if_neg (by decide)]
            exact se z h0 h2
        refine sv_set 3 scSd.nd (EvL.d (el_meth0 MR (hr.mono (by decide)) (ev_var 0 rfl ⟨_, rfl, rfl, ds, rfl, ro.rules, by omega, _, rfl, ?_⟩)))
        refine sv_if (et_gt (ev_len (by rfl) nb.len (ev_var 3 rfl ⟨_, rfl, ev_int ⟨_, _, rfl, rfl, ?_⟩⟩)))
        have key : ∀ (E' : AEnds) (es : List PyData), RulesOk es → es.length ≤ 19 → Sold es c (c + (i : Int)) → (∀ es', RulesOk es' ∧ es'.length ≤ 20 ∧ Sold es' c (c + ((i + 1 : Nat) : Int)) → E'.nx [some (.dat (bookD C cs es')), some (.dat (.tuple [.int c, .int g])), some (.dat (.int (c + (i : Int)))), some (.dat (.list es))]) →
            SvS (cxOf CX0 P w K mg base ["_law_book", "_law_stay_here", "_law_night", "_law_rules_here"] "_law_sold" (defScope sSold) f cdv A' outer s H E).nox [some (.dat (bookD C cs ds)), some (.dat (.tuple [.int c, .int g])), some (.dat (.int (c + (i : Int)))), some (.dat (.list es))] soldTail E' := fun E' es re le se hE => by
          refine sv_set 0 scSd.nd (EvN.d (en_make CK hr (by rfl) (ea_cons (EvL.d (el_cat (ev_var 3 rfl (EvL.d (el_lst (ea_cons (ev_tup (ea_cons (ev_str (ea_cons (ev_var 2 rfl (ea_cons (ev_var 2 rfl (ea_cons (ev_int (ea_nil ⟨_, rfl, Nat.le_of_ble_eq_true rfl, ea_nil ⟨_, rfl, Nat.le_of_ble_eq_true rfl, ⟨_, _, rfl, rfl, ?_, ea_nil ⟨_, .inl rfl, (fin es re le se).1.rules, ?_, sv_nil (hE _ (fin es re le se))⟩⟩⟩⟩)))))))))))))))))))
          · show es.length + 1 ≤ 1000
            omega
          · exact Nat.le_trans (fin es re le se).2.1 (by decide)
        refine sv_ite (fun hc => ?_) (fun hc => sv_nil ?_)
        · refine sv_set 3 scSd.nd (EvL.d (el_lst (ea_cons (ev_tup (ea_cons (ev_str (ea_cons (ev_ixT (fun _ _ => rfl) (ev_var 1 rfl (ev_int ⟨_, _, _, rfl, rfl, at0, ea_cons (ev_sub (ev_ixT (fun _ _ => rfl) (ev_var 1 rfl (ev_int ⟨_, _, _, rfl, rfl, atI_nat (j := 1) rfl, ev_int ⟨_, _, rfl, rfl, ea_cons (ev_int (ea_nil ⟨_, rfl, Nat.le_of_ble_eq_true rfl, ea_nil ⟨_, rfl, Nat.le_of_ble_eq_true rfl, ?_⟩⟩))⟩⟩))))⟩))))))))))
          refine sv_nil ?_
          refine key _ ([] ++ [.tuple [.str "price", .int c, .int (g - 1), .int 5]]) (RulesOk.nil.snoc (price_int (by omega) (by omega) (by omega) (by omega) (by omega))) (by show 1 ≤ 19; decide) (fun z h0 h1 => ?_) (fun es' he => ?_)
          · rw [tellsD_snoc, hit_price (y := 0), decide_eq_true h0, decide_eq_true (by omega : z ≤ g - 1)]
            rfl
          · exact sv_nil ⟨es', _, _, he, rfl⟩
        · refine key _ ds ro ?_ so (fun es' he => ?_)
          · omega
          · exact sv_nil ⟨es', _, _, he, rfl⟩
      · by_cases hz : z = c + (i : Int)
        · rw [hz]; exact hn
        · exact so z h0 (by omega)
    · rintro α ⟨ds, o2, o3, ⟨ro, ld, so⟩, rfl⟩
      refine sv_ret (ev_var 0 rfl (q ds ro ld fun z h0 h1 => so z h0 ?_))
      have el : (List.map PyData.int (upInts c (g - c).toNat)).length = (g - c).toNat := by simp [upInts_length]
      rw [el]; omega
theorem scSm : FnScope ["_law_book", "_law_rule", "_law_stay_here"] ["_law_book", "_law_rule", "_law_stay_here"] (defScope sSum) := ⟨rfl, rfl, rfl, by decide +kernel, rfl, by decide +kernel, by decide +kernel⟩
set_option maxHeartbeats 4000000 in
theorem cal_sum {f C : Addr} {fd : FuncData} (F : Fun K "_law_sum" "_law_sum" sSum f fd) (hm : mg "_law_sum" = some (.ref f)) (hb : Binds K fd ["_law_book", "_law_rule", "_law_stay_here"] []) (CK : CalK P w K mg base "Book" 9 [] (phBook C cs)) (CL : Cal P w K mg base "laid" 11 (phLaid C cs)) (CB : Cal P w K mg base "bill" 5 (phBillR C cs)) : Cal P w K mg base "_law_sum" 12 (phSum C cs) := by
  refine calA F hm hb scSm (fun as Q h => ?_) (fun cdv A' outer s H E as Q hr h => ?_)
  · obtain ⟨ds, r, c, g, rfl, _⟩ := h
    rfl
  · obtain ⟨ds, r, c, g, rfl, ro, ld, rr, sb, so, q⟩ := h
    have r1 : RulesOk [r] := fun d hd => by rw [List.mem_singleton.mp hd]; exact rr
    exact sv_ret (ev_ixT (fun _ _ => rfl) (ev_cal CB (hr.mono (by decide)) (by rfl) (ea_cons (ev_cal CL hr (by rfl) (ea_cons (ev_var 0 rfl (ea_cons (EvN.d (en_make CK (hr.mono (by decide)) (by rfl) (ea_cons (EvL.d (el_lst (ea_cons (ev_var 1 rfl (ea_nil ⟨_, rfl, Nat.le_of_ble_eq_true rfl, ea_nil ⟨[r], .inl rfl, r1.rules, Nat.le_of_ble_eq_true rfl, ea_nil ⟨ds, [r], rfl, ro, r1, by show ds.length + 1 ≤ 24; omega, ea_cons (ev_var 2 rfl (ea_nil ⟨ds ++ [r], c, g, rfl, ro.app r1, sb, so, fun bs rows mk => ev_int ⟨_, _, _, rfl, rfl, at0, q bs mk⟩⟩))⟩⟩⟩)))))))))))))))
end
end K34
set_option Elab.async false
set_option linter.all false
set_option maxRecDepth 100000
namespace K34
open PySem PySem.Spec PyProof.Rows L2
abbrev sON : Stmt := top 54
abbrev sOD : Stmt := top 55
abbrev sLaw : Stmt := top 56
def scODC : Scope := match (defBody sOD).getD 3 (.Pass ⟨0, 0, 0, 0⟩) with
  | .Assign _ (.BinOp _ _ (.Call _ [.ListComp _ _ sc _] _ _) _) _ => sc
  | _ => defScope sOD
theorem prs_len (ds : List PyData) (c g : Int) : (prs ds c g).length = (g - c).toNat := by unfold prs; rw [List.length_map, upInts_length]
theorem prs_get {ds : List PyData} {c g : Int} {i : Nat} (h : i < (g - c).toNat) : (prs ds c g).getD i 0 = numOf (tellsD ds "price" (c + (i : Int))) := by
  unfold prs
  rw [List.getD_eq_getElem?_getD, List.getElem?_map, upInts_get h]
  rfl
theorem prs_nonneg {ds : List PyData} {c g : Int} (ro : RulesOk ds) (so : Sold ds c g) : ∀ z ∈ prs ds c g, 0 ≤ z ∧ z ≤ 1000000000000 := fun z hz => by
  obtain ⟨y, hy, rfl⟩ := List.mem_map.mp hz
  have hy := upI_mem.mp hy
  exact (sold_price ro so hy.1 (by omega)).2
theorem hit_other {u w : Str} {z i j : Int} {v : PyData} (h : decide (u = w) = false) : hitD w z (.tuple [.str u, .int i, .int j, v]) = false := by
  show (decide (u = w) && _) = _
  rw [h]; rfl
theorem tells_other {ds : List PyData} {u w : Str} {z i j : Int} {v : PyData} (h : decide (u = w) = false) : tellsD (ds ++ [.tuple [.str u, .int i, .int j, v]]) w z = tellsD ds w z := by
  rw [tellsD_snoc, hit_other h, if_neg (by decide)]
theorem tells_this {ds : List PyData} {w : Str} {z : Int} {v : PyData} : tellsD (ds ++ [.tuple [.str w, .int z, .int z, v]]) w z = v := by
  rw [tellsD_snoc]
  rw [if_pos]
  · rfl
  · show (decide (w = w) && (decide (z ≤ z) && decide (z ≤ z))) = true
    simp
theorem prs_other {ds : List PyData} {u : Str} {c g i j : Int} {v : PyData} (h : decide (u = "price") = false) : prs (ds ++ [.tuple [.str u, .int i, .int j, v]]) c g = prs ds c g := by
  unfold prs
  congr 1
  funext z
  rw [tells_other h]
theorem sold_other {ds : List PyData} {u : Str} {c g i j : Int} {v : PyData} (h : decide (u = "price") = false) (s : Sold ds c g) : Sold (ds ++ [.tuple [.str u, .int i, .int j, v]]) c g := fun z h0 h1 => by
  rw [tells_other h]; exact s z h0 h1
theorem tells_price {ds : List PyData} {n p z : Int} : tellsD (ds ++ [.tuple [.str "price", .int n, .int n, .int p]]) "price" z = if z = n then .int p else tellsD ds "price" z := by
  rw [tellsD_snoc, hit_price (y := 0)]
  by_cases h : z = n
  · subst h; simp [worthOf]
  · rw [if_neg h, if_neg]
    intro w
    rw [Bool.and_eq_true, decide_eq_true_eq, decide_eq_true_eq] at w
    omega
theorem sold_price1 {ds : List PyData} {n p c g : Int} (s : Sold ds c g) : Sold (ds ++ [.tuple [.str "price", .int n, .int n, .int p]]) c g := fun z h0 h1 => by
  rw [tells_price]
  split
  · rfl
  · exact s z h0 h1
theorem sum_set : ∀ {f f' : Int → Int} {c : Int} {n k : Nat}, k < n → (∀ i, i < n → i ≠ k → f' (c + (i : Int)) = f (c + (i : Int))) → ((upInts c n).map f').sum = ((upInts c n).map f).sum + (f' (c + (k : Int)) - f (c + (k : Int)))
  | f, f', c, 0, k, h, _ => by omega
  | f, f', c, n + 1, k, h, hh => by
    rw [upI_snoc, List.map_append, List.map_append, List.sum_append, List.sum_append]
    simp only [List.map_cons, List.map_nil, List.sum_cons, List.sum_nil, Int.add_zero]
    by_cases e : k = n
    · subst e
      have : (upInts c k).map f' = (upInts c k).map f := List.map_congr_left fun z hz => by
        have hz := upI_mem.mp hz
        obtain ⟨j, hj⟩ := Int.eq_ofNat_of_zero_le (show 0 ≤ z - c by omega)
        rw [show z = c + (j : Int) by omega]
        exact hh j (by omega) (by omega)
      rw [this]
      omega
    · rw [sum_set (k := k) (by omega) fun i hi hik => hh i (by omega) hik, hh n (by omega) (fun z => e z.symm)]
      omega
/-- one night's price is another -/
theorem night_sums {ds : List PyData} {c g n q : Int} {bs cs : List Bool} (ro : RulesOk ds) (so : Sold ds c g) (n0 : c ≤ n) (n1 : n < g) (q0 : 0 ≤ q) (hb : MkFor (tellsD ds "deal" c) (prs ds c g) bs) (hc : MkFor (tellsD ds "deal" c) (prs (ds ++ [.tuple [.str "price", .int n, .int n, .int q]]) c g) cs) :
    (numOf (tellsD ds "price" n) ≤ q → (paids (prs ds c g) bs).sum ≤ (paids (prs (ds ++ [.tuple [.str "price", .int n, .int n, .int q]]) c g) cs).sum ∧ (paids (prs (ds ++ [.tuple [.str "price", .int n, .int n, .int q]]) c g) cs).sum ≤ (paids (prs ds c g) bs).sum + (q - numOf (tellsD ds "price" n))) ∧
    (q ≤ numOf (tellsD ds "price" n) → (paids (prs (ds ++ [.tuple [.str "price", .int n, .int n, .int q]]) c g) cs).sum ≤ (paids (prs ds c g) bs).sum ∧ (paids (prs ds c g) bs).sum ≤ (paids (prs (ds ++ [.tuple [.str "price", .int n, .int n, .int q]]) c g) cs).sum + (numOf (tellsD ds "price" n) - q)) := by
  obtain ⟨k, hk⟩ := Int.eq_ofNat_of_zero_le (show 0 ≤ n - c by omega)
  have en : n = c + (k : Int) := by omega
  have kl : k < (g - c).toNat := by omega
  have hd := t_deal ro.all c
  have pos1 : ∀ z ∈ prs ds c g, 0 ≤ z := fun z hz => (prs_nonneg ro so z hz).1
  have at' : ∀ i, i < (g - c).toNat → (prs (ds ++ [.tuple [.str "price", .int n, .int n, .int q]]) c g).getD i 0 = if i = k then q else (prs ds c g).getD i 0 := fun i hi => by
    rw [prs_get hi, prs_get hi, tells_price]
    by_cases e : i = k
    · subst e; rw [if_pos en.symm, if_pos rfl]; rfl
    · rw [if_neg (by omega), if_neg e]
  have pos2 : ∀ z ∈ prs (ds ++ [.tuple [.str "price", .int n, .int n, .int q]]) c g, 0 ≤ z := fun z hz => by
    obtain ⟨i, hi, e⟩ := List.mem_iff_getElem.mp hz
    rw [prs_len] at hi
    have w := at' i hi
    rw [List.getD_eq_getElem?_getD, List.getElem?_eq_getElem (by rw [prs_len]; exact hi)] at w
    have w : (prs (ds ++ [.tuple [.str "price", .int n, .int n, .int q]]) c g)[i]'(by rw [prs_len]; exact hi) = if i = k then q else (prs ds c g).getD i 0 := w
    rw [← e, w]
    split
    · exact q0
    · have hi' : i < (prs ds c g).length := by rw [prs_len]; exact hi
      rw [List.getD_eq_getElem?_getD, List.getElem?_eq_getElem hi']
      exact pos1 _ (List.getElem_mem _)
  have ll : (prs (ds ++ [.tuple [.str "price", .int n, .int n, .int q]]) c g).length = (prs ds c g).length := by rw [prs_len, prs_len]
  have hs : (prs (ds ++ [.tuple [.str "price", .int n, .int n, .int q]]) c g).sum = (prs ds c g).sum + (q - numOf (tellsD ds "price" n)) := by
    unfold prs
    rw [sum_set (f := fun z => numOf (tellsD ds "price" z)) (k := k) kl fun i hi hik => ?_]
    · simp only [tells_price]
      rw [if_pos en.symm, ← en]
      rfl
    · simp only [tells_price]
      rw [if_neg (by omega)]
  have pk : (prs ds c g).getD k 0 = numOf (tellsD ds "price" n) := by rw [prs_get kl, ← en]
  constructor
  · intro hq
    refine for_dearer hb hc hd ll hs (fun i hi => ?_) pos1 pos2
    rw [prs_len] at hi
    rw [at' i hi]
    split
    · rename_i e; rw [e, pk]; exact hq
    · exact Int.le_refl _
  · intro hq
    have := for_dearer (e := numOf (tellsD ds "price" n) - q) hc hb hd ll.symm (by omega) (fun i hi => ?_) pos2 pos1
    · exact this
    · rw [prs_len] at hi
      rw [at' i hi]
      split
      · rename_i e; rw [e, pk]; exact hq
      · exact Int.le_refl _
def phOther (C : Addr) (cs : Cs) : List A → (A → Prop) → Prop := fun as Q => ∃ (ds : List PyData) (c g : Int), as = [.tape, .dat (bookD C cs ds), .dat (.tuple [.int c, .int g])] ∧ RulesOk ds ∧ ds.length ≤ 20 ∧ StayB c g ∧ Sold ds c g ∧ Q (.dat (.bool true))
theorem bigc {z : Int} (h : z ≤ 1000000000002) : z < big := by
  have : (1000000000002 : Int) < big := by decide +kernel
  omega
theorem d_dp : decide (("price" : Str) = "deal") = false := by decide +kernel
theorem d_pf : decide (("price" : Str) = "fee") = false := by decide +kernel
theorem d_d_p : decide (("deal" : Str) = "price") = false := by decide +kernel
theorem d_d_f : decide (("deal" : Str) = "fee") = false := by decide +kernel
theorem d_f_p : decide (("fee" : Str) = "price") = false := by decide +kernel
theorem d_f_d : decide (("fee" : Str) = "deal") = false := by decide +kernel
section
variable {P : Program} {w : World} {K : PySem.W.Frag} {mg : Str → Option Value} {base : Heap} {cs : Cs}
theorem scON : FnScope ["_law_tape_here", "_law_book", "_law_stay_here", "_law_told", "_law_night", "_law_coins_here", "_law_more", "_law_fewer", "_law_dearer", "_law_cheaper"] ["_law_tape_here", "_law_book", "_law_stay_here"] (defScope sON) := ⟨rfl, rfl, rfl, by decide +kernel, rfl, by decide +kernel, by decide +kernel⟩
set_option maxHeartbeats 8000000 in
theorem cal_on {f C : Addr} {fd : FuncData} (F : Fun K "_law_other_night" "_law_other_night" sON f fd) (hm : mg "_law_other_night" = some (.ref f)) (hb : Binds K fd ["_law_tape_here", "_law_book", "_law_stay_here"] []) (CD : Cal P w K mg base "_law_draw" 1 phDraw) (CB : Cal P w K mg base "bill" 5 (phBillR C cs)) (CS : Cal P w K mg base "_law_sum" 12 (phSum C cs)) (MT : CalM P w K mg base C "tells_of" 2 (phTells C cs)) : Cal P w K mg base "_law_other_night" 13 (phOther C cs) := by
  refine calA F hm hb scON (fun as Q h => ?_) (fun cdv A' outer s H E as Q hr h => ?_)
  · obtain ⟨ds, c, g, rfl, _⟩ := h
    rfl
  · obtain ⟨ds, c, g, rfl, ro, ld, sb, so, q⟩ := h
    obtain ⟨c0, cg, g1, g2⟩ := id sb
    refine sv_set 3 scON.nd (ev_ixT (fun _ _ => rfl) (ev_cal CB (hr.mono (by decide)) (by rfl) (ea_cons (ev_var 1 rfl (ea_cons (ev_var 2 rfl (ea_nil ⟨ds, c, g, rfl, ro, sb, so, fun bs rows mk => ev_int ⟨_, _, _, rfl, rfl, at0, ?_⟩⟩)))))))
    refine sv_set 4 scON.nd (ev_add (ev_ixT (fun _ _ => rfl) (ev_var 2 rfl (ev_int ⟨_, _, _, rfl, rfl, at0, ev_cal CD (hr.mono (by decide)) (by rfl) (ea_tape 0 rfl (ea_cons (ev_sub (ev_ixT (fun _ _ => rfl) (ev_var 2 rfl (ev_int ⟨_, _, _, rfl, rfl, atI_nat (j := 1) rfl, ev_ixT (fun _ _ => rfl) (ev_var 2 rfl (ev_int ⟨_, _, _, rfl, rfl, at0, ⟨_, _, rfl, rfl, ea_nil ⟨_, rfl, by omega, bigc (by omega), fun v1 h1 e1 => ⟨_, _, rfl, rfl, ?_⟩⟩⟩⟩))⟩))))))⟩))))
    generalize hn : c + v1 = n
    obtain ⟨pe, p0, p1⟩ := sold_price (z := n) ro so (by omega) (by omega)
    refine sv_set 5 scON.nd (ev_meth MT (hr.mono (by decide)) (ev_var 1 rfl ⟨_, rfl, rfl, ea_cons (ev_str (ea_cons (ev_var 4 rfl (ea_nil ⟨ds, _, _, rfl, ro.rules, by simp [words], ?_⟩))))⟩))
    show SvS _ (List.set _ _ (some (.dat (tellsD ds "price" n)))) _ _
    rw [pe]
    generalize hp : numOf (tellsD ds "price" n) = p at p0 p1
    refine sv_set 6 scON.nd (ev_cal CD (hr.mono (by decide)) (by rfl) (ea_tape 0 rfl (ea_cons (ev_add (ev_sub (ev_ten (r := 1000000000000) ⟨by decide, by decide, by decide⟩ (by decide) (ev_var 5 rfl ⟨_, _, rfl, rfl, ev_int ⟨_, _, rfl, rfl, ea_nil ⟨_, rfl, by omega, bigc (by omega), fun more m0 m1 => ?_⟩⟩⟩)))))))
    refine sv_set 7 scON.nd (ev_cal CD (hr.mono (by decide)) (by rfl) (ea_tape 0 rfl (ea_cons (ev_add (ev_var 5 rfl (ev_int ⟨_, _, rfl, rfl, ea_nil ⟨_, rfl, by omega, bigc (by omega), fun fewer f0 f1 => ?_⟩⟩))))))
    have rr : ∀ q, 0 ≤ q → q ≤ 1000000000000 → RuleOk (.tuple [.str "price", .int n, .int n, .int q]) := fun q q0 q1 => price_int (by omega) (by omega) (by omega) q0 q1
    have dl : ∀ q, tellsD (ds ++ [.tuple [.str "price", .int n, .int n, .int q]]) "deal" c = tellsD ds "deal" c := fun q => tells_other d_dp
    have fl : ∀ q, feeOf (ds ++ [.tuple [.str "price", .int n, .int n, .int q]]) c = feeOf ds c := fun q => by unfold feeOf; rw [tells_other d_pf]
    refine sv_set 8 scON.nd (ev_cal CS hr (by rfl) (ea_cons (ev_var 1 rfl (ea_cons (ev_tup (ea_cons (ev_str (ea_cons (ev_var 4 rfl (ea_cons (ev_var 4 rfl (ea_cons (ev_add (ev_var 5 rfl (ev_var 6 rfl ⟨_, _, rfl, rfl, ea_nil ⟨_, rfl, Nat.le_of_ble_eq_true rfl, ea_cons (ev_var 2 rfl (ea_nil ⟨ds, .tuple [.str "price", .int n, .int n, .int (p + more)], c, g, rfl, ro, ld, rr _ (by omega) (by omega), sb, sold_price1 so, fun b1 mk1 => ?_⟩))⟩⟩)))))))))))))))
    refine sv_set 9 scON.nd (ev_cal CS hr (by rfl) (ea_cons (ev_var 1 rfl (ea_cons (ev_tup (ea_cons (ev_str (ea_cons (ev_var 4 rfl (ea_cons (ev_var 4 rfl (ea_cons (ev_sub (ev_var 5 rfl (ev_var 7 rfl ⟨_, _, rfl, rfl, ea_nil ⟨_, rfl, Nat.le_of_ble_eq_true rfl, ea_cons (ev_var 2 rfl (ea_nil ⟨ds, .tuple [.str "price", .int n, .int n, .int (p - fewer)], c, g, rfl, ro, ld, rr _ (by omega) (by omega), sb, sold_price1 so, fun b2 mk2 => ?_⟩))⟩⟩)))))))))))))))
    rw [dl] at mk1 mk2
    have s1 := (night_sums ro so (by omega) (by omega) (by omega) mk mk1).1 (by omega)
    have s2 := (night_sums ro so (by omega) (by omega) (by omega) mk mk2).2 (by omega)
    rw [hp] at s1 s2
    rw [fl, fl]
    refine sv_ret (ev_andP (p := true) (q := true) (fun _ k => ev_lelP rfl (fun _ k => ev_var 3 rfl k) (fun _ k => ev_var 8 rfl k) (fun _ k => ev_add (ev_var 3 rfl (ev_var 6 rfl ⟨_, _, rfl, rfl, k⟩))) ?_) (fun _ _ k => ev_one (ev_lelP rfl (fun _ k => ev_sub (ev_var 3 rfl (ev_var 7 rfl ⟨_, _, rfl, rfl, k⟩))) (fun _ k => ev_var 9 rfl k) (fun _ k => ev_var 3 rfl k) ?_)) q)
    · rw [decide_eq_true (by omega), decide_eq_true (by omega)]; exact k
    · rw [decide_eq_true (by omega), decide_eq_true (by omega)]; exact k
end
theorem deal_ok {c : Int} {many free : Nat} (c0 : 0 ≤ c) (c1 : c ≤ 1000000) (f0 : 0 < free) (fm : free < many) (m1 : many ≤ 14) : RuleOk (.tuple [.str "deal", .int c, .int c, .tuple [.int many, .int free]]) := by
  refine RuleOk.of (by simp [words]) c0 (Int.le_refl _) c1 (by
    rw [worth_deal]
    rw [show dealD (.tuple [.int many, .int free]) = true from ?deal, Bool.or_true]
    case deal =>
      unfold dealD
      simp only [withinD, Bool.and_eq_true, decide_eq_true_eq]
      omega) (Nice.tuple (n := 2000) ⟨fun x hx => ?_, fun x hx => ?_⟩ (by show 2 * (2000 + 2) + 3 ≤ 5000; decide)) (Nat.le_of_ble_eq_true rfl)
  · simp only [List.mem_cons, List.not_mem_nil, or_false] at hx
    rcases hx with rfl | rfl <;> exact nice_int (by omega) (by omega)
  · simp only [List.mem_cons, List.not_mem_nil, or_false] at hx
    rcases hx with rfl | rfl <;> exact Nat.zero_le _
theorem deal_non {c : Int} (c0 : 0 ≤ c) (c1 : c ≤ 1000000) : RuleOk (.tuple [.str "deal", .int c, .int c, .none]) :=
  RuleOk.of (by simp [words]) c0 (Int.le_refl _) c1 (by rw [worth_deal]; rfl) (Nice.none.mono (by decide)) (Nat.zero_le _)
theorem fee_ok {c q : Int} (c0 : 0 ≤ c) (c1 : c ≤ 1000000) (q0 : 0 ≤ q) (q1 : q ≤ 1000000000000) : RuleOk (.tuple [.str "fee", .int c, .int c, .int q]) :=
  RuleOk.of (by simp [words]) c0 (Int.le_refl _) c1 (by rw [worth_fee]; exact within_int q0 q1) ((nice_int (by omega) (by omega)).mono (by decide)) (Nat.zero_le _)
section
variable {P : Program} {w : World} {K : PySem.W.Frag} {mg : Str → Option Value} {base : Heap} {cs : Cs}
theorem scOD : FnScope ["_law_tape_here", "_law_book", "_law_stay_here", "_law_come", "_law_told", "_law_fee", "_law_due", "_law_many", "_law_free", "_law_lesser", "_law_better", "_law_more"] ["_law_tape_here", "_law_book", "_law_stay_here"] (defScope sOD) := ⟨rfl, rfl, rfl, by decide +kernel, rfl, by decide +kernel, by decide +kernel⟩
theorem csOD : CompScope ["_law_tape_here", "_law_book", "_law_stay_here", "_law_come", "_law_told", "_law_fee", "_law_due", "_law_many", "_law_free", "_law_lesser", "_law_better", "_law_more"] (defScope sOD) ["_law_night", "_law_book"] [none, some 1] scODC := ⟨rfl, by decide +kernel, by decide +kernel, by decide +kernel, by decide +kernel, rfl, by decide +kernel⟩
set_option maxHeartbeats 8000000 in
theorem cal_od {f C : Addr} {fd : FuncData} (F : Fun K "_law_other_deal" "_law_other_deal" sOD f fd) (hm : mg "_law_other_deal" = some (.ref f)) (hb : Binds K fd ["_law_tape_here", "_law_book", "_law_stay_here"] []) (nb : NbT mg) (CD : Cal P w K mg base "_law_draw" 1 phDraw) (CB : Cal P w K mg base "bill" 5 (phBillR C cs)) (CS : Cal P w K mg base "_law_sum" 12 (phSum C cs)) (MT : CalM P w K mg base C "tells_of" 2 (phTells C cs)) : Cal P w K mg base "_law_other_deal" 13 (phOther C cs) := by
  refine calA F hm hb scOD (fun as Q h => ?_) (fun cdv A' outer s H E as Q hr h => ?_)
  · obtain ⟨ds, c, g, rfl, _⟩ := h
    rfl
  · obtain ⟨ds, c, g, rfl, ro, ld, sb, so, q⟩ := h
    obtain ⟨c0, cg, g1, g2⟩ := id sb
    refine sv_set 3 scOD.nd (ev_ixT (fun _ _ => rfl) (ev_var 2 rfl (ev_int ⟨_, _, _, rfl, rfl, at0, ?_⟩)))
    refine sv_set 4 scOD.nd (ev_ixT (fun _ _ => rfl) (ev_cal CB (hr.mono (by decide)) (by rfl) (ea_cons (ev_var 1 rfl (ea_cons (ev_var 2 rfl (ea_nil ⟨ds, c, g, rfl, ro, sb, so, fun bs rows mk => ev_int ⟨_, _, _, rfl, rfl, at0, ?_⟩⟩)))))))
    obtain ⟨fe, fe0, fe1⟩ := fee_int ro c
    refine sv_set 5 scOD.nd (ev_meth MT (hr.mono (by decide)) (ev_var 1 rfl ⟨_, rfl, rfl, ea_cons (ev_str (ea_cons (ev_var 3 rfl (ea_nil ⟨ds, _, _, rfl, ro.rules, by simp [words], ?_⟩))))⟩))
    show SvS _ (List.set _ _ (some (.dat (tellsD ds "fee" c)))) _ _
    rw [fe]
    have pn := prs_nonneg ro so
    have pz : ∀ z ∈ prs ds c g, 0 ≤ z := fun z hz => (pn z hz).1
    refine sv_set 6 scOD.nd (ev_add (ev_var 5 rfl (ev_sumI rfl (by rfl) nb.sum (EvL.d (el_lc (pat := .one 0) rfl csOD rfl (fun _ _ _ _ => pg_name (i := 0) csOD.nd rfl (Or.inl rfl)) (ei_range2 (by rfl) nb.range (ev_var 3 rfl (ev_ixT (fun _ _ => rfl) (ev_var 2 rfl (ev_int ⟨_, _, _, rfl, rfl, atI_nat (j := 1) rfl, ⟨_, _, rfl, rfl, ⟨by omega, by omega, by omega, by omega⟩, ?clen, ?comp⟩⟩))))))))))
    case clen => rw [List.length_map, upInts_length]; omega
    refine compW_pure (fun _ => true) (fun d => tellsD ds "price" (numOf d)) (fun d hd => ?_) ?_
    · obtain ⟨z, hz, rfl⟩ := List.mem_map.mp hd
      exact ⟨_, rfl, fun _ _ _ _ _ k => es_nil k, fun _ _ _ _ _ _ k => ev_meth MT (hr.mono (by decide)) (ev_var 1 rfl ⟨_, rfl, rfl, ea_cons (ev_str (ea_cons (ev_var 0 rfl (ea_nil ⟨ds, _, _, rfl, ro.rules, by simp [words], k⟩))))⟩)⟩
    have ep : ([] : List PyData) ++ List.map (fun d => tellsD ds "price" (numOf d)) (List.filter (fun _ => true) (List.map PyData.int (upInts c (g - c).toNat))) = (prs ds c g).map .int := by
      rw [List.nil_append, filt_all, List.map_map]
      unfold prs
      rw [List.map_map]
      refine List.map_congr_left fun z hz => ?_
      have hz := upI_mem.mp hz
      exact (sold_price ro so hz.1 (by omega)).1
    rw [ep]
    refine ⟨prs ds c g, rfl, fun z hz => by have := pn z hz; omega, fits_small pn (by rw [prs_len]; omega), ⟨_, _, rfl, rfl, ?_⟩⟩
    have fl : ∀ v, feeOf (ds ++ [.tuple [.str "deal", .int c, .int c, v]]) c = feeOf ds c := fun v => by unfold feeOf; rw [tells_other d_d_f]
    have pl : ∀ v, prs (ds ++ [.tuple [.str "deal", .int c, .int c, v]]) c g = prs ds c g := fun v => prs_other d_d_p
    have all0 := for_all mk pz
    refine sv_if (EvW.t (ew_orP (p := false) (q := false) (fun _ k => et_neI (ev_cal CS hr (by rfl) (ea_cons (ev_var 1 rfl (ea_cons (ev_tup (ea_cons (ev_str (ea_cons (ev_var 3 rfl (ea_cons (ev_var 3 rfl (ea_cons (ev_non (ea_nil ⟨_, rfl, Nat.le_of_ble_eq_true rfl, ea_cons (ev_var 2 rfl (ea_nil ⟨ds, .tuple [.str "deal", .int c, .int c, .none], c, g, rfl, ro, ld, deal_non c0 (by omega), sb, sold_other d_d_p so, fun b1 mk1 => ev_var 6 rfl ⟨_, _, rfl, rfl, ?s1⟩⟩))⟩))))))))))))))) (fun _ _ k => ew_or1 (et_gt (ev_var 4 rfl (ev_var 6 rfl ⟨_, _, rfl, rfl, ?s2⟩)))) ?_))
    case s1 =>
      rw [tells_this, pl] at mk1
      rw [pl, fl, for_non mk1, show decide ((prs ds c g).sum + feeOf ds c = feeOf ds c + (prs ds c g).sum) = true from decide_eq_true (by omega)]
      exact k
    case s2 =>
      rw [decide_eq_false (by omega)]
      exact k
    refine sv_iteB (fun h => by cases h) (fun _ => sv_nil ?_)
    refine sv_set 7 scOD.nd (ev_add (ev_int (ev_cal CD (hr.mono (by decide)) (by rfl) (ea_tape 0 rfl (ea_cons (ev_int (ea_nil ⟨_, rfl, by decide, by decide, fun v7 h7 g7 => ⟨_, _, rfl, rfl, ?_⟩⟩)))))))
    obtain ⟨many, hmany⟩ := Int.eq_ofNat_of_zero_le (show 0 ≤ 3 + v7 by omega)
    rw [hmany]
    refine sv_set 8 scOD.nd (ev_add (ev_int (ev_cal CD (hr.mono (by decide)) (by rfl) (ea_tape 0 rfl (ea_cons (ev_sub (ev_var 7 rfl (ev_int ⟨_, _, rfl, rfl, ea_nil ⟨_, rfl, by omega, bigc (by omega), fun v8 h8 g8 => ⟨_, _, rfl, rfl, ?_⟩⟩⟩))))))))
    obtain ⟨free, hfree⟩ := Int.eq_ofNat_of_zero_le (show 0 ≤ 1 + v8 by omega)
    rw [hfree]
    refine sv_set 9 scOD.nd (ev_cal CS hr (by rfl) (ea_cons (ev_var 1 rfl (ea_cons (ev_tup (ea_cons (ev_str (ea_cons (ev_var 3 rfl (ea_cons (ev_var 3 rfl (ea_cons (ev_tup (ea_cons (ev_var 7 rfl (ea_cons (ev_var 8 rfl (ea_nil ⟨_, rfl, Nat.le_of_ble_eq_true rfl, ea_nil ⟨_, rfl, Nat.le_of_ble_eq_true rfl, ea_cons (ev_var 2 rfl (ea_nil ⟨ds, .tuple [.str "deal", .int c, .int c, .tuple [.int many, .int free]], c, g, rfl, ro, ld, deal_ok c0 (by omega) (by omega) (by omega) (by omega), sb, sold_other d_d_p so, fun b2 mk2 => ?_⟩))⟩⟩))))))))))))))))))
    refine sv_set 10 scOD.nd (ev_cal CS hr (by rfl) (ea_cons (ev_var 1 rfl (ea_cons (ev_tup (ea_cons (ev_str (ea_cons (ev_var 3 rfl (ea_cons (ev_var 3 rfl (ea_cons (ev_tup (ea_cons (ev_var 7 rfl (ea_cons (ev_add (ev_var 8 rfl (ev_int ⟨_, _, rfl, rfl, ea_nil ⟨_, rfl, Nat.le_of_ble_eq_true rfl, ea_nil ⟨_, rfl, Nat.le_of_ble_eq_true rfl, ea_cons (ev_var 2 rfl (ea_nil ⟨ds, .tuple [.str "deal", .int c, .int c, .tuple [.int many, .int ((free + 1 : Nat) : Int)]], c, g, rfl, ro, ld, deal_ok c0 (by omega) (by omega) (by omega) (by omega), sb, sold_other d_d_p so, fun b3 mk3 => ?_⟩))⟩⟩⟩)))))))))))))))))))
    rw [tells_this, pl] at mk2 mk3
    rw [pl, fl, pl, fl]
    have bt := for_better mk2 mk3 (by omega) (by omega) (by omega) pz
    have al := for_all mk2 pz
    refine sv_set 11 scOD.nd (ev_cal CD (hr.mono (by decide)) (by rfl) (ea_tape 0 rfl (ea_cons (ev_add (ev_sub (ev_ten (r := 1000000000000) ⟨by decide, by decide, by decide⟩ (by decide) (ev_var 5 rfl ⟨_, _, rfl, rfl, ev_int ⟨_, _, rfl, rfl, ea_nil ⟨_, rfl, by omega, bigc (by omega), fun more m0 m1 => ?_⟩⟩⟩)))))))
    refine sv_if (et_not (et_lelP rfl (fun _ k => ev_var 10 rfl k) (fun _ k => ev_var 9 rfl k) (fun _ k => ev_var 6 rfl k) ?_))
    rw [decide_eq_true (by omega), decide_eq_true (by omega)]
    refine sv_iteB (fun h => by cases h) (fun _ => sv_nil ?_)
    refine sv_ret (ev_eqI (ev_cal CS hr (by rfl) (ea_cons (ev_var 1 rfl (ea_cons (ev_tup (ea_cons (ev_str (ea_cons (ev_var 3 rfl (ea_cons (ev_var 3 rfl (ea_cons (ev_add (ev_var 5 rfl (ev_var 11 rfl ⟨_, _, rfl, rfl, ea_nil ⟨_, rfl, Nat.le_of_ble_eq_true rfl, ea_cons (ev_var 2 rfl (ea_nil ⟨ds, .tuple [.str "fee", .int c, .int c, .int (feeOf ds c + more)], c, g, rfl, ro, ld, fee_ok c0 (by omega) (by omega) (by omega), sb, sold_other d_f_p so, fun b4 mk4 => ev_add (ev_var 4 rfl (ev_var 11 rfl ⟨_, _, rfl, rfl, _, _, rfl, rfl, ?_⟩))⟩))⟩⟩))))))))))))))))
    rw [tells_other d_f_d, prs_other d_f_p] at mk4
    rw [prs_other d_f_p]
    have e1 : feeOf (ds ++ [.tuple [.str "fee", .int c, .int c, .int (feeOf ds c + more)]]) c = feeOf ds c + more := by
      show numOf (tellsD _ "fee" c) = _
      rw [tells_this]
      rfl
    have e2 : (paids (prs ds c g) b4).sum = (paids (prs ds c g) bs).sum := by
      have l1 := (for_dearer (e := 0) mk mk4 (t_deal ro.all c) rfl (by omega) (fun _ _ => Int.le_refl _) pz pz)
      omega
    rw [e1, e2, decide_eq_true (by omega)]
    exact q
end
end K34
set_option Elab.async false
set_option linter.all false
set_option maxRecDepth 100000
namespace K34
open PySem PySem.Spec PyProof.Rows L2
theorem pickI {ns : List Int} {v : Int} (h0 : 0 ≤ v) (h1 : v < ns.length) : ∃ n, n ∈ ns ∧ atI (ns.map PyData.int) v = some (.int n) := by
  obtain ⟨j, rfl⟩ := Int.eq_ofNat_of_zero_le h0
  have hj : j < ns.length := by omega
  exact ⟨ns[j], List.getElem_mem hj, atI_nat (by rw [List.getElem?_map, List.getElem?_eq_getElem hj]; rfl)⟩
theorem cut_len (ds : List PyData) (lo hi : Option Int) : (L2.cutD ds lo hi).length ≤ ds.length := by
  unfold L2.cutD
  rw [List.length_take, List.length_drop]
  omega
section
variable {P : Program} {w : World} {K : PySem.W.Frag} {mg : Str → Option Value} {base : Heap} {cs : Cs}
theorem scLa : FnScope ["_law_script", "_law_tape_here", "_law_days", "_law_base", "_law_rules_here", "_law_turn", "_law_stay_here", "_law_price", "_law_more", "_law_book"] ["_law_script"] (defScope sLaw) := ⟨rfl, rfl, rfl, by decide +kernel, rfl, by decide +kernel, by decide +kernel⟩
set_option maxHeartbeats 8000000 in
theorem ok_law {f fT C : Addr} {fd fdT : FuncData} (F : Fun K "law" "law" sLaw f fd) (nb : NbT mg) (GT : FnOk P w K mg base CX0 1 fT fdT ["_law_script"] (spTape K)) (mT : mg "_law_tape" = some (.ref fT)) (kT : PySem.W.keepIn K (.ref fT) = true) (bT : Binds K fdT ["_law_script"] [])
    (CD : Cal P w K mg base "_law_draw" 1 phDraw) (CRF : Cal P w K mg base "_law_rules" 5 phRulesF) (CSt : Cal P w K mg base "_law_stay" 2 phStay) (CK : CalK P w K mg base "Book" 9 [] (phBook C cs)) (CSo : Cal P w K mg base "_law_sold" 11 (phSold C cs)) (CON : Cal P w K mg base "_law_other_night" 13 (phOther C cs)) (COD : Cal P w K mg base "_law_other_deal" 13 (phOther C cs)) :
    FnOk P w K mg base CX0 14 f fd ["_law_script"] (spLaw K) := by
  refine lawA (k := 12) F scLa GT mT kT bT rfl rfl (Or.inl rfl) (Or.inl rfl) (fun cdv A' outer s H E hr => ?_)
  refine sv_set 2 scLa.nd (ev_add (ev_int (ev_cal CD (hr.mono (by decide)) (by rfl) (ea_tape 1 rfl (ea_cons (ev_int (ea_nil ⟨_, rfl, by decide, by decide, fun v9 h9 g9 => ⟨_, _, rfl, rfl, ?_⟩⟩)))))))
  generalize hdy : 4 + v9 = dy
  refine sv_set 3 scLa.nd (EvD.imp (Q' := fun d => ∃ b : Int, d = .int b ∧ 0 ≤ b ∧ b ≤ 999980) ?base ?_)
  case base =>
    refine ev_ixL (fun _ _ => rfl) (EvL.d (el_lst (ea_cons (ev_int (ea_cons (ev_sub (ev_ten (r := 1000000) ⟨by decide, by decide, by decide⟩ (by decide) (ev_int (⟨_, _, rfl, rfl, ea_cons (ev_cal CD (hr.mono (by decide)) (by rfl) (ea_tape 1 rfl (ea_cons (ev_sub (ev_ten (r := 1000000) ⟨by decide, by decide, by decide⟩ (by decide) (ev_int (⟨_, _, rfl, rfl, ea_nil (⟨_, rfl, by decide, by decide, fun v2 h2 g2 => ea_nil (⟨_, rfl, Nat.le_of_ble_eq_true rfl, ev_cal CD (hr.mono (by decide)) (by rfl) (ea_tape 1 rfl (ea_cons (ev_int (ea_nil (⟨_, rfl, by decide, by decide, fun v1 h1 g1 => ?_⟩)))))⟩)⟩)⟩)))))))⟩)))))))))
    obtain ⟨z, hz, e⟩ := pickI (ns := [0, 1000000 - 20, v2]) h1 g1
    refine ⟨_, _, _, rfl, rfl, e, z, rfl, ?_⟩
    simp only [List.mem_cons, List.not_mem_nil, or_false] at hz
    rcases hz with rfl | rfl | rfl <;> omega
  rintro _ ⟨b, rfl, b0, b1⟩
  have bd : Bd b dy := ⟨b0, b1, by omega, by omega⟩
  refine sv_set 4 scLa.nd (EvL.d (el_sl (ev_cal CRF (hr.mono (by decide)) (by rfl) (ea_tape 1 rfl (ea_cons (ev_var 3 rfl (ea_cons (ev_var 2 rfl (ea_nil ⟨b, dy, rfl, bd, fun ds ro ld => eo_none (eo_some (ev_int ⟨_, rfl, ⟨_, rfl, ?_⟩⟩))⟩)))))))))
  have rc : RulesOk (L2.cutD ds none (some 16)) := fun d hd => ro d (mem_cut hd)
  have lc := Nat.le_trans (cut_len ds none (some 16)) ld
  generalize L2.cutD ds none (some 16) = rs at rc lc
  refine sv_for (pat := .one 5) PassesOwn.never rfl (pg_name (i := 5) scLa.nd rfl (by first | exact Or.inl rfl | exact Or.inr rfl)) (ei_range1 (by rfl) nb.range (ev_int (⟨_, rfl, by omega, by omega, ?_⟩)))
  refine loop_inv (fun i α => ∃ o5 o6 o7 o8 o9 : Option A, α = [none, some .tape, some (.dat (.int dy)), some (.dat (.int b)), some (.dat (.list rs)), o5, o6, o7, o8, o9]) ⟨none, none, none, none, none, rfl⟩ ?_ ?_
  · rintro i d α hd ⟨o5, o6, o7, o8, o9, rfl⟩
    refine ⟨_, rfl, ?_⟩
    refine sv_set 6 scLa.nd (ev_cal CSt (hr.mono (by decide)) (by rfl) (ea_tape 1 rfl (ea_cons (ev_var 3 rfl (ea_cons (ev_var 2 rfl (ea_nil ⟨b, dy, rfl, bd, fun c g hc hcg hg => ?_⟩)))))))
    have sb : StayB c g := ⟨by omega, hcg, by omega, by omega⟩
    refine sv_set 7 scLa.nd (ev_cal CD (hr.mono (by decide)) (by rfl) (ea_tape 1 rfl (ea_cons (ev_int (ea_nil ⟨_, rfl, by decide, by decide, fun v5 h5 g5 => ?_⟩)))))
    refine sv_set 8 scLa.nd (EvL.d (el_sl (EvL.d (el_lst (ea_cons (ev_tup (ea_cons (ev_str (ea_cons (ev_ixT (fun _ _ => rfl) (ev_var 6 rfl (ev_int ⟨_, _, _, rfl, rfl, at0, ea_cons (ev_sub (ev_ixT (fun _ _ => rfl) (ev_var 6 rfl (ev_int ⟨_, _, _, rfl, rfl, atI_nat (j := 1) rfl, ev_int ⟨_, _, rfl, rfl, ea_cons (ev_var 7 rfl (ea_nil ⟨_, rfl, Nat.le_of_ble_eq_true rfl, ea_nil ⟨_, rfl, Nat.le_of_ble_eq_true rfl, eo_none (eo_some (ev_cal CD (hr.mono (by decide)) (by rfl) (ea_tape 1 rfl (ea_cons (ev_int (ea_nil ⟨_, rfl, by decide, by decide, fun v6 h6 g6 => ⟨_, rfl, ⟨_, rfl, ?_⟩⟩⟩)))))) ⟩⟩))⟩⟩))))⟩))))))))))))
    have rm : RulesOk (L2.cutD [.tuple [.str "price", .int c, .int (g - 1), .int v5]] none (some v6)) := fun d hd => by
      rw [List.mem_singleton.mp (mem_cut hd)]
      exact price_int (by omega) (by omega) (by omega) (by omega) (by omega)
    have lm := cut_len [.tuple [.str "price", .int c, .int (g - 1), .int v5]] none (some v6)
    show SvS _ (List.set _ _ (some (.dat (.list (L2.cutD [.tuple [.str "price", .int c, .int (g - 1), .int v5]] none (some v6)))))) _ _
    generalize L2.cutD [.tuple [.str "price", .int c, .int (g - 1), .int v5]] none (some v6) = ms at rm lm
    have lm : ms.length ≤ 1 := lm
    refine sv_set 9 scLa.nd (ev_cal CSo (hr.mono (by decide)) (by rfl) (ea_cons (EvN.d (en_make CK (hr.mono (by decide)) (by rfl) (ea_cons (EvL.d (el_cat (ev_var 4 rfl (ev_var 8 rfl ⟨_, _, rfl, rfl, by omega, ea_nil ⟨rs ++ ms, .inl rfl, (rc.app rm).rules, by rw [List.length_append]; omega, ea_cons (ev_var 6 rfl (ea_nil ⟨rs ++ ms, c, g, rfl, rc.app rm, by rw [List.length_append]; omega, sb, fun es re le se => ?_⟩))⟩⟩)))))))))
    refine sv_if (EvW.t (ew_orP (p := false) (q := false) (fun _ k => et_not (et_val (ev_cal CON hr (by rfl) (ea_tape 1 rfl (ea_cons (ev_var 9 rfl (ea_cons (ev_var 6 rfl (ea_nil ⟨es, c, g, rfl, re, le, sb, se, ⟨_, rfl, k⟩⟩))))))))) (fun _ _ k => ew_or1 (et_not (et_val (ev_cal COD hr (by rfl) (ea_tape 1 rfl (ea_cons (ev_var 9 rfl (ea_cons (ev_var 6 rfl (ea_nil ⟨es, c, g, rfl, re, le, sb, se, ⟨_, rfl, k⟩⟩)))))))))) ?_))
    exact sv_iteB (fun h => by cases h) (fun _ => sv_nil (sv_nil ⟨_, _, _, _, _, rfl⟩))
  · rintro α ⟨o5, o6, o7, o8, o9, rfl⟩
    exact sv_ret (ev_bl rfl)
end
end K34
set_option Elab.async false
set_option linter.all false
set_option maxRecDepth 100000
/-! ### what the top has written, and the law's own head -/
namespace K34
open PySem PySem.Spec PyProof.Rows L2
theorem binds_def {K : PySem.W.Frag} {dT : Addr} {oc kV doc pm cdv ct : Value} {od an : Option Addr} {n : Nat} {sl : Array (Option Value)} (lk : K.lookup dT = some ⟨oc, od, .seq #[.none] n, sl⟩) :
    Binds K (PySem.W.fnOf "__init__" "Book.__init__" (defArgs sBInit) (defBody sBInit) (defScope sBInit) (.ref dT) kV doc pm an cdv ct) ["self", "rules"] [.none] := fun s us hk hl => by
  match us, (show us.length = 1 by rw [List.length_append] at hl; simpa using hl) with
  | [u], _ => exact BindsTo.of_defaults (T := dT) rfl (hk _ _ lk) rfl rfl rfl
theorem binds_all {K : PySem.W.Frag} {dT : Addr} {oc kV doc pm cdv ct : Value} {od an : Option Addr} {n : Nat} {sl : Array (Option Value)} (lk : K.lookup dT = some ⟨oc, od, .seq #[.none] n, sl⟩) :
    Binds K (PySem.W.fnOf "__init__" "Book.__init__" (defArgs sBInit) (defBody sBInit) (defScope sBInit) (.ref dT) kV doc pm an cdv ct) ["self", "rules"] [] := fun s us hk hl => by
  rw [List.append_nil] at hl ⊢
  match us, hl with
  | [u, v], _ => exact BindsTo.of_defaults (T := dT) rfl (hk _ _ lk) rfl rfl rfl
set_option maxHeartbeats 8000000 in
theorem all_mk {l : PySem.W.OpenLaw} {w : World} {K : PySem.W.Frag} {h : Heap} {mg : Str → Option Value} {fa cC f1 f2 f3 f4 f5 f6 f7 f8 f9 f10 f11 f12 f13 f14 f15 f16 f17 f18 f19 f20 f21 f22 f23 f24 f25 f26 f27 f28 f29 f30 f31 f32 f33 g_init g_told g_tells g_wPrice g_wCome g_wGo g_wLeast g_wMost g_wDeal g_wFee CPrice CCome CGo CLeast CMost CDeal CFee CB dT g_binit g_brules g_btells : Addr} (X : K.In h) (G : h.Ns mainGlobals mg) (hfa : mg "law" = some (.ref fa))
    {od1 an1 od2 an2 od3 an3 od4 an4 od5 an5 od6 an6 od7 an7 od8 an8 od9 an9 od10 an10 od11 an11 od12 an12 od13 an13 od14 an14 od15 an15 od16 an16 od17 an17 od18 an18 od19 an19 od20 an20 od21 an21 od22 an22 od23 an23 od24 an24 od25 an25 od26 an26 od27 an27 od28 an28 od29 an29 od30 an30 od31 an31 od32 an32 od33 an33 od_init an_init od_told an_told od_tells an_tells od_wPrice an_wPrice od_wCome an_wCome od_wGo an_wGo od_wLeast an_wLeast od_wMost an_wMost od_wDeal an_wDeal od_wFee an_wFee od_binit an_binit od_brules an_brules od_btells an_btells odT : Option Addr} {sl1 sl2 sl3 sl4 sl5 sl6 sl7 sl8 sl9 sl10 sl11 sl12 sl13 sl14 sl15 sl16 sl17 sl18 sl19 sl20 sl21 sl22 sl23 sl24 sl25 sl26 sl27 sl28 sl29 sl30 sl31 sl32 sl33 sl_init sl_told sl_tells sl_wPrice sl_wCome sl_wGo sl_wLeast sl_wMost sl_wDeal sl_wFee sl_binit sl_brules sl_btells slT : Array (Option Value)} {oc1 kV1 dc1 pm1 cd1 ct1 oc2 kV2 dc2 pm2 cd2 ct2 oc3 kV3 dc3 pm3 cd3 ct3 oc4 kV4 dc4 pm4 cd4 ct4 oc5 kV5 dc5 pm5 cd5 ct5 oc6 kV6 dc6 pm6 cd6 ct6 oc7 kV7 dc7 pm7 cd7 ct7 oc8 kV8 dc8 pm8 cd8 ct8 oc9 kV9 dc9 pm9 cd9 ct9 oc10 kV10 dc10 pm10 cd10 ct10 oc11 kV11 dc11 pm11 cd11 ct11 oc12 kV12 dc12 pm12 cd12 ct12 oc13 kV13 dc13 pm13 cd13 ct13 oc14 kV14 dc14 pm14 cd14 ct14 oc15 kV15 dc15 pm15 cd15 ct15 oc16 kV16 dc16 pm16 ct16 oc17 kV17 dc17 pm17 cd17 ct17 oc18 kV18 dc18 pm18 cd18 ct18 oc19 kV19 dc19 pm19 cd19 ct19 oc20 kV20 dc20 pm20 cd20 ct20 oc21 kV21 dc21 pm21 cd21 ct21 oc22 kV22 dc22 pm22 cd22 ct22 oc23 kV23 dc23 pm23 cd23 ct23 oc24 kV24 dc24 pm24 cd24 ct24 oc25 kV25 dc25 pm25 cd25 ct25 oc26 kV26 dc26 pm26 cd26 ct26 oc27 kV27 dc27 pm27 cd27 ct27 oc28 kV28 dc28 pm28 cd28 ct28 oc29 kV29 dc29 pm29 cd29 ct29 oc30 kV30 dc30 pm30 cd30 ct30 oc31 kV31 dc31 pm31 cd31 ct31 oc32 kV32 dc32 pm32 cd32 ct32 oc33 kV33 dc33 pm33 cd33 ct33 oc_init kV_init dc_init pm_init cd_init ct_init oc_told kV_told dc_told pm_told cd_told ct_told oc_tells kV_tells dc_tells pm_tells cd_tells ct_tells oc_wPrice kV_wPrice dc_wPrice pm_wPrice cd_wPrice ct_wPrice oc_wCome kV_wCome dc_wCome pm_wCome cd_wCome ct_wCome oc_wGo kV_wGo dc_wGo pm_wGo cd_wGo ct_wGo oc_wLeast kV_wLeast dc_wLeast pm_wLeast cd_wLeast ct_wLeast oc_wMost kV_wMost dc_wMost pm_wMost cd_wMost ct_wMost oc_wDeal kV_wDeal dc_wDeal pm_wDeal cd_wDeal ct_wDeal oc_wFee kV_wFee dc_wFee pm_wFee cd_wFee ct_wFee oc_binit kV_binit dc_binit pm_binit cd_binit ct_binit oc_brules kV_brules dc_brules pm_brules cd_brules ct_brules oc_btells kV_btells dc_btells pm_btells cd_btells ct_btells ocT : Value} {tk1 tk2 tk3 tk4 : Tok} {nT : Nat} {dU : Addr} {hu1 hu2 hu3 hu4 hu5 hu6 hu7 : Int} {tu1 tu2 tu3 tu4 tu5 tu6 tu7 tu8 tu9 tu10 : Tok} {nU : Nat}
    (a1 : PySem.W.nsIn K mainGlobals "is_whole" = some (some (.ref f1)))
    (l1 : K.lookup f1 = some ⟨oc1, od1, .func (PySem.W.fnOf "is_whole" "is_whole" (defArgs sWhole) (defBody sWhole) (defScope sWhole) .none kV1 dc1 pm1 an1 cd1 ct1), sl1⟩)
    (c1 : PySem.W.codeIn K cd1 "is_whole" = true)
    (k1 : PySem.W.keepIn K (.ref f1) = true)
    (a2 : PySem.W.nsIn K mainGlobals "is_whole_within" = some (some (.ref f2)))
    (l2 : K.lookup f2 = some ⟨oc2, od2, .func (PySem.W.fnOf "is_whole_within" "is_whole_within" (defArgs sWithin) (defBody sWithin) (defScope sWithin) .none kV2 dc2 pm2 an2 cd2 ct2), sl2⟩)
    (c2 : PySem.W.codeIn K cd2 "is_whole_within" = true)
    (k2 : PySem.W.keepIn K (.ref f2) = true)
    (a3 : PySem.W.nsIn K mainGlobals "is_pair" = some (some (.ref f3)))
    (l3 : K.lookup f3 = some ⟨oc3, od3, .func (PySem.W.fnOf "is_pair" "is_pair" (defArgs sPair) (defBody sPair) (defScope sPair) .none kV3 dc3 pm3 an3 cd3 ct3), sl3⟩)
    (c3 : PySem.W.codeIn K cd3 "is_pair" = true)
    (k3 : PySem.W.keepIn K (.ref f3) = true)
    (a4 : PySem.W.nsIn K mainGlobals "is_day" = some (some (.ref f4)))
    (l4 : K.lookup f4 = some ⟨oc4, od4, .func (PySem.W.fnOf "is_day" "is_day" (defArgs sDay) (defBody sDay) (defScope sDay) .none kV4 dc4 pm4 an4 cd4 ct4), sl4⟩)
    (c4 : PySem.W.codeIn K cd4 "is_day" = true)
    (k4 : PySem.W.keepIn K (.ref f4) = true)
    (a5 : PySem.W.nsIn K mainGlobals "is_pair_of_days" = some (some (.ref f5)))
    (l5 : K.lookup f5 = some ⟨oc5, od5, .func (PySem.W.fnOf "is_pair_of_days" "is_pair_of_days" (defArgs sDays) (defBody sDays) (defScope sDays) .none kV5 dc5 pm5 an5 cd5 ct5), sl5⟩)
    (c5 : PySem.W.codeIn K cd5 "is_pair_of_days" = true)
    (k5 : PySem.W.keepIn K (.ref f5) = true)
    (a6 : PySem.W.nsIn K mainGlobals "is_stretch" = some (some (.ref f6)))
    (l6 : K.lookup f6 = some ⟨oc6, od6, .func (PySem.W.fnOf "is_stretch" "is_stretch" (defArgs sStretch) (defBody sStretch) (defScope sStretch) .none kV6 dc6 pm6 an6 cd6 ct6), sl6⟩)
    (c6 : PySem.W.codeIn K cd6 "is_stretch" = true)
    (k6 : PySem.W.keepIn K (.ref f6) = true)
    (a7 : PySem.W.nsIn K mainGlobals "is_coins" = some (some (.ref f7)))
    (l7 : K.lookup f7 = some ⟨oc7, od7, .func (PySem.W.fnOf "is_coins" "is_coins" (defArgs sCoins) (defBody sCoins) (defScope sCoins) .none kV7 dc7 pm7 an7 cd7 ct7), sl7⟩)
    (c7 : PySem.W.codeIn K cd7 "is_coins" = true)
    (k7 : PySem.W.keepIn K (.ref f7) = true)
    (a8 : PySem.W.nsIn K mainGlobals "is_deal" = some (some (.ref f8)))
    (l8 : K.lookup f8 = some ⟨oc8, od8, .func (PySem.W.fnOf "is_deal" "is_deal" (defArgs sIsDeal) (defBody sIsDeal) (defScope sIsDeal) .none kV8 dc8 pm8 an8 cd8 ct8), sl8⟩)
    (c8 : PySem.W.codeIn K cd8 "is_deal" = true)
    (k8 : PySem.W.keepIn K (.ref f8) = true)
    (a9 : PySem.W.nsIn K mainGlobals "is_worth" = some (some (.ref f9)))
    (l9 : K.lookup f9 = some ⟨oc9, od9, .func (PySem.W.fnOf "is_worth" "is_worth" (defArgs sWorth) (defBody sWorth) (defScope sWorth) .none kV9 dc9 pm9 an9 cd9 ct9), sl9⟩)
    (c9 : PySem.W.codeIn K cd9 "is_worth" = true)
    (k9 : PySem.W.keepIn K (.ref f9) = true)
    (a10 : PySem.W.nsIn K mainGlobals "is_rule" = some (some (.ref f10)))
    (l10 : K.lookup f10 = some ⟨oc10, od10, .func (PySem.W.fnOf "is_rule" "is_rule" (defArgs sIsRule) (defBody sIsRule) (defScope sIsRule) .none kV10 dc10 pm10 an10 cd10 ct10), sl10⟩)
    (c10 : PySem.W.codeIn K cd10 "is_rule" = true)
    (k10 : PySem.W.keepIn K (.ref f10) = true)
    (a11 : PySem.W.nsIn K mainGlobals "made" = some (some (.ref f11)))
    (l11 : K.lookup f11 = some ⟨oc11, od11, .func (PySem.W.fnOf "made" "made" (defArgs sMade) (defBody sMade) (defScope sMade) .none kV11 dc11 pm11 an11 cd11 ct11), sl11⟩)
    (c11 : PySem.W.codeIn K cd11 "made" = true)
    (k11 : PySem.W.keepIn K (.ref f11) = true)
    (a12 : PySem.W.nsIn K mainGlobals "rule_of" = some (some (.ref f12)))
    (l12 : K.lookup f12 = some ⟨oc12, od12, .func (PySem.W.fnOf "rule_of" "rule_of" (defArgs sRuleOf) (defBody sRuleOf) (defScope sRuleOf) .none kV12 dc12 pm12 an12 cd12 ct12), sl12⟩)
    (c12 : PySem.W.codeIn K cd12 "rule_of" = true)
    (k12 : PySem.W.keepIn K (.ref f12) = true)
    (a13 : PySem.W.nsIn K mainGlobals "usual" = some (some (.ref f13)))
    (l13 : K.lookup f13 = some ⟨oc13, od13, .func (PySem.W.fnOf "usual" "usual" (defArgs sUsual) (defBody sUsual) (defScope sUsual) .none kV13 dc13 pm13 an13 cd13 ct13), sl13⟩)
    (c13 : PySem.W.codeIn K cd13 "usual" = true)
    (k13 : PySem.W.keepIn K (.ref f13) = true)
    (a14 : PySem.W.nsIn K mainGlobals "kept_rules" = some (some (.ref f14)))
    (l14 : K.lookup f14 = some ⟨oc14, od14, .func (PySem.W.fnOf "kept_rules" "kept_rules" (defArgs sKept) (defBody sKept) (defScope sKept) .none kV14 dc14 pm14 an14 cd14 ct14), sl14⟩)
    (c14 : PySem.W.codeIn K cd14 "kept_rules" = true)
    (k14 : PySem.W.keepIn K (.ref f14) = true)
    (a15 : PySem.W.nsIn K mainGlobals "nights_of" = some (some (.ref f15)))
    (l15 : K.lookup f15 = some ⟨oc15, od15, .func (PySem.W.fnOf "nights_of" "nights_of" (defArgs sNights) (defBody sNights) (defScope sNights) .none kV15 dc15 pm15 an15 cd15 ct15), sl15⟩)
    (c15 : PySem.W.codeIn K cd15 "nights_of" = true)
    (k15 : PySem.W.keepIn K (.ref f15) = true)
    (a16 : PySem.W.nsIn K mainGlobals "cheapest_first" = some (some (.ref f16)))
    (l16 : K.lookup f16 = some ⟨oc16, od16, .func (PySem.W.fnOf "cheapest_first" "cheapest_first" (defArgs sCheap) (defBody sCheap) (defScope sCheap) .none kV16 dc16 pm16 an16 (.ref cC) ct16), sl16⟩)
    (c16 : PySem.W.codeIn K (.ref cC) "cheapest_first" = true)
    (k16 : PySem.W.keepIn K (.ref f16) = true)
    (a17 : PySem.W.nsIn K mainGlobals "marked" = some (some (.ref f17)))
    (l17 : K.lookup f17 = some ⟨oc17, od17, .func (PySem.W.fnOf "marked" "marked" (defArgs sMarked) (defBody sMarked) (defScope sMarked) .none kV17 dc17 pm17 an17 cd17 ct17), sl17⟩)
    (c17 : PySem.W.codeIn K cd17 "marked" = true)
    (k17 : PySem.W.keepIn K (.ref f17) = true)
    (a18 : PySem.W.nsIn K mainGlobals "night_prices" = some (some (.ref f18)))
    (l18 : K.lookup f18 = some ⟨oc18, od18, .func (PySem.W.fnOf "night_prices" "night_prices" (defArgs sNP) (defBody sNP) (defScope sNP) .none kV18 dc18 pm18 an18 cd18 ct18), sl18⟩)
    (c18 : PySem.W.codeIn K cd18 "night_prices" = true)
    (k18 : PySem.W.keepIn K (.ref f18) = true)
    (a19 : PySem.W.nsIn K mainGlobals "bill" = some (some (.ref f19)))
    (l19 : K.lookup f19 = some ⟨oc19, od19, .func (PySem.W.fnOf "bill" "bill" (defArgs sBill) (defBody sBill) (defScope sBill) .none kV19 dc19 pm19 an19 cd19 ct19), sl19⟩)
    (c19 : PySem.W.codeIn K cd19 "bill" = true)
    (k19 : PySem.W.keepIn K (.ref f19) = true)
    (a20 : PySem.W.nsIn K mainGlobals "laid" = some (some (.ref f20)))
    (l20 : K.lookup f20 = some ⟨oc20, od20, .func (PySem.W.fnOf "laid" "laid" (defArgs sLaid) (defBody sLaid) (defScope sLaid) .none kV20 dc20 pm20 an20 cd20 ct20), sl20⟩)
    (c20 : PySem.W.codeIn K cd20 "laid" = true)
    (k20 : PySem.W.keepIn K (.ref f20) = true)
    (a21 : PySem.W.nsIn K mainGlobals "_law_tape" = some (some (.ref f21)))
    (l21 : K.lookup f21 = some ⟨oc21, od21, .func (PySem.W.fnOf "_law_tape" "_law_tape" (defArgs sTape) (defBody sTape) (defScope sTape) .none kV21 dc21 pm21 an21 cd21 ct21), sl21⟩)
    (c21 : PySem.W.codeIn K cd21 "_law_tape" = true)
    (k21 : PySem.W.keepIn K (.ref f21) = true)
    (a22 : PySem.W.nsIn K mainGlobals "_law_draw" = some (some (.ref f22)))
    (l22 : K.lookup f22 = some ⟨oc22, od22, .func (PySem.W.fnOf "_law_draw" "_law_draw" (defArgs sDraw) (defBody sDraw) (defScope sDraw) .none kV22 dc22 pm22 an22 cd22 ct22), sl22⟩)
    (c22 : PySem.W.codeIn K cd22 "_law_draw" = true)
    (k22 : PySem.W.keepIn K (.ref f22) = true)
    (a23 : PySem.W.nsIn K mainGlobals "_law_coins" = some (some (.ref f23)))
    (l23 : K.lookup f23 = some ⟨oc23, od23, .func (PySem.W.fnOf "_law_coins" "_law_coins" (defArgs sLCoins) (defBody sLCoins) (defScope sLCoins) .none kV23 dc23 pm23 an23 cd23 ct23), sl23⟩)
    (c23 : PySem.W.codeIn K cd23 "_law_coins" = true)
    (k23 : PySem.W.keepIn K (.ref f23) = true)
    (a24 : PySem.W.nsIn K mainGlobals "_law_worth" = some (some (.ref f24)))
    (l24 : K.lookup f24 = some ⟨oc24, od24, .func (PySem.W.fnOf "_law_worth" "_law_worth" (defArgs sLWorth) (defBody sLWorth) (defScope sLWorth) .none kV24 dc24 pm24 an24 cd24 ct24), sl24⟩)
    (c24 : PySem.W.codeIn K cd24 "_law_worth" = true)
    (k24 : PySem.W.keepIn K (.ref f24) = true)
    (a25 : PySem.W.nsIn K mainGlobals "_law_price_rules" = some (some (.ref f25)))
    (l25 : K.lookup f25 = some ⟨oc25, od25, .func (PySem.W.fnOf "_law_price_rules" "_law_price_rules" (defArgs sPriceR) (defBody sPriceR) (defScope sPriceR) .none kV25 dc25 pm25 an25 cd25 ct25), sl25⟩)
    (c25 : PySem.W.codeIn K cd25 "_law_price_rules" = true)
    (k25 : PySem.W.keepIn K (.ref f25) = true)
    (a26 : PySem.W.nsIn K mainGlobals "_law_other_rules" = some (some (.ref f26)))
    (l26 : K.lookup f26 = some ⟨oc26, od26, .func (PySem.W.fnOf "_law_other_rules" "_law_other_rules" (defArgs sOtherR) (defBody sOtherR) (defScope sOtherR) .none kV26 dc26 pm26 an26 cd26 ct26), sl26⟩)
    (c26 : PySem.W.codeIn K cd26 "_law_other_rules" = true)
    (k26 : PySem.W.keepIn K (.ref f26) = true)
    (a27 : PySem.W.nsIn K mainGlobals "_law_rules" = some (some (.ref f27)))
    (l27 : K.lookup f27 = some ⟨oc27, od27, .func (PySem.W.fnOf "_law_rules" "_law_rules" (defArgs sRulesF) (defBody sRulesF) (defScope sRulesF) .none kV27 dc27 pm27 an27 cd27 ct27), sl27⟩)
    (c27 : PySem.W.codeIn K cd27 "_law_rules" = true)
    (k27 : PySem.W.keepIn K (.ref f27) = true)
    (a28 : PySem.W.nsIn K mainGlobals "_law_stay" = some (some (.ref f28)))
    (l28 : K.lookup f28 = some ⟨oc28, od28, .func (PySem.W.fnOf "_law_stay" "_law_stay" (defArgs sStay) (defBody sStay) (defScope sStay) .none kV28 dc28 pm28 an28 cd28 ct28), sl28⟩)
    (c28 : PySem.W.codeIn K cd28 "_law_stay" = true)
    (k28 : PySem.W.keepIn K (.ref f28) = true)
    (a29 : PySem.W.nsIn K mainGlobals "_law_sold" = some (some (.ref f29)))
    (l29 : K.lookup f29 = some ⟨oc29, od29, .func (PySem.W.fnOf "_law_sold" "_law_sold" (defArgs sSold) (defBody sSold) (defScope sSold) .none kV29 dc29 pm29 an29 cd29 ct29), sl29⟩)
    (c29 : PySem.W.codeIn K cd29 "_law_sold" = true)
    (k29 : PySem.W.keepIn K (.ref f29) = true)
    (a30 : PySem.W.nsIn K mainGlobals "_law_sum" = some (some (.ref f30)))
    (l30 : K.lookup f30 = some ⟨oc30, od30, .func (PySem.W.fnOf "_law_sum" "_law_sum" (defArgs sSum) (defBody sSum) (defScope sSum) .none kV30 dc30 pm30 an30 cd30 ct30), sl30⟩)
    (c30 : PySem.W.codeIn K cd30 "_law_sum" = true)
    (k30 : PySem.W.keepIn K (.ref f30) = true)
    (a31 : PySem.W.nsIn K mainGlobals "_law_other_night" = some (some (.ref f31)))
    (l31 : K.lookup f31 = some ⟨oc31, od31, .func (PySem.W.fnOf "_law_other_night" "_law_other_night" (defArgs sON) (defBody sON) (defScope sON) .none kV31 dc31 pm31 an31 cd31 ct31), sl31⟩)
    (c31 : PySem.W.codeIn K cd31 "_law_other_night" = true)
    (k31 : PySem.W.keepIn K (.ref f31) = true)
    (a32 : PySem.W.nsIn K mainGlobals "_law_other_deal" = some (some (.ref f32)))
    (l32 : K.lookup f32 = some ⟨oc32, od32, .func (PySem.W.fnOf "_law_other_deal" "_law_other_deal" (defArgs sOD) (defBody sOD) (defScope sOD) .none kV32 dc32 pm32 an32 cd32 ct32), sl32⟩)
    (c32 : PySem.W.codeIn K cd32 "_law_other_deal" = true)
    (k32 : PySem.W.keepIn K (.ref f32) = true)
    (a33 : PySem.W.nsIn K mainGlobals "law" = some (some (.ref f33)))
    (l33 : K.lookup f33 = some ⟨oc33, od33, .func (PySem.W.fnOf "law" "law" (defArgs sLaw) (defBody sLaw) (defScope sLaw) .none kV33 dc33 pm33 an33 cd33 ct33), sl33⟩)
    (c33 : PySem.W.codeIn K cd33 "law" = true)
    (k33 : PySem.W.keepIn K (.ref f33) = true)
    (aCPrice : PySem.W.nsIn K mainGlobals "Price" = some (some (.ref CPrice)))
    (aCCome : PySem.W.nsIn K mainGlobals "Come" = some (some (.ref CCome)))
    (aCGo : PySem.W.nsIn K mainGlobals "Go" = some (some (.ref CGo)))
    (aCLeast : PySem.W.nsIn K mainGlobals "Least" = some (some (.ref CLeast)))
    (aCMost : PySem.W.nsIn K mainGlobals "Most" = some (some (.ref CMost)))
    (aCDeal : PySem.W.nsIn K mainGlobals "Deal" = some (some (.ref CDeal)))
    (aCFee : PySem.W.nsIn K mainGlobals "Fee" = some (some (.ref CFee)))
    (fi_init : PySem.W.findIn K (.ref CPrice) "__init__" = some (some (.ref g_init)))
    (is_init : PySem.W.isFn K (.ref g_init) = true)
    (l_init : K.lookup g_init = some ⟨oc_init, od_init, .func (PySem.W.fnOf "__init__" "Rule.__init__" (defArgs sInit) (defBody sInit) (defScope sInit) .none kV_init dc_init pm_init an_init cd_init ct_init), sl_init⟩)
    (c_init : PySem.W.codeIn K cd_init "Rule.__init__" = true)
    (k_init : PySem.W.keepIn K (.ref g_init) = true)
    (fi_told : PySem.W.findIn K (.ref CPrice) "told" = some (some (.ref g_told)))
    (is_told : PySem.W.isFn K (.ref g_told) = true)
    (l_told : K.lookup g_told = some ⟨oc_told, od_told, .func (PySem.W.fnOf "told" "Rule.told" (defArgs sTold) (defBody sTold) (defScope sTold) .none kV_told dc_told pm_told an_told cd_told ct_told), sl_told⟩)
    (c_told : PySem.W.codeIn K cd_told "Rule.told" = true)
    (k_told : PySem.W.keepIn K (.ref g_told) = true)
    (fi_tells : PySem.W.findIn K (.ref CPrice) "tells" = some (some (.ref g_tells)))
    (is_tells : PySem.W.isFn K (.ref g_tells) = true)
    (l_tells : K.lookup g_tells = some ⟨oc_tells, od_tells, .func (PySem.W.fnOf "tells" "Rule.tells" (defArgs sTells) (defBody sTells) (defScope sTells) .none kV_tells dc_tells pm_tells an_tells cd_tells ct_tells), sl_tells⟩)
    (c_tells : PySem.W.codeIn K cd_tells "Rule.tells" = true)
    (k_tells : PySem.W.keepIn K (.ref g_tells) = true)
    (fi_wPrice : PySem.W.findIn K (.ref CPrice) "word" = some (some (.ref g_wPrice)))
    (is_wPrice : PySem.W.isFn K (.ref g_wPrice) = true)
    (l_wPrice : K.lookup g_wPrice = some ⟨oc_wPrice, od_wPrice, .func (PySem.W.fnOf "word" "Price.word" (defArgs sWPrice) (defBody sWPrice) (defScope sWPrice) .none kV_wPrice dc_wPrice pm_wPrice an_wPrice cd_wPrice ct_wPrice), sl_wPrice⟩)
    (c_wPrice : PySem.W.codeIn K cd_wPrice "Price.word" = true)
    (k_wPrice : PySem.W.keepIn K (.ref g_wPrice) = true)
    (fi_wCome : PySem.W.findIn K (.ref CCome) "word" = some (some (.ref g_wCome)))
    (is_wCome : PySem.W.isFn K (.ref g_wCome) = true)
    (l_wCome : K.lookup g_wCome = some ⟨oc_wCome, od_wCome, .func (PySem.W.fnOf "word" "Come.word" (defArgs sWCome) (defBody sWCome) (defScope sWCome) .none kV_wCome dc_wCome pm_wCome an_wCome cd_wCome ct_wCome), sl_wCome⟩)
    (c_wCome : PySem.W.codeIn K cd_wCome "Come.word" = true)
    (k_wCome : PySem.W.keepIn K (.ref g_wCome) = true)
    (fi_wGo : PySem.W.findIn K (.ref CGo) "word" = some (some (.ref g_wGo)))
    (is_wGo : PySem.W.isFn K (.ref g_wGo) = true)
    (l_wGo : K.lookup g_wGo = some ⟨oc_wGo, od_wGo, .func (PySem.W.fnOf "word" "Go.word" (defArgs sWGo) (defBody sWGo) (defScope sWGo) .none kV_wGo dc_wGo pm_wGo an_wGo cd_wGo ct_wGo), sl_wGo⟩)
    (c_wGo : PySem.W.codeIn K cd_wGo "Go.word" = true)
    (k_wGo : PySem.W.keepIn K (.ref g_wGo) = true)
    (fi_wLeast : PySem.W.findIn K (.ref CLeast) "word" = some (some (.ref g_wLeast)))
    (is_wLeast : PySem.W.isFn K (.ref g_wLeast) = true)
    (l_wLeast : K.lookup g_wLeast = some ⟨oc_wLeast, od_wLeast, .func (PySem.W.fnOf "word" "Least.word" (defArgs sWLeast) (defBody sWLeast) (defScope sWLeast) .none kV_wLeast dc_wLeast pm_wLeast an_wLeast cd_wLeast ct_wLeast), sl_wLeast⟩)
    (c_wLeast : PySem.W.codeIn K cd_wLeast "Least.word" = true)
    (k_wLeast : PySem.W.keepIn K (.ref g_wLeast) = true)
    (fi_wMost : PySem.W.findIn K (.ref CMost) "word" = some (some (.ref g_wMost)))
    (is_wMost : PySem.W.isFn K (.ref g_wMost) = true)
    (l_wMost : K.lookup g_wMost = some ⟨oc_wMost, od_wMost, .func (PySem.W.fnOf "word" "Most.word" (defArgs sWMost) (defBody sWMost) (defScope sWMost) .none kV_wMost dc_wMost pm_wMost an_wMost cd_wMost ct_wMost), sl_wMost⟩)
    (c_wMost : PySem.W.codeIn K cd_wMost "Most.word" = true)
    (k_wMost : PySem.W.keepIn K (.ref g_wMost) = true)
    (fi_wDeal : PySem.W.findIn K (.ref CDeal) "word" = some (some (.ref g_wDeal)))
    (is_wDeal : PySem.W.isFn K (.ref g_wDeal) = true)
    (l_wDeal : K.lookup g_wDeal = some ⟨oc_wDeal, od_wDeal, .func (PySem.W.fnOf "word" "Deal.word" (defArgs sWDeal) (defBody sWDeal) (defScope sWDeal) .none kV_wDeal dc_wDeal pm_wDeal an_wDeal cd_wDeal ct_wDeal), sl_wDeal⟩)
    (c_wDeal : PySem.W.codeIn K cd_wDeal "Deal.word" = true)
    (k_wDeal : PySem.W.keepIn K (.ref g_wDeal) = true)
    (fi_wFee : PySem.W.findIn K (.ref CFee) "word" = some (some (.ref g_wFee)))
    (is_wFee : PySem.W.isFn K (.ref g_wFee) = true)
    (l_wFee : K.lookup g_wFee = some ⟨oc_wFee, od_wFee, .func (PySem.W.fnOf "word" "Fee.word" (defArgs sWFee) (defBody sWFee) (defScope sWFee) .none kV_wFee dc_wFee pm_wFee an_wFee cd_wFee ct_wFee), sl_wFee⟩)
    (c_wFee : PySem.W.codeIn K cd_wFee "Fee.word" = true)
    (k_wFee : PySem.W.keepIn K (.ref g_wFee) = true)
    (pgPrice : PySem.W.plainGet K CPrice Str.empty = true)
    (hdPrice : PySem.W.hasDictIn K CPrice = true)
    (poPrice : PySem.W.plainOver K CPrice = true)
    (saPrice : PySem.W.findIn K (.ref CPrice) "__setattr__" = some (some (.builtin "object.__setattr__")))
    (mkPrice : PySem.W.makesIn K CPrice = true)
    (kcPrice : PySem.W.keepIn K (.ref CPrice) = true)
    (noPrice_first : PySem.W.findIn K (.ref CPrice) "first" = some none)
    (noPrice_last : PySem.W.findIn K (.ref CPrice) "last" = some none)
    (noPrice_worth : PySem.W.findIn K (.ref CPrice) "worth" = some none)
    (fiCome_init : PySem.W.findIn K (.ref CCome) "__init__" = some (some (.ref g_init)))
    (fiCome_told : PySem.W.findIn K (.ref CCome) "told" = some (some (.ref g_told)))
    (fiCome_tells : PySem.W.findIn K (.ref CCome) "tells" = some (some (.ref g_tells)))
    (pgCome : PySem.W.plainGet K CCome Str.empty = true)
    (hdCome : PySem.W.hasDictIn K CCome = true)
    (poCome : PySem.W.plainOver K CCome = true)
    (saCome : PySem.W.findIn K (.ref CCome) "__setattr__" = some (some (.builtin "object.__setattr__")))
    (mkCome : PySem.W.makesIn K CCome = true)
    (kcCome : PySem.W.keepIn K (.ref CCome) = true)
    (noCome_first : PySem.W.findIn K (.ref CCome) "first" = some none)
    (noCome_last : PySem.W.findIn K (.ref CCome) "last" = some none)
    (noCome_worth : PySem.W.findIn K (.ref CCome) "worth" = some none)
    (fiGo_init : PySem.W.findIn K (.ref CGo) "__init__" = some (some (.ref g_init)))
    (fiGo_told : PySem.W.findIn K (.ref CGo) "told" = some (some (.ref g_told)))
    (fiGo_tells : PySem.W.findIn K (.ref CGo) "tells" = some (some (.ref g_tells)))
    (pgGo : PySem.W.plainGet K CGo Str.empty = true)
    (hdGo : PySem.W.hasDictIn K CGo = true)
    (poGo : PySem.W.plainOver K CGo = true)
    (saGo : PySem.W.findIn K (.ref CGo) "__setattr__" = some (some (.builtin "object.__setattr__")))
    (mkGo : PySem.W.makesIn K CGo = true)
    (kcGo : PySem.W.keepIn K (.ref CGo) = true)
    (noGo_first : PySem.W.findIn K (.ref CGo) "first" = some none)
    (noGo_last : PySem.W.findIn K (.ref CGo) "last" = some none)
    (noGo_worth : PySem.W.findIn K (.ref CGo) "worth" = some none)
    (fiLeast_init : PySem.W.findIn K (.ref CLeast) "__init__" = some (some (.ref g_init)))
    (fiLeast_told : PySem.W.findIn K (.ref CLeast) "told" = some (some (.ref g_told)))
    (fiLeast_tells : PySem.W.findIn K (.ref CLeast) "tells" = some (some (.ref g_tells)))
    (pgLeast : PySem.W.plainGet K CLeast Str.empty = true)
    (hdLeast : PySem.W.hasDictIn K CLeast = true)
    (poLeast : PySem.W.plainOver K CLeast = true)
    (saLeast : PySem.W.findIn K (.ref CLeast) "__setattr__" = some (some (.builtin "object.__setattr__")))
    (mkLeast : PySem.W.makesIn K CLeast = true)
    (kcLeast : PySem.W.keepIn K (.ref CLeast) = true)
    (noLeast_first : PySem.W.findIn K (.ref CLeast) "first" = some none)
    (noLeast_last : PySem.W.findIn K (.ref CLeast) "last" = some none)
    (noLeast_worth : PySem.W.findIn K (.ref CLeast) "worth" = some none)
    (fiMost_init : PySem.W.findIn K (.ref CMost) "__init__" = some (some (.ref g_init)))
    (fiMost_told : PySem.W.findIn K (.ref CMost) "told" = some (some (.ref g_told)))
    (fiMost_tells : PySem.W.findIn K (.ref CMost) "tells" = some (some (.ref g_tells)))
    (pgMost : PySem.W.plainGet K CMost Str.empty = true)
    (hdMost : PySem.W.hasDictIn K CMost = true)
    (poMost : PySem.W.plainOver K CMost = true)
    (saMost : PySem.W.findIn K (.ref CMost) "__setattr__" = some (some (.builtin "object.__setattr__")))
    (mkMost : PySem.W.makesIn K CMost = true)
    (kcMost : PySem.W.keepIn K (.ref CMost) = true)
    (noMost_first : PySem.W.findIn K (.ref CMost) "first" = some none)
    (noMost_last : PySem.W.findIn K (.ref CMost) "last" = some none)
    (noMost_worth : PySem.W.findIn K (.ref CMost) "worth" = some none)
    (fiDeal_init : PySem.W.findIn K (.ref CDeal) "__init__" = some (some (.ref g_init)))
    (fiDeal_told : PySem.W.findIn K (.ref CDeal) "told" = some (some (.ref g_told)))
    (fiDeal_tells : PySem.W.findIn K (.ref CDeal) "tells" = some (some (.ref g_tells)))
    (pgDeal : PySem.W.plainGet K CDeal Str.empty = true)
    (hdDeal : PySem.W.hasDictIn K CDeal = true)
    (poDeal : PySem.W.plainOver K CDeal = true)
    (saDeal : PySem.W.findIn K (.ref CDeal) "__setattr__" = some (some (.builtin "object.__setattr__")))
    (mkDeal : PySem.W.makesIn K CDeal = true)
    (kcDeal : PySem.W.keepIn K (.ref CDeal) = true)
    (noDeal_first : PySem.W.findIn K (.ref CDeal) "first" = some none)
    (noDeal_last : PySem.W.findIn K (.ref CDeal) "last" = some none)
    (noDeal_worth : PySem.W.findIn K (.ref CDeal) "worth" = some none)
    (fiFee_init : PySem.W.findIn K (.ref CFee) "__init__" = some (some (.ref g_init)))
    (fiFee_told : PySem.W.findIn K (.ref CFee) "told" = some (some (.ref g_told)))
    (fiFee_tells : PySem.W.findIn K (.ref CFee) "tells" = some (some (.ref g_tells)))
    (pgFee : PySem.W.plainGet K CFee Str.empty = true)
    (hdFee : PySem.W.hasDictIn K CFee = true)
    (poFee : PySem.W.plainOver K CFee = true)
    (saFee : PySem.W.findIn K (.ref CFee) "__setattr__" = some (some (.builtin "object.__setattr__")))
    (mkFee : PySem.W.makesIn K CFee = true)
    (kcFee : PySem.W.keepIn K (.ref CFee) = true)
    (noFee_first : PySem.W.findIn K (.ref CFee) "first" = some none)
    (noFee_last : PySem.W.findIn K (.ref CFee) "last" = some none)
    (noFee_worth : PySem.W.findIn K (.ref CFee) "worth" = some none)
    (aCB : PySem.W.nsIn K mainGlobals "Book" = some (some (.ref CB)))
    (fi_binit : PySem.W.findIn K (.ref CB) "__init__" = some (some (.ref g_binit)))
    (is_binit : PySem.W.isFn K (.ref g_binit) = true)
    (l_binit : K.lookup g_binit = some ⟨oc_binit, od_binit, .func (PySem.W.fnOf "__init__" "Book.__init__" (defArgs sBInit) (defBody sBInit) (defScope sBInit) (.ref dT) kV_binit dc_binit pm_binit an_binit cd_binit ct_binit), sl_binit⟩)
    (c_binit : PySem.W.codeIn K cd_binit "Book.__init__" = true)
    (k_binit : PySem.W.keepIn K (.ref g_binit) = true)
    (lT : K.lookup dT = some ⟨ocT, odT, .seq #[.none] nT, slT⟩)
    (fi_brules : PySem.W.findIn K (.ref CB) "rules" = some (some (.ref g_brules)))
    (is_brules : PySem.W.isFn K (.ref g_brules) = true)
    (l_brules : K.lookup g_brules = some ⟨oc_brules, od_brules, .func (PySem.W.fnOf "rules" "Book.rules" (defArgs sBRules) (defBody sBRules) (defScope sBRules) .none kV_brules dc_brules pm_brules an_brules cd_brules ct_brules), sl_brules⟩)
    (c_brules : PySem.W.codeIn K cd_brules "Book.rules" = true)
    (k_brules : PySem.W.keepIn K (.ref g_brules) = true)
    (fi_btells : PySem.W.findIn K (.ref CB) "tells_of" = some (some (.ref g_btells)))
    (is_btells : PySem.W.isFn K (.ref g_btells) = true)
    (l_btells : K.lookup g_btells = some ⟨oc_btells, od_btells, .func (PySem.W.fnOf "tells_of" "Book.tells_of" (defArgs sBTells) (defBody sBTells) (defScope sBTells) .none kV_btells dc_btells pm_btells an_btells cd_btells ct_btells), sl_btells⟩)
    (c_btells : PySem.W.codeIn K cd_btells "Book.tells_of" = true)
    (k_btells : PySem.W.keepIn K (.ref g_btells) = true)
    (pgB : PySem.W.plainGet K CB Str.empty = true)
    (hdB : PySem.W.hasDictIn K CB = true)
    (poB : PySem.W.plainOver K CB = true)
    (saB : PySem.W.findIn K (.ref CB) "__setattr__" = some (some (.builtin "object.__setattr__")))
    (mkB : PySem.W.makesIn K CB = true)
    (kcB : PySem.W.keepIn K (.ref CB) = true)
    (noB_kept : PySem.W.findIn K (.ref CB) "kept" = some none)
    (z1 : PySem.W.nsIn K mainGlobals "abs" = some none)
    (z2 : PySem.W.nsIn K mainGlobals "list" = some none)
    (z3 : PySem.W.nsIn K mainGlobals "len" = some none)
    (z4 : PySem.W.nsIn K mainGlobals "range" = some none)
    (z5 : PySem.W.nsIn K mainGlobals "min" = some none)
    (z6 : PySem.W.nsIn K mainGlobals "max" = some none)
    (z7 : PySem.W.nsIn K mainGlobals "sorted" = some none)
    (z8 : PySem.W.nsIn K mainGlobals "isinstance" = some none)
    (z9 : PySem.W.nsIn K mainGlobals "int" = some none)
    (z10 : PySem.W.nsIn K mainGlobals "bool" = some none)
    (z11 : PySem.W.nsIn K mainGlobals "str" = some none)
    (z12 : PySem.W.nsIn K mainGlobals "tuple" = some none)
    (z13 : PySem.W.nsIn K mainGlobals "all" = some none)
    (z14 : PySem.W.nsIn K mainGlobals "any" = some none)
    (z15 : PySem.W.nsIn K mainGlobals "repr" = some none)
    (z16 : PySem.W.nsIn K mainGlobals "zip" = some none)
    (z17 : PySem.W.nsIn K mainGlobals "enumerate" = some none)
    (z18 : PySem.W.nsIn K mainGlobals "reversed" = some none)
    (z19 : PySem.W.nsIn K mainGlobals "sum" = some none)
    (gi1 : PySem.W.nsIn K mainGlobals "LAST_DAY" = some (some (.int 1000000 tk1)))
    (gi2 : PySem.W.nsIn K mainGlobals "MOST_NIGHTS" = some (some (.int 14 tk2)))
    (gi3 : PySem.W.nsIn K mainGlobals "MOST_COINS" = some (some (.int 1000000000000 tk3)))
    (gi4 : PySem.W.nsIn K mainGlobals "MOST_RULES" = some (some (.int 24 tk4)))
    (aU : PySem.W.nsIn K mainGlobals "USUAL" = some (some (.ref dU)))
    (lU : K.lookup dU = some ⟨.type "dict", none, .dict #[⟨hu1, .str "price" tu1, .none⟩, ⟨hu2, .str "come" tu2, .bool true⟩, ⟨hu3, .str "go" tu3, .bool true⟩, ⟨hu4, .str "least" tu4, .int 1 tu8⟩, ⟨hu5, .str "most" tu5, .int 14 tu9⟩, ⟨hu6, .str "deal" tu6, .none⟩, ⟨hu7, .str "fee" tu7, .int 0 tu10⟩] nU, #[]⟩)
    (hh1 : hu1 = hashStr w "price")
    (hh2 : hu2 = hashStr w "come")
    (hh3 : hu3 = hashStr w "go")
    (hh4 : hu4 = hashStr w "least")
    (hh5 : hu5 = hashStr w "most")
    (hh6 : hu6 = hashStr w "deal")
    (hh7 : hu7 = hashStr w "fee")
    (hhd : PySem.W.codeHdIn K cC tabP = true) :
    ∃ fd : FuncData, (∀ (s : Shared) (v : Value), BindsTo s fd ⟨[v], []⟩ [("_law_script", v)]) ∧ ∀ base : Heap, K.In base → base.Ns mainGlobals mg → base.BuiltinsAt mg tabP → FnOk l.prog w K mg base CX0 14 fa fd ["_law_script"] (spLaw K) := by
  have e := hfa.symm.trans (PySem.W.mg_of X G a33)
  cases e
  have n_abs : mg "abs" = none := PySem.W.mg_none_of X G z1
  have n_list : mg "list" = none := PySem.W.mg_none_of X G z2
  have n_len : mg "len" = none := PySem.W.mg_none_of X G z3
  have n_range : mg "range" = none := PySem.W.mg_none_of X G z4
  have n_min : mg "min" = none := PySem.W.mg_none_of X G z5
  have n_max : mg "max" = none := PySem.W.mg_none_of X G z6
  have n_sorted : mg "sorted" = none := PySem.W.mg_none_of X G z7
  have n_isinstance : mg "isinstance" = none := PySem.W.mg_none_of X G z8
  have n_int : mg "int" = none := PySem.W.mg_none_of X G z9
  have n_bool : mg "bool" = none := PySem.W.mg_none_of X G z10
  have n_str : mg "str" = none := PySem.W.mg_none_of X G z11
  have n_tuple : mg "tuple" = none := PySem.W.mg_none_of X G z12
  have n_all : mg "all" = none := PySem.W.mg_none_of X G z13
  have n_any : mg "any" = none := PySem.W.mg_none_of X G z14
  have n_repr : mg "repr" = none := PySem.W.mg_none_of X G z15
  have n_zip : mg "zip" = none := PySem.W.mg_none_of X G z16
  have n_enumerate : mg "enumerate" = none := PySem.W.mg_none_of X G z17
  have n_reversed : mg "reversed" = none := PySem.W.mg_none_of X G z18
  have n_sum : mg "sum" = none := PySem.W.mg_none_of X G z19
  have i_LAST_DAY : ∃ t, mg "LAST_DAY" = some (.int 1000000 t) := ⟨tk1, PySem.W.mg_of X G gi1⟩
  have i_MOST_NIGHTS : ∃ t, mg "MOST_NIGHTS" = some (.int 14 t) := ⟨tk2, PySem.W.mg_of X G gi2⟩
  have i_MOST_COINS : ∃ t, mg "MOST_COINS" = some (.int 1000000000000 t) := ⟨tk3, PySem.W.mg_of X G gi3⟩
  have i_MOST_RULES : ∃ t, mg "MOST_RULES" = some (.int 24 t) := ⟨tk4, PySem.W.mg_of X G gi4⟩
  have m_is_whole : mg "is_whole" = some (.ref f1) := PySem.W.mg_of X G a1
  have F_is_whole := fun_mk (st := sWhole) l1 c1 k1
  have b_is_whole := F_is_whole.binds (ps := ["thing"]) fun _ _ _ _ _ _ us hl => match us, hl with | [_], _ => rfl
  have m_is_whole_within : mg "is_whole_within" = some (.ref f2) := PySem.W.mg_of X G a2
  have F_is_whole_within := fun_mk (st := sWithin) l2 c2 k2
  have b_is_whole_within := F_is_whole_within.binds (ps := ["thing", "lowest", "highest"]) fun _ _ _ _ _ _ us hl => match us, hl with | [_, _, _], _ => rfl
  have m_is_pair : mg "is_pair" = some (.ref f3) := PySem.W.mg_of X G a3
  have F_is_pair := fun_mk (st := sPair) l3 c3 k3
  have b_is_pair := F_is_pair.binds (ps := ["thing"]) fun _ _ _ _ _ _ us hl => match us, hl with | [_], _ => rfl
  have m_is_day : mg "is_day" = some (.ref f4) := PySem.W.mg_of X G a4
  have F_is_day := fun_mk (st := sDay) l4 c4 k4
  have b_is_day := F_is_day.binds (ps := ["thing"]) fun _ _ _ _ _ _ us hl => match us, hl with | [_], _ => rfl
  have m_is_pair_of_days : mg "is_pair_of_days" = some (.ref f5) := PySem.W.mg_of X G a5
  have F_is_pair_of_days := fun_mk (st := sDays) l5 c5 k5
  have b_is_pair_of_days := F_is_pair_of_days.binds (ps := ["thing"]) fun _ _ _ _ _ _ us hl => match us, hl with | [_], _ => rfl
  have m_is_stretch : mg "is_stretch" = some (.ref f6) := PySem.W.mg_of X G a6
  have F_is_stretch := fun_mk (st := sStretch) l6 c6 k6
  have b_is_stretch := F_is_stretch.binds (ps := ["thing"]) fun _ _ _ _ _ _ us hl => match us, hl with | [_], _ => rfl
  have m_is_coins : mg "is_coins" = some (.ref f7) := PySem.W.mg_of X G a7
  have F_is_coins := fun_mk (st := sCoins) l7 c7 k7
  have b_is_coins := F_is_coins.binds (ps := ["thing"]) fun _ _ _ _ _ _ us hl => match us, hl with | [_], _ => rfl
  have m_is_deal : mg "is_deal" = some (.ref f8) := PySem.W.mg_of X G a8
  have F_is_deal := fun_mk (st := sIsDeal) l8 c8 k8
  have b_is_deal := F_is_deal.binds (ps := ["thing"]) fun _ _ _ _ _ _ us hl => match us, hl with | [_], _ => rfl
  have m_is_worth : mg "is_worth" = some (.ref f9) := PySem.W.mg_of X G a9
  have F_is_worth := fun_mk (st := sWorth) l9 c9 k9
  have b_is_worth := F_is_worth.binds (ps := ["word", "thing"]) fun _ _ _ _ _ _ us hl => match us, hl with | [_, _], _ => rfl
  have m_is_rule : mg "is_rule" = some (.ref f10) := PySem.W.mg_of X G a10
  have F_is_rule := fun_mk (st := sIsRule) l10 c10 k10
  have b_is_rule := F_is_rule.binds (ps := ["thing"]) fun _ _ _ _ _ _ us hl => match us, hl with | [_], _ => rfl
  have m_made : mg "made" = some (.ref f11) := PySem.W.mg_of X G a11
  have F_made := fun_mk (st := sMade) l11 c11 k11
  have b_made := F_made.binds (ps := ["word", "first", "last", "worth"]) fun _ _ _ _ _ _ us hl => match us, hl with | [_, _, _, _], _ => rfl
  have m_rule_of : mg "rule_of" = some (.ref f12) := PySem.W.mg_of X G a12
  have F_rule_of := fun_mk (st := sRuleOf) l12 c12 k12
  have b_rule_of := F_rule_of.binds (ps := ["thing"]) fun _ _ _ _ _ _ us hl => match us, hl with | [_], _ => rfl
  have m_usual : mg "usual" = some (.ref f13) := PySem.W.mg_of X G a13
  have F_usual := fun_mk (st := sUsual) l13 c13 k13
  have b_usual := F_usual.binds (ps := ["word"]) fun _ _ _ _ _ _ us hl => match us, hl with | [_], _ => rfl
  have m_kept_rules : mg "kept_rules" = some (.ref f14) := PySem.W.mg_of X G a14
  have F_kept_rules := fun_mk (st := sKept) l14 c14 k14
  have b_kept_rules := F_kept_rules.binds (ps := ["things"]) fun _ _ _ _ _ _ us hl => match us, hl with | [_], _ => rfl
  have m_nights_of : mg "nights_of" = some (.ref f15) := PySem.W.mg_of X G a15
  have F_nights_of := fun_mk (st := sNights) l15 c15 k15
  have b_nights_of := F_nights_of.binds (ps := ["stay"]) fun _ _ _ _ _ _ us hl => match us, hl with | [_], _ => rfl
  have m_cheapest_first : mg "cheapest_first" = some (.ref f16) := PySem.W.mg_of X G a16
  have F_cheapest_first := fun_mk (st := sCheap) l16 c16 k16
  have b_cheapest_first := F_cheapest_first.binds (ps := ["prices", "places"]) fun _ _ _ _ _ _ us hl => match us, hl with | [_, _], _ => rfl
  have m_marked : mg "marked" = some (.ref f17) := PySem.W.mg_of X G a17
  have F_marked := fun_mk (st := sMarked) l17 c17 k17
  have b_marked := F_marked.binds (ps := ["prices", "deal"]) fun _ _ _ _ _ _ us hl => match us, hl with | [_, _], _ => rfl
  have m_night_prices : mg "night_prices" = some (.ref f18) := PySem.W.mg_of X G a18
  have F_night_prices := fun_mk (st := sNP) l18 c18 k18
  have b_night_prices := F_night_prices.binds (ps := ["book", "nights"]) fun _ _ _ _ _ _ us hl => match us, hl with | [_, _], _ => rfl
  have m_bill : mg "bill" = some (.ref f19) := PySem.W.mg_of X G a19
  have F_bill := fun_mk (st := sBill) l19 c19 k19
  have b_bill := F_bill.binds (ps := ["book", "stay"]) fun _ _ _ _ _ _ us hl => match us, hl with | [_, _], _ => rfl
  have m_laid : mg "laid" = some (.ref f20) := PySem.W.mg_of X G a20
  have F_laid := fun_mk (st := sLaid) l20 c20 k20
  have b_laid := F_laid.binds (ps := ["elder", "newer"]) fun _ _ _ _ _ _ us hl => match us, hl with | [_, _], _ => rfl
  have m__law_tape : mg "_law_tape" = some (.ref f21) := PySem.W.mg_of X G a21
  have F__law_tape := fun_mk (st := sTape) l21 c21 k21
  have b__law_tape := F__law_tape.binds (ps := ["_law_script"]) fun _ _ _ _ _ _ us hl => match us, hl with | [_], _ => rfl
  have m__law_draw : mg "_law_draw" = some (.ref f22) := PySem.W.mg_of X G a22
  have F__law_draw := fun_mk (st := sDraw) l22 c22 k22
  have b__law_draw := F__law_draw.binds (ps := ["_law_tape_here", "_law_many"]) fun _ _ _ _ _ _ us hl => match us, hl with | [_, _], _ => rfl
  have m__law_coins : mg "_law_coins" = some (.ref f23) := PySem.W.mg_of X G a23
  have F__law_coins := fun_mk (st := sLCoins) l23 c23 k23
  have b__law_coins := F__law_coins.binds (ps := ["_law_tape_here"]) fun _ _ _ _ _ _ us hl => match us, hl with | [_], _ => rfl
  have m__law_worth : mg "_law_worth" = some (.ref f24) := PySem.W.mg_of X G a24
  have F__law_worth := fun_mk (st := sLWorth) l24 c24 k24
  have b__law_worth := F__law_worth.binds (ps := ["_law_tape_here", "_law_word"]) fun _ _ _ _ _ _ us hl => match us, hl with | [_, _], _ => rfl
  have m__law_price_rules : mg "_law_price_rules" = some (.ref f25) := PySem.W.mg_of X G a25
  have F__law_price_rules := fun_mk (st := sPriceR) l25 c25 k25
  have b__law_price_rules := F__law_price_rules.binds (ps := ["_law_tape_here", "_law_base", "_law_days"]) fun _ _ _ _ _ _ us hl => match us, hl with | [_, _, _], _ => rfl
  have m__law_other_rules : mg "_law_other_rules" = some (.ref f26) := PySem.W.mg_of X G a26
  have F__law_other_rules := fun_mk (st := sOtherR) l26 c26 k26
  have b__law_other_rules := F__law_other_rules.binds (ps := ["_law_tape_here", "_law_base", "_law_days"]) fun _ _ _ _ _ _ us hl => match us, hl with | [_, _, _], _ => rfl
  have m__law_rules : mg "_law_rules" = some (.ref f27) := PySem.W.mg_of X G a27
  have F__law_rules := fun_mk (st := sRulesF) l27 c27 k27
  have b__law_rules := F__law_rules.binds (ps := ["_law_tape_here", "_law_base", "_law_days"]) fun _ _ _ _ _ _ us hl => match us, hl with | [_, _, _], _ => rfl
  have m__law_stay : mg "_law_stay" = some (.ref f28) := PySem.W.mg_of X G a28
  have F__law_stay := fun_mk (st := sStay) l28 c28 k28
  have b__law_stay := F__law_stay.binds (ps := ["_law_tape_here", "_law_base", "_law_days"]) fun _ _ _ _ _ _ us hl => match us, hl with | [_, _, _], _ => rfl
  have m__law_sold : mg "_law_sold" = some (.ref f29) := PySem.W.mg_of X G a29
  have F__law_sold := fun_mk (st := sSold) l29 c29 k29
  have b__law_sold := F__law_sold.binds (ps := ["_law_book", "_law_stay_here"]) fun _ _ _ _ _ _ us hl => match us, hl with | [_, _], _ => rfl
  have m__law_sum : mg "_law_sum" = some (.ref f30) := PySem.W.mg_of X G a30
  have F__law_sum := fun_mk (st := sSum) l30 c30 k30
  have b__law_sum := F__law_sum.binds (ps := ["_law_book", "_law_rule", "_law_stay_here"]) fun _ _ _ _ _ _ us hl => match us, hl with | [_, _, _], _ => rfl
  have m__law_other_night : mg "_law_other_night" = some (.ref f31) := PySem.W.mg_of X G a31
  have F__law_other_night := fun_mk (st := sON) l31 c31 k31
  have b__law_other_night := F__law_other_night.binds (ps := ["_law_tape_here", "_law_book", "_law_stay_here"]) fun _ _ _ _ _ _ us hl => match us, hl with | [_, _, _], _ => rfl
  have m__law_other_deal : mg "_law_other_deal" = some (.ref f32) := PySem.W.mg_of X G a32
  have F__law_other_deal := fun_mk (st := sOD) l32 c32 k32
  have b__law_other_deal := F__law_other_deal.binds (ps := ["_law_tape_here", "_law_book", "_law_stay_here"]) fun _ _ _ _ _ _ us hl => match us, hl with | [_, _, _], _ => rfl
  have F_law := fun_mk (st := sLaw) l33 c33 k33
  have b_law := F_law.binds (ps := ["_law_script"]) fun _ _ _ _ _ _ us hl => match us, hl with | [_], _ => rfl
  have F_init := fun_mk (st := sInit) l_init c_init k_init
  have b_init := F_init.binds (ps := ["self", "first", "last", "worth"]) fun _ _ _ _ _ _ us hl => match us, hl with | [_, _, _, _], _ => rfl
  have F_told := fun_mk (st := sTold) l_told c_told k_told
  have b_told := F_told.binds (ps := ["self"]) fun _ _ _ _ _ _ us hl => match us, hl with | [_], _ => rfl
  have F_tells := fun_mk (st := sTells) l_tells c_tells k_tells
  have b_tells := F_tells.binds (ps := ["self", "day"]) fun _ _ _ _ _ _ us hl => match us, hl with | [_, _], _ => rfl
  have F_wPrice := fun_mk (st := sWPrice) l_wPrice c_wPrice k_wPrice
  have b_wPrice := F_wPrice.binds (ps := ["self"]) fun _ _ _ _ _ _ us hl => match us, hl with | [_], _ => rfl
  have F_wCome := fun_mk (st := sWCome) l_wCome c_wCome k_wCome
  have b_wCome := F_wCome.binds (ps := ["self"]) fun _ _ _ _ _ _ us hl => match us, hl with | [_], _ => rfl
  have F_wGo := fun_mk (st := sWGo) l_wGo c_wGo k_wGo
  have b_wGo := F_wGo.binds (ps := ["self"]) fun _ _ _ _ _ _ us hl => match us, hl with | [_], _ => rfl
  have F_wLeast := fun_mk (st := sWLeast) l_wLeast c_wLeast k_wLeast
  have b_wLeast := F_wLeast.binds (ps := ["self"]) fun _ _ _ _ _ _ us hl => match us, hl with | [_], _ => rfl
  have F_wMost := fun_mk (st := sWMost) l_wMost c_wMost k_wMost
  have b_wMost := F_wMost.binds (ps := ["self"]) fun _ _ _ _ _ _ us hl => match us, hl with | [_], _ => rfl
  have F_wDeal := fun_mk (st := sWDeal) l_wDeal c_wDeal k_wDeal
  have b_wDeal := F_wDeal.binds (ps := ["self"]) fun _ _ _ _ _ _ us hl => match us, hl with | [_], _ => rfl
  have F_wFee := fun_mk (st := sWFee) l_wFee c_wFee k_wFee
  have b_wFee := F_wFee.binds (ps := ["self"]) fun _ _ _ _ _ _ us hl => match us, hl with | [_], _ => rfl
  have F_brules := fun_mk (st := sBRules) l_brules c_brules k_brules
  have b_brules := F_brules.binds (ps := ["self"]) fun _ _ _ _ _ _ us hl => match us, hl with | [_], _ => rfl
  have F_btells := fun_mk (st := sBTells) l_btells c_btells k_btells
  have b_btells := F_btells.binds (ps := ["self", "word", "day"]) fun _ _ _ _ _ _ us hl => match us, hl with | [_, _, _], _ => rfl
  have m_Price : mg "Price" = some (.ref CPrice) := PySem.W.mg_of X G aCPrice
  have m_Come : mg "Come" = some (.ref CCome) := PySem.W.mg_of X G aCCome
  have m_Go : mg "Go" = some (.ref CGo) := PySem.W.mg_of X G aCGo
  have m_Least : mg "Least" = some (.ref CLeast) := PySem.W.mg_of X G aCLeast
  have m_Most : mg "Most" = some (.ref CMost) := PySem.W.mg_of X G aCMost
  have m_Deal : mg "Deal" = some (.ref CDeal) := PySem.W.mg_of X G aCDeal
  have m_Fee : mg "Fee" = some (.ref CFee) := PySem.W.mg_of X G aCFee
  have RPrice : ClsR K CPrice g_init g_told g_tells g_wPrice := ⟨⟨pgPrice, hdPrice, poPrice, saPrice⟩, noPrice_first, noPrice_last, noPrice_worth, ⟨mkPrice, fi_init, is_init, kcPrice⟩, ⟨fi_told, is_told, k_told⟩, ⟨fi_tells, is_tells, k_tells⟩, ⟨fi_wPrice, is_wPrice, k_wPrice⟩⟩
  have RCome : ClsR K CCome g_init g_told g_tells g_wCome := ⟨⟨pgCome, hdCome, poCome, saCome⟩, noCome_first, noCome_last, noCome_worth, ⟨mkCome, fiCome_init, is_init, kcCome⟩, ⟨fiCome_told, is_told, k_told⟩, ⟨fiCome_tells, is_tells, k_tells⟩, ⟨fi_wCome, is_wCome, k_wCome⟩⟩
  have RGo : ClsR K CGo g_init g_told g_tells g_wGo := ⟨⟨pgGo, hdGo, poGo, saGo⟩, noGo_first, noGo_last, noGo_worth, ⟨mkGo, fiGo_init, is_init, kcGo⟩, ⟨fiGo_told, is_told, k_told⟩, ⟨fiGo_tells, is_tells, k_tells⟩, ⟨fi_wGo, is_wGo, k_wGo⟩⟩
  have RLeast : ClsR K CLeast g_init g_told g_tells g_wLeast := ⟨⟨pgLeast, hdLeast, poLeast, saLeast⟩, noLeast_first, noLeast_last, noLeast_worth, ⟨mkLeast, fiLeast_init, is_init, kcLeast⟩, ⟨fiLeast_told, is_told, k_told⟩, ⟨fiLeast_tells, is_tells, k_tells⟩, ⟨fi_wLeast, is_wLeast, k_wLeast⟩⟩
  have RMost : ClsR K CMost g_init g_told g_tells g_wMost := ⟨⟨pgMost, hdMost, poMost, saMost⟩, noMost_first, noMost_last, noMost_worth, ⟨mkMost, fiMost_init, is_init, kcMost⟩, ⟨fiMost_told, is_told, k_told⟩, ⟨fiMost_tells, is_tells, k_tells⟩, ⟨fi_wMost, is_wMost, k_wMost⟩⟩
  have RDeal : ClsR K CDeal g_init g_told g_tells g_wDeal := ⟨⟨pgDeal, hdDeal, poDeal, saDeal⟩, noDeal_first, noDeal_last, noDeal_worth, ⟨mkDeal, fiDeal_init, is_init, kcDeal⟩, ⟨fiDeal_told, is_told, k_told⟩, ⟨fiDeal_tells, is_tells, k_tells⟩, ⟨fi_wDeal, is_wDeal, k_wDeal⟩⟩
  have RFee : ClsR K CFee g_init g_told g_tells g_wFee := ⟨⟨pgFee, hdFee, poFee, saFee⟩, noFee_first, noFee_last, noFee_worth, ⟨mkFee, fiFee_init, is_init, kcFee⟩, ⟨fiFee_told, is_told, k_told⟩, ⟨fiFee_tells, is_tells, k_tells⟩, ⟨fi_wFee, is_wFee, k_wFee⟩⟩
  have TD : TxtD mg f1 f2 f3 f4 f5 := ⟨n_isinstance, n_int, n_bool, n_tuple, n_len, i_LAST_DAY, i_MOST_NIGHTS, m_is_whole, m_is_whole_within, m_is_pair, m_is_day, m_is_pair_of_days⟩
  have TR : TxtR mg f1 f2 f3 f4 f5 f6 f7 f8 f9 f10 f11 ⟨CPrice, CCome, CGo, CLeast, CMost, CDeal, CFee⟩ := ⟨TD, i_MOST_COINS, m_is_stretch, m_is_coins, m_is_deal, m_is_worth, m_is_rule, m_made, m_Price, m_Come, m_Go, m_Least, m_Most, m_Deal, m_Fee⟩
  have TT : TxtT mg := ⟨n_abs, n_list, n_len⟩
  have nb : NbT mg := ⟨n_abs, n_list, n_len, n_range, n_min, n_max, n_sorted, n_isinstance, n_int, n_bool, n_str, n_tuple, n_all, n_any, n_repr, n_zip, n_enumerate, n_reversed, n_sum⟩
  have TW : TxtW mg f22 f23 f24 := ⟨TT, m__law_draw, m__law_coins, m__law_worth⟩
  have A7 : ClsAll K ⟨CPrice, CCome, CGo, CLeast, CMost, CDeal, CFee⟩ g_init g_told g_tells g_wPrice g_wCome g_wGo g_wLeast g_wMost g_wDeal g_wFee := ⟨RPrice, RCome, RGo, RLeast, RMost, RDeal, RFee⟩
  refine ⟨PySem.W.fnOf "law" "law" (defArgs sLaw) (defBody sLaw) (defScope sLaw) .none kV33 dc33 pm33 an33 cd33 ct33, fun s v => .of_eq rfl, fun base KX _ hbi => ?_⟩
  have G_in := ok_within (P := l.prog) (w := w) (base := base) F_is_whole_within TD F_is_whole b_is_whole
  have G_pair := ok_pair (P := l.prog) (w := w) (base := base) F_is_pair TD
  have G_day := ok_day F_is_day TD G_in F_is_whole_within.kp b_is_whole_within
  have G_days := ok_days F_is_pair_of_days TD G_pair F_is_pair.kp b_is_pair G_day F_is_day.kp b_is_day
  have G_stretch := ok_stretch F_is_stretch TD G_days F_is_pair_of_days.kp b_is_pair_of_days
  have G_coins := ok_coins F_is_coins TR G_in F_is_whole_within.kp b_is_whole_within
  have G_deal := ok_isDeal F_is_deal TR G_in F_is_whole_within.kp b_is_whole_within G_pair F_is_pair.kp b_is_pair
  have G_worth := ok_worth F_is_worth TR G_in F_is_whole_within.kp b_is_whole_within G_coins F_is_coins.kp b_is_coins G_deal F_is_deal.kp b_is_deal
  have G_rule := ok_isRule F_is_rule TR G_stretch F_is_stretch.kp b_is_stretch G_worth F_is_worth.kp b_is_worth
  have G_made := ok_made (P := l.prog) (w := w) (base := base) F_made TR A7 F_init b_init
  have G_ruleOf := ok_ruleOf F_rule_of TR G_rule F_is_rule.kp b_is_rule G_made F_made.kp b_made
  have CRO : Cal l.prog w K mg base "rule_of" 7 (phRuleOf ⟨CPrice, CCome, CGo, CLeast, CMost, CDeal, CFee⟩) := cal_ruleOf m_rule_of F_rule_of.kp b_rule_of G_ruleOf
  have CKe : Cal l.prog w K mg base "kept_rules" 8 (phKept ⟨CPrice, CCome, CGo, CLeast, CMost, CDeal, CFee⟩) := cal_kept F_kept_rules m_kept_rules b_kept_rules nb i_MOST_RULES CRO
  have cB : Cls K CB := ⟨pgB, hdB, poB, saB⟩
  have GBI := ok_binit (funV_mk (st := sBInit) l_binit c_binit k_binit) cB noB_kept CKe
  have m_Book : mg "Book" = some (.ref CB) := PySem.W.mg_of X G aCB
  have MkB : Mk K CB g_binit := ⟨mkB, fi_binit, is_binit, kcB⟩
  have CBk : CalK l.prog w K mg base "Book" 9 [] (phBook CB ⟨CPrice, CCome, CGo, CLeast, CMost, CDeal, CFee⟩) := ⟨CB, g_binit, _, _, _, m_Book, MkB, binds_all lT, .nil, GBI⟩
  have CBk0 : CalK l.prog w K mg base "Book" 9 [.non] (phBook CB ⟨CPrice, CCome, CGo, CLeast, CMost, CDeal, CFee⟩) := ⟨CB, g_binit, _, _, _, m_Book, MkB, binds_def lT, .cons rfl .nil, GBI⟩
  have OT : ∀ u ∈ words, CalM l.prog w K mg base ((⟨CPrice, CCome, CGo, CLeast, CMost, CDeal, CFee⟩ : Cs).of u) "told" 2 (phTold ((⟨CPrice, CCome, CGo, CLeast, CMost, CDeal, CFee⟩ : Cs).of u) u) := by
    intro u hu
    simp only [words, List.mem_cons, List.not_mem_nil, or_false] at hu
    rcases hu with rfl | rfl | rfl | rfl | rfl | rfl | rfl
    · rw [of_price]; exact calM_told RPrice b_told (ok_told F_told RPrice (ok_wPrice F_wPrice) b_wPrice)
    · rw [of_come]; exact calM_told RCome b_told (ok_told F_told RCome (ok_wCome F_wCome) b_wCome)
    · rw [of_go]; exact calM_told RGo b_told (ok_told F_told RGo (ok_wGo F_wGo) b_wGo)
    · rw [of_least]; exact calM_told RLeast b_told (ok_told F_told RLeast (ok_wLeast F_wLeast) b_wLeast)
    · rw [of_most]; exact calM_told RMost b_told (ok_told F_told RMost (ok_wMost F_wMost) b_wMost)
    · rw [of_deal]; exact calM_told RDeal b_told (ok_told F_told RDeal (ok_wDeal F_wDeal) b_wDeal)
    · rw [of_fee]; exact calM_told RFee b_told (ok_told F_told RFee (ok_wFee F_wFee) b_wFee)
  have DU : DictK K w dU tbU := ⟨_, nU, lU, .cons ⟨hh1, ⟨_, rfl⟩, rfl⟩ (.cons ⟨hh2, ⟨_, rfl⟩, rfl⟩ (.cons ⟨hh3, ⟨_, rfl⟩, rfl⟩ (.cons ⟨hh4, ⟨_, rfl⟩, ⟨_, rfl⟩⟩ (.cons ⟨hh5, ⟨_, rfl⟩, ⟨_, rfl⟩⟩ (.cons ⟨hh6, ⟨_, rfl⟩, rfl⟩ (.cons ⟨hh7, ⟨_, rfl⟩, ⟨_, rfl⟩⟩ (.nil))))))), by decide +kernel⟩
  have CU : Cal l.prog w K mg base "usual" 1 phUsual := cal_usual F_usual m_usual b_usual (PySem.W.mg_of X G aU) DU
  have OW : ∀ u ∈ words, CalM l.prog w K mg base ((⟨CPrice, CCome, CGo, CLeast, CMost, CDeal, CFee⟩ : Cs).of u) "word" 1 (phWord ((⟨CPrice, CCome, CGo, CLeast, CMost, CDeal, CFee⟩ : Cs).of u) u) := by
    intro u hu
    simp only [words, List.mem_cons, List.not_mem_nil, or_false] at hu
    rcases hu with rfl | rfl | rfl | rfl | rfl | rfl | rfl
    · rw [of_price]; exact calM_word RPrice b_wPrice (ok_wPrice F_wPrice)
    · rw [of_come]; exact calM_word RCome b_wCome (ok_wCome F_wCome)
    · rw [of_go]; exact calM_word RGo b_wGo (ok_wGo F_wGo)
    · rw [of_least]; exact calM_word RLeast b_wLeast (ok_wLeast F_wLeast)
    · rw [of_most]; exact calM_word RMost b_wMost (ok_wMost F_wMost)
    · rw [of_deal]; exact calM_word RDeal b_wDeal (ok_wDeal F_wDeal)
    · rw [of_fee]; exact calM_word RFee b_wFee (ok_wFee F_wFee)
  have ORT : ∀ u ∈ words, CalM l.prog w K mg base ((⟨CPrice, CCome, CGo, CLeast, CMost, CDeal, CFee⟩ : Cs).of u) "tells" 1 (phRTells ((⟨CPrice, CCome, CGo, CLeast, CMost, CDeal, CFee⟩ : Cs).of u)) := by
    intro u hu
    simp only [words, List.mem_cons, List.not_mem_nil, or_false] at hu
    rcases hu with rfl | rfl | rfl | rfl | rfl | rfl | rfl
    · rw [of_price]; exact calM_rtells RPrice b_tells (ok_tells F_tells RPrice)
    · rw [of_come]; exact calM_rtells RCome b_tells (ok_tells F_tells RCome)
    · rw [of_go]; exact calM_rtells RGo b_tells (ok_tells F_tells RGo)
    · rw [of_least]; exact calM_rtells RLeast b_tells (ok_tells F_tells RLeast)
    · rw [of_most]; exact calM_rtells RMost b_tells (ok_tells F_tells RMost)
    · rw [of_deal]; exact calM_rtells RDeal b_tells (ok_tells F_tells RDeal)
    · rw [of_fee]; exact calM_rtells RFee b_tells (ok_tells F_tells RFee)
  have OC : ∀ u ∈ words, Cls K ((⟨CPrice, CCome, CGo, CLeast, CMost, CDeal, CFee⟩ : Cs).of u) ∧ NoAttr K ((⟨CPrice, CCome, CGo, CLeast, CMost, CDeal, CFee⟩ : Cs).of u) "worth" := by
    intro u hu
    simp only [words, List.mem_cons, List.not_mem_nil, or_false] at hu
    rcases hu with rfl | rfl | rfl | rfl | rfl | rfl | rfl
    · rw [of_price]; exact ⟨RPrice.cl, RPrice.nw⟩
    · rw [of_come]; exact ⟨RCome.cl, RCome.nw⟩
    · rw [of_go]; exact ⟨RGo.cl, RGo.nw⟩
    · rw [of_least]; exact ⟨RLeast.cl, RLeast.nw⟩
    · rw [of_most]; exact ⟨RMost.cl, RMost.nw⟩
    · rw [of_deal]; exact ⟨RDeal.cl, RDeal.nw⟩
    · rw [of_fee]; exact ⟨RFee.cl, RFee.nw⟩
  have MTe : CalM l.prog w K mg base CB "tells_of" 2 (phTells CB ⟨CPrice, CCome, CGo, CLeast, CMost, CDeal, CFee⟩) := ⟨g_btells, _, _, cB, ⟨fi_btells, is_btells, k_btells⟩, b_btells, ok_btells F_btells cB noB_kept nb CU OW ORT OC⟩
  have MR : CalM l.prog w K mg base CB "rules" 3 (phRules CB ⟨CPrice, CCome, CGo, CLeast, CMost, CDeal, CFee⟩) := ⟨g_brules, _, _, cB, ⟨fi_brules, is_brules, k_brules⟩, b_brules, ok_brules F_brules cB noB_kept b_brules OT⟩
  have CD : Cal l.prog w K mg base "_law_draw" 1 phDraw := cal_draw m__law_draw F__law_draw.kp b__law_draw (ok_draw F__law_draw TT)
  have G_lcoins := ok_lcoins (P := l.prog) (w := w) (base := base) F__law_coins TW F__law_draw b__law_draw
  have G_lworth := ok_lworth F__law_worth TW F__law_draw b__law_draw G_lcoins F__law_coins.kp b__law_coins
  have CCo := cal_coins m__law_coins F__law_coins.kp b__law_coins G_lcoins
  have CW := cal_worth m__law_worth F__law_worth.kp b__law_worth G_lworth
  have CO := cal_otherR F__law_other_rules m__law_other_rules b__law_other_rules nb CD CW
  have CRF := cal_rulesF F__law_rules m__law_rules b__law_rules CD (cal_priceR F__law_price_rules m__law_price_rules b__law_price_rules nb CD CCo) CO
  have CC : Cal l.prog w K mg base "cheapest_first" 3 phCheap := cal_cheap l16 c16 k16 m_cheapest_first b_cheapest_first nb hhd KX hbi
  have CMa : Cal l.prog w K mg base "marked" 4 phMarked := cal_marked F_marked m_marked b_marked nb CC
  have CNP := cal_np F_night_prices m_night_prices b_night_prices MTe
  have CBi := cal_billR (cal_bill F_bill m_bill b_bill nb MTe (cal_nights F_nights_of m_nights_of b_nights_of nb) CNP CMa)
  have CSm := cal_sum F__law_sum m__law_sum b__law_sum CBk (cal_laid F_laid m_laid b_laid CBk MR) CBi
  exact ok_law F_law nb (ok_tape F__law_tape TT) m__law_tape F__law_tape.kp b__law_tape CD CRF (cal_stay F__law_stay m__law_stay b__law_stay CD) CBk (cal_sold F__law_sold m__law_sold b__law_sold nb CBk MR MTe) (cal_on F__law_other_night m__law_other_night b__law_other_night CD CBi CSm MTe) (cal_od F__law_other_deal m__law_other_deal b__law_other_deal nb CD CBi CSm MTe)
theorem walk {l : PySem.W.OpenLaw} {q : Program} {loose : List Str} {XP : (Str → Option Value) → Heap → Prop} {YP : World → Heap → Prop} {d : DefRec} {K : Params → PySem.W.Frag} {c : Addr} (hn : l.most = some 63) (hdf : d.params.defaults = [])
    (hY : ∀ (w : World) (h : Heap), YP w h → (K w.params).In h) (hYT : ∀ (w : World) (h : Heap), YP w h → h.get? tabP = some (PySem.W.tabObj #[]))
    (hNo : ∀ w : World, (K w.params).lookup tabP = none) (hTab : ∀ w : World, ∃ o vs, (K w.params).lookup c = some o ∧ o.cls = .type "code" ∧ o.data = .fields vs ∧ vs[11]? = some (.ref tabP))
    (F : ∀ (w : World) (mg : Str → Option Value) (fa : Addr) (h : Heap), (K w.params).In h → h.Ns mainGlobals mg → mg d.name = some (.ref fa) →
      ∃ fd : FuncData, (∀ (s : Shared) (u : Value), BindsTo s fd ⟨[u], []⟩ [("_law_script", u)]) ∧ ∀ base : Heap, (K w.params).In base → base.Ns mainGlobals mg → base.BuiltinsAt mg tabP → FnOk l.prog w (K w.params) mg base CX0 14 fa fd ["_law_script"] (spLaw (K w.params))) :
    PySem.W.WalkO q loose XP YP l.row.toRowW d [] (fun f vs => PySem.call f vs) :=
  L2.walk_ofT (n := 63) (k := 14) (x := "_law_script") (CX := fun _ => CX0) (sp := fun w => spLaw (K w.params)) hn (by decide) hdf ⟨rfl, by decide, by decide, rfl⟩ hY hYT hNo hTab F (fun _ H a ns hl _ hT hS => ⟨a, ns, rfl, hS, hl, ⟨#[], hT, trivial, fun pos cv hc => by cases hc⟩, fun _ => rfl⟩) fun _ _ _ _ _ z => z
end K34
def PySem.W.Fast.tw13123858093272936625 : Nat := 0
def PySem.W.Fast.tw16328560075660358659 : Nat := 0
def PySem.W.Fast.tw1024286446999333458 : Nat := 0
def PySem.W.Fast.tw16719268771596800040 : Nat := 0
def PySem.W.Fast.tw17253135621924211501 : Nat := 0
def PySem.W.Fast.tw6874555746431237050 : Nat := 0
def PySem.W.Fast.tw11980189840001567258 : Nat := 0
def PySem.W.Fast.tw17707987226972797043 : Nat := 0
def PySem.W.Fast.tw7109845797684571495 : Nat := 0
def PySem.W.Fast.tw3708599283877885261 : Nat := 0
def PySem.W.Fast.tw13271122811093309561 : Nat := 0
def PySem.W.Fast.tw3276660306737601737 : Nat := 0
def PySem.W.Fast.tw15610676979216256437 : Nat := 0
def PySem.W.Fast.tw394653324102378639 : Nat := 0
def PySem.W.Fast.tw1252348141284788923 : Nat := 0
def PySem.W.Fast.tw631419583615301784 : Nat := 0
def PySem.W.Fast.tw9533203175296159504 : Nat := 0
def PySem.W.Fast.tw12646856657966448600 : Nat := 0
def PySem.W.Fast.tw2263308002915359498 : Nat := 0
def PySem.W.Fast.tw12316278441234685641 : Nat := 0
def PySem.W.Fast.tw16642708829988534424 : Nat := 0
def PySem.W.Fast.tw260944010457912079 : Nat := 0
def PySem.W.Fast.tw10729282546846597527 : Nat := 0
def PySem.W.Fast.tw18017633246380473717 : Nat := 0
def PySem.W.Fast.tw2628966099380578435 : Nat := 0
def PySem.W.Fast.tw16552508296380371744 : Nat := 0
def PySem.W.Fast.tw4355333364023354084 : Nat := 0
def PySem.W.Fast.tw17908025932763704319 : Nat := 0
def PySem.W.Fast.tw1040175209955889633 : Nat := 0
def PySem.W.Fast.tw6873136313580069857 : Nat := 0
def PySem.W.Fast.tw855003220438719845 : Nat := 0
def PySem.W.Fast.tw18285537704207422090 : Nat := 0
def PySem.W.Fast.tw3829448050147596497 : Nat := 0
def PySem.W.Fast.tw9089040026743855434 : Nat := 0
def PySem.W.Fast.tw3879135476610982110 : Nat := 0
def PySem.W.Fast.tw11278188481427702437 : Nat := 0
def PySem.W.Fast.tw11635304953021258136 : Nat := 0
def PySem.W.Fast.tw17988051216447162289 : Nat := 0
def PySem.W.Fast.tw597043999154652486 : Nat := 0
open PySem PySem.W PyProof.Rows
set_option maxRecDepth 100000 in
set_option maxHeartbeats 0 in
theorem PySem.Challenge.cw_stayprice_k34_whole_dearer_nights_holds : PySem.Challenge.rw_stayprice_k34_whole_dearer_nights.Holds := by
  w_on; o_law; k_head; (case hw => w_witness2)
  k_fill
  refine K34.walk (l := PySem.Challenge.rw_stayprice_k34_whole_dearer_nights) (c := (132 : Nat)) rfl rfl (fun w h Y => PySem.W.km_in_of Y) (fun w h Y => PySem.W.km_tabs_of Y _ (List.mem_singleton.mpr rfl)) ?hno ?htab ?hF
  case hno => intro w; kernel_rfl
  case htab => intro w; exact ⟨_, _, by k_is, rfl, rfl, rfl⟩
  case hF =>
    intro w mg fa h KX G hmg
    refine' K34.all_mk KX G hmg ?a1 ?l1 ?c1 ?k1 ?a2 ?l2 ?c2 ?k2 ?a3 ?l3 ?c3 ?k3 ?a4 ?l4 ?c4 ?k4 ?a5 ?l5 ?c5 ?k5 ?a6 ?l6 ?c6 ?k6 ?a7 ?l7 ?c7 ?k7 ?a8 ?l8 ?c8 ?k8 ?a9 ?l9 ?c9 ?k9 ?a10 ?l10 ?c10 ?k10 ?a11 ?l11 ?c11 ?k11 ?a12 ?l12 ?c12 ?k12 ?a13 ?l13 ?c13 ?k13 ?a14 ?l14 ?c14 ?k14 ?a15 ?l15 ?c15 ?k15 ?a16 ?l16 ?c16 ?k16 ?a17 ?l17 ?c17 ?k17 ?a18 ?l18 ?c18 ?k18 ?a19 ?l19 ?c19 ?k19 ?a20 ?l20 ?c20 ?k20 ?a21 ?l21 ?c21 ?k21 ?a22 ?l22 ?c22 ?k22 ?a23 ?l23 ?c23 ?k23 ?a24 ?l24 ?c24 ?k24 ?a25 ?l25 ?c25 ?k25 ?a26 ?l26 ?c26 ?k26 ?a27 ?l27 ?c27 ?k27 ?a28 ?l28 ?c28 ?k28 ?a29 ?l29 ?c29 ?k29 ?a30 ?l30 ?c30 ?k30 ?a31 ?l31 ?c31 ?k31 ?a32 ?l32 ?c32 ?k32 ?a33 ?l33 ?c33 ?k33 ?aCPrice ?aCCome ?aCGo ?aCLeast ?aCMost ?aCDeal ?aCFee ?fi_init ?is_init ?l_init ?c_init ?k_init ?fi_told ?is_told ?l_told ?c_told ?k_told ?fi_tells ?is_tells ?l_tells ?c_tells ?k_tells ?fi_wPrice ?is_wPrice ?l_wPrice ?c_wPrice ?k_wPrice ?fi_wCome ?is_wCome ?l_wCome ?c_wCome ?k_wCome ?fi_wGo ?is_wGo ?l_wGo ?c_wGo ?k_wGo ?fi_wLeast ?is_wLeast ?l_wLeast ?c_wLeast ?k_wLeast ?fi_wMost ?is_wMost ?l_wMost ?c_wMost ?k_wMost ?fi_wDeal ?is_wDeal ?l_wDeal ?c_wDeal ?k_wDeal ?fi_wFee ?is_wFee ?l_wFee ?c_wFee ?k_wFee ?pgPrice ?hdPrice ?poPrice ?saPrice ?mkPrice ?kcPrice ?noPrice_first ?noPrice_last ?noPrice_worth ?fiCome_init ?fiCome_told ?fiCome_tells ?pgCome ?hdCome ?poCome ?saCome ?mkCome ?kcCome ?noCome_first ?noCome_last ?noCome_worth ?fiGo_init ?fiGo_told ?fiGo_tells ?pgGo ?hdGo ?poGo ?saGo ?mkGo ?kcGo ?noGo_first ?noGo_last ?noGo_worth ?fiLeast_init ?fiLeast_told ?fiLeast_tells ?pgLeast ?hdLeast ?poLeast ?saLeast ?mkLeast ?kcLeast ?noLeast_first ?noLeast_last ?noLeast_worth ?fiMost_init ?fiMost_told ?fiMost_tells ?pgMost ?hdMost ?poMost ?saMost ?mkMost ?kcMost ?noMost_first ?noMost_last ?noMost_worth ?fiDeal_init ?fiDeal_told ?fiDeal_tells ?pgDeal ?hdDeal ?poDeal ?saDeal ?mkDeal ?kcDeal ?noDeal_first ?noDeal_last ?noDeal_worth ?fiFee_init ?fiFee_told ?fiFee_tells ?pgFee ?hdFee ?poFee ?saFee ?mkFee ?kcFee ?noFee_first ?noFee_last ?noFee_worth ?aCB ?fi_binit ?is_binit ?l_binit ?c_binit ?k_binit ?lT ?fi_brules ?is_brules ?l_brules ?c_brules ?k_brules ?fi_btells ?is_btells ?l_btells ?c_btells ?k_btells ?pgB ?hdB ?poB ?saB ?mkB ?kcB ?noB_kept ?z1 ?z2 ?z3 ?z4 ?z5 ?z6 ?z7 ?z8 ?z9 ?z10 ?z11 ?z12 ?z13 ?z14 ?z15 ?z16 ?z17 ?z18 ?z19 ?gi1 ?gi2 ?gi3 ?gi4 ?aU ?lU ?hh1 ?hh2 ?hh3 ?hh4 ?hh5 ?hh6 ?hh7 ?hhd
    (case a1 => first | k_is | kernel_rfl); (case l1 => first | k_is | kernel_rfl); (case c1 => first | k_is | kernel_rfl); (case k1 => first | k_is | kernel_rfl); (case a2 => first | k_is | kernel_rfl); (case l2 => first | k_is | kernel_rfl)
    (case c2 => first | k_is | kernel_rfl); (case k2 => first | k_is | kernel_rfl); (case a3 => first | k_is | kernel_rfl); (case l3 => first | k_is | kernel_rfl); (case c3 => first | k_is | kernel_rfl); (case k3 => first | k_is | kernel_rfl)
    (case a4 => first | k_is | kernel_rfl); (case l4 => first | k_is | kernel_rfl); (case c4 => first | k_is | kernel_rfl); (case k4 => first | k_is | kernel_rfl); (case a5 => first | k_is | kernel_rfl); (case l5 => first | k_is | kernel_rfl)
    (case c5 => first | k_is | kernel_rfl); (case k5 => first | k_is | kernel_rfl); (case a6 => first | k_is | kernel_rfl); (case l6 => first | k_is | kernel_rfl); (case c6 => first | k_is | kernel_rfl); (case k6 => first | k_is | kernel_rfl)
    (case a7 => first | k_is | kernel_rfl); (case l7 => first | k_is | kernel_rfl); (case c7 => first | k_is | kernel_rfl); (case k7 => first | k_is | kernel_rfl); (case a8 => first | k_is | kernel_rfl); (case l8 => first | k_is | kernel_rfl)
    (case c8 => first | k_is | kernel_rfl); (case k8 => first | k_is | kernel_rfl); (case a9 => first | k_is | kernel_rfl); (case l9 => first | k_is | kernel_rfl); (case c9 => first | k_is | kernel_rfl); (case k9 => first | k_is | kernel_rfl)
    (case a10 => first | k_is | kernel_rfl); (case l10 => first | k_is | kernel_rfl); (case c10 => first | k_is | kernel_rfl); (case k10 => first | k_is | kernel_rfl); (case a11 => first | k_is | kernel_rfl); (case l11 => first | k_is | kernel_rfl)
    (case c11 => first | k_is | kernel_rfl); (case k11 => first | k_is | kernel_rfl); (case a12 => first | k_is | kernel_rfl); (case l12 => first | k_is | kernel_rfl); (case c12 => first | k_is | kernel_rfl); (case k12 => first | k_is | kernel_rfl)
    (case a13 => first | k_is | kernel_rfl); (case l13 => first | k_is | kernel_rfl); (case c13 => first | k_is | kernel_rfl); (case k13 => first | k_is | kernel_rfl); (case a14 => first | k_is | kernel_rfl); (case l14 => first | k_is | kernel_rfl)
    (case c14 => first | k_is | kernel_rfl); (case k14 => first | k_is | kernel_rfl); (case a15 => first | k_is | kernel_rfl); (case l15 => first | k_is | kernel_rfl); (case c15 => first | k_is | kernel_rfl); (case k15 => first | k_is | kernel_rfl)
    (case a16 => first | k_is | kernel_rfl); (case l16 => first | k_is | kernel_rfl); (case c16 => first | k_is | kernel_rfl); (case k16 => first | k_is | kernel_rfl); (case a17 => first | k_is | kernel_rfl); (case l17 => first | k_is | kernel_rfl)
    (case c17 => first | k_is | kernel_rfl); (case k17 => first | k_is | kernel_rfl); (case a18 => first | k_is | kernel_rfl); (case l18 => first | k_is | kernel_rfl); (case c18 => first | k_is | kernel_rfl); (case k18 => first | k_is | kernel_rfl)
    (case a19 => first | k_is | kernel_rfl); (case l19 => first | k_is | kernel_rfl); (case c19 => first | k_is | kernel_rfl); (case k19 => first | k_is | kernel_rfl); (case a20 => first | k_is | kernel_rfl); (case l20 => first | k_is | kernel_rfl)
    (case c20 => first | k_is | kernel_rfl); (case k20 => first | k_is | kernel_rfl); (case a21 => first | k_is | kernel_rfl); (case l21 => first | k_is | kernel_rfl); (case c21 => first | k_is | kernel_rfl); (case k21 => first | k_is | kernel_rfl)
    (case a22 => first | k_is | kernel_rfl); (case l22 => first | k_is | kernel_rfl); (case c22 => first | k_is | kernel_rfl); (case k22 => first | k_is | kernel_rfl); (case a23 => first | k_is | kernel_rfl); (case l23 => first | k_is | kernel_rfl)
    (case c23 => first | k_is | kernel_rfl); (case k23 => first | k_is | kernel_rfl); (case a24 => first | k_is | kernel_rfl); (case l24 => first | k_is | kernel_rfl); (case c24 => first | k_is | kernel_rfl); (case k24 => first | k_is | kernel_rfl)
    (case a25 => first | k_is | kernel_rfl); (case l25 => first | k_is | kernel_rfl); (case c25 => first | k_is | kernel_rfl); (case k25 => first | k_is | kernel_rfl); (case a26 => first | k_is | kernel_rfl); (case l26 => first | k_is | kernel_rfl)
    (case c26 => first | k_is | kernel_rfl); (case k26 => first | k_is | kernel_rfl); (case a27 => first | k_is | kernel_rfl); (case l27 => first | k_is | kernel_rfl); (case c27 => first | k_is | kernel_rfl); (case k27 => first | k_is | kernel_rfl)
    (case a28 => first | k_is | kernel_rfl); (case l28 => first | k_is | kernel_rfl); (case c28 => first | k_is | kernel_rfl); (case k28 => first | k_is | kernel_rfl); (case a29 => first | k_is | kernel_rfl); (case l29 => first | k_is | kernel_rfl)
    (case c29 => first | k_is | kernel_rfl); (case k29 => first | k_is | kernel_rfl); (case a30 => first | k_is | kernel_rfl); (case l30 => first | k_is | kernel_rfl); (case c30 => first | k_is | kernel_rfl); (case k30 => first | k_is | kernel_rfl)
    (case a31 => first | k_is | kernel_rfl); (case l31 => first | k_is | kernel_rfl); (case c31 => first | k_is | kernel_rfl); (case k31 => first | k_is | kernel_rfl); (case a32 => first | k_is | kernel_rfl); (case l32 => first | k_is | kernel_rfl)
    (case c32 => first | k_is | kernel_rfl); (case k32 => first | k_is | kernel_rfl); (case a33 => first | k_is | kernel_rfl); (case l33 => first | k_is | kernel_rfl); (case c33 => first | k_is | kernel_rfl); (case k33 => first | k_is | kernel_rfl)
    (case aCPrice => first | k_is | kernel_rfl); (case aCCome => first | k_is | kernel_rfl); (case aCGo => first | k_is | kernel_rfl); (case aCLeast => first | k_is | kernel_rfl); (case aCMost => first | k_is | kernel_rfl); (case aCDeal => first | k_is | kernel_rfl)
    (case aCFee => first | k_is | kernel_rfl); (case fi_init => first | k_is | kernel_rfl); (case is_init => first | k_is | kernel_rfl); (case l_init => first | k_is | kernel_rfl); (case c_init => first | k_is | kernel_rfl); (case k_init => first | k_is | kernel_rfl)
    (case fi_told => first | k_is | kernel_rfl); (case is_told => first | k_is | kernel_rfl); (case l_told => first | k_is | kernel_rfl); (case c_told => first | k_is | kernel_rfl); (case k_told => first | k_is | kernel_rfl); (case fi_tells => first | k_is | kernel_rfl)
    (case is_tells => first | k_is | kernel_rfl); (case l_tells => first | k_is | kernel_rfl); (case c_tells => first | k_is | kernel_rfl); (case k_tells => first | k_is | kernel_rfl); (case fi_wPrice => first | k_is | kernel_rfl); (case is_wPrice => first | k_is | kernel_rfl)
    (case l_wPrice => first | k_is | kernel_rfl); (case c_wPrice => first | k_is | kernel_rfl); (case k_wPrice => first | k_is | kernel_rfl); (case fi_wCome => first | k_is | kernel_rfl); (case is_wCome => first | k_is | kernel_rfl); (case l_wCome => first | k_is | kernel_rfl)
    (case c_wCome => first | k_is | kernel_rfl); (case k_wCome => first | k_is | kernel_rfl); (case fi_wGo => first | k_is | kernel_rfl); (case is_wGo => first | k_is | kernel_rfl); (case l_wGo => first | k_is | kernel_rfl); (case c_wGo => first | k_is | kernel_rfl)
    (case k_wGo => first | k_is | kernel_rfl); (case fi_wLeast => first | k_is | kernel_rfl); (case is_wLeast => first | k_is | kernel_rfl); (case l_wLeast => first | k_is | kernel_rfl); (case c_wLeast => first | k_is | kernel_rfl); (case k_wLeast => first | k_is | kernel_rfl)
    (case fi_wMost => first | k_is | kernel_rfl); (case is_wMost => first | k_is | kernel_rfl); (case l_wMost => first | k_is | kernel_rfl); (case c_wMost => first | k_is | kernel_rfl); (case k_wMost => first | k_is | kernel_rfl); (case fi_wDeal => first | k_is | kernel_rfl)
    (case is_wDeal => first | k_is | kernel_rfl); (case l_wDeal => first | k_is | kernel_rfl); (case c_wDeal => first | k_is | kernel_rfl); (case k_wDeal => first | k_is | kernel_rfl); (case fi_wFee => first | k_is | kernel_rfl); (case is_wFee => first | k_is | kernel_rfl)
    (case l_wFee => first | k_is | kernel_rfl); (case c_wFee => first | k_is | kernel_rfl); (case k_wFee => first | k_is | kernel_rfl); (case pgPrice => first | k_is | kernel_rfl); (case hdPrice => first | k_is | kernel_rfl); (case poPrice => first | k_is | kernel_rfl)
    (case saPrice => first | k_is | kernel_rfl); (case mkPrice => first | k_is | kernel_rfl); (case kcPrice => first | k_is | kernel_rfl); (case noPrice_first => first | k_is | kernel_rfl); (case noPrice_last => first | k_is | kernel_rfl); (case noPrice_worth => first | k_is | kernel_rfl)
    (case fiCome_init => first | k_is | kernel_rfl); (case fiCome_told => first | k_is | kernel_rfl); (case fiCome_tells => first | k_is | kernel_rfl); (case pgCome => first | k_is | kernel_rfl); (case hdCome => first | k_is | kernel_rfl); (case poCome => first | k_is | kernel_rfl)
    (case saCome => first | k_is | kernel_rfl); (case mkCome => first | k_is | kernel_rfl); (case kcCome => first | k_is | kernel_rfl); (case noCome_first => first | k_is | kernel_rfl); (case noCome_last => first | k_is | kernel_rfl); (case noCome_worth => first | k_is | kernel_rfl)
    (case fiGo_init => first | k_is | kernel_rfl); (case fiGo_told => first | k_is | kernel_rfl); (case fiGo_tells => first | k_is | kernel_rfl); (case pgGo => first | k_is | kernel_rfl); (case hdGo => first | k_is | kernel_rfl); (case poGo => first | k_is | kernel_rfl)
    (case saGo => first | k_is | kernel_rfl); (case mkGo => first | k_is | kernel_rfl); (case kcGo => first | k_is | kernel_rfl); (case noGo_first => first | k_is | kernel_rfl); (case noGo_last => first | k_is | kernel_rfl); (case noGo_worth => first | k_is | kernel_rfl)
    (case fiLeast_init => first | k_is | kernel_rfl); (case fiLeast_told => first | k_is | kernel_rfl); (case fiLeast_tells => first | k_is | kernel_rfl); (case pgLeast => first | k_is | kernel_rfl); (case hdLeast => first | k_is | kernel_rfl); (case poLeast => first | k_is | kernel_rfl)
    (case saLeast => first | k_is | kernel_rfl); (case mkLeast => first | k_is | kernel_rfl); (case kcLeast => first | k_is | kernel_rfl); (case noLeast_first => first | k_is | kernel_rfl); (case noLeast_last => first | k_is | kernel_rfl); (case noLeast_worth => first | k_is | kernel_rfl)
    (case fiMost_init => first | k_is | kernel_rfl); (case fiMost_told => first | k_is | kernel_rfl); (case fiMost_tells => first | k_is | kernel_rfl); (case pgMost => first | k_is | kernel_rfl); (case hdMost => first | k_is | kernel_rfl); (case poMost => first | k_is | kernel_rfl)
    (case saMost => first | k_is | kernel_rfl); (case mkMost => first | k_is | kernel_rfl); (case kcMost => first | k_is | kernel_rfl); (case noMost_first => first | k_is | kernel_rfl); (case noMost_last => first | k_is | kernel_rfl); (case noMost_worth => first | k_is | kernel_rfl)
    (case fiDeal_init => first | k_is | kernel_rfl); (case fiDeal_told => first | k_is | kernel_rfl); (case fiDeal_tells => first | k_is | kernel_rfl); (case pgDeal => first | k_is | kernel_rfl); (case hdDeal => first | k_is | kernel_rfl); (case poDeal => first | k_is | kernel_rfl)
    (case saDeal => first | k_is | kernel_rfl); (case mkDeal => first | k_is | kernel_rfl); (case kcDeal => first | k_is | kernel_rfl); (case noDeal_first => first | k_is | kernel_rfl); (case noDeal_last => first | k_is | kernel_rfl); (case noDeal_worth => first | k_is | kernel_rfl)
    (case fiFee_init => first | k_is | kernel_rfl); (case fiFee_told => first | k_is | kernel_rfl); (case fiFee_tells => first | k_is | kernel_rfl); (case pgFee => first | k_is | kernel_rfl); (case hdFee => first | k_is | kernel_rfl); (case poFee => first | k_is | kernel_rfl)
    (case saFee => first | k_is | kernel_rfl); (case mkFee => first | k_is | kernel_rfl); (case kcFee => first | k_is | kernel_rfl); (case noFee_first => first | k_is | kernel_rfl); (case noFee_last => first | k_is | kernel_rfl); (case noFee_worth => first | k_is | kernel_rfl)
    (case aCB => first | k_is | kernel_rfl); (case fi_binit => first | k_is | kernel_rfl); (case is_binit => first | k_is | kernel_rfl); (case l_binit => first | k_is | kernel_rfl); (case c_binit => first | k_is | kernel_rfl); (case k_binit => first | k_is | kernel_rfl)
    (case lT => first | k_is | kernel_rfl); (case fi_brules => first | k_is | kernel_rfl); (case is_brules => first | k_is | kernel_rfl); (case l_brules => first | k_is | kernel_rfl); (case c_brules => first | k_is | kernel_rfl); (case k_brules => first | k_is | kernel_rfl)
    (case fi_btells => first | k_is | kernel_rfl); (case is_btells => first | k_is | kernel_rfl); (case l_btells => first | k_is | kernel_rfl); (case c_btells => first | k_is | kernel_rfl); (case k_btells => first | k_is | kernel_rfl); (case pgB => first | k_is | kernel_rfl)
    (case hdB => first | k_is | kernel_rfl); (case poB => first | k_is | kernel_rfl); (case saB => first | k_is | kernel_rfl); (case mkB => first | k_is | kernel_rfl); (case kcB => first | k_is | kernel_rfl); (case noB_kept => first | k_is | kernel_rfl)
    (case z1 => first | k_is | kernel_rfl); (case z2 => first | k_is | kernel_rfl); (case z3 => first | k_is | kernel_rfl); (case z4 => first | k_is | kernel_rfl); (case z5 => first | k_is | kernel_rfl); (case z6 => first | k_is | kernel_rfl)
    (case z7 => first | k_is | kernel_rfl); (case z8 => first | k_is | kernel_rfl); (case z9 => first | k_is | kernel_rfl); (case z10 => first | k_is | kernel_rfl); (case z11 => first | k_is | kernel_rfl); (case z12 => first | k_is | kernel_rfl)
    (case z13 => first | k_is | kernel_rfl); (case z14 => first | k_is | kernel_rfl); (case z15 => first | k_is | kernel_rfl); (case z16 => first | k_is | kernel_rfl); (case z17 => first | k_is | kernel_rfl); (case z18 => first | k_is | kernel_rfl)
    (case z19 => first | k_is | kernel_rfl); (case gi1 => first | k_is | kernel_rfl); (case gi2 => first | k_is | kernel_rfl); (case gi3 => first | k_is | kernel_rfl); (case gi4 => first | k_is | kernel_rfl); (case aU => first | k_is | kernel_rfl)
    (case lU => first | k_is | kernel_rfl); (case hh1 => first | k_is | kernel_rfl); (case hh2 => first | k_is | kernel_rfl); (case hh3 => first | k_is | kernel_rfl); (case hh4 => first | k_is | kernel_rfl); (case hh5 => first | k_is | kernel_rfl)
    (case hh6 => first | k_is | kernel_rfl); (case hh7 => first | k_is | kernel_rfl)
    (case hhd => kernel_rfl)
