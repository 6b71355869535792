import PyProof.Rows.All
import Wide.All
import OpenK.AllK
import Wide.FinOn
import Lean
import PyProof.EqAt
import PyProof.EqKinds
import PyProof.TupleCall
import PySem.Challenge.RW_inflate_k14_whole_moved_alike
set_option Elab.async false
set_option linter.all false
set_option maxRecDepth 100000
set_option Elab.async false
set_option linter.all false
set_option maxRecDepth 100000
/-! THE HAND LAYER, for ints, bools, texts, own classes, LISTS and tuples (index, slices, in, append, pop ..), calls, loops. Paste it whole ahead of your own text; what your proof does not reach may be deleted. -/
namespace L2
open PySem PySem.Spec PyProof.Rows

/-- a key: an int or a str -/
abbrev Key := Sum Int Str
def keyIs : Key → Value → Bool
  | .inl k, v => Value.isInt k v
  | .inr x, v => Value.isStrOf x v
def keyH (w : World) : Key → Int
  | .inl k => hashInt k
  | .inr x => hashStr w x
theorem keyIs_shape : ∀ {k : Key} {v : Value}, keyIs k v = true → (∃ i t, k = Sum.inl i ∧ v = Value.int i t) ∨ (∃ x t, k = Sum.inr x ∧ v = Value.str x t)
  | .inl i, v, h => by
    obtain ⟨t, e⟩ := Value.isInt_shape (k := i) (v := v) h
    exact .inl ⟨i, t, rfl, e⟩
  | .inr x, v, h => by
    obtain ⟨t, e⟩ := Value.isStrOf_shape (x := x) (v := v) h
    exact .inr ⟨x, t, rfl, e⟩
theorem key_ll (a b : Int) : decide ((Sum.inl a : Key) = Sum.inl b) = (a == b) := by
  by_cases e : a = b
  · subst e; simp
  · have h : ¬ (Sum.inl a : Key) = Sum.inl b := fun q => e (Sum.inl.inj q)
    rw [decide_eq_false h]
    exact (beq_eq_false_iff_ne.mpr e).symm
theorem key_rr (a b : Str) : decide ((Sum.inr a : Key) = Sum.inr b) = decide (a = b) := by
  by_cases e : a = b
  · subst e; simp
  · have h : ¬ (Sum.inr a : Key) = Sum.inr b := fun q => e (Sum.inr.inj q)
    rw [decide_eq_false h, decide_eq_false e]
theorem key_lr (a : Int) (b : Str) : decide ((Sum.inl a : Key) = Sum.inr b) = false := decide_eq_false (fun q => nomatch q)
theorem key_rl (a : Str) (b : Int) : decide ((Sum.inr a : Key) = Sum.inl b) = false := decide_eq_false (fun q => nomatch q)

def mixKind (prog : Program) (w : World) : PySem.KeyKind prog w Key where
  is := keyIs
  hash := keyH w
  inj := fun v a b ha hb => by
    rcases keyIs_shape ha with ⟨i, t, rfl, rfl⟩ | ⟨x, t, rfl, rfl⟩
    · rcases keyIs_shape hb with ⟨j, u, rfl, e⟩ | ⟨y, u, rfl, e⟩
      · injection e with e1 _; rw [e1]
      · exact nomatch e
    · rcases keyIs_shape hb with ⟨j, u, rfl, e⟩ | ⟨y, u, rfl, e⟩
      · exact nomatch e
      · injection e with e1 _; rw [e1]
  byValue := fun k v h => by
    rcases keyIs_shape h with ⟨i, t, rfl, rfl⟩ | ⟨x, t, rfl, rfl⟩ <;> rfl
  pyHash := fun hv h => by
    rcases keyIs_shape hv with ⟨i, t, rfl, rfl⟩ | ⟨x, t, rfl, rfl⟩
    · exact wpAny_pyHash_int h
    · exact wpAny_pyHash_str h
  eqBool := fun hu hv h => by
    rcases keyIs_shape hu with ⟨i, t, rfl, rfl⟩ | ⟨x, t, rfl, rfl⟩
    · rcases keyIs_shape hv with ⟨j, u, rfl, rfl⟩ | ⟨y, u, rfl, rfl⟩
      · rw [key_ll] at h; exact wpAny_eqBool_int h
      · rw [key_lr] at h; exact SeqAt.EqAt.int_str i t y u _ _ _ _ h
    · rcases keyIs_shape hv with ⟨j, u, rfl, rfl⟩ | ⟨y, u, rfl, rfl⟩
      · rw [key_rl] at h; exact SeqAt.EqAt.str_int x t j u _ _ _ _ h
      · rw [key_rr] at h; exact wpAny_eqBool_str h
  «strs» := fun k x t v h => by
    rcases keyIs_shape h with ⟨i, u, rfl, e⟩ | ⟨y, u, rfl, e⟩
    · exact nomatch e
    · injection e with e1 _
      subst e1
      cases v <;> rfl

end L2

namespace L2
open PySem PySem.Spec PyProof.Rows

/-- a value, without the heap -/
inductive V where
  | non | bl (b : Bool) | int (i : Int) | str (x : Str) | byt (b : Array UInt8) | flt (b : UInt64) | ref (a : Addr) | ty (n : String)
  deriving DecidableEq

def RelV : V → Value → Prop
  | .non, u => u = Value.none
  | .bl b, u => u = Value.bool b
  | .int i, u => ∃ t, u = Value.int i t
  | .str x, u => ∃ t, u = Value.str x t
  | .byt b, u => ∃ t, u = Value.bytes b t
  | .flt b, u => ∃ t, u = Value.float b t
  | .ref a, u => u = Value.ref a
  | .ty n, u => u = Value.type n

abbrev Vals : List V → List Value → Prop := Paired RelV
theorem Vals.length {xs : List V} {us : List Value} (r : Vals xs us) : xs.length = us.length := Paired.length r
theorem Vals.get : ∀ {xs : List V} {us : List Value} {i : Nat} {x : V}, Vals xs us → xs[i]? = some x → ∃ u, us[i]? = some u ∧ RelV x u
  | _, _, _, _, .nil, e => by simp at e
  | _, _, 0, _, .cons r _, e => by simp at e; subst e; exact ⟨_, rfl, r⟩
  | _, _, i + 1, x, .cons _ t, e => by
    obtain ⟨u, h1, h2⟩ := Vals.get (i := i) (x := x) t (by simpa using e)
    exact ⟨u, by simpa using h1, h2⟩
theorem Vals.set {x : V} {u : Value} (r : RelV x u) : ∀ {xs : List V} {us : List Value} (i : Nat), Vals xs us → Vals (xs.set i x) (us.set i u)
  | _, _, _, .nil => .nil
  | _, _, 0, .cons _ t => .cons r t
  | _, _, i + 1, .cons q t => .cons q (Vals.set r i t)
theorem Vals.append : ∀ {xs ys : List V} {us ws : List Value}, Vals xs us → Vals ys ws → Vals (xs ++ ys) (us ++ ws)
  | _, _, _, _, .nil, s => s
  | _, _, _, _, .cons r t, s => .cons r (Vals.append t s)
theorem Vals.take : ∀ {xs : List V} {us : List Value} (n : Nat), Vals xs us → Vals (xs.take n) (us.take n)
  | _, _, 0, _ => .nil
  | _, _, _ + 1, .nil => .nil
  | _, _, n + 1, .cons r t => .cons r (Vals.take n t)
theorem Vals.drop : ∀ {xs : List V} {us : List Value} (n : Nat), Vals xs us → Vals (xs.drop n) (us.drop n)
  | _, _, 0, r => r
  | _, _, _ + 1, .nil => .nil
  | _, _, n + 1, .cons _ t => Vals.drop n t
theorem Vals.none_of : ∀ {xs : List V} {us : List Value} {i : Nat}, Vals xs us → xs[i]? = none → us[i]? = none := fun {xs us i} r e => by
  have h1 := r.length
  have h2 : xs.length ≤ i := List.getElem?_eq_none_iff.mp e
  exact List.getElem?_eq_none_iff.mpr (by omega)

def RelO : Option V → Option Value → Prop
  | some v, some u => RelV v u
  | none, none => True
  | _, _ => False
def KV {κ : Type} : List (κ × V) → List (κ × Value) → Prop := Paired fun (p : κ × V) (q : κ × Value) => p.1 = q.1 ∧ RelV p.2 q.2

/-- a key of a dict (00_mix): an int or a text -/
def kV : Key → V
  | .inl i => .int i
  | .inr x => .str x

/-- what stands at a tracked address -/
inductive HO where
  /-- a list -/
  | lst (xs : List V)
  /-- a tuple (never changes) -/
  | tup (xs : List V)
  /-- a dict whose keys are ints and texts; one whose keys are tuples of ints and texts (the empty one is both) -/
  | dK (kvs : List (Key × V)) | dT (kvs : List (List Key × V))
  /-- a set of ints: its members, its size -/
  | set (S : Int → Bool) (n : Nat)
  /-- an instance of the class at C, its dict at dx, its attributes -/
  | ins (C dx : Addr) (fs : List (Str × V))
  /-- the dict of the instance at x -/
  | own (x : Addr)
  /-- the dict of an exception -/
  | xd (fs : List (Str × V))
  /-- a bound method, f of x -/
  | met (f x : Addr)
  /-- a range object lo, lo + 1, .. below hi -/
  | rng (lo hi : Int)
  /-- a thing that is known to the object (the script; a dict while a loop walks it): read, never written while it is so -/
  | frz (o : Obj) (u : HO)
  /-- a code object's table -/
  | tbl (ps : Array Value)
  /-- any other thing, by what is true of its one object (a def of one's own: SetO a S n := HO.ext fun h => ..) -/
  | ext (φ : Heap → Prop)

abbrev Hp := Addr → Option HO
def upd (H : Hp) (a : Addr) (o : HO) : Hp := fun b => if b = a then some o else H b
theorem upd_same {H : Hp} {a : Addr} {o : HO} : upd H a o a = some o := by unfold upd; rw [if_pos rfl]
theorem upd_ne {H : Hp} {a b : Addr} {o : HO} (h : b ≠ a) : upd H a o b = H b := by unfold upd; rw [if_neg h]
theorem ne_of_none {H : Hp} {a b : Addr} {o : HO} (h : H a = some o) (h' : H b = none) : a ≠ b := by
  intro e; subst e; rw [h] at h'; cases h'

section
variable (P : Program) (w : World)
def ObjOk (H : Hp) (h : Heap) (a : Addr) : HO → Prop
  | .lst xs => xs.length ≤ sizeLine ∧ ∃ (its : List Value) (n : Nat), Vals xs its ∧ h.get? a = some { cls := .type "list", data := .seq its.toArray n }
  | .tup xs => xs.length ≤ sizeLine ∧ ∃ its : List Value, Vals xs its ∧ IsTup h a its.toArray
  | .dK kvs => kvs.length ≤ sizeLine ∧ (a == sysModules) = false ∧ ∃ vs, KV kvs vs ∧ h.DictOf (mixKind P w) a vs
  | .dT kvs => kvs.length ≤ sizeLine ∧ (a == sysModules) = false ∧ ∃ xs : List (List Key × Addr × Value),
      Paired (fun (p : List Key × V) (q : List Key × Addr × Value) => p.1 = q.1 ∧ H q.2.1 = some (.tup (p.1.map kV)) ∧ RelV p.2 q.2.2) kvs xs ∧
      ∃ o es ep, h.get? a = some o ∧ o.ExactDict ∧ o.data = .dict es ep ∧ es.toList = xs.map (entryOfKey (tupleKind (mixKind P w))) ∧ (xs.map (·.1)).Nodup
  | .set S n => h.SetOf (intKind P w) a S n
  | .ins C dx fs => H dx = some (.own a) ∧ fs.length ≤ 1000 ∧ dx ≠ a ∧ h.get? a = some (PySem.W.instObj C dx) ∧
      ∃ mA, h.Ns1 dx mA ∧ (∀ f, RelO (fs.lookup f) (mA f)) ∧ PySem.Within mA (fs.map (·.1))
  | .own _ => ∃ o, h.get? a = some o
  | .xd fs => ∃ mA, h.Ns1 a mA ∧ ∀ f, RelO (fs.lookup f) (mA f)
  | .rng lo hi => ∃ t u v, h.get? a = some { cls := .type "range", data := .fields #[.int lo t, .int hi u, .int 1 v] }
  | .frz o u => h.get? a = some o ∧ ObjOk H h a u
  | .tbl ps => h.get? a = some { cls := .none, data := .fields ps }
  | .met f x => h.get? a = some (PySem.W.methodObj (.ref f) (.ref x))
  | .ext φ => φ h ∧ (∃ o, h.get? a = some o) ∧ ∀ h1 h2 : Heap, φ h1 → (∀ o, h1.get? a = some o → h2.get? a = some o) → φ h2
/-- the abstract heap is held -/
def HOk (H : Hp) (h : Heap) : Prop := ∀ a o, H a = some o → ObjOk P w H h a o
end

section
variable {P : Program} {w : World} {H H' : Hp} {h h' : Heap} {a : Addr} {o : HO}
theorem ObjOk.lt (x : ObjOk P w H h a o) : a < h.objs.size := by
  cases o with
  | lst xs => obtain ⟨_, _, _, _, e⟩ := x; exact Heap.lt_size e
  | tup xs => obtain ⟨_, _, _, p⟩ := x; exact p.lt
  | dK kvs => obtain ⟨_, _, _, _, o, _, _, e, _⟩ := x; exact Heap.lt_size e
  | dT kvs => obtain ⟨_, _, _, _, o, _, _, e, _⟩ := x; exact Heap.lt_size e
  | set S n => obtain ⟨o, _, _, _, e, _⟩ := x; exact Heap.lt_size e
  | ins C dx fs => obtain ⟨_, _, _, e, _⟩ := x; exact Heap.lt_size e
  | own y => obtain ⟨_, e⟩ := x; exact Heap.lt_size e
  | xd fs => obtain ⟨_, ⟨_, _, _, e, _⟩, _⟩ := x; exact Heap.lt_size e
  | rng lo hi => obtain ⟨_, _, _, e⟩ := x; exact Heap.lt_size e
  | frz ob u => obtain ⟨e, _⟩ := x; exact Heap.lt_size e
  | tbl ps => exact Heap.lt_size (show h.get? a = some _ from x)
  | met f y => exact Heap.lt_size (show h.get? a = some _ from x)
  | ext φ => obtain ⟨_, ⟨_, e⟩, _⟩ := x; exact Heap.lt_size e
theorem Paired.mapP {α β : Type} {F G : α → β → Prop} : ∀ {l₁ : List α} {l₂ : List β}, Paired F l₁ l₂ → (∀ a b, F a b → G a b) → Paired G l₁ l₂
  | _, _, .nil, _ => .nil
  | _, _, .cons r t, f => .cons (f _ _ r) (Paired.mapP t f)
/-- what an object's description leans on: its own object, its own dict, the tuples -/
theorem ObjOk.stay (x : ObjOk P w H h a o) (k : ∀ b u, (b = a ∨ H b = some (.own a)) → h.get? b = some u → h'.get? b = some u)
    (ho : ∀ b, H b = some (.own a) → H' b = some (.own a)) (ht : ∀ b xs, H b = some (.tup xs) → H' b = some (.tup xs)) : ObjOk P w H' h' a o := by
  induction o with
  | lst xs => obtain ⟨z, its, n, r, e⟩ := x; exact ⟨z, its, n, r, k _ _ (.inl rfl) e⟩
  | tup xs => obtain ⟨z, its, r, ob, e, c⟩ := x; exact ⟨z, its, r, ob, k _ _ (.inl rfl) e, c⟩
  | dK kvs => obtain ⟨z, y, vs, r, ob, es, ep, e, c⟩ := x; exact ⟨z, y, vs, r, ob, es, ep, k _ _ (.inl rfl) e, c⟩
  | dT kvs =>
    obtain ⟨z, y, xs, r, ob, es, ep, e, c⟩ := x
    exact ⟨z, y, xs, Paired.mapP r fun p q z => ⟨z.1, ht _ _ z.2.1, z.2.2⟩, ob, es, ep, k _ _ (.inl rfl) e, c⟩
  | set S n => obtain ⟨ob, es, ep, t, e, c⟩ := x; exact ⟨ob, es, ep, t, k _ _ (.inl rfl) e, c⟩
  | ins C dx fs =>
    obtain ⟨d, z, ne, e, mA, ⟨od, es, ep, e2, c⟩, r⟩ := x
    exact ⟨ho _ d, z, ne, k _ _ (.inl rfl) e, mA, ⟨od, es, ep, k _ _ (.inr d) e2, c⟩, r⟩
  | own y => obtain ⟨ob, e⟩ := x; exact ⟨ob, k _ _ (.inl rfl) e⟩
  | xd fs => obtain ⟨mA, ⟨od, es, ep, e, c⟩, r⟩ := x; exact ⟨mA, ⟨od, es, ep, k _ _ (.inl rfl) e, c⟩, r⟩
  | rng lo hi => obtain ⟨t, u, v, e⟩ := x; exact ⟨t, u, v, k _ _ (.inl rfl) e⟩
  | frz ob u ih => obtain ⟨e, q⟩ := x; exact ⟨k _ _ (.inl rfl) e, ih q⟩
  | tbl ps =>
    have e : h.get? a = some { cls := .none, data := .fields ps } := x
    show h'.get? a = some { cls := .none, data := .fields ps }
    exact k a _ (.inl rfl) e
  | met f y =>
    have e : h.get? a = some (PySem.W.methodObj (.ref f) (.ref y)) := x
    show h'.get? a = some (PySem.W.methodObj (.ref f) (.ref y))
    exact k a _ (.inl rfl) e
  | ext φ => obtain ⟨p, ⟨o, e⟩, st⟩ := x; exact ⟨st _ _ p fun o q => k _ _ (.inl rfl) q, ⟨o, k _ _ (.inl rfl) e⟩, st⟩
theorem HOk.lt (x : HOk P w H h) (e : H a = some o) : a < h.objs.size := (x a o e).lt
theorem HOk.fresh (x : HOk P w H h) (e : h.objs.size ≤ a) : H a = none := by
  cases q : H a with
  | none => rfl
  | some u => exact absurd (Nat.lt_of_lt_of_le (x.lt q) e) (Nat.lt_irrefl _)
/-- every object of the heap is kept -/
theorem HOk.kept (x : HOk P w H h) (k : ∀ b u, h.get? b = some u → h'.get? b = some u) : HOk P w H h' := fun a o e =>
  (x a o e).stay (fun b u _ q => k b u q) (fun _ q => q) fun _ _ q => q
/-- a new object is laid and tracked -/
theorem HOk.laid (x : HOk P w H h) (k : ∀ b u, h.get? b = some u → h'.get? b = some u) (hp : h.objs.size ≤ a) (new : ObjOk P w (upd H a o) h' a o) : HOk P w (upd H a o) h' := fun b u e => by
  have hn := x.fresh hp
  by_cases hb : b = a
  · subst hb; rw [upd_same] at e; cases e; exact new
  · rw [upd_ne hb] at e
    exact (x b u e).stay (fun c v _ q => k c v q) (fun c q => by rw [upd_ne (ne_of_none q hn)]; exact q) fun c xs q => by rw [upd_ne (ne_of_none q hn)]; exact q
end

/-- what may be read as u: it is u, or a known u -/
def Rd (H : Hp) (a : Addr) (u : HO) : Prop := H a = some u ∨ ∃ o, H a = some (.frz o u)
theorem Rd.of {H : Hp} {a : Addr} {u : HO} (h : H a = some u) : Rd H a u := .inl h
theorem Rd.ok {P : Program} {w : World} {H : Hp} {h : Heap} {a : Addr} {u : HO} (r : Rd H a u) (x : HOk P w H h) : ObjOk P w H h a u := by
  rcases r with r | ⟨o, r⟩
  · exact x a u r
  · obtain ⟨_, q⟩ := x a _ r
    exact q
/-- what may be written -/
def Mut : Option HO → Prop
  | some (.lst _) => True
  | some (.dK _) => True
  | some (.dT _) => True
  | some (.set _ _) => True
  | some (.ins _ _ _) => True
  | some (.ext _) => True
  | _ => False
section
variable {P : Program} {w : World} {H : Hp} {h h' : Heap} {x e : Addr} {o' : HO}
/-- the object at e is changed: x itself, or the dict of the instance x -/
theorem HOk.write (ok : HOk P w H h) (mu : Mut (H x)) (he : e = x ∨ H e = some (.own x)) (k : ∀ b u, b ≠ e → h.get? b = some u → h'.get? b = some u) (heo : ∃ u, h'.get? e = some u)
    (new : ObjOk P w (upd H x o') h' x o') : HOk P w (upd H x o') h' := fun b u q => by
  have nown : ∀ c y, H c = some (.own y) → c ≠ x := fun c y r z => by subst z; rw [r] at mu; exact mu
  have ntup : ∀ c xs, H c = some (.tup xs) → c ≠ x := fun c xs r z => by subst z; rw [r] at mu; exact mu
  by_cases hb : b = x
  · subst hb; rw [upd_same] at q; cases q; exact new
  · rw [upd_ne hb] at q
    by_cases hbe : b = e
    · have q' : H b = some (.own x) := by
        rcases he with z | z
        · exact absurd (hbe.trans z) hb
        · rw [hbe]; exact z
      rw [q] at q'; cases q'
      obtain ⟨v, hv⟩ := heo
      exact ⟨v, by rw [hbe]; exact hv⟩
    · refine (ok b u q).stay (fun c v hc r => k c v ?_ r) (fun c r => by rw [upd_ne (nown c b r)]; exact r) fun c xs r => by rw [upd_ne (ntup c xs r)]; exact r
      rcases hc with rfl | hc
      · exact hbe
      · rintro rfl
        rcases he with z | z
        · exact nown c b hc z
        · rw [hc] at z; cases z; exact hb rfl
end

/-! ### kept unless tracked; of the frames at fs (the callers') the slots may change (an exception that passes writes there); of the records at ex (iterators) nothing is said -/
structure Un (fs ex : List Addr) (H H' : Hp) (h h' : Heap) : Prop where
  keep : ∀ b o, h.get? b = some o → H b = none → b ∉ fs → b ∉ ex → h'.get? b = some o
  slot : ∀ b o, h.get? b = some o → H b = none → b ∈ fs → b ∉ ex → ∃ sl, h'.get? b = some { o with slots := sl }
  free : ∀ b o, h.get? b = some o → H b = none → b ∉ ex → H' b = none
  there : ∀ b o, h.get? b = some o → b ∉ ex → ∃ o', h'.get? b = some o'
  tups : ∀ b xs, H b = some (.tup xs) → H' b = some (.tup xs)
  frzs : ∀ b o u, H b = some (.frz o u) → H' b = some (.frz o u)
  tbls : ∀ b ps, H b = some (.tbl ps) → ∃ more, H' b = some (.tbl (ps ++ more))
section
variable {fs fs' ex ex' : List Addr} {H H1 H2 : Hp} {h h1 h2 h' : Heap} {a x e : Addr} {o : HO}
theorem Un.any (u : Un fs ex H H1 h h1) {b : Addr} {ob : Obj} (q : h.get? b = some ob) (n : H b = none) (hx : b ∉ ex) : ∃ sl, h1.get? b = some { ob with slots := sl } := by
  by_cases hb : b ∈ fs
  · exact u.slot b ob q n hb hx
  · exact ⟨ob.slots, u.keep b ob q n hb hx⟩
theorem Un.trans (a : Un fs ex H H1 h h1) (b : Un fs ex H1 H2 h1 h2) : Un fs ex H H2 h h2 where
  keep := fun c ob q n hc hx => b.keep c ob (a.keep c ob q n hc hx) (a.free c ob q n hx) hc hx
  slot := fun c ob q n hc hx => by
    obtain ⟨sl, e1⟩ := a.slot c ob q n hc hx
    obtain ⟨sl', e2⟩ := b.slot c _ e1 (a.free c ob q n hx) hc hx
    exact ⟨sl', e2⟩
  free := fun c ob q n hx => by
    obtain ⟨o', e1⟩ := a.there c ob q hx
    exact b.free c o' e1 (a.free c ob q n hx) hx
  there := fun c ob q hx => by
    obtain ⟨o', e1⟩ := a.there c ob q hx
    exact b.there c o' e1 hx
  tups := fun c xs q => b.tups c xs (a.tups c xs q)
  frzs := fun c ob xs q => b.frzs c ob xs (a.frzs c ob xs q)
  tbls := fun c ps q => by
    obtain ⟨m1, e1⟩ := a.tbls c ps q
    obtain ⟨m2, e2⟩ := b.tbls c _ e1
    exact ⟨m1 ++ m2, by rw [e2, Array.append_assoc]⟩
theorem Un.kept (k : ∀ b u, h.get? b = some u → h'.get? b = some u) : Un fs ex H H h h' :=
  ⟨fun b ob q _ _ _ => k b ob q, fun b ob q _ _ _ => ⟨ob.slots, k b ob q⟩, fun _ _ _ n _ => n, fun b ob q _ => ⟨ob, k b ob q⟩, fun _ _ q => q, fun _ _ _ q => q, fun _ ps q => ⟨#[], by rw [q]; simp⟩⟩
theorem Un.refl : Un fs ex H H h h := Un.kept fun _ _ q => q
theorem Un.laid (k : ∀ b u, h.get? b = some u → h'.get? b = some u) (hp : h.objs.size ≤ a) (hn : H a = none) : Un fs ex H (upd H a o) h h' where
  keep := fun b u q _ _ _ => k b u q
  slot := fun b u q _ _ _ => ⟨u.slots, k b u q⟩
  free := fun b u q n _ => by rw [upd_ne (Nat.ne_of_lt (Nat.lt_of_lt_of_le (Heap.lt_size q) hp))]; exact n
  there := fun b u q _ => ⟨u, k b u q⟩
  tups := fun b xs q => by rw [upd_ne (ne_of_none q hn)]; exact q
  frzs := fun b u xs q => by rw [upd_ne (ne_of_none q hn)]; exact q
  tbls := fun b ps q => ⟨#[], by rw [upd_ne (ne_of_none q hn), q]; simp⟩
theorem Un.write (mu : Mut (H x)) (he : e = x ∨ H e = some (.own x)) (k : ∀ b u, b ≠ e → h.get? b = some u → h'.get? b = some u) (heo : ∃ u, h'.get? e = some u) : Un fs ex H (upd H x o) h h' := by
  have hx : ∀ b, H b = none → b ≠ x := fun b n z => by subst z; rw [n] at mu; exact mu
  have hb : ∀ b, H b = none → b ≠ e := fun b n z => by
    subst z
    rcases he with r | r
    · exact hx b n r
    · rw [n] at r; cases r
  have hm : ∀ b u, H b = some u → ¬ Mut (some u) → b ≠ x := fun b u q nm z => by subst z; rw [q] at mu; exact nm mu
  refine ⟨fun b u q n _ _ => k b u (hb b n) q, fun b u q n _ _ => ⟨u.slots, k b u (hb b n) q⟩, fun b u q n _ => by rw [upd_ne (hx b n)]; exact n, fun b u q _ => ?_,
    fun b xs q => by rw [upd_ne (hm b _ q fun z => z)]; exact q, fun b u xs q => by rw [upd_ne (hm b _ q fun z => z)]; exact q, fun b ps q => ⟨#[], by rw [upd_ne (hm b _ q fun z => z), q]; simp⟩⟩
  by_cases hbe : b = e
  · subst hbe; exact heo
  · exact ⟨u, k b u hbe q⟩
theorem Un.mono (u : Un fs ex H H1 h h1) (hs : ∀ b ∈ fs, b ∈ fs') (hx : ∀ b ∈ ex, b ∈ ex') : Un fs' ex' H H1 h h1 :=
  ⟨fun b ob q n hb he => u.keep b ob q n (fun z => hb (hs b z)) fun z => he (hx b z), fun _ _ q n _ he => u.any q n fun z => he (hx _ z), fun b ob q n he => u.free b ob q n fun z => he (hx b z), fun b ob q he => u.there b ob q fun z => he (hx b z), u.tups, u.frzs, u.tbls⟩
end

/-! ### the heap without what is tracked -/
def trk (h : Heap) (H : Hp) : List Addr := (List.range h.objs.size).filter fun a => (H a).isSome
def hidT (h : Heap) (H : Hp) : Heap := PySem.W.hideAll h (trk h H)
theorem hidT_size (h : Heap) (H : Hp) : (hidT h H).objs.size = h.objs.size := PySem.W.hideAll_size _ _
theorem hidT_get {h : Heap} {H : Hp} {b : Addr} {o : Obj} (e : h.get? b = some o) (n : H b = none) : (hidT h H).get? b = some o :=
  PySem.W.hideAll_get _ e fun hm => by
    have q : (H b).isSome = true := (List.mem_filter.mp hm).2
    rw [n] at q; simp at q
theorem of_hidT {h : Heap} {H : Hp} {b : Addr} {o : Obj} (e : (hidT h H).get? b = some o) : h.get? b = some o ∧ H b = none := by
  have e' : h.get? b = some o := PySem.W.of_hideAll (trk h H) e
  refine ⟨e', ?_⟩
  cases q : H b with
  | none => rfl
  | some x =>
    have hm : b ∈ trk h H := List.mem_filter.mpr ⟨List.mem_range.mpr (Heap.lt_size e'), by simp [q]⟩
    have z : (hidT h H).get? b = none := PySem.W.hideAll_none (trk h H) hm
    rw [z] at e; cases e

/-! ### OpenK's ledger, filled with every new object but one -/
def allNews (g h : Heap) (L : Addr) : List (Addr × Obj) := (List.range h.objs.size).filterMap fun a => if a = L ∨ (g.get? a).isSome = true then none else (h.get? a).map fun o => (a, o)
def rest (g h : Heap) (L d : Addr) : List (Addr × Obj) := (allNews g h L).filter fun p => decide (p.1 ≠ d)
end L2

namespace L2
open PySem PySem.Spec PyProof.Rows

/-- the module's facts, over the base: the heap at the law's entry without what is tracked there -/
structure Mod (K : PySem.W.Frag) (mg : Str → Option Value) (base : Heap) : Prop where
  kin : K.In base
  glob : base.Ns mainGlobals mg
  blt : ∃ mb, base.Ns builtinsNs mb ∧ ∀ x : Str, x ≠ "__name__" → mb x = bootBuiltins x
  nolimit : base.NoLimit

/-- the context: a def's body (or a comprehension's block) running. base: fixed through the whole law; s₀, H₀: the entry; outer: the frames whose slots others may change (a def's callers); stack: all frames that run;
   ex: iterators that were made ahead of the entry and are walked here (a comprehension's); fn: the names whose cells were made at the entry (a def: all; a comprehension's block: its own); calm: not within an except suite; pn: pins that every state bears; xe: what is wanted of an exception that leaves the code -/
structure Cx where
  prog : Program
  w : World
  K : PySem.W.Frag
  mg : Str → Option Value
  base : Heap
  A : Around
  N : List Str
  s₀ : Shared
  H₀ : Hp
  env : Env
  outer : List Env
  stack : List Env
  ex : List Addr
  fn : Str → Bool
  calm : Bool
  pn : List (Addr × Obj)
  xe : Value → Shared → Prop
/-- the callers' frames -/
def frs (l : List Env) : List Addr := l.filterMap (·.frame)
abbrev Cx.fs (X : Cx) : List Addr := frs X.outer

def Vis (sc : Scope) (x : Str) : Prop := sc.names.lookup x = some .local ∨ sc.names.lookup x = some .cell ∨ sc.names.lookup x = some .free
def Loc (sc : Scope) (x : Str) : Prop := sc.names.lookup x = some .local ∨ sc.names.lookup x = some .cell
def Look (env : Env) (h : Heap) (m : Str → Option Value) (x : Str) (u : Value) : Prop :=
  (env.kindOf x = some .local ∧ m x = some u) ∨ ((env.kindOf x = some .cell ∨ env.kindOf x = some .free) ∧ ∃ c, env.cells.lookup x = some c ∧ h.IsCell c (some u))

structure Cx.Ok (X : Cx) : Prop where
  mod : Mod X.K X.mg X.base
  kind : X.env.scope.kind = .function
  glob : X.env.globals = mainGlobals
  blt : X.env.builtins = builtinsNs
  above : X.s₀.heap.objs.size ≤ X.env.locals
  inj : ∀ x y c, X.env.cells.lookup x = some c → X.env.cells.lookup y = some c → x = y
  has : ∀ x, (X.env.kindOf x = some .cell ∨ X.env.kindOf x = some .free) → ∃ c, X.env.cells.lookup x = some c
  cab : ∀ x c, X.fn x = true → X.env.cells.lookup x = some c → X.s₀.heap.objs.size ≤ c
  hd : X.calm = true → X.A.handled = none
  frames : X.A.frames = some X.stack
  stk : X.stack = X.outer ∨ (X.stack = X.env :: X.outer ∧ X.env.frame = some X.env.locals)
  exf : ∀ b ∈ X.ex, b ≠ X.env.locals ∧ ∀ x c, X.env.cells.lookup x = some c → c ≠ b
  bs : ∀ b o, X.base.get? b = some o → X.s₀.heap.get? b = some o ∧ X.H₀ b = none
  bsz : X.base.objs.size ≤ X.s₀.heap.objs.size
  noex : ∀ b o, X.base.get? b = some o → b ∉ X.ex
  exfs : ∀ b ∈ X.ex, b ∉ X.fs
  funs : X.s₀.heap.FunFrames X.base X.outer
  frf : ∀ b ∈ X.fs, X.H₀ b = none

structure Inv (X : Cx) (pins : List (Addr × Obj)) (σ : List (Option V)) (H : Hp) (s : Shared) : Prop where
  ok : X.Ok
  os : s.os = X.s₀.os
  bare : AllBare s.gens
  base : Un X.fs X.ex X.H₀ H X.s₀.heap s.heap
  loc : ∃ m, s.heap.Ns X.env.locals m ∧ ∀ (i : Nat) (x : Str) (v : V), X.N[i]? = some x → σ[i]? = some (some v) → Vis X.env.scope x → ∃ u, RelV v u ∧ Look X.env s.heap m x u
  cell : ∀ x c, X.env.cells.lookup x = some c → ∃ v, s.heap.IsCell c v
  free : H X.env.locals = none
  freeC : ∀ x c, X.env.cells.lookup x = some c → H c = none
  pin : ∀ p ∈ X.pn ++ pins, s.heap.get? p.1 = some p.2 ∧ H p.1 = none ∧ p.1 ≠ X.env.locals ∧ p.1 ∉ X.fs ∧ ∀ v, p.2.data ≠ .cell v
  hok : HOk X.prog X.w H s.heap
  len : σ.length = X.N.length

section
variable {X : Cx} {pins : List (Addr × Obj)} {σ : List (Option V)} {H H' : Hp} {s : Shared} {h' : Heap}

theorem Cx.Ok.nofr (ok : X.Ok) {b : Addr} {o : Obj} (e : X.base.get? b = some o) : b ∉ X.fs := fun hb => by
  have := (ok.funs.mem hb).1
  rw [e] at this; cases this
theorem Inv.bs (I : Inv X pins σ H s) : ∀ b o, X.base.get? b = some o → s.heap.get? b = some o ∧ H b = none := fun b o e =>
  ⟨I.base.keep b o (I.ok.bs b o e).1 (I.ok.bs b o e).2 (I.ok.nofr e) (I.ok.noex b o e), I.base.free b o (I.ok.bs b o e).1 (I.ok.bs b o e).2 (I.ok.noex b o e)⟩
theorem Inv.bk (I : Inv X pins σ H s) : ∀ b o, X.base.get? b = some o → s.heap.get? b = some o := fun b o e => (I.bs b o e).1
theorem Inv.mod (I : Inv X pins σ H s) : Mod X.K X.mg X.base := I.ok.mod
theorem Inv.kIn (I : Inv X pins σ H s) : X.K.In s.heap := I.ok.mod.kin.keeps I.bk
theorem Inv.nolimit (I : Inv X pins σ H s) : s.heap.NoLimit := I.ok.mod.nolimit.keeps I.bk
/-- the frame over the base: for OpenK's rules (K.In X.base is I.mod.kin) -/
theorem Inv.fr (I : Inv X pins σ H s) : ∃ m, Fr X.base X.env.locals s.heap m :=
  let ⟨m, hn, _⟩ := I.loc
  ⟨m, hn, I.bk, Nat.le_trans I.ok.bsz I.ok.above⟩
theorem Inv.lt (I : Inv X pins σ H s) : X.env.locals < s.heap.objs.size := let ⟨_, hn, _⟩ := I.loc; hn.lt
theorem Inv.sz (I : Inv X pins σ H s) : X.s₀.heap.objs.size ≤ s.heap.objs.size := Nat.le_trans I.ok.above (Nat.le_of_lt I.lt)
theorem Inv.nofs (I : Inv X pins σ H s) {a : Addr} (h : s.heap.objs.size ≤ a) : a ∉ X.fs := fun hb => by
  obtain ⟨_, o, ho, _⟩ := I.ok.funs.mem hb
  exact absurd (Nat.lt_of_lt_of_le (Heap.lt_size ho) (Nat.le_trans I.sz h)) (Nat.lt_irrefl _)
theorem Inv.cne (I : Inv X pins σ H s) : ∀ x c, X.env.cells.lookup x = some c → c ≠ X.env.locals := fun x c e z => by
  obtain ⟨v, o, ho, hd⟩ := I.cell x c e
  obtain ⟨m, ⟨o', es, ep, ho', hd', _⟩, _⟩ := I.loc
  rw [z, ho'] at ho; cases ho; rw [hd'] at hd; cases hd
theorem Inv.funs (I : Inv X pins σ H s) : s.heap.FunFrames X.base X.outer := by
  have all : ∀ (l : List Env), (∀ b ∈ frs l, b ∈ X.fs) → X.s₀.heap.FunFrames X.base l → s.heap.FunFrames X.base l := by
    intro l
    induction l with
    | nil => intro _ _; trivial
    | cons env r ih =>
      intro hs hl
      obtain ⟨hk, ⟨L, o, hf, hn, ho, hd⟩, hr⟩ := hl
      have hL : L ∈ X.fs := hs L (by unfold frs; rw [List.filterMap_cons, hf]; exact List.mem_cons_self)
      obtain ⟨sl, e⟩ := I.base.slot L o ho (I.ok.frf L hL) hL fun z => I.ok.exfs L z hL
      exact ⟨hk, ⟨L, _, hf, hn, e, hd⟩, ih (fun b hb => hs b (by unfold frs; rw [List.filterMap_cons, hf]; exact List.mem_cons_of_mem _ hb)) hr⟩
  exact all X.outer (fun _ hb => hb) I.ok.funs

/-- the frames that run, for a call -/
theorem Inv.stack (I : Inv X pins σ H s) : s.heap.FunFrames X.base X.stack := by
  rcases I.ok.stk with e | ⟨e, hf⟩
  · rw [e]; exact I.funs
  · rw [e]
    obtain ⟨m, hn, _⟩ := I.loc
    refine .cons (by rw [I.ok.kind]; decide) hf hn ?_ I.funs
    exact Heap.get?_none_of_le (Nat.le_trans I.ok.bsz I.ok.above)
theorem Inv.stkSub (I : Inv X pins σ H s) : ∀ b ∈ frs X.stack, b ∈ X.env.locals :: X.fs := fun b hb => by
  rcases I.ok.stk with e | ⟨e, hf⟩
  · rw [e] at hb; exact List.mem_cons_of_mem _ hb
  · rw [e] at hb
    unfold frs at hb
    rw [List.filterMap_cons, hf] at hb
    exact hb
theorem Inv.stkFree (I : Inv X pins σ H s) : ∀ b ∈ frs X.stack, H b = none := fun b hb => by
  rcases List.mem_cons.mp (I.stkSub b hb) with e | hb
  · rw [e]; exact I.free
  · obtain ⟨_, o, ho, _⟩ := I.ok.funs.mem hb
    exact I.base.free b o ho (I.ok.frf b hb) fun z => I.ok.exfs b z hb

/-- THE STEP: the untracked objects but the frame and the records at ch are kept (the callers' frames up to slots), the frame's map is kept, the new abstract heap is held -/
theorem Inv.step {g' : Array GenState} {t' : Nat} {d' : Drawn} {ch : List Addr} (I : Inv X pins σ H s)
    (hch : ∀ b ∈ ch, (b ∈ X.ex ∨ X.s₀.heap.objs.size ≤ b) ∧ b ≠ X.env.locals ∧ (∀ x c, X.env.cells.lookup x = some c → c ≠ b) ∧ ∀ p ∈ X.pn ++ pins, p.1 ≠ b)
    (keep : ∀ b o, b ≠ X.env.locals → b ∉ X.fs → b ∉ ch → s.heap.get? b = some o → H b = none → h'.get? b = some o)
    (slot : ∀ b o, b ≠ X.env.locals → b ∈ X.fs → b ∉ ch → s.heap.get? b = some o → H b = none → ∃ sl, h'.get? b = some { o with slots := sl }) (free : ∀ b o, b ∉ ch → s.heap.get? b = some o → H b = none → H' b = none)
    (there : ∀ b o, b ∉ ch → s.heap.get? b = some o → ∃ o', h'.get? b = some o')
    (tups : ∀ b xs, H b = some (.tup xs) → H' b = some (.tup xs)) (frzs : ∀ b o u, H b = some (.frz o u) → H' b = some (.frz o u)) (tbls : ∀ b ps, H b = some (.tbl ps) → ∃ more, H' b = some (.tbl (ps ++ more)))
    (ns : ∀ m, s.heap.Ns X.env.locals m → h'.Ns X.env.locals m) (hok : HOk X.prog X.w H' h') (hg : AllBare g') :
    Inv X pins σ H' { s with heap := h', gens := g', drawn := d', toks := t' } := by
  have neL : ∀ b o, X.s₀.heap.get? b = some o → b ≠ X.env.locals := fun b o e => Nat.ne_of_lt (Nat.lt_of_lt_of_le (Heap.lt_size e) I.ok.above)
  have neC : ∀ b o, X.s₀.heap.get? b = some o → b ∉ X.ex → b ∉ ch := fun b o e hx hb => by
    rcases (hch b hb).1 with z | z
    · exact hx z
    · exact absurd (Nat.lt_of_lt_of_le (Heap.lt_size e) z) (Nat.lt_irrefl _)
  have cellK : ∀ x c, X.env.cells.lookup x = some c → ∀ v, s.heap.IsCell c v → h'.IsCell c v := fun x c e v ⟨o, ho, hd⟩ => by
    have nch : c ∉ ch := fun z => (hch c z).2.2.1 x c e rfl
    by_cases hc : c ∈ X.fs
    · obtain ⟨sl, q⟩ := slot c o (I.cne x c e) hc nch ho (I.freeC x c e)
      exact ⟨_, q, hd⟩
    · exact ⟨o, keep c o (I.cne x c e) hc nch ho (I.freeC x c e), hd⟩
  refine ⟨I.ok, I.os, hg, ⟨fun b o e n hb hx => ?_, fun b o e n hb hx => ?_, fun b o e n hx => ?_, fun b o e hx => ?_, fun b xs e => tups b xs (I.base.tups b xs e), fun b o xs e => frzs b o xs (I.base.frzs b o xs e), fun b ps e => ?_⟩, ?_, fun x c e => ?_, ?_, fun x c e => ?_, fun p hp => ?_, hok, I.len⟩
  · exact keep b o (neL b o e) hb (neC b o e hx) (I.base.keep b o e n hb hx) (I.base.free b o e n hx)
  · obtain ⟨sl, e1⟩ := I.base.slot b o e n hb hx
    obtain ⟨sl', e2⟩ := slot b _ (neL b o e) hb (neC b o e hx) e1 (I.base.free b o e n hx)
    exact ⟨sl', e2⟩
  · obtain ⟨o', e1⟩ := I.base.there b o e hx
    exact free b o' (neC b o e hx) e1 (I.base.free b o e n hx)
  · obtain ⟨o', e1⟩ := I.base.there b o e hx
    exact there b o' (neC b o e hx) e1
  · obtain ⟨m1, e1⟩ := I.base.tbls b ps e
    obtain ⟨m2, e2⟩ := tbls b _ e1
    exact ⟨m1 ++ m2, by rw [e2, Array.append_assoc]⟩
  · obtain ⟨m, hn, hl⟩ := I.loc
    refine ⟨m, ns m hn, fun i x v e1 e2 e3 => ?_⟩
    obtain ⟨u, r, l⟩ := hl i x v e1 e2 e3
    refine ⟨u, r, ?_⟩
    rcases l with l | ⟨k, c, e, z⟩
    · exact .inl l
    · exact .inr ⟨k, c, e, cellK x c e _ z⟩
  · obtain ⟨v, z⟩ := I.cell x c e
    exact ⟨v, cellK x c e v z⟩
  · obtain ⟨m, ⟨o, _, _, ho, _⟩, _⟩ := I.loc
    exact free _ o (fun z => (hch _ z).2.1 rfl) ho I.free
  · obtain ⟨v, o, ho, hd⟩ := I.cell x c e
    exact free c o (fun z => (hch c z).2.2.1 x c e rfl) ho (I.freeC x c e)
  · obtain ⟨e, n, ne, nf, d⟩ := I.pin p hp
    have nch : p.1 ∉ ch := fun z => (hch p.1 z).2.2.2 p hp rfl
    exact ⟨keep p.1 p.2 ne nf nch e n, free p.1 p.2 nch e n, ne, nf, d⟩
/-- .. where the frame's own object is kept too -/
theorem Inv.un {t' : Nat} (I : Inv X pins σ H s) (u : Un X.fs [] H H' s.heap h') (hok : HOk X.prog X.w H' h') : Inv X pins σ H' { s with heap := h', toks := t' } := by
  obtain ⟨m, ⟨o, es, ep, ho, r⟩, _⟩ := id I.loc
  obtain ⟨sl, hL⟩ := u.any ho I.free (by simp)
  exact I.step (g' := s.gens) (d' := s.drawn) (ch := []) (fun _ z => nomatch z) (fun b o _ hb _ e n => u.keep b o e n hb (by simp)) (fun b o _ hb _ e n => u.slot b o e n hb (by simp)) (fun b o _ e n => u.free b o e n (by simp)) (fun b o _ e => u.there b o e (by simp)) u.tups u.frzs u.tbls (fun m' hm => by
    obtain ⟨o', es', ep', ho', r'⟩ := hm
    rw [ho] at ho'; cases ho'
    exact ⟨_, es', ep', hL, r'⟩) hok I.bare
/-- behind a call (or a comprehension's block): the slots of this frame may have changed too, the records at ch may have turned -/
theorem Inv.call {g' : Array GenState} {t' : Nat} {d' : Drawn} {ch : List Addr} (I : Inv X pins σ H s) (u : Un (frs X.stack) ch H H' s.heap h') (hok : HOk X.prog X.w H' h') (hg : AllBare g')
    (hch : ∀ b ∈ ch, (b ∈ X.ex ∨ X.s₀.heap.objs.size ≤ b) ∧ b ≠ X.env.locals ∧ (∀ x c, X.env.cells.lookup x = some c → c ≠ b) ∧ ∀ p ∈ X.pn ++ pins, p.1 ≠ b) :
    Inv X pins σ H' { s with heap := h', gens := g', drawn := d', toks := t' } := by
  obtain ⟨m, ⟨o, es, ep, ho, r⟩, _⟩ := id I.loc
  obtain ⟨sl, hL⟩ := u.any ho I.free fun z => (hch _ z).2.1 rfl
  exact I.step (ch := ch) hch (fun b o hL hb hc e n => u.keep b o e n (fun z => (List.mem_cons.mp (I.stkSub b z)).elim hL hb) hc) (fun b o _ _ hc e n => u.any e n hc) (fun b o hc e n => u.free b o e n hc) (fun b o hc e => u.there b o e hc) u.tups u.frzs u.tbls (fun m' hm => by
    obtain ⟨o', es', ep', ho', r'⟩ := hm
    rw [ho] at ho'; cases ho'
    exact ⟨_, es', ep', hL, r'⟩) hok hg
/-- an untracked record of ours (an iterator) has turned -/
theorem Inv.turned {t' : Nat} {it : Addr} (I : Inv X pins σ H s) (k : ∀ b o, b ≠ it → s.heap.get? b = some o → h'.get? b = some o) (hn : H it = none) (hL : it ≠ X.env.locals)
    (h1 : it ∈ X.ex ∨ X.s₀.heap.objs.size ≤ it) (h2 : ∀ x c, X.env.cells.lookup x = some c → c ≠ it) (h3 : ∀ p ∈ X.pn ++ pins, p.1 ≠ it) : Inv X pins σ H { s with heap := h', toks := t' } := by
  have nit : ∀ b u, H b = some u → b ≠ it := fun b u e z => by rw [z, hn] at e; cases e
  refine I.step (g' := s.gens) (d' := s.drawn) (ch := [it]) (fun b hb => ?_) (fun b o _ _ hc e _ => k b o (fun z => hc (by simp [z])) e) (fun b o _ _ hc e _ => ⟨o.slots, k b o (fun z => hc (by simp [z])) e⟩) (fun _ _ _ _ n => n)
    (fun b o hc e => ⟨o, k b o (fun z => hc (by simp [z])) e⟩) (fun _ _ e => e) (fun _ _ _ e => e) (fun b ps e => ⟨#[], by rw [e]; simp⟩) (fun m hm => ?_) (fun b u e => ?_) I.bare
  · have e : b = it := by simpa using hb
    subst e
    exact ⟨h1, hL, h2, h3⟩
  · obtain ⟨o, es, ep, ho, r⟩ := hm
    exact ⟨o, es, ep, k _ o (Ne.symm hL) ho, r⟩
  · refine (I.hok b u e).stay (fun c v hc q => k c v ?_ q) (fun _ q => q) fun _ _ q => q
    rcases hc with z | z
    · rw [z]; exact nit b u e
    · exact nit c _ z
theorem Inv.tok (I : Inv X pins σ H s) (t : Nat) : Inv X pins σ H { s with toks := t } := I.un (h' := s.heap) (t' := t) Un.refl I.hok
/-- all objects kept -/
theorem Inv.kept {t' : Nat} (I : Inv X pins σ H s) (k : ∀ b u, s.heap.get? b = some u → h'.get? b = some u) : Inv X pins σ H { s with heap := h', toks := t' } := I.un (Un.kept k) (I.hok.kept k)
/-- a new object laid and tracked -/
theorem Inv.laid {a : Addr} {o : HO} {t' : Nat} (I : Inv X pins σ H s) (k : ∀ b u, s.heap.get? b = some u → h'.get? b = some u) (hp : s.heap.objs.size ≤ a) (new : ObjOk X.prog X.w (upd H a o) h' a o) :
    Inv X pins σ (upd H a o) { s with heap := h', toks := t' } := I.un (Un.laid k hp (I.hok.fresh hp)) (I.hok.laid k hp new)
/-- an object written -/
theorem Inv.write {x e : Addr} {o : HO} {t' : Nat} (I : Inv X pins σ H s) (mu : Mut (H x)) (he : e = x ∨ H e = some (.own x)) (k : ∀ b u, b ≠ e → s.heap.get? b = some u → h'.get? b = some u) (heo : ∃ u, h'.get? e = some u)
    (new : ObjOk X.prog X.w (upd H x o) h' x o) : Inv X pins σ (upd H x o) { s with heap := h', toks := t' } := I.un (Un.write mu he k heo) (I.hok.write mu he k heo new)
theorem Inv.pins_of {pins' : List (Addr × Obj)} (I : Inv X pins σ H s) (h : ∀ p ∈ pins', s.heap.get? p.1 = some p.2 ∧ H p.1 = none ∧ p.1 ≠ X.env.locals ∧ p.1 ∉ X.fs ∧ ∀ v, p.2.data ≠ .cell v) : Inv X pins' σ H s :=
  ⟨I.ok, I.os, I.bare, I.base, I.loc, I.cell, I.free, I.freeC, fun p hp => (List.mem_append.mp hp).elim (fun z => I.pin p (List.mem_append_left _ z)) (h p), I.hok, I.len⟩

theorem nodup_ix {N : List Str} (hN : N.Nodup) {i j : Nat} {x : Str} (a : N[i]? = some x) (b : N[j]? = some x) : i = j := by
  obtain ⟨h1, e1⟩ := List.getElem?_eq_some_iff.mp a
  obtain ⟨h2, e2⟩ := List.getElem?_eq_some_iff.mp b
  exact (List.getElem_inj hN).mp (e1.trans e2.symm)

/-- a name is stored; what changed -/
theorem store_ok2 {M : Model} {A : Around} {E : Value → Shared → Prop} {i : Nat} {x : Str} {v : V} {u : Value} {Q : Unit → Shared → Prop} (I : Inv X pins σ H s) (hN : X.N.Nodup) (hi : X.N[i]? = some x) (hx : Loc X.env.scope x) (r : RelV v u)
    (h : ∀ s', Inv X pins (σ.set i (some v)) H s' → (∃ a, Heap.SameBut a s.heap s'.heap ∧ (a = X.env.locals ∨ X.env.cells.lookup x = some a)) → Q () s') (hf : X.fn x = true ∨ X.env.scope.names.lookup x = some .local := by first | exact .inl rfl | exact .inr rfl | assumption) : wpAny M A (storeName X.env x u) Q E s := by
  obtain ⟨m, hn, hl⟩ := id I.loc
  have hcls : (X.env.scope.kind == .class || (X.env.scope.kind == .module && X.env.locals != X.env.globals)) = false := by rw [I.ok.kind]; rfl
  have hiσ : i < σ.length := by rw [I.len]; exact (List.getElem?_eq_some_iff.mp hi).1
  have cne := I.cne
  have tracked : ∀ {a : Addr} {h' : Heap}, (∃ o, s.heap.get? a = some o ∧ H a = none) → Heap.SameBut a s.heap h' → HOk X.prog X.w H h' := fun {a h'} ha hs b ob e => by
    obtain ⟨_, _, hfree⟩ := ha
    refine (I.hok b ob e).stay (fun c w' hc q => (hs.2 c ?_).trans q) (fun _ q => q) fun _ _ q => q
    rintro rfl
    rcases hc with rfl | hc
    · rw [hfree] at e; cases e
    · rw [hfree] at hc; cases hc
  rcases hx with hk | hk
  · refine wpAny_storeName_local hk hn (fun h' hn' hs => ?_) hcls
    obtain ⟨oL, _, _, hoL, _⟩ := id hn
    refine h _ ⟨I.ok, I.os, I.bare, ⟨fun b o e n hb hx => ?_, fun b o e n hb hx => ?_, I.base.free, fun b o e hx => ?_, I.base.tups, I.base.frzs, I.base.tbls⟩, ⟨_, hn', fun j y v' e1 e2 e3 => ?_⟩, fun y c e => ?_, I.free, I.freeC, fun p hp => ?_, tracked ⟨oL, hoL, I.free⟩ hs, by simpa using I.len⟩ ⟨_, hs, .inl rfl⟩
    · exact (hs.2 b (Nat.ne_of_lt (Nat.lt_of_lt_of_le (Heap.lt_size e) I.ok.above))).trans (I.base.keep b o e n hb hx)
    · obtain ⟨sl, e1⟩ := I.base.slot b o e n hb hx
      exact ⟨sl, (hs.2 b (Nat.ne_of_lt (Nat.lt_of_lt_of_le (Heap.lt_size e) I.ok.above))).trans e1⟩
    · obtain ⟨o', e1⟩ := I.base.there b o e hx
      exact ⟨o', (hs.2 b (Nat.ne_of_lt (Nat.lt_of_lt_of_le (Heap.lt_size e) I.ok.above))).trans e1⟩
    · by_cases hj : j = i
      · subst hj
        rw [hi] at e1; cases e1
        rw [List.getElem?_set_self hiσ] at e2
        cases e2
        exact ⟨u, r, .inl ⟨hk, by simp⟩⟩
      · rw [List.getElem?_set_ne (Ne.symm hj)] at e2
        obtain ⟨u', r', q⟩ := hl j y v' e1 e2 e3
        refine ⟨u', r', ?_⟩
        rcases q with ⟨k, e⟩ | ⟨k, c, e, z⟩
        · refine .inl ⟨k, ?_⟩
          have : y ≠ x := fun e => hj (nodup_ix hN e1 (e ▸ hi))
          simp [this, e]
        · exact .inr ⟨k, c, e, z.sameBut hs (cne y c e)⟩
    · obtain ⟨w', z⟩ := I.cell y c e
      exact ⟨w', z.sameBut hs (cne y c e)⟩
    · obtain ⟨e, n, ne, nf, d⟩ := I.pin p hp
      exact ⟨(hs.2 p.1 ne).trans e, n, ne, nf, d⟩
  · have hfn : X.fn x = true := by
      rcases hf with z | z
      · exact z
      · rw [z] at hk; cases hk
    obtain ⟨c, hc⟩ := I.ok.has x (.inl hk)
    obtain ⟨w', z⟩ := I.cell x c hc
    refine wpAny_storeName_cell I.ok.kind hk hc z (fun h' hc' hs => ?_)
    obtain ⟨oc, hoc, hocd⟩ := id z
    refine h { s with heap := h' } ⟨I.ok, I.os, I.bare, ⟨fun b o e n hb hx => ?_, fun b o e n hb hx => ?_, I.base.free, fun b o e hx => ?_, I.base.tups, I.base.frzs, I.base.tbls⟩, ⟨m, hn.sameBut hs (Ne.symm (cne x c hc)), fun j y v' e1 e2 e3 => ?_⟩, fun y c' e => ?_, I.free, I.freeC, fun p hp => ?_, tracked ⟨oc, hoc, I.freeC x c hc⟩ hs, by simpa using I.len⟩ ⟨c, hs, .inr hc⟩
    · exact (hs.2 b (Nat.ne_of_lt (Nat.lt_of_lt_of_le (Heap.lt_size e) (I.ok.cab x c hfn hc)))).trans (I.base.keep b o e n hb hx)
    · obtain ⟨sl, e1⟩ := I.base.slot b o e n hb hx
      exact ⟨sl, (hs.2 b (Nat.ne_of_lt (Nat.lt_of_lt_of_le (Heap.lt_size e) (I.ok.cab x c hfn hc)))).trans e1⟩
    · obtain ⟨o', e1⟩ := I.base.there b o e hx
      exact ⟨o', (hs.2 b (Nat.ne_of_lt (Nat.lt_of_lt_of_le (Heap.lt_size e) (I.ok.cab x c hfn hc)))).trans e1⟩
    · by_cases hj : j = i
      · subst hj
        rw [hi] at e1; cases e1
        rw [List.getElem?_set_self hiσ] at e2
        cases e2
        exact ⟨u, r, .inr ⟨.inl hk, c, hc, hc'⟩⟩
      · rw [List.getElem?_set_ne (Ne.symm hj)] at e2
        obtain ⟨u', r', q⟩ := hl j y v' e1 e2 e3
        refine ⟨u', r', ?_⟩
        rcases q with q | ⟨k, c', e, z'⟩
        · exact .inl q
        · refine .inr ⟨k, c', e, z'.sameBut hs ?_⟩
          rintro rfl
          exact hj (nodup_ix hN e1 (I.ok.inj _ _ _ e hc ▸ hi))
    · by_cases hcc : c' = c
      · subst hcc; exact ⟨_, hc'⟩
      · obtain ⟨w2, z2⟩ := I.cell y c' e
        exact ⟨w2, z2.sameBut hs hcc⟩
    · obtain ⟨e, n, ne, nf, d⟩ := I.pin p hp
      refine ⟨(hs.2 p.1 ?_).trans e, n, ne, nf, d⟩
      intro q
      rw [q, hoc] at e
      have q' : oc = p.2 := Option.some.inj e
      exact d w' (by rw [← q']; exact hocd)
theorem store_ok {M : Model} {A : Around} {E : Value → Shared → Prop} {i : Nat} {x : Str} {v : V} {u : Value} {Q : Unit → Shared → Prop} (I : Inv X pins σ H s) (hN : X.N.Nodup) (hi : X.N[i]? = some x) (hx : Loc X.env.scope x) (r : RelV v u)
    (h : ∀ s', Inv X pins (σ.set i (some v)) H s' → Q () s') (hf : X.fn x = true ∨ X.env.scope.names.lookup x = some .local := by first | exact .inl rfl | exact .inr rfl | assumption) : wpAny M A (storeName X.env x u) Q E s :=
  store_ok2 I hN hi hx r (fun s' I' _ => h s' I') hf
/-- behind a call or a block, the state as it is -/
theorem Inv.call' {s' : Shared} {ch : List Addr} (I : Inv X pins σ H s) (ho : s'.os = s.os) (u : Un (frs X.stack) ch H H' s.heap s'.heap) (hok : HOk X.prog X.w H' s'.heap) (hg : AllBare s'.gens)
    (hch : ∀ b ∈ ch, (b ∈ X.ex ∨ X.s₀.heap.objs.size ≤ b) ∧ b ≠ X.env.locals ∧ (∀ x c, X.env.cells.lookup x = some c → c ≠ b) ∧ ∀ p ∈ X.pn ++ pins, p.1 ≠ b) : Inv X pins σ H' s' := by
  obtain ⟨h', g', d', t', o'⟩ := s'
  have e : o' = s.os := ho
  subst e
  exact I.call (g' := g') (t' := t') (d' := d') u hok hg hch
end

/-! ### the judgements -/
/-- an exception: its class, its own dict's address (where it has one), the abstract heap behind it -/
abbrev XK := Value → Option Addr → Hp → Prop
abbrev St := List (Option V)
abbrev VK := V → Hp → Prop
/-- an expression's reading; a test's; an argument list's -/
abbrev TE := St → Hp → VK → Prop
abbrev TT := St → Hp → (Bool → Hp → Prop) → Prop
abbrev TA := St → Hp → (List V → Hp → Prop) → Prop
/-- what is wanted behind a statement -/
structure Ends where
  nx : St → Hp → Prop
  rt : VK
  bk : St → Hp → Prop := fun _ _ => False
  ct : St → Hp → Prop := fun _ _ => False
abbrev TS := Ends → St → Hp → Prop

def EP (X : Cx) (pins : List (Addr × Obj)) (σ : St) (Q : VK) (u : Value) (s' : Shared) : Prop := ∃ v H', Inv X pins σ H' s' ∧ RelV v u ∧ Q v H'
def TP (X : Cx) (pins : List (Addr × Obj)) (σ : St) (Q : Bool → Hp → Prop) (b : Bool) (s' : Shared) : Prop := ∃ H', Inv X pins σ H' s' ∧ Q b H'
def AP (X : Cx) (pins : List (Addr × Obj)) (σ : St) (Q : List V → Hp → Prop) (us : List Value) (s' : Shared) : Prop := ∃ vs H', Inv X pins σ H' s' ∧ Vals vs us ∧ Q vs H'
def SP (X : Cx) (pins : List (Addr × Obj)) (D : Ends) (f : Flow) (s' : Shared) : Prop :=
  match f with
  | .next => ∃ σ' H', Inv X pins σ' H' s' ∧ D.nx σ' H'
  | .brk => ∃ σ' H', Inv X pins σ' H' s' ∧ D.bk σ' H'
  | .cont => ∃ σ' H', Inv X pins σ' H' s' ∧ D.ct σ' H'
  | .ret u => ∃ v σ' H', Inv X pins σ' H' s' ∧ RelV v u ∧ D.rt v H'

def PE (X : Cx) (e : Expr) (t : TE) : Prop :=
  ∀ (pins : List (Addr × Obj)) (s : Shared) (σ : St) (H : Hp) (Q : VK), Inv X pins σ H s → t σ H Q → wpAny (model X.prog X.w) X.A (eval e X.env) (EP X pins σ Q) X.xe s
def PT (X : Cx) (e : Expr) (t : TT) : Prop :=
  ∀ (pins : List (Addr × Obj)) (s : Shared) (σ : St) (H : Hp) (Q : Bool → Hp → Prop), Inv X pins σ H s → t σ H Q → wpAny (model X.prog X.w) X.A (isTrue e X.env (eval e X.env)) (TP X pins σ Q) X.xe s
/-- a test whatever its 'whole' is (and, or) -/
def PW (X : Cx) (e : Expr) (t : TT) : Prop :=
  ∀ (whole : Sem Value) (pins : List (Addr × Obj)) (s : Shared) (σ : St) (H : Hp) (Q : Bool → Hp → Prop), Inv X pins σ H s → t σ H Q → wpAny (model X.prog X.w) X.A (isTrue e X.env whole) (TP X pins σ Q) X.xe s
theorem PW.pt {X : Cx} {e : Expr} {t : TT} (h : PW X e t) : PT X e t := h _
/-- an argument list (no star), from the left -/
def PA (X : Cx) (es : List Expr) (t : TA) : Prop :=
  ∀ (pos : Pos) (pins : List (Addr × Obj)) (s : Shared) (σ : St) (H : Hp) (Q : List V → Hp → Prop), Inv X pins σ H s → t σ H Q → wpAny (model X.prog X.w) X.A (spliced (backTo pos (starEach es X.env))) (AP X pins σ Q) X.xe s
def PS (X : Cx) (st : Stmt) (t : TS) : Prop :=
  ∀ (pins : List (Addr × Obj)) (s : Shared) (σ : St) (H : Hp) (D : Ends), Inv X pins σ H s → t D σ H → wpAny (model X.prog X.w) X.A (exec st X.env) (SP X pins D) X.xe s
def PSs (X : Cx) (st : List Stmt) (t : TS) : Prop :=
  ∀ (pins : List (Addr × Obj)) (s : Shared) (σ : St) (H : Hp) (D : Ends), Inv X pins σ H s → t D σ H → wpAny (model X.prog X.w) X.A (execs st X.env) (SP X pins D) X.xe s
/-- weaken the end -/
theorem thn {α : Type} {t : Sem α} {Q Q' : α → Shared → Prop} {M : Model} {A : Around} {E : Value → Shared → Prop} {s : Shared} (h : wpAny M A t Q E s) (hQ : ∀ a s, Q a s → Q' a s) : wpAny M A t Q' E s := wpAny_mono h hQ fun _ _ x => x
end L2

namespace L2
open PySem PySem.Spec PyProof.Rows
section
variable {X : Cx}


/-! ### names and constants -/
def tVar (i : Nat) : TE := fun σ H Q => ∃ v, σ[i]? = some (some v) ∧ Q v H
def tC (v : V) : TE := fun _ H Q => Q v H
theorem pe_var {i : Nat} {x : Str} {pos : Pos} (hN : X.N[i]? = some x) (hv : Vis X.env.scope x) (hd : (x == ("__debug__" : Str)) = false := by decide) (hcd : (x == ("__classdict__" : Str)) = false := by decide) : PE X (.Name x pos) (tVar i) := by
  intro pins s σ H Q I h
  obtain ⟨v, e, h⟩ := h
  obtain ⟨m, hn, hl⟩ := I.loc
  obtain ⟨u, r, l⟩ := hl i x v hN e hv
  have fin : EP X pins σ Q u s := ⟨v, H, I, r, h⟩
  rcases l with ⟨hk, hm⟩ | ⟨hk, c, hc, hcell⟩
  · exact wpAny_Name (wpAny_loadName_local I.ok.kind hk hn hm fin) hd
  · rcases hk with hk | hk
    · exact wpAny_Name (wpAny_loadName_cell I.ok.kind hk hc hcell fin) hd
    · exact wpAny_Name (wpAny_loadName_free I.ok.kind hk hc hcell fin hcd) hd
theorem pe_int {i j pos} : PE X (.Constant (.int i) j pos) (tC (.int i)) := fun _ _ _ H _ I h => wpAny_Constant_int ⟨.int i, H, I.tok _, ⟨_, rfl⟩, h⟩
theorem pe_bl {b j pos} : PE X (.Constant (.bool b) j pos) (tC (.bl b)) := fun _ _ _ H _ I h => Constant_bool ⟨.bl b, H, I, rfl, h⟩
theorem pe_non {j pos} : PE X (.Constant .none j pos) (tC .non) := fun _ _ _ H _ I h => Constant_none ⟨.non, H, I, rfl, h⟩

/-- a global name of the def -/
def Gl (X : Cx) (x : Str) : Prop := X.env.kindOf x = some .globalImplicit
theorem ld_glob {E : Value → Shared → Prop} {pins : List (Addr × Obj)} {s : Shared} {σ : St} {H : Hp} {x : Str} {u : Value} {pos : Pos} {Q : Value → Shared → Prop} (I : Inv X pins σ H s) (hg : Gl X x) (hm : X.mg x = some u) (h : Q u s)
    (hd : (x == ("__debug__" : Str)) = false := by decide) : wpAny (model X.prog X.w) X.A (eval (.Name x pos) X.env) Q E s :=
  Calls.Name_function_global I.ok.kind hg (Calls.loadGlobal_global (by rw [I.ok.glob]; exact I.mod.glob.keeps I.bk) hm h) hd
theorem ld_blt {E : Value → Shared → Prop} {pins : List (Addr × Obj)} {s : Shared} {σ : St} {H : Hp} {x : Str} {u : Value} {pos : Pos} {Q : Value → Shared → Prop} (I : Inv X pins σ H s) (hg : Gl X x) (hm : X.mg x = none) (hv : bootBuiltins x = some u) (h : Q u s)
    (hn : x ≠ "__name__" := by decide) (hd : (x == ("__debug__" : Str)) = false := by decide) : wpAny (model X.prog X.w) X.A (eval (.Name x pos) X.env) Q E s := by
  obtain ⟨mb, h1, h2⟩ := I.mod.blt
  exact Calls.Name_function_global I.ok.kind hg (Calls.loadGlobal_builtin (by rw [I.ok.glob]; exact I.mod.glob.keeps I.bk) hm (by rw [I.ok.blt]; exact h1.keeps I.bk) ((h2 x hn).trans hv) h) hd
/-- a module's constant, a class, a function, as a value -/
theorem pe_glob {x : Str} {v : V} {u : Value} {pos : Pos} (hg : Gl X x) (hm : X.mg x = some u) (r : RelV v u) (hd : (x == ("__debug__" : Str)) = false := by decide) : PE X (.Name x pos) (tC v) :=
  fun _ _ _ H _ I h => ld_glob I hg hm ⟨v, H, I, r, h⟩ hd
theorem pe_bltn {x : Str} {v : V} {u : Value} {pos : Pos} (hg : Gl X x) (hm : X.mg x = none) (hv : bootBuiltins x = some u) (r : RelV v u) (hn : x ≠ "__name__" := by decide) (hd : (x == ("__debug__" : Str)) = false := by decide) : PE X (.Name x pos) (tC v) :=
  fun _ _ _ H _ I h => ld_blt I hg hm hv ⟨v, H, I, r, h⟩ hn hd

/-! ### arithmetic -/
variable {a b : Expr} {ta tb : TE} {pos : Pos}

/-! ### comparisons -/
/-- a comparison as a value, as a test -/
def tB (t : TE) : TT := fun σ H Q => t σ H fun x H1 => ∃ c, x = .bl c ∧ Q c H1
/-- an expression whose value is a bool, as a test -/
theorem pt_val {e : Expr} {t : TE} (h : PE X e t) (he : ∀ whole, isTrue e X.env whole = (do let v ← whole; standAt e.pos; holding [v] (truthy v)) := by intro _; rfl) : PT X e (tB t) := by
  intro pins s σ H Q I hw
  refine isTrue_plain (thn (h pins s σ H _ I hw) fun v s1 ⟨x, H1, I1, r1, q1⟩ => ?_) (he _)
  obtain ⟨d, rfl, q⟩ := q1
  cases r1
  exact wpAny_truthy_bool ⟨H1, I1, q⟩

/-! ### and, or, not -/
variable {tA tB' : TT} {rest : List Expr}
def tAnd (t u : TT) : TT := fun σ H Q => t σ H fun c H1 => if c = true then u σ H1 Q else Q false H1
def tOr (t u : TT) : TT := fun σ H Q => t σ H fun c H1 => if c = true then Q true H1 else u σ H1 Q
def tNot (t : TT) : TT := fun σ H Q => t σ H fun c H1 => Q (!c) H1
theorem pw_and1 (ha : PT X a tA) : PW X (.BoolOp .And [a] pos) tA := by
  intro wh pins s σ H Q I h
  refine isTrue_and (thn (ha pins s σ H Q I h) fun c s1 e => ?_)
  cases c with
  | true => exact isTrue_and_nil e
  | false => exact e
theorem pw_or1 (ha : PT X a tA) : PW X (.BoolOp .Or [a] pos) tA := by
  intro wh pins s σ H Q I h
  refine isTrue_or (thn (ha pins s σ H Q I h) fun c s1 e => ?_)
  cases c with
  | false => exact isTrue_or_nil e
  | true => exact e
theorem pw_and (ha : PT X a tA) (hb : PW X (.BoolOp .And (b :: rest) pos) tB') : PW X (.BoolOp .And (a :: b :: rest) pos) (tAnd tA tB') := by
  intro wh pins s σ H Q I h
  refine isTrue_and (thn (ha pins s σ H _ I h) fun c s1 ⟨H1, I1, q1⟩ => ?_)
  cases c with
  | true => exact hb wh pins s1 σ H1 Q I1 q1
  | false => exact ⟨H1, I1, q1⟩
theorem pw_or (ha : PT X a tA) (hb : PW X (.BoolOp .Or (b :: rest) pos) tB') : PW X (.BoolOp .Or (a :: b :: rest) pos) (tOr tA tB') := by
  intro wh pins s σ H Q I h
  refine isTrue_or (thn (ha pins s σ H _ I h) fun c s1 ⟨H1, I1, q1⟩ => ?_)
  cases c with
  | true => exact ⟨H1, I1, q1⟩
  | false => exact hb wh pins s1 σ H1 Q I1 q1
theorem pt_not (ha : PT X a tA) : PT X (.UnaryOp .Not a pos) (tNot tA) := by
  intro pins s σ H Q I h
  exact isTrue_not (ha pins s σ H (fun c H1 => Q (!c) H1) I h)
/-- .. as values (bools) -/
def tAndV (ta tb : TE) : TE := fun σ H Q => ta σ H fun x H1 => ∃ c, x = .bl c ∧ if c = true then tb σ H1 Q else Q (.bl false) H1
def tOrV (ta tb : TE) : TE := fun σ H Q => ta σ H fun x H1 => ∃ c, x = .bl c ∧ if c = true then Q (.bl true) H1 else tb σ H1 Q
def tNotV (ta : TE) : TE := fun σ H Q => ta σ H fun x H1 => ∃ c, x = .bl c ∧ Q (.bl (!c)) H1
theorem pe_one {op} {t : TE} (h : PE X a t) : PE X (.BoolOp op [a] pos) t := fun pins s σ H Q I hw => BoolOp_one (h pins s σ H Q I hw)
theorem pe_and (ha : PE X a ta) (hb : PE X (.BoolOp .And (b :: rest) pos) tb) : PE X (.BoolOp .And (a :: b :: rest) pos) (tAndV ta tb) := by
  intro pins s σ H Q I h
  refine BoolOp_and (thn (ha pins s σ H _ I h) fun v s1 ⟨x, H1, I1, r1, q1⟩ => ?_)
  obtain ⟨c, rfl, q1⟩ := q1
  cases r1
  refine wpAny_truthy_bool ?_
  cases c with
  | true => exact hb pins s1 σ H1 Q I1 q1
  | false => exact ⟨.bl false, H1, I1, rfl, q1⟩
theorem pe_or (ha : PE X a ta) (hb : PE X (.BoolOp .Or (b :: rest) pos) tb) : PE X (.BoolOp .Or (a :: b :: rest) pos) (tOrV ta tb) := by
  intro pins s σ H Q I h
  refine BoolOp_or (thn (ha pins s σ H _ I h) fun v s1 ⟨x, H1, I1, r1, q1⟩ => ?_)
  obtain ⟨c, rfl, q1⟩ := q1
  cases r1
  refine wpAny_truthy_bool ?_
  cases c with
  | false => exact hb pins s1 σ H1 Q I1 q1
  | true => exact ⟨.bl true, H1, I1, rfl, q1⟩
theorem pe_not (ha : PE X a ta) : PE X (.UnaryOp .Not a pos) (tNotV ta) := by
  intro pins s σ H Q I h
  refine UnaryOp_ (thn (ha pins s σ H _ I h) fun v s1 ⟨x, H1, I1, r1, q1⟩ => ?_)
  obtain ⟨c, rfl, q1⟩ := q1
  cases r1
  exact not_of (wpAny_truthy_bool ⟨.bl (!c), H1, I1, rfl, q1⟩)
/-- a if t else b -/
def tIf (t : TT) (ta tb : TE) : TE := fun σ H Q => t σ H fun c H1 => if c = true then ta σ H1 Q else tb σ H1 Q
theorem pe_ifExp {c : Expr} (hc : PT X c tA) (ha : PE X a ta) (hb : PE X b tb) : PE X (.IfExp c a b pos) (tIf tA ta tb) := by
  intro pins s σ H Q I h
  refine wpAny_IfExp (thn (hc pins s σ H _ I h) fun d s1 ⟨H1, I1, q1⟩ => ?_)
  cases d with
  | true => exact ha pins s1 σ H1 Q I1 q1
  | false => exact hb pins s1 σ H1 Q I1 q1
end
end L2

namespace L2
open PySem PySem.Spec PyProof.Rows

/-! ### a list, a tuple that is read: tracked, frozen, or an object of the module -/
def SqL (K : PySem.W.Frag) (H : Hp) (a : Addr) (xs : List V) : Prop :=
  Rd H a (.lst xs) ∨
    ∃ (o : Obj) (its : Array Value) (n : Nat), K.lookup a = some o ∧ o.cls = .type "list" ∧ o.dict = none ∧ o.data = .seq its n ∧ its.size ≤ sizeLine ∧ Vals xs its.toList
def SqT (K : PySem.W.Frag) (H : Hp) (a : Addr) (xs : List V) : Prop :=
  Rd H a (.tup xs) ∨
    ∃ (o : Obj) (its : Array Value) (n : Nat), K.lookup a = some o ∧ o.cls = .type "tuple" ∧ o.data = .seq its n ∧ its.size ≤ sizeLine ∧ Vals xs its.toList
def absV : Value → Option V
  | .none => some .non
  | .bool b => some (.bl b)
  | .int i _ => some (.int i)
  | .str x _ => some (.str x)
  | .bytes b _ => some (.byt b)
  | .float b _ => some (.flt b)
  | .ref a => some (.ref a)
  | .type n => some (.ty n)
  | _ => none
theorem RelV.abs {x : V} {u : Value} (r : RelV x u) : absV u = some x := by
  cases x with
  | non => cases r; rfl
  | bl _ => cases r; rfl
  | int _ => obtain ⟨t, rfl⟩ := r; rfl
  | str _ => obtain ⟨t, rfl⟩ := r; rfl
  | byt _ => obtain ⟨t, rfl⟩ := r; rfl
  | flt _ => obtain ⟨t, rfl⟩ := r; rfl
  | ref _ => cases r; rfl
  | ty _ => cases r; rfl
theorem RelV.inj {x y : V} {u : Value} (r : RelV x u) (q : RelV y u) : x = y := Option.some.inj (r.abs.symm.trans q.abs)
theorem Vals.inj : ∀ {xs ys : List V} {us : List Value}, Vals xs us → Vals ys us → xs = ys
  | _, _, _, .nil, .nil => rfl
  | _, _, _, .cons r t, .cons r' t' => by rw [r.inj r', Vals.inj t t']
section
variable {X : Cx} {pins : List (Addr × Obj)} {σ : St} {H : Hp} {s : Shared} {a : Addr} {xs ys : List V}
theorem SqL.of {K : PySem.W.Frag} (h : H a = some (.lst xs)) : SqL K H a xs := .inl (.inl h)
theorem SqT.of {K : PySem.W.Frag} (h : H a = some (.tup xs)) : SqT K H a xs := .inl (.inl h)
theorem Inv.list (I : Inv X pins σ H s) (h : SqL X.K H a xs) : ∃ its : List Value, Vals xs its ∧ PlainL s.heap a its.toArray ∧ xs.length ≤ sizeLine := by
  rcases h with h | ⟨o, its, n, hk, hc, hd, hs, hz, r⟩
  · obtain ⟨z, its, n, r, e⟩ := h.ok I.hok
    exact ⟨its, r, ⟨_, n, e, rfl, rfl, rfl⟩, z⟩
  · refine ⟨its.toList, r, ⟨o, n, I.kIn a o hk, hc, hd, by simpa using hs⟩, ?_⟩
    have e := r.length
    simp only [Array.length_toList] at e
    omega
theorem Inv.tuple (I : Inv X pins σ H s) (h : SqT X.K H a xs) : ∃ its : List Value, Vals xs its ∧ IsTup s.heap a its.toArray ∧ xs.length ≤ sizeLine := by
  rcases h with h | ⟨o, its, n, hk, hc, hs, hz, r⟩
  · obtain ⟨z, its, r, p⟩ := h.ok I.hok
    exact ⟨its, r, p, z⟩
  · refine ⟨its.toList, r, ⟨o, I.kIn a o hk, hc, n, by simpa using hs⟩, ?_⟩
    have e := r.length
    simp only [Array.length_toList] at e
    omega
theorem Inv.list_inj (I : Inv X pins σ H s) (h : SqL X.K H a xs) (h' : SqL X.K H a ys) : xs = ys := by
  obtain ⟨its, r, ⟨o, n, e, _, _, d⟩, _⟩ := I.list h
  obtain ⟨its', r', ⟨o', n', e', _, _, d'⟩, _⟩ := I.list h'
  rw [e] at e'; cases e'
  rw [d] at d'
  injection d' with d1 _
  have : its = its' := by simpa using congrArg Array.toList d1
  subst this
  exact r.inj r'
theorem Inv.tuple_inj (I : Inv X pins σ H s) (h : SqT X.K H a xs) (h' : SqT X.K H a ys) : xs = ys := by
  obtain ⟨its, r, ⟨o, e, _, n, d⟩, _⟩ := I.tuple h
  obtain ⟨its', r', ⟨o', e', _, n', d'⟩, _⟩ := I.tuple h'
  rw [e] at e'; cases e'
  rw [d] at d'
  injection d' with d1 _
  have : its = its' := by simpa using congrArg Array.toList d1
  subst this
  exact r.inj r'
end

/-! ### another wish about exceptions -/
abbrev Cx.wish (X : Cx) (E : Value → Shared → Prop) : Cx := { X with xe := E }
/-- no exception leaves -/
abbrev Cx.nox (X : Cx) : Cx := X.wish fun _ _ => False
theorem Cx.Ok.wish {X : Cx} (ok : X.Ok) (E : Value → Shared → Prop) : (X.wish E).Ok :=
  ⟨ok.mod, ok.kind, ok.glob, ok.blt, ok.above, ok.inj, ok.has, ok.cab, ok.hd, ok.frames, ok.stk, ok.exf, ok.bs, ok.bsz, ok.noex, ok.exfs, ok.funs, ok.frf⟩
theorem Cx.Ok.unwish {X : Cx} {E : Value → Shared → Prop} (ok : (X.wish E).Ok) : X.Ok :=
  ⟨ok.mod, ok.kind, ok.glob, ok.blt, ok.above, ok.inj, ok.has, ok.cab, ok.hd, ok.frames, ok.stk, ok.exf, ok.bs, ok.bsz, ok.noex, ok.exfs, ok.funs, ok.frf⟩
section
variable {X : Cx} {pins : List (Addr × Obj)} {σ : St} {H : Hp} {s : Shared} {E : Value → Shared → Prop}
theorem Inv.wish (I : Inv X pins σ H s) (E : Value → Shared → Prop) : Inv (X.wish E) pins σ H s := ⟨I.ok.wish E, I.os, I.bare, I.base, I.loc, I.cell, I.free, I.freeC, I.pin, I.hok, I.len⟩
theorem Inv.unwish (I : Inv (X.wish E) pins σ H s) : Inv X pins σ H s := ⟨I.ok.unwish, I.os, I.bare, I.base, I.loc, I.cell, I.free, I.freeC, I.pin, I.hok, I.len⟩
theorem SP.unwish {D : Ends} {f : Flow} {s' : Shared} (h : SP (X.wish E) pins D f s') : SP X pins D f s' := by
  cases f with
  | next => obtain ⟨σ', H', I, q⟩ := h; exact ⟨σ', H', I.unwish, q⟩
  | brk => obtain ⟨σ', H', I, q⟩ := h; exact ⟨σ', H', I.unwish, q⟩
  | cont => obtain ⟨σ', H', I, q⟩ := h; exact ⟨σ', H', I.unwish, q⟩
  | ret u => obtain ⟨v, σ', H', I, r, q⟩ := h; exact ⟨v, σ', H', I.unwish, r, q⟩
theorem PE.nox {e : Expr} {t : TE} (h : PE X.nox e t) : PE X e t := fun pins s σ H Q I hw =>
  wpAny_mono (h pins s σ H Q (I.wish _) hw) (fun _ _ ⟨v, H', I', r, q⟩ => ⟨v, H', I'.unwish, r, q⟩) fun _ _ z => False.elim z
theorem PT.nox {e : Expr} {t : TT} (h : PT X.nox e t) : PT X e t := fun pins s σ H Q I hw =>
  wpAny_mono (h pins s σ H Q (I.wish _) hw) (fun _ _ ⟨H', I', q⟩ => ⟨H', I'.unwish, q⟩) fun _ _ z => False.elim z
theorem PSs.nox {st : List Stmt} {t : TS} (h : PSs X.nox st t) : PSs X st t := fun pins s σ H D I hw =>
  wpAny_mono (h pins s σ H D (I.wish _) hw) (fun _ _ q => q.unwish) fun _ _ z => False.elim z
end

/-! ### blocks and small statements -/
section
variable {X : Cx} {st : Stmt} {rest : List Stmt} {t u : TS} {e : Expr} {te : TE} {pos : Pos}
def tNext : TS := fun D σ H => D.nx σ H
def tSeq (t u : TS) : TS := fun D σ H => t { D with nx := u D } σ H
theorem pss_nil : PSs X [] tNext := fun _ _ σ H _ I h => wpAny_execs_nil ⟨σ, H, I, h⟩
theorem pss_cons (h1 : PS X st t) (h2 : PSs X rest u) : PSs X (st :: rest) (tSeq t u) := by
  intro pins s σ H D I h
  refine wpAny_execs_cons (thn (h1 pins s σ H { D with nx := u D } I h) fun f s1 q => ?_)
  cases f with
  | next =>
    obtain ⟨σ', H', I', q⟩ := q
    exact h2 pins s1 σ' H' D I' q
  | ret v => exact q
  | brk => exact q
  | cont => exact q
theorem pss_one (h1 : PS X st t) : PSs X [st] t := by
  intro pins s σ H D I h
  refine wpAny_execs_cons (thn (h1 pins s σ H D I h) fun f s1 q => ?_)
  cases f with
  | next => exact wpAny_execs_nil q
  | ret v => exact q
  | brk => exact q
  | cont => exact q
/-- in a def's body nothing is shown -/
theorem Inv.quiet {pins : List (Addr × Obj)} {σ : St} {H : Hp} {s : Shared} (I : Inv X pins σ H s) : interactive X.env = false := by simp [interactive, I.ok.kind]
/-- an expression whose value is dropped -/
def tDrop (te : TE) : TS := fun D σ H => te σ H fun _ H1 => D.nx σ H1
theorem ps_expr (he : PE X e te) (hs : swapsWith e none pos.line X.env = pure false := by rfl) : PS X (.Expr e pos) (tDrop te) := by
  intro pins s σ H D I h
  exact wpAny_Expr_any (thn (he pins s σ H _ I h) fun v s1 ⟨x, H1, I1, r1, q1⟩ => ⟨σ, H1, I1, q1⟩) I.quiet hs
def tRet (te : TE) : TS := fun D σ H => te σ H D.rt
theorem ps_ret (he : PE X e te) : PS X (.Return (some e) pos) (tRet te) := by
  intro pins s σ H D I h
  exact wpAny_Return_some (thn (he pins s σ H _ I h) fun v s1 ⟨x, H1, I1, r1, q1⟩ => ⟨x, σ, H1, I1, r1, q1⟩)
def tIfS (c : TT) (t u : TS) : TS := fun D σ H => c σ H fun b H1 => if b = true then t D σ H1 else u D σ H1
theorem ps_if {c : Expr} {a b : List Stmt} {tc : TT} (hc : PT X c tc) (ha : PSs X a t) (hb : PSs X b u) : PS X (.If c a b pos) (tIfS tc t u) := by
  intro pins s σ H D I h
  refine wpAny_If (thn (hc pins s σ H _ I h) fun d s1 ⟨H1, I1, q1⟩ => ?_)
  cases d with
  | true => exact ha pins s1 σ H1 D I1 q1
  | false => exact hb pins s1 σ H1 D I1 q1
/-- code that the proof never comes to -/
def tNever : TS := fun _ _ _ => False
theorem pss_never {sts : List Stmt} : PSs X sts tNever := fun _ _ _ _ _ _ h => h.elim
end

/-! ### targets -/
abbrev TG := V → St → Hp → (St → Hp → Prop) → Prop
abbrev TGs := List V → St → Hp → (St → Hp → Prop) → Prop
def PG (X : Cx) (target : Expr) (t : TG) : Prop :=
  ∀ (pins : List (Addr × Obj)) (s : Shared) (σ : St) (H : Hp) (v : V) (u : Value) (Q : St → Hp → Prop), Inv X pins σ H s → RelV v u → t v σ H Q →
    wpAny (model X.prog X.w) X.A (assign target X.env u) (fun _ s' => ∃ σ' H', Inv X pins σ' H' s' ∧ Q σ' H') X.xe s
/-- several targets, one after another -/
def PGs (X : Cx) (ts : List Expr) (t : TGs) : Prop :=
  ∀ (pins : List (Addr × Obj)) (s : Shared) (σ : St) (H : Hp) (vs : List V) (us : List Value) (Q : St → Hp → Prop), Inv X pins σ H s → Vals vs us → t vs σ H Q →
    wpAny (model X.prog X.w) X.A (assignInOrder ((assignEach ts X.env).map (·.2)) us) (fun _ s' => ∃ σ' H', Inv X pins σ' H' s' ∧ Q σ' H') X.xe s
section
variable {X : Cx} {pos : Pos}
def gName (i : Nat) : TG := fun v σ H Q => Q (σ.set i (some v)) H
theorem pg_name {i : Nat} {x : Str} (hN : X.N.Nodup) (hi : X.N[i]? = some x) (hx : Loc X.env.scope x) (hf : X.fn x = true ∨ X.env.scope.names.lookup x = some .local := by first | exact .inl rfl | exact .inr rfl | assumption) : PG X (.Name x pos) (gName i) := by
  intro pins s σ H v u Q I r h
  exact wpAny_assign_Name (store_ok I hN hi hx r (fun s' I' => ⟨_, H, I', h⟩) hf)
def gNil : TGs := fun vs σ H Q => vs = [] ∧ Q σ H
def gCons (t : TG) (u : TGs) : TGs := fun vs σ H Q => ∃ v r, vs = v :: r ∧ t v σ H fun σ' H' => u r σ' H' Q
theorem pgs_nil : PGs X [] gNil := by
  intro pins s σ H vs us Q I r h
  obtain ⟨e, h⟩ := h
  subst e
  cases r
  exact assignInOrder_nil ⟨σ, H, I, h⟩
theorem pgs_cons {e : Expr} {es : List Expr} {t : TG} {u : TGs} (h1 : PG X e t) (h2 : PGs X es u)
    (hs : (assignEach (e :: es) X.env).map (·.2) = assign e X.env :: (assignEach es X.env).map (·.2) := by rfl) : PGs X (e :: es) (gCons t u) := by
  intro pins s σ H vs us Q I r h
  obtain ⟨v, vr, e1, h⟩ := h
  subst e1
  cases r with
  | cons r rr =>
    rw [hs]
    refine assignInOrder_cons (thn (h1 pins s σ H _ _ _ I r h) fun _ s1 ⟨σ1, H1, I1, q1⟩ => ?_)
    exact h2 pins s1 σ1 H1 _ _ Q I1 rr q1
/-- (a, b, ..) = a tuple of that length -/
def gTup (K : PySem.W.Frag) (n : Nat) (t : TGs) : TG := fun v σ H Q => ∃ a xs, v = .ref a ∧ SqT K H a xs ∧ xs.length = n ∧ t xs σ H Q
theorem pg_tup {es : List Expr} {k : Nat} {t : TGs} {n : Nat} (hc : X.calm = true) (h : PGs X es t)
    (hn : (assignEach es X.env).length = n := by rfl) (hst : (assignEach es X.env).findIdx? (·.1) = none := by rfl) : PG X (.Tuple es k pos) (gTup X.K n t) := by
  intro pins s σ H v u Q I r hw
  obtain ⟨a, xs, e1, hq, hl, hw⟩ := hw
  subst e1
  cases r
  obtain ⟨its, rv, ht, hz⟩ := I.tuple hq
  refine assign_Tuple_tuple (I.ok.hd hc) ht (by simp [hn, ← hl, rv.length]) hst fun h' hx => ?_
  have I1 : Inv X pins σ H { s with heap := h' } := I.kept (t' := s.toks) fun b o e => hx b o (Nat.ne_of_lt (Heap.lt_size e)) e
  exact h pins _ σ H xs _ Q I1 (by simpa using rv) hw
/-- target = value -/
def tAsg (te : TE) (g : TG) : TS := fun D σ H => te σ H fun x H1 => g x σ H1 D.nx
theorem ps_asg {tg e : Expr} {te : TE} {g : TG} (he : PE X e te) (hg : PG X tg g) (hs : swapsWithSole [tg] e pos.line X.env = pure false := by rfl) (hw : swappedStores [tg] e X.env = pure none := by rfl)
    (h1 : (assignEach [tg] X.env).map (·.2) = [assign tg X.env] := by rfl) : PS X (.Assign [tg] e pos) (tAsg te g) := by
  intro pins s σ H D I h
  refine wpAny_Assign_stores (thn (he pins s σ H _ I h) fun v s1 ⟨x, H1, I1, r1, q1⟩ => ?_) hs hw
  rw [h1]
  exact thn (hg pins s1 σ H1 x v _ I1 r1 q1) fun _ s2 q => q
/-- name = value -/
theorem ps_set {i : Nat} {x : Str} {e : Expr} {te : TE} {pos' : Pos} (hN : X.N.Nodup) (hi : X.N[i]? = some x) (hx : Loc X.env.scope x) (he : PE X e te) (hs : swapsWith e (some (.Name x pos')) pos.line X.env = pure false := by rfl) (hf : X.fn x = true ∨ X.env.scope.names.lookup x = some .local := by first | exact .inl rfl | exact .inr rfl | assumption) :
    PS X (.Assign [.Name x pos'] e pos) (tAsg te (gName i)) := by
  intro pins s σ H D I h
  refine wpAny_Assign_Name (thn (he pins s σ H _ I h) fun v s1 ⟨y, H1, I1, r1, q1⟩ => ?_) hs
  exact store_ok I1 hN hi hx r1 (fun s2 I2 => ⟨_, H1, I2, q1⟩) hf
/-- a, b = x, y with plain local names: stored from the right; the pair itself is not tracked (the opening rows as in PyProof/Rows/TupAssign.lean:23) -/
def tPar (i j : Nat) (ta : TA) : TS := fun D σ H => ta σ H fun vs H1 => ∃ v w, vs = [v, w] ∧ D.nx ((σ.set i (some v)).set j (some w)) H1
theorem ps_par {i j : Nat} {x y : Str} {a b : Expr} {ta : TA} {px py pt : Pos} {kt k2 pt2} (hc : X.calm = true) (hN : X.N.Nodup) (hi : X.N[i]? = some x) (hj : X.N[j]? = some y) (hij : i ≠ j)
    (hx : X.env.scope.names.lookup x = some .local) (hy : X.env.scope.names.lookup y = some .local) (ha : PA X [a, b] ta)
    (hw : swappedStores [.Tuple [.Name x px, .Name y py] kt pt] (.Tuple [a, b] k2 pt2) X.env = pure (some [x, y]))
    (hs : swapsWithSole [.Tuple [.Name x px, .Name y py] kt pt] (.Tuple [a, b] k2 pt2) pos.line X.env = pure false := by rfl) :
    PS X (.Assign [.Tuple [.Name x px, .Name y py] kt pt] (.Tuple [a, b] k2 pt2) pos) (tPar i j ta) := by
  intro pins s σ H D I h
  rw [exec_Assign_arm]
  refine wpAny_bind (wpAny_standAt ?_)
  rw [hs]
  refine wpAny_bind (wpAny_pure ?_)
  rw [if_neg (by decide)]
  refine wpAny_bind (Tuple_ (thn (ha _ pins s σ H _ I h) fun us s1 ⟨vs, H1, I1, r1, q1⟩ => ?_))
  obtain ⟨v, w, e1, q1⟩ := q1
  subst e1
  obtain ⟨u1, u2, rfl, rv, rw'⟩ : ∃ u1 u2, us = [u1, u2] ∧ RelV v u1 ∧ RelV w u2 := by
    cases r1 with
    | cons p q =>
      cases q with
      | cons p' q' =>
        cases q'
        exact ⟨_, _, rfl, p, p'⟩
  refine wpAny_newObj_type ?_ (by show 2 ≤ sizeLine; decide)
  have I2 : Inv X pins σ H1 { s1 with heap := s1.heap.push { cls := .type "tuple", data := .seq [u1, u2].toArray } } := I1.kept (t' := s1.toks) fun b o e => Heap.get?_push_of_some _ e
  rw [hw]
  refine wpAny_bind (wpAny_pure ?_)
  show wpAny (model X.prog X.w) X.A (do rule "assign.swapped-stores"; let items ← unpackItems (.ref s1.heap.objs.size) 2 none; assignInOrder [fun v => bindName X.env y v, fun v => bindName X.env x v] items.reverse; pure Flow.next) _ _ _
  refine wpAny_bind (wpAny_rule (wpAny_bind (unpackItems_tuple (items := #[u1, u2]) (I.ok.hd hc) (IsTup.new s1.heap _) fun h' hx' => ?_)))
  have I3 := I2.kept (h' := h') (t' := s1.toks) fun b o e => hx' b o (Nat.ne_of_lt (Heap.lt_size e)) e
  show wpAny _ _ (assignInOrder [fun v => bindName X.env y v, fun v => bindName X.env x v] [u2, u1] >>= fun _ => pure Flow.next) _ _ _
  refine wpAny_bind (assignInOrder_cons (wpAny_bindName (store_ok I3 hN hj (.inl hy) rw' (fun s2 I4 => ?_) (.inr hy))))
  refine assignInOrder_cons (wpAny_bindName (store_ok I4 hN hi (.inl hx) rv (fun s3 I5 => assignInOrder_nil (wpAny_pure ?_)) (.inr hx)))
  rw [List.set_comm _ _ (Ne.symm hij)] at I5
  exact ⟨_, H1, I5, q1⟩
end

/-! ### while -/
section
variable {X : Cx} {pos : Pos}
/-- the invariant W with its measure -/
def tWhile (c : TT) (tb : TS) : TS := fun D σ H => ∃ W : Nat → St → Hp → Prop, (∃ m, W m σ H) ∧ ∀ m σ H, W m σ H →
  c σ H fun b H1 => if b = true then ∃ N : St → Hp → Prop, (∀ σ' H', N σ' H' → ∃ m', m' < m ∧ W m' σ' H') ∧ tb { D with nx := N, ct := N, bk := D.nx } σ H1 else D.nx σ H1
theorem ps_while {c : Expr} {body : List Stmt} {tc : TT} {tb : TS} (hp : PassesOwn (model X.prog X.w) X.A X.env X.xe) (hc : PT X c tc) (hb : PSs X body tb) : PS X (.While c body [] pos) (tWhile tc tb) := by
  intro pins s σ H D I h
  obtain ⟨W, ⟨m0, w0⟩, turn⟩ := h
  refine wpAny_While (codeAny_whileLoop (fun n s' => ∃ σ' H', Inv X pins σ' H' s' ∧ W n σ' H') ?_ m0 ⟨σ, H, I, w0⟩)
  rintro n s1 ⟨σ1, H1, I1, w1⟩
  refine wpAny_passesOwn hp (thn (hc pins s1 σ1 H1 _ I1 (turn n σ1 H1 w1)) fun b s2 ⟨H2, I2, q2⟩ => ?_)
  cases b with
  | true =>
    obtain ⟨N, hN, q2⟩ := q2
    rw [if_pos rfl]
    refine wpAny_passesOwn hp (thn (hb pins s2 σ1 H2 _ I2 q2) fun f s3 q3 => ?_)
    cases f with
    | next =>
      obtain ⟨σ3, H3, I3, n3⟩ := q3
      obtain ⟨m', hm, w3⟩ := hN σ3 H3 n3
      exact ⟨m', hm, σ3, H3, I3, w3⟩
    | cont =>
      obtain ⟨σ3, H3, I3, n3⟩ := q3
      obtain ⟨m', hm, w3⟩ := hN σ3 H3 n3
      exact ⟨m', hm, σ3, H3, I3, w3⟩
    | brk => exact q3
    | ret v => exact q3
  | false =>
    rw [if_neg Bool.false_ne_true]
    exact wpAny_execs_nil ⟨σ1, H2, I2, q2⟩
end

/-! ### what a loop or a comprehension walks -/
/-- at turn i: it yields x (the heap may grow), or it stops -/
structure It where
  go : Nat → Hp → Prop
  yld : Nat → Hp → V → Hp → Prop
  stop : Nat → Hp → Prop
/-- the iterator's own objects may turn: they are not the frame's, not pinned, younger than the entry (or a comprehension's own) -/
def FpOk (X : Cx) (pins : List (Addr × Obj)) (H : Hp) (b : Addr) : Prop :=
  H b = none ∧ b ≠ X.env.locals ∧ b ∉ X.fs ∧ (b ∈ X.ex ∨ X.s₀.heap.objs.size ≤ b) ∧ (∀ x c, X.env.cells.lookup x = some c → c ≠ b) ∧ ∀ p ∈ X.pn ++ pins, p.1 ≠ b
theorem Inv.fpOk {X : Cx} {pins : List (Addr × Obj)} {σ : St} {H H' : Hp} {s : Shared} {b : Addr} (I : Inv X pins σ H s) (hb : s.heap.objs.size ≤ b) (hn : H' b = none) : FpOk X pins H' b := by
  refine ⟨hn, Nat.ne_of_gt (Nat.lt_of_lt_of_le I.lt hb), I.nofs hb, .inr (Nat.le_trans I.sz hb), fun x c e z => ?_, fun p hp z => ?_⟩
  · obtain ⟨v, q⟩ := I.cell x c e
    exact absurd (Nat.lt_of_lt_of_le q.lt (by rw [z]; exact hb)) (Nat.lt_irrefl _)
  · exact absurd (Nat.lt_of_lt_of_le (Heap.lt_size (I.pin p hp).1) (by rw [z]; exact hb)) (Nat.lt_irrefl _)
structure Turn (P : Program) (w : World) (K : PySem.W.Frag) (tg : Expr) (J : It) (fp : List Addr) (it : Addr) (tn : Nat → Heap → Prop) : Prop where
  mem : it ∈ fp
  obj : ∀ i h, tn i h → ∀ b ∈ fp, ∃ o, h.get? b = some o ∧ ∀ v, o.data ≠ .cell v
  keep : ∀ i h h', tn i h → (∀ b ∈ fp, ∀ o, h.get? b = some o → h'.get? b = some o) → tn i h'
  item : ∀ (X : Cx), X.prog = P → X.w = w → X.K = K → X.calm = true → ∀ (i : Nat) (pins : List (Addr × Obj)) (s : Shared) (σ : St) (H : Hp) (E : Value → Shared → Prop), Inv X pins σ H s → (∀ b ∈ fp, FpOk X pins H b) → tn i s.heap → J.go i H →
    wpAny (model P w) X.A (pyNext (.ref it)) (fun r s1 => ∃ u, r = some u ∧
      wpAny (model P w) X.A (letOwnedTupleGo tg (.ref it) u) (fun _ s2 => ∃ x H', Inv X pins σ H' s2 ∧ RelV x u ∧ J.yld i H x H' ∧ tn (i + 1) s2.heap ∧ ∀ b ∈ fp, H' b = none) E s1) E s
  done : ∀ (X : Cx), X.prog = P → X.w = w → X.K = K → X.calm = true → ∀ (i : Nat) (pins : List (Addr × Obj)) (s : Shared) (σ : St) (H : Hp) (E : Value → Shared → Prop), Inv X pins σ H s → (∀ b ∈ fp, FpOk X pins H b) → tn i s.heap → J.stop i H →
    wpAny (model P w) X.A (pyNext (.ref it)) (fun r s1 => r = none ∧ Inv X pins σ H s1) E s
  self : ∀ (A : Around) (i : Nat) (s : Shared) (Q : Value → Shared → Prop) (E : Value → Shared → Prop), tn i s.heap → Q (.ref it) s → wpAny (model P w) A (pyIter (.ref it)) Q E s
abbrev TI := St → Hp → (It → Hp → Prop) → Prop
/-- an iterator has come -/
def PIE (X : Cx) (pins : List (Addr × Obj)) (σ : St) (tg : Expr) (R : It → Hp → Prop) (itv : Value) (s2 : Shared) : Prop :=
  ∃ (it : Addr) (fp : List Addr) (tn : Nat → Heap → Prop) (J : It) (H' : Hp), itv = .ref it ∧ Inv X pins σ H' s2 ∧ Turn X.prog X.w X.K tg J fp it tn ∧ tn 0 s2.heap ∧ (∀ b ∈ fp, FpOk X pins H' b) ∧ R J H'
def PI (X : Cx) (tg iter : Expr) (wi : TI) : Prop :=
  ∀ (pins : List (Addr × Obj)) (s : Shared) (σ : St) (H : Hp) (R : It → Hp → Prop), Inv X pins σ H s → wi σ H R →
    wpAny (model X.prog X.w) X.A (eval iter X.env) (fun v s1 => wpAny (model X.prog X.w) X.A (pyIter v) (PIE X pins σ tg R) X.xe s1) X.xe s

/-- the step ahead of the store is nothing for an iterator that keeps no tuple -/
theorem go_of {M : Model} {A : Around} {E : Value → Shared → Prop} {s : Shared} {tg : Expr} {it : Addr} {u : Value} {o : Obj} {n : String} {vs : Array Value} {Q : Unit → Shared → Prop} (ho : s.heap.get? it = some o) (hc : o.cls = .type n) (hd : o.data = .fields vs)
    (hn : ["enumerate", "zip", "dict_itemiterator", "dict_reverseitemiterator", "odict_iterator", "itertools.zip_longest", "itertools.pairwise"].contains n = false) (hQ : Q () s) : wpAny M A (letOwnedTupleGo tg (.ref it) u) Q E s := by
  unfold letOwnedTupleGo
  cases tg <;> first
    | exact wpAny_pure hQ
    | (cases u <;> first
        | exact wpAny_pure hQ
        | (refine wpAny_bind (wpAny_load ho ?_)
           rw [hc, hd]
           show wpAny M A (if (["enumerate", "zip", "dict_itemiterator", "dict_reverseitemiterator", "odict_iterator", "itertools.zip_longest", "itertools.pairwise"].contains n && vs[0]? == some (rawInt _)) = true then _ else _) Q E s
           rw [if_neg (by intro h; rw [hn, Bool.false_and] at h; cases h)]
           exact wpAny_pure hQ))

/-- the list at a, as it stands at each turn (a loop may append to it) -/
def Itl (K : PySem.W.Frag) (a : Addr) : It :=
  ⟨fun i H => ∃ xs x, SqL K H a xs ∧ xs[i]? = some x, fun i H x H' => H' = H ∧ ∀ xs, SqL K H a xs → xs[i]? = some x, fun i H => ∃ xs, SqL K H a xs ∧ xs.length ≤ i⟩
def Itt (K : PySem.W.Frag) (a : Addr) : It :=
  ⟨fun i H => ∃ xs x, SqT K H a xs ∧ xs[i]? = some x, fun i H x H' => H' = H ∧ ∀ xs, SqT K H a xs → xs[i]? = some x, fun i H => ∃ xs, SqT K H a xs ∧ xs.length ≤ i⟩
/-- lo, lo + 1, .. (n of them) -/
def Itr (lo : Int) (n : Nat) : It := ⟨fun i _ => i < n, fun i H x H' => H' = H ∧ x = .int (lo + i), fun i _ => n ≤ i⟩
theorem turn_list {P : Program} {w : World} {K : PySem.W.Frag} {tg : Expr} (a it : Addr) : Turn P w K tg (Itl K a) [it] it (fun i h => h.IsListIter it a i) where
  mem := by simp
  obj := fun i h st b hb => by
    have e : b = it := by simpa using hb
    subst e
    obtain ⟨o, e, c, d⟩ := st
    exact ⟨o, e, fun v z => by rw [d] at z; cases z⟩
  keep := fun i h h' st k => st.at fun o e => k it (by simp) o e
  item := by
    intro X hP hw hK hc i pins s σ H E I hf st hg
    subst hP hw hK
    obtain ⟨xs, x, hq, hx⟩ := hg
    obtain ⟨its, rv, p, hz⟩ := I.list hq
    obtain ⟨u, hu, ru⟩ := rv.get hx
    obtain ⟨f0, f1, f2, f3, f4, f5⟩ := hf it (by simp)
    refine wpAny_pyNext_list_item st p.isList (x := u) (by simpa using hu) fun h' st' sb => ?_
    have I1 : Inv X pins σ H { s with heap := h' } := I.turned (t' := s.toks) (fun b o hb e => (sb.2 b hb).trans e) f0 f1 f3 f4 f5
    obtain ⟨o, e, c, d⟩ := id st'
    exact ⟨u, rfl, go_of (s := { s with heap := h' }) e c d (by decide) ⟨x, H, I1, ru, ⟨rfl, fun ys hy => by rw [I.list_inj hy hq]; exact hx⟩, st', fun b hb => (hf b hb).1⟩⟩
  done := by
    intro X hP hw hK hc i pins s σ H E I hf st hg
    subst hP hw hK
    obtain ⟨xs, hq, hx⟩ := hg
    obtain ⟨its, rv, p, hz⟩ := I.list hq
    obtain ⟨f0, f1, f2, f3, f4, f5⟩ := hf it (by simp)
    have hl := rv.length
    exact wpAny_pyNext_list_end (I.ok.hd hc) st p.isList (by simp; omega) fun h' eb => ⟨rfl, I.turned (t' := s.toks) (fun b o hb e => eb b o hb e) f0 f1 f3 f4 f5⟩
  self := fun _ _ _ _ _ st h => wpAny_pyIter_listiter st h
theorem turn_tuple {P : Program} {w : World} {K : PySem.W.Frag} {tg : Expr} (a it : Addr) : Turn P w K tg (Itt K a) [it] it (fun i h => h.IsTupleIter it a i) where
  mem := by simp
  obj := fun i h st b hb => by
    have e : b = it := by simpa using hb
    subst e
    obtain ⟨o, e, c, d⟩ := st
    exact ⟨o, e, fun v z => by rw [d] at z; cases z⟩
  keep := fun i h h' st k => st.at fun o e => k it (by simp) o e
  item := by
    intro X hP hw hK hc i pins s σ H E I hf st hg
    subst hP hw hK
    obtain ⟨xs, x, hq, hx⟩ := hg
    obtain ⟨its, rv, p, hz⟩ := I.tuple hq
    obtain ⟨u, hu, ru⟩ := rv.get hx
    obtain ⟨f0, f1, f2, f3, f4, f5⟩ := hf it (by simp)
    refine wpAny_pyNext_tuple_item st (show s.heap.IsTuple a its.toArray from p) (x := u) (by simpa using hu) fun h' st' sb => ?_
    have I1 : Inv X pins σ H { s with heap := h' } := I.turned (t' := s.toks) (fun b o hb e => (sb.2 b hb).trans e) f0 f1 f3 f4 f5
    obtain ⟨o, e, c, d⟩ := id st'
    exact ⟨u, rfl, go_of (s := { s with heap := h' }) e c d (by decide) ⟨x, H, I1, ru, ⟨rfl, fun ys hy => by rw [I.tuple_inj hy hq]; exact hx⟩, st', fun b hb => (hf b hb).1⟩⟩
  done := by
    intro X hP hw hK hc i pins s σ H E I hf st hg
    subst hP hw hK
    obtain ⟨xs, hq, hx⟩ := hg
    obtain ⟨its, rv, p, hz⟩ := I.tuple hq
    obtain ⟨f0, f1, f2, f3, f4, f5⟩ := hf it (by simp)
    have hl := rv.length
    exact wpAny_pyNext_tuple_end (I.ok.hd hc) st (show s.heap.IsTuple a its.toArray from p) (by simp; omega) fun h' eb => ⟨rfl, I.turned (t' := s.toks) (fun b o hb e => eb b o hb e) f0 f1 f3 f4 f5⟩
  self := fun _ _ _ _ _ st h => wpAny_pyIter_tupleiter st h
theorem turn_range {P : Program} {w : World} {K : PySem.W.Frag} {tg : Expr} (it : Addr) (lo : Int) (n : Nat) : Turn P w K tg (Itr lo n) [it] it (fun i h => IsRangeIter h it (lo + (i : Nat) * 1) ((n : Int) - (i : Nat)) 1) where
  mem := by simp
  obj := fun i h st b hb => by
    have e : b = it := by simpa using hb
    subst e
    exact ⟨_, st, fun v z => by
      have z' : Data.fields _ = Data.cell v := z
      cases z'⟩
  keep := fun i h h' st k => k it (by simp) _ st
  item := by
    intro X hP hw hK hc i pins s σ H E I hf st hg
    subst hP hw hK
    obtain ⟨f0, f1, f2, f3, f4, f5⟩ := hf it (by simp)
    have W := Walks.range (prog := X.prog) (w := X.w) (I.ok.hd hc) it lo 1 n
    refine W.item i s _ _ hg st fun v h' tk hv st' kk => ?_
    obtain ⟨t, rfl⟩ := hv
    have I1 : Inv X pins σ H { s with heap := h', toks := tk } := I.turned (fun b o hb e => kk b o (by simpa using hb) e) f0 f1 f3 f4 f5
    refine ⟨_, rfl, go_of (s := { s with heap := h', toks := tk }) (n := "range_iterator") st' rfl rfl (by decide) ⟨.int (lo + i), H, I1, ⟨t, ?_⟩, ⟨rfl, rfl⟩, st', fun b hb => (hf b hb).1⟩⟩
    rw [Int.mul_one]
  done := by
    intro X hP hw hK hc i pins s σ H E I hf st hg
    subst hP hw hK
    obtain ⟨f0, f1, f2, f3, f4, f5⟩ := hf it (by simp)
    exact wpAny_pyNext_range_end (I.ok.hd hc) st (by have : n ≤ i := hg; omega) fun h' eb => ⟨rfl, I.turned (t' := s.toks) (fun b o hb e => eb b o hb e) f0 f1 f3 f4 f5⟩
  self := fun _ _ _ _ _ st h => wpAny_pyIter_rangeiter st h
end L2

namespace L2
open PySem PySem.Spec PyProof.Rows
section
variable {X : Cx} {tg : Expr}
def iList (K : PySem.W.Frag) (tl : TE) : TI := fun σ H R => tl σ H fun x H1 => ∃ a, x = .ref a ∧ (∃ xs, SqL K H1 a xs) ∧ R (Itl K a) H1
def iTup (K : PySem.W.Frag) (tl : TE) : TI := fun σ H R => tl σ H fun x H1 => ∃ a, x = .ref a ∧ (∃ xs, SqT K H1 a xs) ∧ R (Itt K a) H1
theorem pi_list {l : Expr} {tl : TE} (hl : PE X l tl) : PI X tg l (iList X.K tl) := by
  intro pins s σ H R I h
  refine thn (hl pins s σ H _ I h) fun v s1 ⟨x, H1, I1, r1, q1⟩ => ?_
  obtain ⟨a, e, ⟨xs, hq⟩, q⟩ := q1
  subst e
  cases r1
  obtain ⟨its, rv, p, hz⟩ := I1.list hq
  refine wpAny_pyIter_list p.isList ?_
  refine ⟨s1.heap.objs.size, [s1.heap.objs.size], _, _, H1, rfl, I1.kept (t' := s1.toks) fun b o e => Heap.get?_push_of_some _ e, turn_list a _, ⟨_, Heap.get?_push_size _ rfl, rfl, rfl⟩, fun b hb => ?_, q⟩
  have e : b = s1.heap.objs.size := by simpa using hb
  subst e
  exact I1.fpOk (Nat.le_refl _) (I1.hok.fresh (Nat.le_refl _))
theorem pi_tup {l : Expr} {tl : TE} (hl : PE X l tl) : PI X tg l (iTup X.K tl) := by
  intro pins s σ H R I h
  refine thn (hl pins s σ H _ I h) fun v s1 ⟨x, H1, I1, r1, q1⟩ => ?_
  obtain ⟨a, e, ⟨xs, hq⟩, q⟩ := q1
  subst e
  cases r1
  obtain ⟨its, rv, p, hz⟩ := I1.tuple hq
  refine wpAny_pyIter_tuple (show s1.heap.IsTuple a its.toArray from p) ?_
  refine ⟨s1.heap.objs.size, [s1.heap.objs.size], _, _, H1, rfl, I1.kept (t' := s1.toks) fun b o e => Heap.get?_push_of_some _ e, turn_tuple a _, ⟨_, Heap.get?_push_size _ rfl, rfl, rfl⟩, fun b hb => ?_, q⟩
  have e : b = s1.heap.objs.size := by simpa using hb
  subst e
  exact I1.fpOk (Nat.le_refl _) (I1.hok.fresh (Nat.le_refl _))
/-- a range object just made, walked -/
theorem range_it {pins : List (Addr × Obj)} {σ : St} {H : Hp} {s : Shared} {R : It → Hp → Prop} {E : Value → Shared → Prop} {lo hi : Int} {t u v : Tok} {tk : Nat} (I : Inv X pins σ H s) (h1 : -(2 ^ 62) ≤ lo) (h2 : lo < 2 ^ 62) (h3 : -(2 ^ 62) ≤ hi) (h4 : hi < 2 ^ 62)
    (q : R (Itr lo (hi - lo).toNat) H) : wpAny (model X.prog X.w) X.A (pyIter (.ref s.heap.objs.size)) (PIE X pins σ tg R) E { s with heap := s.heap.push { cls := .type "range", data := .fields #[.int lo t, .int hi u, .int 1 v] }, toks := tk } := by
  refine wpAny_pyIter_range (IsRange.new ..) (small_one h1 h2 h3 h4) ?_
  have I1 : Inv X pins σ H { s with heap := s.heap.push { cls := .type "range", data := .fields #[.int lo t, .int hi u, .int 1 v] }, toks := tk } := I.kept fun b o e => Heap.get?_push_of_some _ e
  refine ⟨(s.heap.push { cls := .type "range", data := .fields #[.int lo t, .int hi u, .int 1 v] }).objs.size, [(s.heap.push { cls := .type "range", data := .fields #[.int lo t, .int hi u, .int 1 v] }).objs.size], _, _, H, rfl,
    I1.kept (t' := tk) fun b o e => Heap.get?_push_of_some _ e, turn_range _ lo (hi - lo).toNat, ?_, fun b hb => ?_, q⟩
  · have e1 : lo + ((0 : Nat) : Int) * 1 = lo := by simp
    have e2 : (((hi - lo).toNat : Nat) : Int) - ((0 : Nat) : Int) = Builtin.Range.rangeSize lo hi 1 := by rw [rangeSize_one]; split <;> omega
    show IsRangeIter _ _ (lo + ((0 : Nat) : Int) * 1) ((((hi - lo).toNat : Nat) : Int) - ((0 : Nat) : Int)) 1
    rw [e1, e2]
    exact Heap.get?_push_size _ rfl
  · have e : b = (s.heap.push { cls := .type "range", data := .fields #[.int lo t, .int hi u, .int 1 v] }).objs.size := by simpa using hb
    subst e
    exact I1.fpOk (Nat.le_refl _) (I1.hok.fresh (Nat.le_refl _))
def iRng1 (ta : TA) : TI := fun σ H R => ta σ H fun vs H1 => ∃ j : Int, vs = [.int j] ∧ -(2 ^ 62) ≤ j ∧ j < 2 ^ 62 ∧ R (Itr 0 j.toNat) H1
theorem pi_range1 {a : Expr} {ta : TA} {p pos : Pos} (hg : Gl X "range") (hm : X.mg "range" = none) (ha : PA X [a] ta) (hs : starEach [a] X.env = [(false, eval a X.env)] := by rfl) : PI X tg (.Call (.Name "range" p) [a] [] pos) (iRng1 ta) := by
  intro pins s σ H R I h
  refine Call_ (ld_blt I hg hm boot_range (PyProof.Rows.callWith_type1 (thn (ha pos pins s σ H _ I h) fun us s1 ⟨vs, H1, I1, r1, q1⟩ => ?_) hs rfl))
  obtain ⟨j, e, q1, q2, q⟩ := q1
  subst e
  cases r1 with
  | cons r rr =>
    cases rr
    obtain ⟨t, rfl⟩ := r
    exact call_range_1 (range_it I1 (by omega) (by omega) q1 q2 (by simpa using q))

/-! ### for -/
/-- W: the invariant by the turn and a measure; N: what the body is to reach -/
def tFor (wi : TI) (g : TG) (tb : TS) : TS := fun D σ H => wi σ H fun J H1 => ∃ W : Nat → Nat → St → Hp → Prop, (∃ m, W 0 m σ H1) ∧ ∀ i m σ H, W i m σ H →
  (J.stop i H ∧ D.nx σ H) ∨ (J.go i H ∧ ∃ N : St → Hp → Prop, (∀ σ' H', N σ' H' → ∃ m', m' < m ∧ W (i + 1) m' σ' H') ∧ ∀ x H', J.yld i H x H' → g x σ H' fun σ2 H2 => tb { D with nx := N, ct := N, bk := D.nx } σ2 H2)
/-- the records at fp as they stand -/
def pinsAt (fp : List Addr) (h : Heap) : List (Addr × Obj) := fp.filterMap fun b => (h.get? b).map fun o => (b, o)
theorem mem_pinsAt {fp : List Addr} {h : Heap} {b : Addr} {o : Obj} (hb : b ∈ fp) (e : h.get? b = some o) : (b, o) ∈ pinsAt fp h := List.mem_filterMap.mpr ⟨b, hb, by rw [e]; rfl⟩
theorem of_pinsAt {fp : List Addr} {h : Heap} {p : Addr × Obj} (hp : p ∈ pinsAt fp h) : p.1 ∈ fp ∧ h.get? p.1 = some p.2 := by
  obtain ⟨b, hb, e⟩ := List.mem_filterMap.mp hp
  cases q : h.get? b with
  | none => rw [q] at e; cases e
  | some o =>
    rw [q] at e
    have e' : (b, o) = p := Option.some.inj e
    subst e'
    exact ⟨hb, q⟩
theorem Inv.pinned {pins : List (Addr × Obj)} {σ : St} {H : Hp} {s : Shared} {fp : List Addr} (I : Inv X pins σ H s) (hf : ∀ b ∈ fp, FpOk X pins H b) (ho : ∀ b ∈ fp, ∃ o, s.heap.get? b = some o ∧ ∀ v, o.data ≠ .cell v) : Inv X (pins ++ pinsAt fp s.heap) σ H s :=
  I.pins_of fun p hp => (List.mem_append.mp hp).elim (fun z => I.pin p (List.mem_append_right _ z)) fun z => by
    obtain ⟨hb, e⟩ := of_pinsAt z
    obtain ⟨f0, f1, f2, _⟩ := hf p.1 hb
    obtain ⟨o, e', d⟩ := ho p.1 hb
    rw [e] at e'; cases e'
    exact ⟨e, f0, f1, f2, d⟩
theorem Inv.unpinned {pins pl : List (Addr × Obj)} {σ : St} {H : Hp} {s : Shared} (I : Inv X (pins ++ pl) σ H s) : Inv X pins σ H s := I.pins_of fun p hp => I.pin p (List.mem_append_right _ (List.mem_append_left _ hp))
theorem ps_for {iter : Expr} {body : List Stmt} {wi : TI} {g : TG} {tb : TS} {pos : Pos} (hp : PassesOwn (model X.prog X.w) X.A X.env X.xe) (hc : X.calm = true) (hi : PI X tg iter wi) (hg : PG X tg g) (hb : PSs X body tb)
    (hs : ∀ x, foldedSetIterable iter X.env x = pure x := by intro _; rfl) : PS X (.For tg iter body [] pos) (tFor wi g tb) := by
  intro pins s σ H D I h
  refine wpAny_For (thn (hi pins s σ H _ I h) fun v s1 h1 => thn h1 fun itv s2 h2 => ?_) hs
  obtain ⟨it, fp, tn, J, H2, e, I2, T, st2, f2, W, ⟨m0, w0⟩, turn⟩ := h2
  subst e
  -- what stays true of the iterator's objects through the loop
  have stat : ∀ {H' : Hp}, (∀ b ∈ fp, H' b = none) → ∀ b ∈ fp, FpOk X pins H' b := fun hn b hb => ⟨hn b hb, (f2 b hb).2⟩
  refine codeAny_forLoop_any (fun n s' => ∃ i σ' H', Inv X pins σ' H' s' ∧ tn i s'.heap ∧ (∀ b ∈ fp, H' b = none) ∧ W i n σ' H') ?_ m0 ⟨0, σ, H2, I2, st2, fun b hb => (f2 b hb).1, w0⟩
  rintro n s3 ⟨i, σ3, H3, I3, st3, fr3, w3⟩
  rcases turn i n σ3 H3 w3 with ⟨stop, qn⟩ | ⟨go, N, hN, step⟩
  · refine wpAny_passesOwn hp (thn (T.done X rfl rfl rfl hc i pins s3 σ3 H3 X.xe I3 (stat fr3) st3 stop) fun r s4 ⟨hr, I4⟩ => ?_)
    subst hr
    exact wpAny_execs_nil ⟨σ3, H3, I4, qn⟩
  · refine wpAny_passesOwn hp (thn (T.item X rfl rfl rfl hc i pins s3 σ3 H3 X.xe I3 (stat fr3) st3 go) fun r s4 ⟨u, hr, h4⟩ => ?_)
    subst hr
    refine wpAny_passesOwn hp (thn h4 fun _ s5 ⟨x, H5, I5, r5, y5, st5, fr5⟩ => ?_)
    have I5' := I5.pinned (stat fr5) (T.obj _ _ st5)
    refine wpAny_passesOwn hp (thn (hg _ s5 σ3 H5 x u _ I5' r5 (step x H5 y5)) fun _ s6 ⟨σ6, H6, I6, q6⟩ => ?_)
    refine wpAny_passesOwn hp (thn (hb _ s6 σ6 H6 _ I6 q6) fun f s7 q7 => ?_)
    have again : ∀ {σ7 : St} {H7 : Hp}, Inv X (pins ++ pinsAt fp s5.heap) σ7 H7 s7 → N σ7 H7 → ∃ m, m < n ∧ ∃ i σ' H', Inv X pins σ' H' s7 ∧ tn i s7.heap ∧ (∀ b ∈ fp, H' b = none) ∧ W i m σ' H' := fun {σ7 H7} I7 n7 => by
      obtain ⟨m', hm, w7⟩ := hN σ7 H7 n7
      refine ⟨m', hm, i + 1, σ7, H7, I7.unpinned, T.keep _ _ _ st5 fun b hb o e => (I7.pin (b, o) (List.mem_append_right _ (List.mem_append_right _ (mem_pinsAt hb e)))).1, fun b hb => ?_, w7⟩
      obtain ⟨o, e, d⟩ := T.obj _ _ st5 b hb
      exact (I7.pin (b, o) (List.mem_append_right _ (List.mem_append_right _ (mem_pinsAt hb e)))).2.1
    cases f with
    | next => obtain ⟨σ7, H7, I7, n7⟩ := q7; exact again I7 n7
    | cont => obtain ⟨σ7, H7, I7, n7⟩ := q7; exact again I7 n7
    | brk => obtain ⟨σ7, H7, I7, q7⟩ := q7; exact ⟨σ7, H7, I7.unpinned, q7⟩
    | ret v => obtain ⟨x7, σ7, H7, I7, r7, q7⟩ := q7; exact ⟨x7, σ7, H7, I7.unpinned, r7, q7⟩
end

/-! ### the forms one uses -/
/-- over a list that the body leaves as it is -/
theorem for_list {K : PySem.W.Frag} {a : Addr} {xs : List V} {g : TG} {tb : TS} {D : Ends} {σ : St} {H : Hp} (Pv : Nat → St → Hp → Prop) (h0 : Pv 0 σ H) (hl : ∀ i σ H, i ≤ xs.length → Pv i σ H → SqL K H a xs)
    (hs : ∀ i x σ H, xs[i]? = some x → Pv i σ H → g x σ H fun σ2 H2 => tb { D with nx := Pv (i + 1), ct := Pv (i + 1), bk := D.nx } σ2 H2) (hd : ∀ σ H, Pv xs.length σ H → D.nx σ H) :
    ∃ W : Nat → Nat → St → Hp → Prop, (∃ m, W 0 m σ H) ∧ ∀ i m σ H, W i m σ H →
      ((Itl K a).stop i H ∧ D.nx σ H) ∨ ((Itl K a).go i H ∧ ∃ N : St → Hp → Prop, (∀ σ' H', N σ' H' → ∃ m', m' < m ∧ W (i + 1) m' σ' H') ∧ ∀ x H', (Itl K a).yld i H x H' → g x σ H' fun σ2 H2 => tb { D with nx := N, ct := N, bk := D.nx } σ2 H2) := by
  refine ⟨fun i m σ H => m = xs.length - i ∧ i ≤ xs.length ∧ Pv i σ H, ⟨xs.length, by simp, Nat.zero_le _, h0⟩, ?_⟩
  rintro i m σ H ⟨rfl, hi, p⟩
  have q := hl i σ H hi p
  by_cases hlt : i < xs.length
  · refine .inr ⟨⟨xs, xs[i], q, by simp [hlt]⟩, Pv (i + 1), fun σ' H' p' => ⟨xs.length - (i + 1), by omega, rfl, hlt, p'⟩, fun x H' y => ?_⟩
    obtain ⟨e, y⟩ := y
    subst e
    exact hs i x σ _ (y xs q) p
  · have e : i = xs.length := by omega
    subst e
    exact .inl ⟨⟨xs, q, Nat.le_refl _⟩, hd σ H p⟩
theorem for_range {lo : Int} {n : Nat} {g : TG} {tb : TS} {D : Ends} {σ : St} {H : Hp} (Pv : Nat → St → Hp → Prop) (h0 : Pv 0 σ H)
    (hs : ∀ i σ H, i < n → Pv i σ H → g (.int (lo + i)) σ H fun σ2 H2 => tb { D with nx := Pv (i + 1), ct := Pv (i + 1), bk := D.nx } σ2 H2) (hd : ∀ σ H, Pv n σ H → D.nx σ H) :
    ∃ W : Nat → Nat → St → Hp → Prop, (∃ m, W 0 m σ H) ∧ ∀ i m σ H, W i m σ H →
      ((Itr lo n).stop i H ∧ D.nx σ H) ∨ ((Itr lo n).go i H ∧ ∃ N : St → Hp → Prop, (∀ σ' H', N σ' H' → ∃ m', m' < m ∧ W (i + 1) m' σ' H') ∧ ∀ x H', (Itr lo n).yld i H x H' → g x σ H' fun σ2 H2 => tb { D with nx := N, ct := N, bk := D.nx } σ2 H2) := by
  refine ⟨fun i m σ H => m = n - i ∧ i ≤ n ∧ Pv i σ H, ⟨n, by simp, Nat.zero_le _, h0⟩, ?_⟩
  rintro i m σ H ⟨rfl, hi, p⟩
  by_cases hlt : i < n
  · refine .inr ⟨hlt, Pv (i + 1), fun σ' H' p' => ⟨n - (i + 1), by omega, rfl, hlt, p'⟩, fun x H' y => ?_⟩
    obtain ⟨e, y⟩ := y
    subst e y
    exact hs i σ _ hlt p
  · have e : i = n := by omega
    subst e
    exact .inl ⟨Nat.le_refl _, hd σ H p⟩
end L2

namespace L2
open PySem PySem.Spec PyProof.Rows

abbrev R2 := V → V → Hp → VK → Prop
/-- a two-place operation on values: f is binaryOp op, inplaceOp op or compareOp op -/
def OpR (X : Cx) (f : Value → Value → Sem Value) (r : R2) : Prop :=
  ∀ (pins : List (Addr × Obj)) (s : Shared) (σ : St) (H : Hp) (x y : V) (v u : Value) (Q : VK), Inv X pins σ H s → RelV x v → RelV y u → r x y H Q →
    wpAny (model X.prog X.w) X.A (f v u) (EP X pins σ Q) X.xe s
/-- a one-place operation -/
def UnR (X : Cx) (f : Value → Sem Value) (r : V → Hp → VK → Prop) : Prop :=
  ∀ (pins : List (Addr × Obj)) (s : Shared) (σ : St) (H : Hp) (x : V) (v : Value) (Q : VK), Inv X pins σ H s → RelV x v → r x H Q →
    wpAny (model X.prog X.w) X.A (f v) (EP X pins σ Q) X.xe s
/-- a call of a value that is known (a builtin, a type) with values -/
def CallR (X : Cx) (f : Value) (r : List V → Hp → VK → Prop) : Prop :=
  ∀ (pins : List (Addr × Obj)) (s : Shared) (σ : St) (H : Hp) (xs : List V) (us : List Value) (Q : VK), Inv X pins σ H s → Vals xs us → r xs H Q →
    wpAny (model X.prog X.w) X.A (call f us) (EP X pins σ Q) X.xe s

def tOp (r : R2) (ta tb : TE) : TE := fun σ H Q => ta σ H fun x H1 => tb σ H1 fun y H2 => r x y H2 Q
def tUn (r : V → Hp → VK → Prop) (ta : TE) : TE := fun σ H Q => ta σ H fun x H1 => r x H1 Q
/-- ints in, under C, and a value out -/
def rI (C : Int → Int → Prop) (g : Int → Int → V) : R2 := fun x y H Q => ∃ i j, x = .int i ∧ y = .int j ∧ C i j ∧ Q (g i j) H
def rI0 (g : Int → Int → V) : R2 := fun x y H Q => ∃ i j, x = .int i ∧ y = .int j ∧ Q (g i j) H
def rU (g : Int → V) : V → Hp → VK → Prop := fun x H Q => ∃ i, x = .int i ∧ Q (g i) H

section
variable {X : Cx} {a b c : Expr} {ta tb tc : TE} {pos : Pos}

theorem binT (ha : PE X a ta) (hb : PE X b tb) {pins : List (Addr × Obj)} {s : Shared} {σ : St} {H : Hp} {R : V → V → Hp → Prop} (I : Inv X pins σ H s)
    (h : ta σ H fun x H1 => tb σ H1 fun y H2 => R x y H2) {Q : Value → Shared → Prop} {f : Value → Value → Sem Value}
    (hf : ∀ v u s2 x y H2, Inv X pins σ H2 s2 → RelV x v → RelV y u → R x y H2 → wpAny (model X.prog X.w) X.A (f v u) Q X.xe s2) :
    wpAny (model X.prog X.w) X.A (eval a X.env) (fun v s₁ => wpAny (model X.prog X.w) X.A (eval b X.env) (fun u s₂ => wpAny (model X.prog X.w) X.A (f v u) Q X.xe s₂) X.xe s₁) X.xe s := by
  refine thn (ha pins s σ H _ I h) fun v s1 ⟨x, H1, I1, r1, q1⟩ => ?_
  refine thn (hb pins s1 σ H1 _ I1 q1) fun u s2 ⟨y, H2, I2, r2, q2⟩ => ?_
  exact hf v u s2 x y H2 I2 r1 r2 q2

theorem pe_op {op : Operator} {r : R2} (ho : OpR X (binaryOp op) r) (ha : PE X a ta) (hb : PE X b tb) : PE X (.BinOp a op b pos) (tOp r ta tb) := by
  intro pins s σ H Q I h
  exact wpAny_BinOp (binT ha hb I h fun v u s2 x y H2 I2 rx ry q => ho pins s2 σ H2 x y v u Q I2 rx ry q)
theorem pe_un {op : UnaryOp} {r : V → Hp → VK → Prop} (ho : UnR X (unaryOp op) r) (ha : PE X a ta) : PE X (.UnaryOp op a pos) (tUn r ta) := by
  intro pins s σ H Q I h
  exact UnaryOp_ (thn (ha pins s σ H _ I h) fun v s1 ⟨x, H1, I1, r1, q1⟩ => ho pins s1 σ H1 x v Q I1 r1 q1)

/-! ### ints -/
theorem opI {f : Value → Value → Sem Value} {C : Int → Int → Prop} {g : Int → Int → Int}
    (rule : ∀ (i j : Int) (t u : Tok) (s : Shared) (Q : Value → Shared → Prop) (E : Value → Shared → Prop), C i j → Q (.int (g i j) s.toks) { s with toks := s.toks + 1 } → wpAny (model X.prog X.w) X.A (f (.int i t) (.int j u)) Q E s) :
    OpR X f (rI C fun i j => .int (g i j)) := by
  intro pins s σ H x y v u Q I rx ry h
  obtain ⟨i, j, rfl, rfl, hc, q⟩ := h
  obtain ⟨t, rfl⟩ := rx
  obtain ⟨t', rfl⟩ := ry
  exact rule i j t t' s _ _ hc ⟨.int (g i j), H, I.tok _, ⟨_, rfl⟩, q⟩
theorem opI0 {f : Value → Value → Sem Value} {g : Int → Int → Int}
    (rule : ∀ (i j : Int) (t u : Tok) (s : Shared) (Q : Value → Shared → Prop) (E : Value → Shared → Prop), Q (.int (g i j) s.toks) { s with toks := s.toks + 1 } → wpAny (model X.prog X.w) X.A (f (.int i t) (.int j u)) Q E s) :
    OpR X f (rI0 fun i j => .int (g i j)) := by
  intro pins s σ H x y v u Q I rx ry h
  obtain ⟨i, j, rfl, rfl, q⟩ := h
  obtain ⟨t, rfl⟩ := rx
  obtain ⟨t', rfl⟩ := ry
  exact rule i j t t' s _ _ ⟨.int (g i j), H, I.tok _, ⟨_, rfl⟩, q⟩
theorem opB0 {f : Value → Value → Sem Value} {g : Int → Int → Bool}
    (rule : ∀ (i j : Int) (t u : Tok) (s : Shared) (Q : Value → Shared → Prop) (E : Value → Shared → Prop), Q (.bool (g i j)) s → wpAny (model X.prog X.w) X.A (f (.int i t) (.int j u)) Q E s) :
    OpR X f (rI0 fun i j => .bl (g i j)) := by
  intro pins s σ H x y v u Q I rx ry h
  obtain ⟨i, j, rfl, rfl, q⟩ := h
  obtain ⟨t, rfl⟩ := rx
  obtain ⟨t', rfl⟩ := ry
  exact rule i j t t' s _ _ ⟨.bl (g i j), H, I, rfl, q⟩

def CDiv (i j : Int) : Prop := 0 < j ∧ j < 1073741824
def CPow (i j : Int) : Prop := 0 ≤ j ∧ j ≤ 1000000 ∧ i.natAbs < 2 ^ 64
def CMul (i j : Int) : Prop := (-(2 ^ 64) < i ∧ i < 2 ^ 64) ∨ (-(2 ^ 64) < j ∧ j < 2 ^ 64)
theorem CMul.ok {i j : Int} (h : CMul i j) : IntMulOk i j := by
  rcases h with ⟨h1, h2⟩ | ⟨h1, h2⟩
  · exact .of_left (intBits_le_64 h1 h2)
  · exact .of_right (intBits_le_64 h1 h2)

theorem op_add : OpR X (binaryOp .Add) (rI0 fun i j => .int (i + j)) := opI0 fun _ _ _ _ _ _ _ q => add_int q
theorem op_sub : OpR X (binaryOp .Sub) (rI0 fun i j => .int (i - j)) := opI0 fun _ _ _ _ _ _ _ q => sub_int q
/-- // by a positive divisor -/
theorem op_fdiv : OpR X (binaryOp .FloorDiv) (rI CDiv fun i j => .int (i / j)) := opI fun i j _ _ _ _ _ hc q => by
  have h1 : (0 : Int) < j := hc.1
  have h2 : j < 1073741824 := hc.2
  exact floordiv_int (by omega) (by rw [Int.fdiv_eq_ediv_of_nonneg i (by omega)]; exact q) (.inl (PyProof.noPylong_small (by omega)))
/-- % by a positive divisor of any size -/
theorem op_mod : OpR X (binaryOp .Mod) (rI (fun _ j => 0 < j) fun i j => .int (i % j)) := opI fun i j _ _ _ _ _ hc q => by
  have h1 : (0 : Int) < j := hc
  exact mod_int' (by omega) (by rw [Int.fmod_eq_emod_of_nonneg i (by omega)]; exact q)
theorem op_pow : OpR X (binaryOp .Pow) (rI CPow fun i j => .int (i ^ j.toNat)) := opI fun _ _ _ _ _ _ _ hc q => pow_int_small hc.1 hc.2.1 hc.2.2 q


theorem unI {f : Value → Sem Value} {g : Int → Int}
    (rule : ∀ (i : Int) (t : Tok) (s : Shared) (Q : Value → Shared → Prop) (E : Value → Shared → Prop), Q (.int (g i) s.toks) { s with toks := s.toks + 1 } → wpAny (model X.prog X.w) X.A (f (.int i t)) Q E s) :
    UnR X f (rU fun i => .int (g i)) := by
  intro pins s σ H x v Q I rx h
  obtain ⟨i, rfl, q⟩ := h
  obtain ⟨t, rfl⟩ := rx
  exact rule i t s _ _ ⟨.int (g i), H, I.tok _, ⟨_, rfl⟩, q⟩
theorem un_neg : UnR X (unaryOp .USub) (rU fun i => .int (-i)) := unI fun _ _ _ _ _ q => neg_int q

/-! ### bools among ints: n += (a < b) -/
end

/-! ### comparisons -/
/-- the scalars that == tells apart as data does -/
def scal : V → V → Bool
  | .non, .non => true | .non, .int _ => true | .int _, .non => true | .non, .bl _ => true | .bl _, .non => true | .non, .str _ => true | .str _, .non => true
  | .int _, .int _ => true | .bl _, .bl _ => true | .str _, .str _ => true | .byt _, .byt _ => true
  | .int _, .str _ => true | .str _, .int _ => true | .bl _, .str _ => true | .str _, .bl _ => true
  | _, _ => false


section
variable {X : Cx} {a b c : Expr} {ta tb tc : TE} {pos : Pos}
theorem fin_bl {pins : List (Addr × Obj)} {σ : St} {H : Hp} {s : Shared} {Q : VK} {k k' : Bool} (I : Inv X pins σ H s) (q : Q (.bl k) H) (e : k = k') : EP X pins σ Q (.bool k') s := by
  subst e
  exact ⟨.bl k, H, I, rfl, q⟩

theorem op_lt : OpR X (compareOp .Lt) (rI0 fun i j => .bl (decide (i < j))) := opB0 fun _ _ _ _ _ _ _ q => lt_int q
theorem op_gt : OpR X (compareOp .Gt) (rI0 fun i j => .bl (decide (j < i))) := opB0 fun _ _ _ _ _ _ _ q => gt_int q




theorem nomark (b : Expr) {op : CmpOp} (h : op ≠ .In := by decide) (h2 : op ≠ .NotIn := by decide) : behindInMarks op b = false := by
  have e1 : (op == CmpOp.In) = false := by cases op <;> first | rfl | exact absurd rfl h
  have e2 : (op == CmpOp.NotIn) = false := by cases op <;> first | rfl | exact absurd rfl h2
  cases b <;> simp [behindInMarks, e1, e2]
/-- a comparison as a value; hm: nomark b, or (for in, not in) by with_unfolding_all rfl -/
theorem pe_cmpR {op : CmpOp} {r : R2} (ho : OpR X (compareOp op) r) (ha : PE X a ta) (hb : PE X b tb) (hm : behindInMarks op b = false) : PE X (.Compare a [op] [b] pos) (tOp r ta tb) := by
  intro pins s σ H Q I h
  exact wpAny_Compare1 (binT ha hb I h fun v u s2 x y H2 I2 rx ry q => ho pins s2 σ H2 x y v u Q I2 rx ry q) hm
/-- a reading of a value as a test -/
def tTest (t : TE) : TT := fun σ H Q => t σ H fun x H' => ∃ k, x = .bl k ∧ Q k H'
theorem pt_cmpR {op : CmpOp} {r : R2} (ho : OpR X (compareOp op) r) (ha : PE X a ta) (hb : PE X b tb) (hm : behindInMarks op b = false) : PT X (.Compare a [op] [b] pos) (tTest (tOp r ta tb)) := by
  intro pins s σ H Q I h
  refine wpAny_isTrue_Compare1 (thn (ha pins s σ H _ I h) fun v s1 ⟨x, H1, I1, r1, q1⟩ => thn (hb pins s1 σ H1 _ I1 q1) fun u s2 ⟨y, H2, I2, r2, q2⟩ =>
    thn (ho pins s2 σ H2 x y v u _ I2 r1 r2 q2) fun c s3 ⟨z, H3, I3, r3, k, e, q3⟩ => ?_) hm
  subst e
  cases r3
  exact wpAny_truthy_bool ⟨H3, I3, q3⟩

/-! ### truth -/
theorem line63 : (sizeLine : Nat) < 2 ^ 63 := by rw [sizeLine_eq]; decide

/-! ### strs and bytes -/


/-! ### scalar builtins, by CallR -/
theorem vals1 {x : V} {us : List Value} (r : Vals [x] us) : ∃ u, us = [u] ∧ RelV x u := by
  cases r with
  | cons r1 r2 => cases r2; exact ⟨_, rfl, r1⟩
theorem vals2 {x y : V} {us : List Value} (r : Vals [x, y] us) : ∃ u w', us = [u, w'] ∧ RelV x u ∧ RelV y w' := by
  cases r with
  | cons r1 r2 =>
    cases r2 with
    | cons r3 r4 => cases r4; exact ⟨_, _, rfl, r1, r3⟩
theorem call_min2 (hc : X.calm = true) : CallR X (.builtin "min") (fun xs H Q => ∃ i j, xs = [.int i, .int j] ∧ Q (.int (if j < i then j else i)) H) := by
  intro pins s σ H xs us Q I r h
  obtain ⟨i, j, rfl, q⟩ := h
  obtain ⟨u, w', rfl, ⟨t, rfl⟩, ⟨t', rfl⟩⟩ := vals2 r
  refine min_two_ints (I.ok.hd hc) fun h' tk k => ⟨_, H, I.kept k, ?_, q⟩
  by_cases hj : j < i
  · rw [if_pos hj, if_pos hj]; exact ⟨_, rfl⟩
  · rw [if_neg hj, if_neg hj]; exact ⟨_, rfl⟩
theorem call_int1 : CallR X (.type "int") (fun xs H Q => (∃ i, xs = [.int i] ∧ Q (.int i) H) ∨ ∃ k, xs = [.bl k] ∧ Q (.int (if k then 1 else 0)) H) := by
  intro pins s σ H xs us Q I r h
  rcases h with ⟨i, rfl, q⟩ | ⟨k, rfl, q⟩
  · obtain ⟨u, rfl, t, rfl⟩ := vals1 r
    exact call_int_int ⟨.int i, H, I, ⟨_, rfl⟩, q⟩
  · obtain ⟨u, rfl, r1⟩ := vals1 r
    cases r1
    exact call_int_bool ⟨.int (if k then 1 else 0), H, I.tok _, ⟨_, rfl⟩, q⟩
end
end L2

namespace L2
open PySem PySem.Spec PyProof.Rows

/-! ### an instance, its attributes a map -/
structure ObjM (h : Heap) (x dx C : Addr) (mA : Str → Option Value) : Prop where
  obj : h.get? x = some (PySem.W.instObj C dx)
  ns : h.Ns1 dx mA
  ne : dx ≠ x

theorem lookIn_ns {h : Heap} {dx : Addr} {mA : Str → Option Value} (n : h.Ns1 dx mA) : ∃ od, h.get? dx = some od ∧ ∀ name, PySem.W.lookIn name od = some (mA name) := by
  obtain ⟨o, es, ep, ho, hd, hk, _, hm⟩ := n
  refine ⟨o, ho, fun name => ?_⟩
  have e := hm name
  unfold nsFind findBy at e
  rw [← Array.find?_toList] at e
  unfold PySem.W.lookIn
  rw [hd]
  dsimp only
  split
  · rename_i y q
    rw [q] at e
    exact congrArg some e
  · rename_i q
    rw [q] at e
    have a : es.toList.any (·.refKey) = false := by
      rw [List.any_eq_false]
      intro y hy
      obtain ⟨z, t, hkey⟩ := hk y (Array.mem_toList_iff.mp hy)
      simp [DictEntry.refKey, hkey]
    have a' : ¬ es.toList.any (·.refKey) = true := by rw [a]; exact Bool.false_ne_true
    rw [if_neg a']
    exact congrArg some e

theorem ObjM.look {h : Heap} {x dx C : Addr} {mA : Str → Option Value} (I : ObjM h x dx C mA) : ∃ od, PySem.W.InstAt h x (PySem.W.instObj C dx) C (some od) ∧ ∀ name, PySem.W.lookIn name od = some (mA name) :=
  let ⟨od, ho, hl⟩ := lookIn_ns I.ns
  ⟨od, ⟨I.obj, rfl, rfl, ho⟩, hl⟩

section
variable {prog : Program} {w : World} {A : Around} {E : Value → Shared → Prop} {s : Shared} {K : PySem.W.Frag} {x dx C f : Addr} {mA : Str → Option Value} {name : Str} {v : Value}

theorem get_map {expr : Bool} {Q : Value → Shared → Prop} (X : K.In s.heap) (I : ObjM s.heap x dx C mA) (hg : PySem.W.plainGet K C name = true) (hh : PySem.W.hasDictIn K C = true)
    (ha : PySem.W.findIn K (.ref C) name = some none) (hv : mA name = some v) (hv' : PySem.W.handedIn v = true) (h : Q v { s with toks := s.toks + 1 }) :
    wpAny (model prog w) A (getAttr (.ref x) name expr) Q E s := by
  obtain ⟨od, J, hl⟩ := I.look
  exact PySem.W.get_value X J (PySem.W.plainGet_of hg).1 (PySem.W.findObj_own hh ha rfl (by rw [hl, hv])) hv' h


theorem get_meth {pl : Sem Bool} {Q : Value × List Value → Shared → Prop} (X : K.In s.heap) (I : ObjM s.heap x dx C mA) (hg : PySem.W.plainGet K C name = true)
    (hf : PySem.W.findIn K (.ref C) name = some (some (.ref f))) (ht : PySem.W.isFn K (.ref f) = true) (hv : mA name = none) (h : Q (.ref f, [.ref x]) s) :
    wpAny (model prog w) A (getMethod (.ref x) name pl) Q E s := by
  obtain ⟨od, J, hl⟩ := I.look
  exact PySem.W.method_fn X J (PySem.W.plainGet_of hg).1 (PySem.W.plainGet_of hg).2 hf (beq_iff_eq.mp ht) (by show (PySem.W.lookIn name od).map (·.isSome) = some false; rw [hl, hv]; rfl) h

theorem set_map {ns : List Str} {Q : Unit → Shared → Prop} (X : K.In s.heap) (I : ObjM s.heap x dx C mA)
    (hs : PySem.W.findIn K (.ref C) "__setattr__" = some (some (.builtin "object.__setattr__"))) (hp : PySem.W.plainOver K C = true) (ht : PySem.W.takerIn K C name = some none) (hh : PySem.W.hasDictIn K C = true)
    (hw : PySem.Within mA ns) (hsz : ns.length ≤ sizeLine)
    (h : ∀ h', ObjM h' x dx C (fun y => if y = name then some v else mA y) → Heap.SameBut dx s.heap h' → Q () { s with heap := h', toks := s.toks + 2 }) :
    wpAny (model prog w) A (setAttr (.ref x) name v) Q E s := by
  obtain ⟨od, J, hl⟩ := I.look
  refine PySem.W.set_plain X J hs (PySem.W.osa_open (s := { s with toks := s.toks + 1 }) (r := none) X J hp ht fun b => ?_)
  obtain ⟨cd, hc, hd'⟩ := PySem.W.any_some hh
  have hx : s.heap.get? x = some ⟨.ref C, some dx, .plain, #[]⟩ := I.obj
  refine wpAny_bind (wpAny_pure (wpAny_bind (wpAny_bind (wpAny_loadPart hx (wpAny_bind (PySem.W.Looks.here (s := { s with toks := s.toks + 1 }) (PySem.W.looks_clsIn X hc) ?_))))))
  rw [hd']
  refine wpAny_pure (a := some dx) (wpAny_bind (wpAny_pure (wpAny_bind ?_)))
  refine wpAny_nsSet1 (s := { s with toks := s.toks + 1 }) I.ns fun h' hn2 hs2 => ?_
  obtain ⟨oD, esD, epD, hoD, hdD, hcD⟩ := hn2.count (PySem.Within.cons name v hw)
  refine wpAny_bind (wpAny_lookBehind hoD (by rw [hdD]; exact pastItsLine_dict (Nat.le_trans hcD (by rw [List.length_cons]; omega))) ?_)
  exact wpAny_pure (h _ ⟨(hs2.2 _ (Ne.symm I.ne)).trans I.obj, hn2, I.ne⟩ hs2)

/-- C(..): the dict at the heap's end, the instance behind it; then its __init__ -/
theorem make_map {R : Result → Shared → Prop} {vs : List Value} {kw : List (Str × Value)} (X : K.In s.heap) (hm : PySem.W.makesIn K C = true)
    (hi : PySem.W.findIn K (.ref C) "__init__" = some (some (.ref f))) (hf : PySem.W.typeIn K (.ref f) = some (.type "function"))
    (h : codeAny (model prog w) (A.under (.builtin "type.__call__" ⟨.ref C :: vs, kw⟩)) (.call (.ref f) ⟨.ref (s.heap.objs.size + 1) :: vs, kw⟩) (PySem.W.InitBack (s.heap.objs.size + 1) R)
      { s with heap := (s.heap.push PySem.W.emptyDict).push (PySem.W.instObj C s.heap.objs.size) }) :
    codeAny (model prog w) A (.call (.ref C) ⟨vs, kw⟩) R s := by
  obtain ⟨hh, g, d, t, os⟩ := s
  exact PySem.W.make_core (PySem.W.makes_of X hm) (PySem.W.looks_findIn X hi) (fun self => PySem.W.bind_fn X self hf) (.inl rfl) h
end

/-! ### the attributes as a list of pairs -/
def putF (f : Str) (v : V) : List (Str × V) → List (Str × V)
  | [] => [(f, v)]
  | (g, x) :: r => if g = f then (g, v) :: r else (g, x) :: putF f v r
theorem lookup_putF (f g : Str) (v : V) : ∀ fs : List (Str × V), (putF f v fs).lookup g = if g = f then some v else fs.lookup g
  | [] => by
    show List.lookup g [(f, v)] = _
    by_cases h : g = f
    · have hb : (g == f) = true := beq_iff_eq.mpr h
      simp only [List.lookup, hb, if_pos h]
    · have hb : (g == f) = false := beq_eq_false_iff_ne.mpr h
      simp only [List.lookup, hb, if_neg h]
  | (k, x) :: r => by
    have ih := lookup_putF f g v r
    rw [show putF f v ((k, x) :: r) = (if k = f then (k, v) :: r else (k, x) :: putF f v r) from rfl]
    by_cases hk : k = f
    · rw [if_pos hk]
      by_cases h : g = k
      · have hb : (g == k) = true := beq_iff_eq.mpr h
        simp only [List.lookup, hb, if_pos (h.trans hk)]
      · have hb : (g == k) = false := beq_eq_false_iff_ne.mpr h
        simp only [List.lookup, hb, if_neg (fun e : g = f => h (e.trans hk.symm))]
    · rw [if_neg hk]
      by_cases h : g = k
      · have hb : (g == k) = true := beq_iff_eq.mpr h
        simp only [List.lookup, hb, if_neg (fun e : g = f => hk (h.symm.trans e))]
      · have hb : (g == k) = false := beq_eq_false_iff_ne.mpr h
        simp only [List.lookup, hb]
        exact ih
theorem keys_putF (f : Str) (v : V) : ∀ fs : List (Str × V), f ∈ (putF f v fs).map (·.1) ∧ ∀ g, g ∈ fs.map (·.1) → g ∈ (putF f v fs).map (·.1)
  | [] => ⟨by simp [putF], fun g h => by simp at h⟩
  | (k, x) :: r => by
    obtain ⟨i1, i2⟩ := keys_putF f v r
    rw [show putF f v ((k, x) :: r) = (if k = f then (k, v) :: r else (k, x) :: putF f v r) from rfl]
    by_cases hk : k = f
    · rw [if_pos hk]
      subst hk
      exact ⟨by simp, fun g h => by simpa using h⟩
    · rw [if_neg hk]
      refine ⟨?_, fun g h => ?_⟩
      · rw [List.map_cons]
        exact List.mem_cons_of_mem _ i1
      · rw [List.map_cons] at h ⊢
        rcases List.mem_cons.mp h with e | e
        · exact List.mem_cons.mpr (.inl e)
        · exact List.mem_cons_of_mem _ (i2 g e)
theorem length_putF (f : Str) (v : V) : ∀ fs : List (Str × V), (putF f v fs).length ≤ fs.length + 1
  | [] => by simp [putF]
  | (k, x) :: r => by
    have ih := length_putF f v r
    rw [show putF f v ((k, x) :: r) = (if k = f then (k, v) :: r else (k, x) :: putF f v r) from rfl]
    by_cases hk : k = f
    · rw [if_pos hk, List.length_cons, List.length_cons]; omega
    · rw [if_neg hk, List.length_cons, List.length_cons]; omega

theorem RelO.some_of {v : V} {o : Option Value} (r : RelO (some v) o) : ∃ u, o = some u ∧ RelV v u := by
  cases o with
  | none => exact (show False from r).elim
  | some u => exact ⟨u, rfl, r⟩
theorem RelO.none_of {o : Option Value} (r : RelO none o) : o = none := by
  cases o with
  | none => rfl
  | some u => exact (show False from r).elim
theorem handed_of {v : V} {u : Value} (r : RelV v u) : PySem.W.handedIn u = true := by
  cases v with
  | non => cases (show u = Value.none from r); rfl
  | bl b => cases (show u = Value.bool b from r); rfl
  | int i => obtain ⟨t, e⟩ := (show ∃ t, u = Value.int i t from r); cases e; rfl
  | str x => obtain ⟨t, e⟩ := (show ∃ t, u = Value.str x t from r); cases e; rfl
  | byt b => obtain ⟨t, e⟩ := (show ∃ t, u = Value.bytes b t from r); cases e; rfl
  | flt b => obtain ⟨t, e⟩ := (show ∃ t, u = Value.float b t from r); cases e; rfl
  | ref a => cases (show u = Value.ref a from r); rfl
  | ty n => cases (show u = Value.type n from r); rfl

section
variable {P : Program} {w : World} {H H' : Hp} {h h' : Heap} {a C dx : Addr} {fs fs' : List (Str × V)}
theorem ins_get (hok : HOk P w H h) (e : H a = some (.ins C dx fs)) : ∃ mA, ObjM h a dx C mA ∧ (∀ f, RelO (fs.lookup f) (mA f)) ∧ PySem.Within mA (fs.map (·.1)) ∧ fs.length ≤ 1000 ∧ H dx = some (.own a) := by
  obtain ⟨d, z, ne, ob, mA, n, r, q⟩ := (show ObjOk P w H h a (.ins C dx fs) from hok a _ e)
  exact ⟨mA, ⟨ob, n, ne⟩, r, q, z, d⟩
end

/-! ### what of the text a class must have -/
structure Cls (K : PySem.W.Frag) (C : Addr) : Prop where
  pg : PySem.W.plainGet K C Str.empty = true
  hd : PySem.W.hasDictIn K C = true
  po : PySem.W.plainOver K C = true
  sa : PySem.W.findIn K (.ref C) "__setattr__" = some (some (.builtin "object.__setattr__"))
theorem Cls.get {K : PySem.W.Frag} {C : Addr} (c : Cls K C) (f : Str) : PySem.W.plainGet K C f = true := c.pg
/-- no class of it has the name -/
def NoAttr (K : PySem.W.Frag) (C : Addr) (f : Str) : Prop := PySem.W.findIn K (.ref C) f = some none
theorem NoAttr.taker {K : PySem.W.Frag} {C : Addr} {f : Str} (n : NoAttr K C f) : PySem.W.takerIn K C f = some none := by
  unfold PySem.W.takerIn
  rw [show PySem.W.findIn K (.ref C) f = some none from n]
  rfl
/-- a method: a plain def of the class or of one above it -/
structure Meth (K : PySem.W.Frag) (C : Addr) (m : Str) (f : Addr) : Prop where
  at_ : PySem.W.findIn K (.ref C) m = some (some (.ref f))
  fn : PySem.W.isFn K (.ref f) = true
  kp : PySem.W.keepIn K (.ref f) = true

section
variable {X : Cx} {pins : List (Addr × Obj)} {σ : St} {H : Hp} {s : Shared} {a C dx : Addr} {fs : List (Str × V)} {f : Str} {v : V} {A : Around} {E : Value → Shared → Prop}

theorem getattr_ok {b : Bool} {Q : Value → Shared → Prop} (I : Inv X pins σ H s) (e : H a = some (.ins C dx fs)) (c : Cls X.K C) (n : NoAttr X.K C f) (l : fs.lookup f = some v)
    (h : ∀ u s', Inv X pins σ H s' → RelV v u → Q u s') : wpAny (model X.prog X.w) A (getAttr (.ref a) f b) Q E s := by
  obtain ⟨mA, O, r, _, _, _⟩ := ins_get I.hok e
  obtain ⟨u, hu, ru⟩ := RelO.some_of (v := v) (o := mA f) (by rw [← l]; exact r f)
  exact get_map I.kIn O (c.get f) c.hd n hu (handed_of ru) (h u _ (I.tok _) ru)


theorem getmeth_ok {m : Str} {g : Addr} {pl : Sem Bool} {Q : Value × List Value → Shared → Prop} (I : Inv X pins σ H s) (e : H a = some (.ins C dx fs)) (c : Cls X.K C) (k : Meth X.K C m g) (l : fs.lookup m = none)
    (h : Q (.ref g, [.ref a]) s) : wpAny (model X.prog X.w) A (getMethod (.ref a) m pl) Q E s := by
  obtain ⟨mA, O, r, _, _, _⟩ := ins_get I.hok e
  have hn : mA m = none := RelO.none_of (by rw [← l]; exact r m)
  exact get_meth I.kIn O (c.get m) k.at_ k.fn hn h

theorem setattr_ok {y : V} {u : Value} {Q : Unit → Shared → Prop} (I : Inv X pins σ H s) (e : H a = some (.ins C dx fs)) (c : Cls X.K C) (n : NoAttr X.K C f) (hl : fs.length < 1000) (ry : RelV y u)
    (h : ∀ s', Inv X pins σ (upd H a (.ins C dx (putF f y fs))) s' → Q () s') : wpAny (model X.prog X.w) A (setAttr (.ref a) f u) Q E s := by
  obtain ⟨mA, O, r, wi, _, ho⟩ := ins_get I.hok e
  have hz : (fs.map (·.1)).length ≤ sizeLine := by rw [List.length_map, sizeLine_eq]; omega
  refine set_map I.kIn O c.sa c.po n.taker c.hd wi hz fun h' O' sb => h _ ?_
  have hd : ∃ o, h'.get? dx = some o := let ⟨o, _, _, e', _⟩ := O'.ns; ⟨o, e'⟩
  refine I.write (x := a) (e := dx) (by rw [e]; exact True.intro) (.inr ho) (fun b q hb z => (sb.2 b hb).trans z) hd ?_
  refine ⟨by rw [upd_ne O.ne]; exact ho, ?_, O.ne, O'.obj, _, O'.ns, fun g => ?_, fun g hg => ?_⟩
  · have := length_putF f y fs; omega
  · show RelO ((putF f y fs).lookup g) (if g = f then some u else mA g)
    rw [lookup_putF]
    by_cases q : g = f
    · rw [if_pos q, if_pos q]; exact ry
    · rw [if_neg q, if_neg q]; exact r g
  · by_cases q : g = f
    · rw [q]; exact (keys_putF f y fs).1
    · refine (keys_putF f y fs).2 g (wi g fun z => hg ?_)
      show (if g = f then some u else mA g) = none
      rw [if_neg q]; exact z

/-- a new instance, tracked, without attributes -/
theorem Inv.made (I : Inv X pins σ H s) : Inv X pins σ (upd (upd H s.heap.objs.size (.own (s.heap.objs.size + 1))) (s.heap.objs.size + 1) (.ins C s.heap.objs.size []))
    { s with heap := (s.heap.push PySem.W.emptyDict).push (PySem.W.instObj C s.heap.objs.size) } := by
  have e1 : (s.heap.push PySem.W.emptyDict).get? s.heap.objs.size = some PySem.W.emptyDict := Heap.get?_push_size s.heap rfl
  have e2 : ((s.heap.push PySem.W.emptyDict).push (PySem.W.instObj C s.heap.objs.size)).get? (s.heap.objs.size + 1) = some (PySem.W.instObj C s.heap.objs.size) := by
    have := Heap.get?_push_size (s.heap.push PySem.W.emptyDict) (o := PySem.W.instObj C s.heap.objs.size) rfl
    rwa [Heap.size_push] at this
  have e3 : (s.heap.push PySem.W.emptyDict).Ns s.heap.objs.size (fun _ => none) := ⟨PySem.W.emptyDict, #[], _, e1, rfl, (fun e he => absurd he (by simp)), fun _ => rfl⟩
  have I1 := I.laid (a := s.heap.objs.size) (o := .own (s.heap.objs.size + 1)) (h' := s.heap.push PySem.W.emptyDict) (t' := s.toks) (fun b u q => Heap.get?_push_of_some _ q) (Nat.le_refl _) ⟨_, e1⟩
  refine I1.laid (a := s.heap.objs.size + 1) (o := .ins C s.heap.objs.size []) (t' := s.toks) (fun b u q => Heap.get?_push_of_some _ q) (Nat.le_of_eq (Heap.size_push _ _)) ?_
  have ne : s.heap.objs.size ≠ s.heap.objs.size + 1 := Nat.ne_of_lt (Nat.lt_succ_self _)
  refine ⟨by rw [upd_ne ne, upd_same], Nat.zero_le _, ne, e2, fun _ => none, (Heap.Ns1.of_empty e3).at fun o q => Heap.get?_push_of_some _ q, fun _ => True.intro, fun y hy => absurd rfl hy⟩

/-- e.f where nothing but the object is asked: through attributeBase (super) and the last hold -/
theorem attr_of {prog : Program} {w : World} {env : Env} {e : Expr} {f : Str} {pos : Pos} {s : Shared} {Q : Value → Shared → Prop} (hb : attributeBase e f env (eval e env) = eval e env)
    (h : wpAny (model prog w) A (eval e env) (fun o s₁ => wpAny (model prog w) A (getAttr o f true) Q E s₁) E s) : wpAny (model prog w) A (eval (.Attribute e f pos) env) Q E s :=
  Attribute_any_ h (by rw [arm_eval_Attribute, hb])
end

/-! ### readings and rules -/
/-- e.f, an attribute of the instance -/
def tFld (K : PySem.W.Frag) (ta : TE) (f : Str) : TE := fun σ H Q => ta σ H fun x H1 => ∃ a C dx fs v, x = .ref a ∧ H1 a = some (.ins C dx fs) ∧ Cls K C ∧ NoAttr K C f ∧ fs.lookup f = some v ∧ Q v H1
/-- e.f = value -/
def sFld (K : PySem.W.Frag) (ta tv : TE) (f : Str) : TS := fun D σ H => tv σ H fun y H1 => ta σ H1 fun x H2 => ∃ a C dx fs, x = .ref a ∧ H2 a = some (.ins C dx fs) ∧ Cls K C ∧ NoAttr K C f ∧ fs.length < 1000 ∧
  D.nx σ (upd H2 a (.ins C dx (putF f y fs)))

section
variable {X : Cx} {o e value : Expr} {f : Str} {pos pos' tpos : Pos} {ta tv : TE}
theorem pe_fld (he : PE X e ta) (hb : attributeBase e f X.env (eval e X.env) = eval e X.env) : PE X (.Attribute e f pos) (tFld X.K ta f) := by
  intro pins s σ H Q I h
  refine attr_of hb (thn (he pins s σ H _ I h) fun u s1 ⟨x, H1, I1, rx, a, C, dx, fs, v, ex, ea, c, n, l, q⟩ => ?_)
  subst ex
  obtain rfl : u = Value.ref a := rx
  exact getattr_ok I1 ea c n l fun u' s2 I2 ru => ⟨v, H1, I2, ru, q⟩
theorem ps_fld (ha : PE X o ta) (hv : PE X value tv) (hs : swapsWith value (some (.Attribute o f pos')) pos.line X.env = pure false) : PS X (.Assign [.Attribute o f pos'] value pos) (sFld X.K ta tv f) := by
  intro pins s σ H D I h
  refine plainObj_wpAny_Assign_Attribute (thn (hv pins s σ H _ I h) fun u s1 ⟨y, H1, I1, ry, q⟩ => thn (ha pins s1 σ H1 _ I1 q) fun ov s2 ⟨x, H2, I2, rx, a, C, dx, fs, ex, ea, c, n, l, q2⟩ => ?_) hs
  subst ex
  obtain rfl : ov = Value.ref a := rx
  exact setattr_ok I2 ea c n l ry fun s3 I3 => ⟨σ, _, I3, q2⟩

end

/-! ### isinstance -/
section
variable {X : Cx} {pins : List (Addr × Obj)} {σ : St} {H : Hp} {s : Shared} {A : Around} {E : Value → Shared → Prop} {Q : Value → Shared → Prop} {c : Value} {b : Bool}
end
end L2

namespace L2
open PySem PySem.Spec PyProof.Rows

/-! ### room -/
structure Room (k : Nat) (A : Around) : Prop where
  hd : A.handled = none
  dp : A.depth + 3 * k + 5 < recursionLimit
  un : A.units + 16 * k + 200 < cLine
theorem Room.mono {j k : Nat} {A : Around} (r : Room k A) (h : j ≤ k) : Room j A := ⟨r.hd, by have := r.dp; omega, by have := r.un; omega⟩
theorem Room.deeper {k : Nat} {A : Around} (r : Room (k + 1) A) (env : Env) : Room k (A.deeper env) :=
  ⟨r.hd, by have := r.dp; show A.depth + 1 + 3 * k + 5 < _; omega, by have := r.un; show A.units + 3 + 16 * k + 200 < _; omega⟩
theorem Room.in1 {k : Nat} {A : Around} (r : Room (k + 1) A) : Room k A.in1 :=
  ⟨r.hd, by have := r.dp; show A.depth + 3 * k + 5 < _; omega, by have := r.un; show A.units + 1 + 16 * k + 200 < _; omega⟩
theorem make_depth {A : Around} {C : Addr} {us : List Value} {kw : List (Str × Value)} : (A.under (.builtin "type.__call__" ⟨.ref C :: us, kw⟩)).depth = A.depth + 1 := by
  first | rfl | simp [Around.under, Code.weight, Code.isCreation, Code.isGuard, Code.isCaller, Code.frames, Code.isFrame, guardIds]
theorem make_units {A : Around} {C : Addr} {us : List Value} {kw : List (Str × Value)} : (A.under (.builtin "type.__call__" ⟨.ref C :: us, kw⟩)).units = A.units + 1 := by
  first | rfl | simp [Around.under, Code.cUnits, Code.frames, Code.isFrame]
theorem Room.make {k : Nat} {A : Around} (r : Room (k + 1) A) (C : Addr) (us : List Value) (kw : List (Str × Value)) : Room k (A.under (.builtin "type.__call__" ⟨.ref C :: us, kw⟩)) :=
  ⟨r.hd, by have := r.dp; rw [make_depth]; omega, by have := r.un; rw [make_units]; omega⟩
theorem Room.depth {k : Nat} {A : Around} (r : Room k A) : A.depth < recursionLimit := by have := r.dp; omega
theorem Room.units {k : Nat} {A : Around} (r : Room k A) : A.units + 64 < cLine := by have := r.un; omega

/-! ### argument lists and displays -/
def tNil : TA := fun _ H Q => Q [] H
def tCons (ta : TE) (tr : TA) : TA := fun σ H Q => ta σ H fun x H1 => tr σ H1 fun xs H2 => Q (x :: xs) H2
section
variable {X : Cx} {e : Expr} {es : List Expr} {te : TE} {t : TA} {pos : Pos}
theorem pa_nil : PA X [] tNil := fun _ _ _ _ H Q I h => Calls.spliced_nil ⟨[], H, I, .nil, h⟩
theorem pa_cons (ha : PE X e te) (hr : PA X es t) (hs : starEach (e :: es) X.env = (false, eval e X.env) :: starEach es X.env := by rfl) : PA X (e :: es) (tCons te t) := by
  intro pos pins s σ H Q I h
  rw [hs]
  show wpAny _ _ (spliced ((false, eval e X.env) :: backTo pos (starEach es X.env))) _ _ s
  refine Calls.spliced_cons (thn (ha pins s σ H _ I h) fun u s1 ⟨x, H1, I1, r1, q1⟩ => ?_)
  exact thn (hr pos pins s1 σ H1 _ I1 q1) fun us s2 ⟨xs, H2, I2, r2, q2⟩ => ⟨x :: xs, H2, I2, .cons r1 r2, q2⟩

/-- a tuple, a list of written items -/
def tTup (t : TA) : TE := fun σ H Q => t σ H fun xs H1 => xs.length ≤ sizeLine ∧ ∀ p, H1 p = none → Q (.ref p) (upd H1 p (.tup xs))
def tLst (t : TA) : TE := fun σ H Q => t σ H fun xs H1 => xs.length ≤ sizeLine ∧ ∀ p, H1 p = none → Q (.ref p) (upd H1 p (.lst xs))
theorem pe_tup {x1} (h : PA X es t) : PE X (.Tuple es x1 pos) (tTup t) := by
  intro pins s σ H Q I hq
  refine wpAny_Tuple_spliced (thn (h pos pins s σ H _ I hq) fun us s1 ⟨xs, H1, I1, r, z, q⟩ => ⟨by rw [← r.length]; exact z, ?_⟩)
  have hf : H1 s1.heap.objs.size = none := I1.hok.fresh (Nat.le_refl _)
  refine ⟨.ref s1.heap.objs.size, upd H1 s1.heap.objs.size (.tup xs), I1.laid (t' := s1.toks) (fun b u e => Heap.get?_push_of_some _ e) (Nat.le_refl _) ?_, rfl, q _ hf⟩
  exact ⟨z, us, r, ⟨_, Heap.get?_push_size _ rfl, rfl, _, rfl⟩⟩
theorem pe_lst (h : PA X es t) : PE X (.List es pos) (tLst t) := by
  intro pins s σ H Q I hq
  refine wpAny_List_spliced (thn (h pos pins s σ H _ I hq) fun us s1 ⟨xs, H1, I1, r, z, q⟩ => ⟨by rw [← r.length]; exact z, ?_⟩)
  have hf : H1 s1.heap.objs.size = none := I1.hok.fresh (Nat.le_refl _)
  refine ⟨.ref s1.heap.objs.size, upd H1 s1.heap.objs.size (.lst xs), I1.laid (t' := s1.toks) (fun b u e => Heap.get?_push_of_some _ e) (Nat.le_refl _) ?_, rfl, q _ hf⟩
  exact ⟨z, us, 0, r, Heap.get?_push_size _ rfl⟩
end

/-! ### what a def promises -/
/-- a def's promise: the bound arguments in the parameters' order, the heap, the wanted end, the wanted exception -/
abbrev Sp := List V → Hp → VK → XK → Prop
/-- how an exception lies behind a call (file 08 gives it): the callers' frames, abstract heap and state ahead of the call, the wish, the exception, the state -/
abbrev CXT := List Env → Hp → Shared → XK → Value → Shared → Prop

/-- the state at a call -/
structure Env0 (P : Program) (w : World) (K : PySem.W.Frag) (mg : Str → Option Value) (base : Heap) (A : Around) (outer : List Env) (s : Shared) (H : Hp) : Prop where
  frames : A.frames = some outer
  mod : Mod K mg base
  bs : ∀ b o, base.get? b = some o → s.heap.get? b = some o ∧ H b = none
  bsz : base.objs.size ≤ s.heap.objs.size
  funs : s.heap.FunFrames base outer
  frf : ∀ b ∈ frs outer, H b = none
  hok : HOk P w H s.heap
  bare : AllBare s.gens
/-- a call's end -/
def CE (outer : List Env) (P : Program) (w : World) (H : Hp) (s : Shared) (Q : VK) (u : Value) (s' : Shared) : Prop :=
  ∃ v H', s'.os = s.os ∧ AllBare s'.gens ∧ Un (frs outer) [] H H' s.heap s'.heap ∧ HOk P w H' s'.heap ∧ RelV v u ∧ Q v H'
def CR (CX : CXT) (outer : List Env) (P : Program) (w : World) (H : Hp) (s : Shared) (Q : VK) (E : XK) (r : Result) (s' : Shared) : Prop :=
  match r with
  | .ok (.ret u) => CE outer P w H s Q u s'
  | .ok _ => False
  | .error e => CX outer H s E e s'
structure FnOk (P : Program) (w : World) (K : PySem.W.Frag) (mg : Str → Option Value) (base : Heap) (CX : CXT) (k : Nat) (f : Addr) (fd : FuncData) (ps : List Str) (sp : Sp) : Prop where
  len : ∀ vs H Q E, sp vs H Q E → vs.length = ps.length
  run : ∀ (A : Around) (outer : List Env) (s : Shared) (H : Hp) (args : Args) (us : List Value) (vs : List V) (Q : VK) (E : XK), Room k A → Env0 P w K mg base A outer s H → BindsTo s fd args (ps.zip us) → Vals vs us → sp vs H Q E →
    codeAny (model P w) A (.call (.ref f) args) (CR CX outer P w H s Q E) s
theorem FnOk.mono {P : Program} {w : World} {K : PySem.W.Frag} {mg : Str → Option Value} {base : Heap} {CX : CXT} {j k : Nat} {f : Addr} {fd : FuncData} {ps : List Str} {sp : Sp} (F : FnOk P w K mg base CX j f fd ps sp) (h : j ≤ k) :
    FnOk P w K mg base CX k f fd ps sp := ⟨F.len, fun A outer s H args us vs Q E hr => F.run A outer s H args us vs Q E (hr.mono h)⟩

theorem Env0.make {P : Program} {w : World} {K : PySem.W.Frag} {mg : Str → Option Value} {base : Heap} {A : Around} {outer : List Env} {s : Shared} {H : Hp} (e : Env0 P w K mg base A outer s H) (C : Addr) (us : List Value) (kw : List (Str × Value)) :
    Env0 P w K mg base (A.under (.builtin "type.__call__" ⟨.ref C :: us, kw⟩)) outer s H := ⟨by first | exact e.frames | (simpa [Around.under, Code.envs, Code.isFrame, pushEnvs] using e.frames), e.mod, e.bs, e.bsz, e.funs, e.frf, e.hok, e.bare⟩
theorem Env0.in1 {P : Program} {w : World} {K : PySem.W.Frag} {mg : Str → Option Value} {base : Heap} {A : Around} {outer : List Env} {s : Shared} {H : Hp} (e : Env0 P w K mg base A outer s H) :
    Env0 P w K mg base A.in1 outer s H := ⟨e.frames, e.mod, e.bs, e.bsz, e.funs, e.frf, e.hok, e.bare⟩

section
variable {X : Cx} {pins : List (Addr × Obj)} {σ : St} {H : Hp} {s s' : Shared}
/-- from a body: what a callee wants -/
theorem Inv.env0 (I : Inv X pins σ H s) : Env0 X.prog X.w X.K X.mg X.base X.A X.stack s H :=
  ⟨I.ok.frames, I.ok.mod, I.bs, Nat.le_trans I.ok.bsz I.sz, I.stack, I.stkFree, I.hok, I.bare⟩
/-- behind a call -/
theorem Inv.after {Q : VK} {u : Value} (I : Inv X pins σ H s) (h : CE X.stack X.prog X.w H s Q u s') : EP X pins σ Q u s' := by
  obtain ⟨v, H', os, bare, un, hok, r, q⟩ := h
  obtain ⟨hh, g, d, t, os'⟩ := s'
  obtain rfl : os' = s.os := os
  exact ⟨v, H', I.call (h' := hh) (g' := g) (d' := d) (t' := t) (ch := []) un hok bare (fun b z => absurd z (by simp)), r, q⟩
end

/-! ### calls -/
/-- f(..): the written arguments, then the defaults dvs; E: what is wanted of an exception -/
def tCall (sp : Sp) (dvs : List V) (E : XK) (t : TA) : TE := fun σ H Q => t σ H fun vs H1 => sp (vs ++ dvs) H1 Q E
/-- o.m(..) of an instance of the class at C -/
def tMeth (C : Addr) (m : Str) (sp : Sp) (dvs : List V) (E : XK) (ta : TE) (t : TA) : TE := fun σ H Q => ta σ H fun x H1 => ∃ a dx fs, x = .ref a ∧ H1 a = some (.ins C dx fs) ∧ fs.lookup m = none ∧
  t σ H1 fun vs H2 => sp (x :: (vs ++ dvs)) H2 Q E
/-- C(..): a new instance and its dict, then __init__ -/
def tMake (C : Addr) (sp : Sp) (dvs : List V) (E : XK) (t : TA) : TE := fun σ H Q => t σ H fun vs H1 => ∀ x dx, H1 x = none → H1 dx = none → dx ≠ x →
  sp (.ref x :: (vs ++ dvs)) (upd (upd H1 dx (.own x)) x (.ins C dx [])) (fun v H2 => v = .non ∧ Q (.ref x) H2) E

/-- how the parameters are bound: us the positional arguments, kw the keywords' values by name, ds the defaults that fill up -/
def Binds (K : PySem.W.Frag) (fd : FuncData) (ps : List Str) (ds : List Value) : Prop :=
  ∀ (s : Shared) (us : List Value), K.In s.heap → (us ++ ds).length = ps.length → BindsTo s fd ⟨us, []⟩ (ps.zip (us ++ ds))
/-- every parameter is given -/
theorem Binds.all {K : PySem.W.Frag} {fd : FuncData} {ps : List Str} (h : ∀ us : List Value, us.length = ps.length → bindArgs fd ⟨us, []⟩ = pure (ps.zip us)) : Binds K fd ps [] := fun s us _ hl => by
  rw [List.append_nil] at hl ⊢
  exact .of_eq (h us hl)

/-- an exception of a callee reaches what this body wants of exceptions -/
def Passes (CX : CXT) (X : Cx) (E : XK) : Prop := ∀ (pins : List (Addr × Obj)) (σ : St) (H : Hp) (s : Shared) (e : Value) (s' : Shared), Inv X pins σ H s → CX X.stack H s E e s' → X.xe e s'

section
variable {X : Cx} {CX : CXT} {k : Nat} {f C : Addr} {fd : FuncData} {ps : List Str} {sp : Sp} {dvs : List V} {ds : List Value} {E : XK} {x m : Str} {p pos apos : Pos} {e o : Expr} {es : List Expr} {ta : TE} {t : TA}

/-- the callee runs -/
theorem run_fn {pins : List (Addr × Obj)} {σ : St} {H : Hp} {s : Shared} {Q : VK} {us : List Value} {vs : List V} (F : FnOk X.prog X.w X.K X.mg X.base CX k f fd ps sp) (hr : Room k X.A) (hb : Binds X.K fd ps ds) (hd : Vals dvs ds) (hx : Passes CX X E)
    (I : Inv X pins σ H s) (r : Vals vs us) (h : sp (vs ++ dvs) H Q E) : wpAny (model X.prog X.w) X.A (call (.ref f) us) (EP X pins σ Q) X.xe s := by
  have r2 : Vals (vs ++ dvs) (us ++ ds) := r.append hd
  have hl : (us ++ ds).length = ps.length := by rw [← r2.length]; exact F.len _ _ _ _ h
  refine wpAny_call (codeAny_mono (F.run X.A X.stack s H ⟨us, []⟩ (us ++ ds) (vs ++ dvs) Q E hr I.env0 (hb s us I.kIn hl) r2 h) fun r s' hq => ?_)
  cases r with
  | error e => exact hx pins σ H s e s' I hq
  | ok fl =>
    cases fl with
    | ret u => exact I.after hq
    | next => exact False.elim hq
    | brk => exact False.elim hq
    | cont => exact False.elim hq

theorem pe_call (F : FnOk X.prog X.w X.K X.mg X.base CX k f fd ps sp) (hr : Room k X.A) (hg : Gl X x) (hm : X.mg x = some (.ref f)) (hk : PySem.W.keepIn X.K (.ref f) = true) (hb : Binds X.K fd ps ds) (hd : Vals dvs ds) (hx : Passes CX X E)
    (ha : PA X (e :: es) t) (hdb : (x == ("__debug__" : Str)) = false := by decide) (he : starEach (e :: es) X.env = (false, eval e X.env) :: starEach es X.env := by rfl) (hpl : (backTo pos (starEach es X.env)).any (·.1) = false := by rfl) :
    PE X (.Call (.Name x p) (e :: es) [] pos) (tCall sp dvs E t) := by
  intro pins s σ H Q I h
  refine wpAny_Call_Name_kw (ld_glob I hg hm ?_ hdb)
  refine PySem.W.callWith_K (h₀ := X.base) I.ok.mod.kin hk (thn (ha pos pins s σ H _ I h) fun us s1 ⟨vs, H1, I1, r, q⟩ => ⟨I1.kIn, ?_⟩) he hpl
  exact run_fn F hr hb hd hx I1 r q

/-- o.m(e, ..) -/
theorem pe_meth {pl : Sem Bool} (he : PE X o ta) (c : Cls X.K C) (hm : Meth X.K C m f) (F : FnOk X.prog X.w X.K X.mg X.base CX k f fd ps sp) (hr : Room k X.A) (hb : Binds X.K fd ps ds) (hd : Vals dvs ds) (hx : Passes CX X E) (ha : PA X (e :: es) t)
    (hst : starEach (e :: es) X.env = (false, eval e X.env) :: starEach es X.env := by rfl) (hpl : (backTo pos (starEach es X.env)).any (·.1) = false := by rfl)
    (ht : eval (.Call (.Attribute o m apos) (e :: es) [] pos) X.env = (do
      let ov ← eval o X.env
      standAt apos.atName
      let (f, first) ← holding [ov] (getMethod ov m pl)
      callWith pos f first (backTo pos (starEach (e :: es) X.env)) (backToKw pos (keywordEach [] X.env))) := by rfl) :
    PE X (.Call (.Attribute o m apos) (e :: es) [] pos) (tMeth C m sp dvs E ta t) := by
  intro pins s σ H Q I h
  refine PySem.W.methodCall_KW (pl := pl) (thn (he pins s σ H _ I h) fun u s1 ⟨x, H1, I1, rx, a, dx, fs, ex, ea, l, q⟩ => ?_) ht
  subst ex
  obtain rfl : u = Value.ref a := rx
  refine getmeth_ok I1 ea c hm l ?_
  refine PySem.W.callWith_K (first := [.ref a]) (h₀ := X.base) I.ok.mod.kin hm.kp (thn (ha pos pins s1 σ H1 _ I1 q) fun us s2 ⟨vs, H2, I2, r, q2⟩ => ⟨I2.kIn, ?_⟩) hst hpl
  exact run_fn (us := .ref a :: us) (vs := .ref a :: vs) F hr hb hd hx I2 (.cons rfl r) q2
/-- o.m() -/
theorem pe_meth0 {pl : Sem Bool} (he : PE X o ta) (c : Cls X.K C) (hm : Meth X.K C m f) (F : FnOk X.prog X.w X.K X.mg X.base CX k f fd ps sp) (hr : Room k X.A) (hb : Binds X.K fd ps ds) (hd : Vals dvs ds) (hx : Passes CX X E)
    (ht : eval (.Call (.Attribute o m apos) [] [] pos) X.env = (do
      let ov ← eval o X.env
      standAt apos.atName
      let (f, first) ← holding [ov] (getMethod ov m pl)
      callWith pos f first (backTo pos (starEach [] X.env)) (backToKw pos (keywordEach [] X.env))) := by rfl) :
    PE X (.Call (.Attribute o m apos) [] [] pos) (tMeth C m sp dvs E ta tNil) := by
  intro pins s σ H Q I h
  refine PySem.W.methodCall_KW (pl := pl) (thn (he pins s σ H _ I h) fun u s1 ⟨x, H1, I1, rx, a, dx, fs, ex, ea, l, q⟩ => ?_) ht
  subst ex
  obtain rfl : u = Value.ref a := rx
  refine getmeth_ok I1 ea c hm l ?_
  exact PySem.W.callWith_K0 (first := [.ref a]) I1.kIn hm.kp (run_fn (us := [.ref a]) (vs := [.ref a]) F hr hb hd hx I1 (.cons rfl .nil) q)

/-- what a class must have to be made -/
structure Mk (K : PySem.W.Frag) (C f : Addr) : Prop where
  makes : PySem.W.makesIn K C = true
  init : PySem.W.findIn K (.ref C) "__init__" = some (some (.ref f))
  fn : PySem.W.isFn K (.ref f) = true
  kp : PySem.W.keepIn K (.ref C) = true

theorem run_make {pins : List (Addr × Obj)} {σ : St} {H : Hp} {s : Shared} {Q : VK} {us : List Value} {vs : List V} (M : Mk X.K C f) (F : FnOk X.prog X.w X.K X.mg X.base CX k f fd ps sp) (hr : Room (k + 1) X.A) (hb : Binds X.K fd ps ds) (hd : Vals dvs ds)
    (hx : Passes CX X E) (I : Inv X pins σ H s) (r : Vals vs us)
    (h : ∀ x dx, H x = none → H dx = none → dx ≠ x → sp (.ref x :: (vs ++ dvs)) (upd (upd H dx (.own x)) x (.ins C dx [])) (fun v H2 => v = .non ∧ Q (.ref x) H2) E) :
    wpAny (model X.prog X.w) X.A (call (.ref C) us) (EP X pins σ Q) X.xe s := by
  have hq := h (s.heap.objs.size + 1) s.heap.objs.size (I.hok.fresh (Nat.le_succ _)) (I.hok.fresh (Nat.le_refl _)) (Nat.ne_of_lt (Nat.lt_succ_self _))
  have I2 := Inv.made (C := C) I
  have r2 : Vals (V.ref (s.heap.objs.size + 1) :: (vs ++ dvs)) (Value.ref (s.heap.objs.size + 1) :: (us ++ ds)) := .cons rfl (r.append hd)
  have hl : (Value.ref (s.heap.objs.size + 1) :: us ++ ds).length = ps.length := by
    have e := r2.length
    rw [F.len _ _ _ _ hq] at e
    exact e.symm
  refine wpAny_call (make_map (f := f) I.kIn M.makes M.init (beq_iff_eq.mp M.fn) (codeAny_mono (F.run _ X.stack _ _ ⟨Value.ref (s.heap.objs.size + 1) :: us, []⟩ (Value.ref (s.heap.objs.size + 1) :: (us ++ ds)) _ _ E (hr.make C us [])
    (I2.env0.make C us []) (hb _ (Value.ref (s.heap.objs.size + 1) :: us) I2.kIn hl) r2 hq) fun r s' hq' => ?_))
  cases r with
  | error e => exact hx pins σ _ _ e s' I2 hq'
  | ok fl =>
    cases fl with
    | ret u =>
      obtain ⟨v, H', I3, rv, ev, q3⟩ := I2.after hq'
      subst ev
      exact ⟨rv, ⟨V.ref (s.heap.objs.size + 1), H', I3, rfl, q3⟩⟩
    | next => exact False.elim hq'
    | brk => exact False.elim hq'
    | cont => exact False.elim hq'
theorem pe_make (M : Mk X.K C f) (F : FnOk X.prog X.w X.K X.mg X.base CX k f fd ps sp) (hr : Room (k + 1) X.A) (hg : Gl X x) (hm : X.mg x = some (.ref C)) (hb : Binds X.K fd ps ds) (hd : Vals dvs ds) (hx : Passes CX X E)
    (ha : PA X (e :: es) t) (hdb : (x == ("__debug__" : Str)) = false := by decide) (he : starEach (e :: es) X.env = (false, eval e X.env) :: starEach es X.env := by rfl) (hpl : (backTo pos (starEach es X.env)).any (·.1) = false := by rfl) :
    PE X (.Call (.Name x p) (e :: es) [] pos) (tMake C sp dvs E t) := by
  intro pins s σ H Q I h
  refine wpAny_Call_Name_kw (ld_glob I hg hm ?_ hdb)
  refine PySem.W.callWith_K (h₀ := X.base) I.ok.mod.kin M.kp (thn (ha pos pins s σ H _ I h) fun us s1 ⟨vs, H1, I1, r, q⟩ => ⟨I1.kIn, ?_⟩) he hpl
  exact run_make M F hr hb hd hx I1 r q
end

/-! ### keywords -/
section
variable {X : Cx} {CX : CXT} {k : Nat} {f C : Addr} {fd : FuncData} {ps ks : List Str} {sp : Sp} {E : XK} {x m : Str} {p pos apos kpos : Pos} {e o : Expr} {es : List Expr} {kws : List Keyword} {te ta : TE} {t tk : TA} {nm : Option Str}

variable {g : List Value → List Value → List Value} {gV : List V → List V → List V}
end

/-! ### a def's body keeps its promise -/
/-- names: the parameters first -/
structure FnScope (N P : List Str) (sc : Scope) : Prop where
  kind : sc.kind = .function
  co : sc.isCoroutine = false
  gen : sc.isGenerator = false
  nd : N.Nodup
  pre : N.take P.length = P
  par : ∀ x ∈ P, sc.names.lookup x = some .local ∨ sc.names.lookup x = some .cell
  nofree : ∀ y ∈ sc.names, y.2 ≠ .free

theorem bindL_out {kindOf : Str → Option NameKind} {x : Str} : ∀ {binds : List (Str × Value)} {m : Str → Option Value}, (∀ v, (x, v) ∉ binds) → bindL kindOf binds m x = m x
  | [], _, _ => rfl
  | (n, v) :: r, m, h => by
    unfold bindL
    rw [bindL_out fun w hw => h w (List.mem_cons_of_mem _ hw)]
    split
    · have : x ≠ n := by rintro rfl; exact h v List.mem_cons_self
      simp [this]
    · rfl
theorem bindC_out {kindOf : Str → Option NameKind} {x : Str} : ∀ {binds : List (Str × Value)} {m : Str → Option Value}, (∀ v, (x, v) ∉ binds) → bindC kindOf binds m x = m x
  | [], _, _ => rfl
  | (n, v) :: r, m, h => by
    unfold bindC
    rw [bindC_out fun w hw => h w (List.mem_cons_of_mem _ hw)]
    split
    · rfl
    · have : x ≠ n := by rintro rfl; exact h v List.mem_cons_self
      simp [this]
theorem bindL_get {kindOf : Str → Option NameKind} {x : Str} {v : Value} : ∀ {P : List Str} {vs : List Value} {i : Nat} {m : Str → Option Value}, P.Nodup → P[i]? = some x → vs[i]? = some v → kindOf x = some .local →
    bindL kindOf (P.zip vs) m x = some v
  | [], _, _, _, _, h, _, _ => by simp at h
  | _ :: _, [], _, _, _, _, h, _ => by simp at h
  | p :: P, w :: vs, 0, m, nd, h1, h2, hk => by
    simp at h1 h2; subst h1; subst h2
    show bindL kindOf ((p, w) :: P.zip vs) m p = _
    unfold bindL
    rw [bindL_out fun v hv => (List.nodup_cons.mp nd).1 (List.of_mem_zip hv).1, if_pos hk]
    simp
  | p :: P, w :: vs, i + 1, m, nd, h1, h2, hk => by
    show bindL kindOf ((p, w) :: P.zip vs) m x = _
    unfold bindL
    exact bindL_get (i := i) (List.nodup_cons.mp nd).2 (by simpa using h1) (by simpa using h2) hk
theorem bindC_get {kindOf : Str → Option NameKind} {x : Str} {v : Value} : ∀ {P : List Str} {vs : List Value} {i : Nat} {m : Str → Option Value}, P.Nodup → P[i]? = some x → vs[i]? = some v → kindOf x ≠ some .local →
    bindC kindOf (P.zip vs) m x = some v
  | [], _, _, _, _, h, _, _ => by simp at h
  | _ :: _, [], _, _, _, _, h, _ => by simp at h
  | p :: P, w :: vs, 0, m, nd, h1, h2, hk => by
    simp at h1 h2; subst h1; subst h2
    show bindC kindOf ((p, w) :: P.zip vs) m p = _
    unfold bindC
    rw [bindC_out fun v hv => (List.nodup_cons.mp nd).1 (List.of_mem_zip hv).1, if_neg hk]
    simp
  | p :: P, w :: vs, i + 1, m, nd, h1, h2, hk => by
    show bindC kindOf ((p, w) :: P.zip vs) m x = _
    unfold bindC
    exact bindC_get (i := i) (List.nodup_cons.mp nd).2 (by simpa using h1) (by simpa using h2) hk

/-- the names' values at the entry -/
def start (N : List Str) (vs : List V) : St := vs.map some ++ List.replicate (N.length - vs.length) none

/-- the context of a def's body, at its entry; an exception leaves the frame, then lies as CX says -/
def cxOf (CX : CXT) (P : Program) (w : World) (K : PySem.W.Frag) (mg : Str → Option Value) (base : Heap) (N : List Str) (qual : Str) (scope : Scope) (f : Addr) (cd : Value) (A : Around) (outer : List Env) (s : Shared) (H : Hp) (E : XK) : Cx where
  prog := P
  w := w
  K := K
  mg := mg
  base := base
  A := A.deeper (envOfC qual scope s.heap.objs.size f cd)
  N := N
  s₀ := s
  H₀ := H
  env := envOfC qual scope s.heap.objs.size f cd
  outer := outer
  stack := envOfC qual scope s.heap.objs.size f cd :: outer
  ex := []
  calm := true
  fn := fun _ => true
  pn := []
  xe := fun e s' => wpAny (model P w) (A.deeper (envOfC qual scope s.heap.objs.size f cd)) (leaving (envOfC qual scope s.heap.objs.size f cd) e) (fun _ s'' => CX outer H s E e s'') (fun e' s'' => CX outer H s E e' s'') s'

theorem cell_has {sc : Scope} {n : Nat} {x : Str} (h : sc.names.lookup x = some .cell) : ∃ c, (cellsFrom n sc.names []).lookup x = some c := by
  have q := PySem.W.cellsFrom_some sc.names n [] (.inl h)
  exact Option.isSome_iff_exists.mp q

theorem inv_start {CX : CXT} {P : Program} {w : World} {K : PySem.W.Frag} {mg : Str → Option Value} {base : Heap} {N ps : List Str} {qual : Str} {scope : Scope} {f : Addr} {cd : Value} {A : Around} {outer : List Env} {s s1 : Shared} {H : Hp} {E : XK} {us : List Value} {vs : List V}
    (S : FnScope N ps scope) (hd : A.handled = none) (e0 : Env0 P w K mg base A outer s H) (hl : vs.length = ps.length) (r : Vals vs us)
    (x : InCallC s s.heap.objs.size (bindL (envOfC qual scope s.heap.objs.size f cd).kindOf (ps.zip us) fun _ => none) (cellsFrom (s.heap.objs.size + 1) scope.names []) (bindC (envOfC qual scope s.heap.objs.size f cd).kindOf (ps.zip us) fun _ => none) s1) :
    Inv (cxOf CX P w K mg base N qual scope f cd A outer s H E) [] (start N vs) H s1 := by
  have hpl : ps.length ≤ N.length := by have := congrArg List.length S.pre; rw [List.length_take] at this; omega
  obtain ⟨h1, tk, rfl, hk⟩ := x.done
  have noA : ∀ b : Addr, b ∉ (cxOf CX P w K mg base N qual scope f cd A outer s H E).ex := fun b z => absurd (show b ∈ ([] : List Addr) from z) (by simp)
  refine ⟨⟨e0.mod, S.kind, rfl, rfl, Nat.le_refl _, fun y z c h1 h2 => ?_, fun y hy => ?_, fun y c _ h => ?_, fun _ => hd, Around.frames_deeper e0.frames, .inr ⟨rfl, rfl⟩, fun b z => absurd z (noA b), e0.bs, e0.bsz, fun b _ _ => noA b, fun b z => absurd z (noA b), e0.funs, e0.frf⟩,
    rfl, e0.bare, Un.kept hk, ⟨_, x.toInCall.ns, fun i y v h1 h2 h3 => ?_⟩, fun y c h => ⟨_, x.cell y c h⟩, e0.hok.fresh (Nat.le_refl _), fun y c h => ?_, fun p hp => absurd (show p ∈ ([] : List (Addr × Obj)) from hp) (by simp), e0.hok.kept hk, ?_⟩
  · exact name_of_addr x.apart (PySem.mem_of_lookup h1) (PySem.mem_of_lookup h2)
  · have hy : scope.names.lookup y = some .cell ∨ scope.names.lookup y = some .free := hy
    rcases hy with hy | hy
    · exact cell_has hy
    · exact absurd rfl (S.nofree _ (PySem.mem_of_lookup hy))
  · exact Nat.le_of_lt (x.above y c (PySem.mem_of_lookup h))
  · have hi : i < vs.length := by
      unfold start at h2
      by_cases hi : i < vs.length
      · exact hi
      · rw [List.getElem?_append_right (by simpa using hi)] at h2
        rw [List.getElem?_replicate] at h2
        split at h2 <;> cases h2
    have ha : vs[i]? = some v := by
      unfold start at h2
      rw [List.getElem?_append_left (by simpa using hi), List.getElem?_map] at h2
      cases e : vs[i]? with
      | none => rw [e] at h2; cases h2
      | some a => rw [e] at h2; cases h2; rfl
    obtain ⟨u, hu, rv⟩ := r.get ha
    have hp : ps[i]? = some y := by
      rw [← S.pre, List.getElem?_take_of_lt (by omega)]; exact h1
    have ndP : ps.Nodup := by rw [← S.pre]; exact S.nd.sublist (List.take_sublist _ _)
    refine ⟨u, rv, ?_⟩
    rcases S.par y (List.mem_of_getElem? hp) with k | k
    · exact .inl ⟨k, bindL_get ndP hp hu k⟩
    · obtain ⟨c, e⟩ := cell_has (n := s.heap.objs.size + 1) k
      refine .inr ⟨.inl k, c, e, ?_⟩
      have q := x.cell y c e
      rw [bindC_get ndP hp hu (by show scope.names.lookup y ≠ _; rw [k]; decide)] at q
      exact q
  · exact e0.hok.fresh (Nat.le_of_lt (x.above y c (PySem.mem_of_lookup h)))
  · unfold start
    show _ = N.length
    rw [List.length_append, List.length_map, List.length_replicate]
    omega

/-- THE RULE: a def (or a method) of the text, by its body. The body's reading t is chosen for each entry; it is run at the parameters' values -/
theorem fn_of {CX : CXT} {P : Program} {w : World} {K : PySem.W.Frag} {mg : Str → Option Value} {base : Heap} {k : Nat} {f : Addr} {name qual : Str} {params : Arguments} {body : List Stmt} {scope : Scope} {dV kV doc pm cdv ct oc : Value} {an od : Option Addr}
    {osl : Array (Option Value)} {N ps : List Str} {sp : Sp} (lk : K.lookup f = some ⟨oc, od, .func (PySem.W.fnOf name qual params body scope dV kV doc pm an cdv ct), osl⟩) (hcd : PySem.W.codeIn K cdv qual = true) (S : FnScope N ps scope)
    (len : ∀ vs H Q E, sp vs H Q E → vs.length = ps.length)
    (hbody : ∀ (A : Around) (outer : List Env) (s : Shared) (H : Hp) (vs : List V) (Q : VK) (E : XK), Room k (A.deeper (envOfC qual scope s.heap.objs.size f cdv)) → sp vs H Q E →
      ∃ t, PSs (cxOf CX P w K mg base N qual scope f cdv A outer s H E) body t ∧ t { nx := fun _ H' => Q .non H', rt := Q } (start N vs) H) :
    FnOk P w K mg base CX (k + 1) f (PySem.W.fnOf name qual params body scope dV kV doc pm an cdv ct) ps sp := by
  refine ⟨len, fun A outer s H args us vs Q E hr e0 hb r hsp => ?_⟩
  have hl := len _ _ _ _ hsp
  have KX : K.In s.heap := e0.mod.kin.keeps fun b o e => (e0.bs b o e).1
  have lim : s.heap.NoLimit := e0.mod.nolimit.keeps fun b o e => (e0.bs b o e).1
  have hkind : ∀ y ∈ ps.zip us, scope.names.lookup y.1 = some .local ∨ (scope.names.lookup y.1 = some .cell ∧ ((cellsFrom (s.heap.objs.size + 1) scope.names []).lookup y.1).isSome = true) := fun ⟨n, v⟩ hy => by
    rcases S.par n (List.of_mem_zip hy).1 with q | q
    · exact .inl q
    · exact .inr ⟨q, PySem.W.cellsFrom_some _ _ _ (.inl q)⟩
  refine codeAny_call_function hr.depth (KX _ _ lk) rfl S.co S.gen rfl (PySem.W.codeRec_of KX hcd) (hb _ _ _ _ ?_)
  refine wpAny_newFunctionEnv_cells S.kind hkind fun env he s1 x => ?_
  subst he
  refine ⟨lim.keeps x.toInCall.keep, codeAny_func ?_⟩
  obtain ⟨t, ht, hq⟩ := hbody A outer s H vs Q E (hr.deeper _) hsp
  have I : Inv (cxOf CX P w K mg base N qual scope f cdv A outer s H E) [] (start N vs) H s1 := inv_start S hr.hd e0 hl r x
  refine wpAny_mono (ht [] s1 (start N vs) H _ I hq) (fun fl s' hs => ?_) fun e s' hs => hs
  have fin : ∀ {σ' : St} {H' : Hp} {v : V} {u : Value}, Inv (cxOf CX P w K mg base N qual scope f cdv A outer s H E) [] σ' H' s' → RelV v u → Q v H' → CE outer P w H s Q u s' :=
    fun {σ' H' v u} J rv q => ⟨v, H', J.os, J.bare, J.base, J.hok, rv, q⟩
  cases fl with
  | ret u =>
    obtain ⟨v, σ', H', J, rv, q⟩ := hs
    exact fin J rv q
  | next =>
    obtain ⟨σ', H', J, q⟩ := hs
    exact fin (v := V.non) (u := Value.none) J rfl q
  | brk =>
    obtain ⟨_, _, _, q⟩ := hs
    exact False.elim q
  | cont =>
    obtain ⟨_, _, _, q⟩ := hs
    exact False.elim q
end L2

namespace L2
open PySem PySem.Spec PyProof.Rows
section
variable {X : Cx} {x : Str} {p pos : Pos} {e : Expr} {es : List Expr} {t : TA} {id T : String} {r : List V → Hp → VK → Prop}

def tCB (r : List V → Hp → VK → Prop) (t : TA) : TE := fun σ H Q => t σ H fun vs H1 => r vs H1 Q
/-- f(e, ..), f a built-in function -/
theorem pe_callB (hc : CallR X (.builtin id) r) (hg : Gl X x) (hm : X.mg x = none) (hv : bootBuiltins x = some (.builtin id)) (ha : PA X (e :: es) t) (hn : x ≠ "__name__" := by decide) (hdb : (x == ("__debug__" : Str)) = false := by decide)
    (he : starEach (e :: es) X.env = (false, eval e X.env) :: starEach es X.env := by rfl) (hpl : (backTo pos (starEach es X.env)).any (·.1) = false := by rfl) : PE X (.Call (.Name x p) (e :: es) [] pos) (tCB r t) := by
  intro pins s σ H Q I h
  refine wpAny_Call_Name_kw (ld_blt I hg hm hv ?_ hn hdb)
  exact PyProof.Rows.callWith_builtin1 (thn (ha pos pins s σ H _ I h) fun us s1 ⟨vs, H1, I1, r1, q1⟩ => hc pins s1 σ H1 vs us Q I1 r1 q1) he hpl
/-- T(e, ..), T a built-in type -/
theorem pe_callTy (hc : CallR X (.type T) r) (hg : Gl X x) (hm : X.mg x = none) (hv : bootBuiltins x = some (.type T)) (ha : PA X (e :: es) t) (hn : x ≠ "__name__" := by decide) (hdb : (x == ("__debug__" : Str)) = false := by decide)
    (he : starEach (e :: es) X.env = (false, eval e X.env) :: starEach es X.env := by rfl) (hpl : (backTo pos (starEach es X.env)).any (·.1) = false := by rfl) : PE X (.Call (.Name x p) (e :: es) [] pos) (tCB r t) := by
  intro pins s σ H Q I h
  refine wpAny_Call_Name_kw (ld_blt I hg hm hv ?_ hn hdb)
  exact PyProof.Rows.callWith_type1 (thn (ha pos pins s σ H _ I h) fun us s1 ⟨vs, H1, I1, r1, q1⟩ => hc pins s1 σ H1 vs us Q I1 r1 q1) he hpl
end
end L2

namespace HT
open PySem PyProof.Rows



section
open PySem.SeqAt
open PySem.AutoSeq1 (wpAny_loadPart')
open PySem.MeetsSeq PySem.MeetsSeq2 PySem.MeetsSeq3

end

section
variable {prog : Program} {w : World} {A : Around} {E : Value → Shared → Prop} {s : Shared}



/-! ### t[a:b], not the whole -/
/-- a slice's bound as a place among n (d where it is left out) -/
def sIx (n d : Nat) : Option Int → Nat
  | none => d
  | some v => if v < 0 then (v + (n : Int)).toNat else min v.toNat n
theorem sIx_none (n d : Nat) : sIx n d none = d := rfl
theorem sIx_nat (n d k : Nat) : sIx n d (some (k : Int)) = min k n := by
  show (if (k : Int) < 0 then ((k : Int) + (n : Int)).toNat else min (k : Int).toNat n) = min k n
  rw [if_neg (by omega), Int.toNat_natCast]

end
end HT

namespace L2
open PySem PySem.Spec PyProof.Rows

/-! ### the parts of a slice -/
abbrev TO := St → Hp → (Option Int → Hp → Prop) → Prop
/-- a slice's part (left out, or an int) -/
def PO (X : Cx) (e : Option Expr) (t : TO) : Prop :=
  ∀ (pins : List (Addr × Obj)) (s : Shared) (σ : St) (H : Hp) (Q : Option Int → Hp → Prop), Inv X pins σ H s → t σ H Q →
    wpAny (model X.prog X.w) X.A (evalPart e X.env) (fun u s' => ∃ o H', Inv X pins σ H' s' ∧ IsPart u o ∧ Q o H') X.xe s
def tNoPart : TO := fun _ H Q => Q none H
def tPart (t : TE) : TO := fun σ H Q => t σ H fun x H1 => ∃ i, x = .int i ∧ Q (some i) H1

theorem intsAre_of {ns : List Int} : ∀ {us : List Value}, Vals (ns.map V.int) us → IntsAre us ns := by
  induction ns with
  | nil => intro us r; rw [List.map_nil] at r; cases r; exact .nil
  | cons n ns ih =>
    intro us r
    rw [List.map_cons] at r
    cases r with
    | cons r1 r2 =>
      obtain ⟨t, e⟩ := r1
      subst e
      exact .cons n t (ih r2)

section
variable {X : Cx} {e : Expr} {te : TE} {lo hi : Option Expr} {tl th : TO} {pos p2 : Pos}

theorem po_none : PO X none tNoPart := by
  intro pins s σ H Q I h
  rw [evalPart_none]
  exact wpAny_pure ⟨none, H, I, .none, h⟩
theorem po_some (h : PE X e te) : PO X (some e) (tPart te) := by
  intro pins s σ H Q I hw
  rw [evalPart_some]
  refine thn (h pins s σ H _ I hw) fun u s1 ⟨x, H1, I1, r1, q1⟩ => ?_
  obtain ⟨i, rfl, q⟩ := q1
  obtain ⟨t, rfl⟩ := r1
  exact ⟨some i, H1, I1, .int i t, q⟩

/-- what a slice of a value is, by values: the slice object stands at sl -/
def SlR (X : Cx) (r : V → Option Int → Option Int → Hp → VK → Prop) : Prop :=
  ∀ (pins : List (Addr × Obj)) (s : Shared) (σ : St) (H : Hp) (x : V) (v vl vu : Value) (lo hi : Option Int) (sl : Addr) (Q : VK), Inv X pins σ H s → RelV x v → s.heap.IsSliceOf sl vl vu .none → IsPart vl lo → IsPart vu hi → r x lo hi H Q →
    ∃ T id, typeLookup (.type T) "__getitem__" = pure (some (.builtin id)) ∧ s.TypeIs v T ∧ wpAny (model X.prog X.w) X.A (getItem v (.ref sl)) (EP X pins σ Q) X.xe s
def tSl (r : V → Option Int → Option Int → Hp → VK → Prop) (te : TE) (tl th : TO) : TE := fun σ H Q => te σ H fun x H1 => tl σ H1 fun l H2 => th σ H2 fun u H3 => r x l u H3 Q
/-- a[lo:hi], any a -/
theorem pe_slice {r : V → Option Int → Option Int → Hp → VK → Prop} (hr : SlR X r) (he : PE X e te) (hl : PO X lo tl) (hu : PO X hi th) : PE X (.Subscript e (.Slice lo hi none p2) pos) (tSl r te tl th) := by
  intro pins s σ H Q I h
  refine Subscript_ (thn (he pins s σ H _ I h) fun v s1 ⟨x, H1, I1, r1, q1⟩ => ?_)
  refine wpAny_Slice (thn (hl pins s1 σ H1 _ I1 q1) fun vl s2 ⟨l, H2, I2, pl, q2⟩ => thn (hu pins s2 σ H2 _ I2 q2) fun vu s3 ⟨u, H3, I3, pu, q3⟩ => ?_)
  rw [evalPart_none]
  refine wpAny_pure ?_
  have I4 : Inv X pins σ H3 { s3 with heap := s3.heap.push { cls := .type "slice", data := .fields #[vl, vu, .none] } } := I3.kept (t' := s3.toks) fun b ob q => Heap.get?_push_of_some _ q
  obtain ⟨T, id, hT, ht, hg⟩ := hr pins { s3 with heap := s3.heap.push { cls := .type "slice", data := .fields #[vl, vu, .none] } } σ H3 x v vl vu l u s3.heap.objs.size Q I4 r1 (Heap.IsSliceOf.new ..) pl pu q3
  show wpAny (model X.prog X.w) X.A (subscriptTail e (.Slice lo hi none p2) v (.ref s3.heap.objs.size)) (EP X pins σ Q) X.xe { s3 with heap := s3.heap.push { cls := .type "slice", data := .fields #[vl, vu, .none] } }
  exact tail_any (ops := [.ref s3.heap.objs.size, v]) ht hT hg (by with_unfolding_all rfl)

/-- the items of xs[lo:hi] -/
def cutV (xs : List V) (lo hi : Option Int) : List V := (xs.drop (HT.sIx xs.length 0 lo)).take (HT.sIx xs.length xs.length hi - HT.sIx xs.length 0 lo)
theorem cutV_length (xs : List V) (lo hi : Option Int) : (cutV xs lo hi).length ≤ xs.length := by
  unfold cutV
  rw [List.length_take, List.length_drop]
  omega

/-! ### t < u, t + u -/
end
end L2

namespace L2
open PySem PySem.Spec PyProof.Rows

/-! ### places -/
/-- the place that an index of any sign means -/
def ixN (n : Nat) (i : Int) : Option Nat := if 0 ≤ i then (if i < n then some i.toNat else none) else if -(n : Int) ≤ i then some (i + n).toNat else none
def atI {α : Type} (xs : List α) (i : Int) : Option α := (ixN xs.length i).bind fun j => xs[j]?
theorem ixN_seq {n : Nat} {i : Int} {j : Nat} (h : ixN n i = some j) : seqIndex? i n = some j ∧ j < n ∧ -(n : Int) ≤ i ∧ i < n := by
  unfold ixN at h
  by_cases h0 : 0 ≤ i
  · rw [if_pos h0] at h
    by_cases h1 : i < n
    · rw [if_pos h1] at h
      have e : i.toNat = j := Option.some.inj h
      exact ⟨by rw [seqIndex_of h0 h1, e], by omega, by omega, h1⟩
    · rw [if_neg h1] at h; cases h
  · rw [if_neg h0] at h
    by_cases h1 : -(n : Int) ≤ i
    · rw [if_pos h1] at h
      have e : (i + n).toNat = j := Option.some.inj h
      exact ⟨by rw [seqIndex_neg (by omega) h1, e], by omega, h1, by omega⟩
    · rw [if_neg h1] at h; cases h
theorem atI_get {α : Type} {xs : List α} {i : Int} {v : α} (h : atI xs i = some v) : ∃ j, seqIndex? i xs.length = some j ∧ xs[j]? = some v ∧ j < xs.length ∧ -(xs.length : Int) ≤ i ∧ i < xs.length := by
  unfold atI at h
  cases e : ixN xs.length i with
  | none => rw [e] at h; cases h
  | some j =>
    rw [e] at h
    obtain ⟨h1, h2, h3, h4⟩ := ixN_seq e
    exact ⟨j, h1, h, h2, h3, h4⟩
theorem atI_nat {α : Type} {xs : List α} {j : Nat} {v : α} (h : xs[j]? = some v) : atI xs (j : Int) = some v := by
  have hj : j < xs.length := (List.getElem?_eq_some_iff.mp h).1
  have e : ixN xs.length (j : Int) = some j := by
    unfold ixN
    rw [if_pos (by omega), if_pos (by omega)]; simp
  unfold atI; rw [e]; exact h

/-! ### what may be subscripted -/
/-- what stands as an index of a plain subscript -/
def PlainIx (b : Expr) : Prop := ∀ o i, subscripted b false o i = operate [o, i] (getItem o i)
/-- a subscript by values -/
def IxR (X : Cx) (r : R2) : Prop :=
  ∀ (value slice : Expr) (pins : List (Addr × Obj)) (s : Shared) (σ : St) (H : Hp) (x y : V) (v u : Value) (Q : VK), Inv X pins σ H s → RelV x v → RelV y u → r x y H Q →
    subscripted slice false v u = operate [v, u] (getItem v u) → wpAny (model X.prog X.w) X.A (subscriptTail value slice v u) (EP X pins σ Q) X.xe s
/-- a call of a builtin's method by values: the receiver, the arguments -/
def MtR (X : Cx) (id : String) (r : V → List V → Hp → VK → Prop) : Prop :=
  ∀ (pins : List (Addr × Obj)) (s : Shared) (σ : St) (H : Hp) (x : V) (xs : List V) (v : Value) (us : List Value) (Q : VK), Inv X pins σ H s → RelV x v → Vals xs us → r x xs H Q →
    wpAny (model X.prog X.w) X.A (call (.builtin id) (v :: us)) (EP X pins σ Q) X.xe s
section
variable {X : Cx} {a b : Expr} {ta tb : TE} {pos : Pos}
/-- a[b] -/
theorem pe_ix {r : R2} (hr : IxR X r) (ha : PE X a ta) (hb : PE X b tb) (hs : PlainIx b) : PE X (.Subscript a b pos) (tOp r ta tb) := by
  intro pins s σ H Q I h
  exact Subscript_ (binT ha hb I h fun v u s2 x y H2 I2 rx ry q => hr a b pins s2 σ H2 x y v u Q I2 rx ry q (hs _ _))

def rIxL (K : PySem.W.Frag) : R2 := fun x y H Q => ∃ p xs i v, x = .ref p ∧ y = .int i ∧ SqL K H p xs ∧ atI xs i = some v ∧ Q v H
def rIxT (K : PySem.W.Frag) : R2 := fun x y H Q => ∃ p xs i v, x = .ref p ∧ y = .int i ∧ SqT K H p xs ∧ atI xs i = some v ∧ Q v H
theorem ix_list : IxR X (rIxL X.K) := by
  intro value slice pins s σ H x y v u Q I rx ry h hs
  obtain ⟨p, xs, i, z, rfl, rfl, hq, he, q⟩ := h
  cases rx
  obtain ⟨t, rfl⟩ := ry
  obtain ⟨its, r, pl, hz⟩ := I.list hq
  obtain ⟨j, h1, h2, h3, h4, h5⟩ := atI_get he
  obtain ⟨w, ew, rw'⟩ := r.get h2
  have hl := r.length
  have hn := line63
  have fin : EP X pins σ Q w s := ⟨z, H, I, rw', q⟩
  by_cases h0 : 0 ≤ i
  · have hj : i.toNat = j := by
      rw [seqIndex_of h0 h5] at h1
      exact Option.some.inj h1
    exact item_listR pl.isList h0 (by omega) (by rw [hj]; simpa using ew) fin hs
  · have hj : (i + (its.toArray.size : Int)).toNat = j := by
      rw [seqIndex_neg (by omega) h4] at h1
      rw [List.size_toArray, ← hl]
      exact Option.some.inj h1
    exact subscriptTail_builtinR (x := w) pl.isList.typeIs slot_list_getitem.lookup
      (wpAny_getItem_list_neg (Q := fun r s' => r = w ∧ EP X pins σ Q r s') pl.isList (by omega) (by rw [List.size_toArray] <;> omega) (by omega) (by rw [hj]; simpa using ew) ⟨rfl, fin⟩) hs
theorem ix_tup : IxR X (rIxT X.K) := by
  intro value slice pins s σ H x y v u Q I rx ry h hs
  obtain ⟨p, xs, i, z, rfl, rfl, hq, he, q⟩ := h
  cases rx
  obtain ⟨t, rfl⟩ := ry
  obtain ⟨its, r, pl, hz⟩ := I.tuple hq
  obtain ⟨j, h1, h2, h3, h4, h5⟩ := atI_get he
  obtain ⟨w, ew, rw'⟩ := r.get h2
  have hl := r.length
  have hn := line63
  have fin : EP X pins σ Q w s := ⟨z, H, I, rw', q⟩
  exact subscriptTail_builtinR (x := w) pl.typeIs slot_tuple_getitem.lookup
    (getItem_tuple (j := j) (Q := fun r s' => r = w ∧ EP X pins σ Q r s') pl (by omega) (by omega) (by rw [List.size_toArray, ← hl]; exact h1) (by simpa using ew) ⟨rfl, fin⟩) hs

/-! ### xs[i] = v, any sign -/
theorem Inv.lst {pins : List (Addr × Obj)} {σ : St} {H : Hp} {s : Shared} {p : Addr} {xs : List V} (I : Inv X pins σ H s) (h : H p = some (.lst xs)) :
    ∃ (its : List Value) (n : Nat), Vals xs its ∧ s.heap.get? p = some { cls := .type "list", data := .seq its.toArray n } ∧ xs.length ≤ sizeLine := by
  obtain ⟨z, its, n, r, e⟩ := I.hok p _ h
  exact ⟨its, n, r, e, z⟩

/-! ### slices -/
theorem slice_bounds (lo hi : Option Int) (n : Nat) : (sliceBounds lo hi none n).1 = ((HT.sIx n 0 lo : Nat) : Int) ∧ (sliceBounds lo hi none n).2.1 = ((HT.sIx n n hi : Nat) : Int) ∧ (sliceBounds lo hi none n).2.2 = 1 := by
  refine ⟨?_, ?_, rfl⟩
  · cases lo with
    | none => simp [sliceBounds, HT.sIx]
    | some i =>
      simp only [sliceBounds, HT.sIx, Option.getD_none, show (1 : Int) > 0 by decide, if_true]
      by_cases h : i < 0
      · simp only [h, if_true] <;> omega
      · simp only [h, if_false] <;> omega
  · cases hi with
    | none => simp [sliceBounds, HT.sIx]
    | some i =>
      simp only [sliceBounds, HT.sIx, Option.getD_none, show (1 : Int) > 0 by decide, if_true]
      by_cases h : i < 0
      · simp only [h, if_true] <;> omega
      · simp only [h, if_false] <;> omega
theorem slicePick_cut (its : List Value) (lo hi : Option Int) : slicePick its.toArray lo hi none = ((its.drop (HT.sIx its.length 0 lo)).take (HT.sIx its.length its.length hi - HT.sIx its.length 0 lo)).toArray := by
  obtain ⟨h1, h2, h3⟩ := slice_bounds lo hi its.toArray.size
  unfold slicePick
  rw [h1, h2, h3]
  simp only [sliceRange_one, pick_run, List.size_toArray] <;> rfl
/-- xs[lo:hi] of a list: a new list -/
def rSlL (K : PySem.W.Frag) : V → Option Int → Option Int → Hp → VK → Prop := fun x lo hi H Q => ∃ a xs, x = .ref a ∧ SqL K H a xs ∧ ∀ p, H p = none → Q (.ref p) (upd H p (.lst (cutV xs lo hi)))
theorem sl_list : SlR X (rSlL X.K) := by
  intro pins s σ H x v vl vu lo hi sl Q I rx hs pl pu h
  obtain ⟨a, xs, rfl, hx, q⟩ := h
  cases rx
  obtain ⟨its, r, ht, hz⟩ := I.list hx
  have hlen := r.length
  refine ⟨"list", _, slot_list_getitem.lookup, ht.isList.typeIs, ?_⟩
  refine wpAny_getItem_list_slice ht.isList hs pl pu .none (by simp) ?_ (by rw [List.size_toArray] <;> omega)
  rw [slicePick_cut, ← hlen]
  refine ⟨.ref s.heap.objs.size, _, I.laid (t' := s.toks) (o := .lst (cutV xs lo hi)) (fun b ob q => Heap.get?_push_of_some _ q) (Nat.le_refl _) ?_, rfl, q _ (I.hok.fresh (Nat.le_refl _))⟩
  exact ⟨Nat.le_trans (cutV_length xs lo hi) hz, _, 0, (r.drop (HT.sIx xs.length 0 lo)).take (HT.sIx xs.length xs.length hi - HT.sIx xs.length 0 lo), Heap.get?_push_size _ rfl⟩

/-! ### in, not in: flat items -/

/-! ### len, list(x), tuple(x) of any list or tuple that is read -/
theorem call_len_seq : CallR X (.builtin "len") (fun xs H Q => ∃ p ys, xs = [.ref p] ∧ (SqL X.K H p ys ∨ SqT X.K H p ys) ∧ Q (.int ys.length) H) := by
  intro pins s σ H xs us Q I r h
  obtain ⟨p, ys, rfl, hq, q⟩ := h
  obtain ⟨u, rfl, rx⟩ := vals1 r
  cases rx
  have hn := line63
  rcases hq with hq | hq
  · obtain ⟨its, r', pl, hz⟩ := I.list hq
    have hlen := r'.length
    exact Calls.call_len_list pl.isList (by simp only [List.size_toArray] <;> omega) ⟨.int ys.length, H, I.tok _, ⟨s.toks + 1, by rw [List.size_toArray, hlen]⟩, q⟩
  · obtain ⟨its, r', pl, hz⟩ := I.tuple hq
    have hlen := r'.length
    exact len_tuple pl (by simp only [List.size_toArray] <;> omega) ⟨.int ys.length, H, I.tok _, ⟨s.toks + 1, by rw [List.size_toArray, hlen]⟩, q⟩
theorem call_tuple_of : CallR X (.type "tuple") (fun xs H Q => ∃ p ys, xs = [.ref p] ∧ ((SqL X.K H p ys ∧ ∀ l, H l = none → Q (.ref l) (upd H l (.tup ys))) ∨ (SqT X.K H p ys ∧ Q (.ref p) H))) := by
  intro pins s σ H xs us Q I r h
  obtain ⟨p, ys, rfl, h⟩ := h
  obtain ⟨u, rfl, rx⟩ := vals1 r
  cases rx
  rcases h with ⟨hq, q⟩ | ⟨hq, q⟩
  · obtain ⟨its, r', pl, hz⟩ := I.list hq
    have hlen := r'.length
    refine call_tuple_list pl.isList (fun h' kp => ?_) (by simp only [List.size_toArray] <;> omega)
    have I1 : Inv X pins σ H { s with heap := h' } := I.kept (t' := s.toks) kp
    have I2 : Inv X pins σ (upd H h'.objs.size (.tup ys)) { s with heap := h'.push { cls := .type "tuple", data := .seq its.toArray } } :=
      I1.laid (t' := s.toks) (fun b o e => Heap.get?_push_of_some _ e) (Nat.le_refl _) (show ObjOk X.prog X.w _ _ _ (.tup ys) from ⟨hz, its, r', IsTup.new _ _⟩)
    exact ⟨.ref h'.objs.size, _, I2, rfl, q _ (I1.hok.fresh (Nat.le_refl _))⟩
  · obtain ⟨its, r', pl, hz⟩ := I.tuple hq
    exact call_tuple_same pl ⟨.ref p, H, I, rfl, q⟩

/-! ### the call of a builtin's method: o.m(..) -/
/-- the value is of that builtin type -/
def tyV (K : PySem.W.Frag) (T : String) (x : V) (H : Hp) : Prop := match x with
  | .str _ => T = "str"
  | .int _ => T = "int"
  | .ref p => (T = "list" ∧ ∃ xs, SqL K H p xs) ∨ (T = "tuple" ∧ ∃ o, K.lookup p = some o ∧ o.cls = .type "tuple" ∧ o.dict = none) ∨
      (T = "dict" ∧ ((∃ kvs, H p = some (.dK kvs)) ∨ ∃ kvs, H p = some (.dT kvs))) ∨ (T = "set" ∧ ∃ S n, H p = some (.set S n))
  | _ => False
theorem tyV_is {pins : List (Addr × Obj)} {σ : St} {H : Hp} {s : Shared} {T : String} {x : V} {v : Value} (I : Inv X pins σ H s) (r : RelV x v) (ty : tyV X.K T x H) :
    s.TypeIs v T ∧ ∀ a, v = .ref a → ∃ ob, s.heap.get? a = some ob ∧ ob.dict = none := by
  cases x with
  | str z =>
    obtain ⟨t, rfl⟩ := r
    cases (show T = "str" from ty)
    exact ⟨typeIs_str s z t, fun _ e => nomatch e⟩
  | int i =>
    obtain ⟨t, rfl⟩ := r
    cases (show T = "int" from ty)
    exact ⟨typeIs_int s i t, fun _ e => nomatch e⟩
  | ref p =>
    cases r
    rcases ty with ⟨rfl, xs, hq⟩ | ⟨rfl, o, hk, hc, hd⟩ | ⟨rfl, hk⟩ | ⟨rfl, S, n, hk⟩
    · obtain ⟨its, _, pl, _⟩ := I.list hq
      refine ⟨pl.isList.typeIs, fun a e => ?_⟩
      cases e
      obtain ⟨o, n, e, c, hd, _⟩ := pl
      exact ⟨o, e, hd⟩
    · refine ⟨⟨o, I.kIn p o hk, hc⟩, fun a e => ?_⟩
      cases e
      exact ⟨o, I.kIn _ o hk, hd⟩
    · have z : ∃ o, s.heap.get? p = some o ∧ o.ExactDict := by
        rcases hk with ⟨kvs, hk⟩ | ⟨kvs, hk⟩
        · obtain ⟨_, _, _, _, o, _, _, e, ex, _⟩ := I.hok p _ hk
          exact ⟨o, e, ex⟩
        · obtain ⟨_, _, _, _, o, _, _, e, ex, _⟩ := I.hok p _ hk
          exact ⟨o, e, ex⟩
      obtain ⟨o, e, ex⟩ := z
      refine ⟨⟨o, e, ex.1⟩, fun a e2 => ?_⟩
      cases e2
      exact ⟨o, e, ex.2.1⟩
    · obtain ⟨o, _, _, _, e, ex, _⟩ := I.hok p _ hk
      refine ⟨⟨o, e, ex.1⟩, fun a e2 => ?_⟩
      cases e2
      exact ⟨o, e, ex.2.1⟩
  | _ => exact False.elim ty
def tBM (K : PySem.W.Frag) (T : String) (r : V → List V → Hp → VK → Prop) (to : TE) (t : TA) : TE := fun σ H Q => to σ H fun x H1 => tyV K T x H1 ∧ t σ H1 fun xs H2 => r x xs H2 Q
variable {o e : Expr} {es : List Expr} {to : TE} {t : TA} {name : Str} {apos cpos : Pos} {T id : String} {r : V → List V → Hp → VK → Prop}
theorem pe_bm (pa : PlainAttrs T) (slot : Slot T name id) (hty : typeOf (.builtin id) = pure (.type "method_descriptor")) (hm : MtR X id r) (ho : PE X o to) (ha : PA X (e :: es) t)
    (hbase : attributeBase o name X.env (eval o X.env) = eval o X.env := by rfl)
    (hfew : ((backTo cpos (starEach (e :: es) X.env)).all (fun x => !x.1) && (backToKw cpos (keywordEach [] X.env)).all (fun x => x.1.isSome)
      && decide ((e :: es).length + ([] : List Keyword).length + (if ([] : List Keyword).isEmpty then 0 else 1) < 30)) = true := by rfl)
    (hline : (apos.endLine == cpos.line) = true := by rfl) (hs : starEach (e :: es) X.env = (false, eval e X.env) :: starEach es X.env := by rfl) (hplain : (backTo cpos (starEach es X.env)).any (·.1) = false := by rfl) :
    PE X (.Call (.Attribute o name apos) (e :: es) [] cpos) (tBM X.K T r to t) := by
  intro pins s σ H Q I h
  refine wpAny_Call_method_late hbase hfew hline rfl (thn (ho pins s σ H _ I h) fun v s1 ⟨x, H1, I1, r1, ty, q1⟩ => ?_)
  obtain ⟨h1, h2⟩ := tyV_is I1 r1 ty
  refine ⟨T, id, pa, slot, hty, h1, h2, ?_⟩
  have hA := ha cpos pins s1 σ H1 _ I1 q1
  rw [hs] at hA ⊢
  refine Calls.callWith_builtin (by show (false || (backTo cpos (starEach es X.env)).any (·.1)) = false; rw [hplain] <;> rfl) (Calls.evalArgs_plain ?_)
  exact thn hA fun us s2 ⟨vs, H2, I2, r2, q2⟩ => hm pins s2 σ H2 x vs v us Q I2 r1 r2 q2
/- xs.append(e), list.index on a module's tuple .. are MtR facts of 06m -/
end
end L2

namespace L2
open PySem PySem.Spec PyProof.Rows

def MtM (X : Cx) (id : String) (r : V → List V → Hp → VK → Prop) : Prop :=
  ∀ (pins : List (Addr × Obj)) (s : Shared) (σ : St) (H : Hp) (x : V) (xs : List V) (v : Value) (us : List Value) (Q : VK), Inv X pins σ H s → RelV x v → Vals xs us → r x xs H Q →
    wpAny (model X.prog X.w) X.A (call (.builtin id) (v :: us)) (EP X pins σ Q) X.xe s

/-! ### lists of values -/
theorem Vals.one : ∀ {x : V} {us : List Value}, Vals [x] us → ∃ u, us = [u] ∧ RelV x u
  | _, _, .cons r .nil => ⟨_, rfl, r⟩
theorem Vals.zero : ∀ {us : List Value}, Vals [] us → us = []
  | _, .nil => rfl
theorem Vals.eraseIdx : ∀ {xs : List V} {us : List Value} (i : Nat), Vals xs us → Vals (xs.eraseIdx i) (us.eraseIdx i)
  | _, _, _, .nil => .nil
  | _, _, 0, .cons _ t => t
  | _, _, i + 1, .cons r t => .cons r (Vals.eraseIdx i t)
theorem Vals.reverse {xs : List V} {us : List Value} (h : Vals xs us) : Vals xs.reverse us.reverse := by
  induction h with
  | nil => exact .nil
  | cons r t ih => rw [List.reverse_cons, List.reverse_cons]; exact Vals.append ih (.cons r .nil)
theorem len_erase {α : Type} : ∀ (l : List α) (i : Nat), (l.eraseIdx i).length ≤ l.length
  | [], _ => Nat.le_refl _
  | _ :: _, 0 => Nat.le_succ _
  | _ :: r, i + 1 => Nat.succ_le_succ (len_erase r i)

section
variable {X : Cx} {pins : List (Addr × Obj)} {σ : St} {H : Hp} {s : Shared} {l b : Addr} {xs ys zs : List V}

/-! ### the two steps: a tracked list is rewritten, a new list is laid -/
theorem Inv.lset {its its' : List Value} {n : Nat} {f : Array Value → Array Value} {t' : Nat} (I : Inv X pins σ H s) (hH : H l = some (.lst xs))
    (e : s.heap.get? l = some { cls := .type "list", data := .seq its.toArray n }) (hf : f its.toArray = its'.toArray) (hv : Vals ys its') (hz : ys.length ≤ sizeLine) :
    Inv X pins σ (upd H l (.lst ys)) { s with heap := s.heap.update l (Obj.mapSeq f), toks := t' } := by
  have q := PySem.IsL.update e f
  rw [hf] at q
  refine I.write (x := l) (e := l) (by rw [hH]; exact trivial) (.inl rfl) (fun b' u hb hu => (Heap.get?_update_other s.heap (Obj.mapSeq f) (Ne.symm hb)).trans hu) ⟨_, q⟩ ?_
  exact ⟨hz, its', _, hv, q⟩
theorem Inv.lnew {its : List Value} {t' : Nat} (I : Inv X pins σ H s) (hv : Vals ys its) (hz : ys.length ≤ sizeLine) :
    Inv X pins σ (upd H s.heap.objs.size (.lst ys)) { s with heap := s.heap.push { cls := .type "list", data := .seq its.toArray }, toks := t' } :=
  I.laid (fun _ _ q => Heap.get?_push_of_some _ q) (Nat.le_refl _) ⟨hz, its, 0, hv, Heap.get?_push_size _ rfl⟩
theorem Inv.fresh (I : Inv X pins σ H s) : H s.heap.objs.size = none := I.hok.fresh (Nat.le_refl _)
theorem Inv.lstM (I : Inv X pins σ H s) (hH : H l = some (.lst xs)) : xs.length ≤ sizeLine ∧ ∃ (its : List Value) (n : Nat), Vals xs its ∧ xs.length = its.length ∧ s.heap.get? l = some { cls := .type "list", data := .seq its.toArray n } := by
  obtain ⟨z, its, n, r, e⟩ := I.hok l _ hH
  exact ⟨z, its, n, r, r.length, e⟩

end

section
variable {X : Cx}

/-! ### methods -/
def rAppend : V → List V → Hp → VK → Prop := fun x vs H Q => ∃ l xs y, x = .ref l ∧ vs = [y] ∧ H l = some (.lst xs) ∧ xs.length < sizeLine ∧ Q .non (upd H l (.lst (xs ++ [y])))
theorem mt_append : MtM X "list.append" rAppend := by
  intro pins s σ H x vs v us Q I rx rv h
  obtain ⟨l, xs, y, rfl, rfl, hH, hz, q⟩ := h
  cases rx
  obtain ⟨u, rfl, ru⟩ := rv.one
  obtain ⟨z, its, n, r, hl, e⟩ := I.lstM hH
  refine call_meets F.slot_list_append ⟨_, e, rfl⟩ F.entry_list_append (F.args_list_append_2 _ _) (PySem.list_append l its.toArray n u (by rw [List.size_toArray]; omega)) ⟨e, ?_⟩
  refine ⟨.non, _, I.lset (its' := its ++ [u]) hH e (by simp) (r.append (.cons ru .nil)) ?_, rfl, q⟩
  rw [List.length_append, List.length_singleton]
  omega



def rPopAt : V → List V → Hp → VK → Prop := fun x vs H Q => ∃ l xs i k y, x = .ref l ∧ vs = [.int i] ∧ H l = some (.lst xs) ∧ -(2 ^ 63) ≤ i ∧ i < 2 ^ 63 ∧ seqIndex? i xs.length = some k ∧ xs[k]? = some y ∧ Q y (upd H l (.lst (xs.eraseIdx k)))
theorem mt_popAt : MtM X "list.pop" rPopAt := by
  intro pins s σ H x vs v us Q I rx rv h
  obtain ⟨l, xs, i, k, y, rfl, rfl, hH, h1, h2, hk, hy, q⟩ := h
  cases rx
  obtain ⟨u, rfl, ru⟩ := rv.one
  obtain ⟨t, rfl⟩ := ru
  obtain ⟨z, its, n, r, hl, e⟩ := I.lstM hH
  obtain ⟨w, hw, rw'⟩ := r.get hy
  refine call_meets F.slot_list_pop ⟨_, e, rfl⟩ F.entry_list_pop (F.args_list_pop_2 _ _)
    (MeetsSeq.list_pop_at l its.toArray n i t k w (fitsIndex_both h1 h2) (by rw [List.size_toArray, ← hl]; exact hk) (by rw [← Array.getElem?_toList]; exact hw) (by rw [List.size_toArray]; omega)) ⟨e, ?_⟩
  refine ⟨y, _, I.lset (its' := its.eraseIdx k) hH e ?_ (r.eraseIdx k) ?_, rw', q⟩
  · show its.toArray.eraseIdxIfInBounds k = (its.eraseIdx k).toArray
    rw [List.eraseIdxIfInBounds_toArray]
  · have := len_erase xs k
    omega



/-! ### list + list, list += list, list * int -/

/-! ### del xs[i] -/
end

/-! ### xs[a:b] = ys -/
section
variable {prog : Program} {w : World} {A : Around} {E : Value → Shared → Prop} {s : Shared}
end

section
variable {X : Cx}
end
end L2

namespace Att
open PySem PySem.W PySem.Calls PyProof.Rows

/-! ### the script -/
theorem ints_of_wellAll {P : Params} {h : Heap} : ∀ (ns : List Int) (vs : List Value), WellAll P h vs (ns.map WData.int) → IntsAre vs ns := by
  intro ns
  induction ns with
  | nil =>
    intro vs w
    rw [List.map_nil] at w
    cases w
    exact .nil
  | cons n ns ih =>
    intro vs w
    rw [List.map_cons] at w
    cases w with
    | cons a b =>
      cases a
      exact .cons _ _ (ih _ b)

theorem script_of {l : OpenLaw} {n : Nat} (hn : l.most = some n) {P : Params} {h : Heap} {args : List WData} {vals : List Value}
    (hpre : l.row.toRowW.claim.pre args = true) (hwl : WellAll P h vals args) :
    ∃ a vs ns, vals = [Value.ref a] ∧ args = [WData.list (ns.map WData.int)] ∧ h.get? a = some { cls := .type "list", data := .seq vs.toArray } ∧ IntsAre vs ns ∧ ns.length ≤ n := by
  have hsh : WShape.hasAll [] args [.list .int] = true := (pre_splitW hpre).1
  have hc : l.pre.holds [] { args := args } = true := (pre_splitW hpre).2
  obtain ⟨d, r, rfl, h1, h2⟩ := hasAllW_cons hsh
  obtain rfl := hasAllW_nil h2
  obtain ⟨xs, rfl, h3⟩ := hasW_list h1
  obtain ⟨ns, rfl⟩ := items_int h3
  have hlen : ns.length ≤ n := by
    unfold OpenLaw.pre at hc
    have h4 : (WTm.not (.lt (.lit (.int (n : Int))) (.len (.arg 0)))).holds [] { args := [.list (ns.map .int)] } = true := by
      have h4 := (holds_andW hc).1
      rw [hn] at h4
      exact h4
    have h5 := condW_of h4 (w_not (w_lt w_lit (w_len_list (w_arg rfl))))
    rw [List.length_map] at h5
    refine Nat.le_of_not_lt fun q => ?_
    have q' : (n : Int) < ((ns.length : Nat) : Int) := by omega
    first
      | (rw [decide_eq_true q'] at h5; exact absurd h5 (by decide))
      | (simp at h5; omega)
  cases hwl with
  | cons w1 w2 =>
    cases w2
    cases w1 with
    | list ho hall => exact ⟨_, _, ns, rfl, rfl, ho, ints_of_wellAll ns _ hall, hlen⟩

theorem post_true (l : OpenLaw) (args : List WData) : l.row.toRowW.claim.post args (.bool true) args = true :=
  postW_of (r := l.row.toRowW) (X := (true == true))
    (show WShape.has [] (.bool true) .bool = true by first | rfl | decide | simp [WShape.has, WShape.arms, WShape.armsAll])
    (show (WTm.eq .res (.lit (.bool true))).value [] { args := args, res := some (.bool true), after := args } = some (.bool (true == true)) from w_eq_bool (w_res rfl) w_lit) rfl

/-! ### the attachment: holds_open's last premise (the goal 'hc' behind k_head) from a wpAny of the law's body -/

/-- the same from a codeAny of the CALL (for a layer whose function contracts speak of calls) -/
theorem attach_call {l : OpenLaw} {n : Nat} {q : Program} {loose : List Str} {XP : (Str → Option Value) → Heap → Prop} {YP : World → Heap → Prop} {d : DefRec}
    (hn : l.most = some n) (hdf : d.params.defaults = [])
    (call : ∀ (w : World) (s₀ s₁ : Shared) (mg mb : Str → Option Value) (fa : Addr) (o : Obj) (pm cd doc : Value) (a : Addr) (vs : List Value) (ns : List Int),
      Ground q loose [] XP w s₀ mg mb s₁.heap → YP w s₁.heap →
      s₁.heap.get? fa = some o → o.data = .func (docDef d.name d.params d.body d.scope pm cd doc) → s₁.heap.CodeRec cd d.name → mg d.name = some (.ref fa) →
      s₁.heap.get? a = some { cls := .type "list", data := .seq vs.toArray } → IntsAre vs ns → ns.length ≤ n → s₁.gens = #[] →
      codeAny (model l.prog w) callerA (.call (.ref fa) ⟨[.ref a], []⟩) (fun r s' => r = .ok (.ret (.bool true)) ∧ OldK s₁.heap s'.heap ∧ s'.os = s₁.os ∧ AllBare s'.gens) s₁) :
    WalkO q loose XP YP l.row.toRowW d [] (fun f vs => PySem.call f vs) := by
  intro w s₀ s₁ mg mb G Y fa o pm cd doc dV kV ho hd hcd hD hmg hg args vals as hpre hlay hrd hwl hlo
  obtain rfl : dV = .none := Dflts.none hD hdf
  obtain rfl : kV = .none := Dflts.noKw hD
  obtain ⟨a, vs, ns, rfl, rfl, hobj, hints, hlen⟩ := script_of hn hpre hwl
  refine enter_call (codeAny_mono (call w s₀ s₁ mg mb fa o pm cd doc a vs ns G Y ho (fd_plain hd) hcd hmg hobj hints hlen hg) fun r s' hq => ?_)
  obtain ⟨rfl, h2, h3, h4⟩ := hq
  exact ⟨.inl ⟨.bool true, .bool true, [], rfl, fun _ => rfl, .bool true, post_true l _, fun _ => ⟨List.Pairwise.nil, fun _ hm => (nomatch hm)⟩⟩, h2, h3, h4⟩


/-! ### rules over ANY heap (no ledger) from facts about the written part K: the library's own take a ledger (News) for what they write -/
section
variable {prog : Program} {w : World} {A : Around} {E : Value → Shared → Prop} {s : Shared} {K : Frag}





/-! the whole heap as the ledger: makes every rule that writes through a ledger a rule over any heap -/
def ledger (h : Heap) (L d : Addr) : List (Addr × Obj) := (List.range h.objs.size).filterMap fun a => if a = L ∨ a = d then none else (h.get? a).map fun o => (a, o)

end
end Att

namespace L2
open PySem PySem.Spec PyProof.Rows

theorem vals_ints : ∀ {vs : List Value} {ns : List Int}, IntsAre vs ns → Vals (ns.map V.int) vs
  | _, _, .nil => .nil
  | _, _, .cons n t h => .cons ⟨t, rfl⟩ (vals_ints h)

/-- nothing is tracked but the script, known to the object (or it is an object of the module) -/
def Only (H : Hp) : Prop := ∀ b, H b = none ∨ ∃ o xs, H b = some (.frz o (.lst xs))

/-- THE HEAD: the law's promise, at the heap behind the top. F, the promise of the law's def, may use that base is part of the heap (so K.In base, base.Ns mainGlobals mg stand in Mod) -/
theorem law_call {P : Program} {w : World} {K : PySem.W.Frag} {mg mb : Str → Option Value} {CX : CXT} {k : Nat} {fa a : Addr} {fd : FuncData} {x : Str} {sp : Sp} {s₁ : Shared} {vs : List Value} {ns : List Int}
    (KX : K.In s₁.heap) (hns : s₁.heap.Ns mainGlobals mg) (hb : s₁.heap.Ns builtinsNs mb) (hbb : ∀ x : Str, x ≠ "__name__" → mb x = bootBuiltins x) (hlim : s₁.heap.NoLimit) (hg : s₁.gens = #[])
    (ha : s₁.heap.get? a = some { cls := .type "list", data := .seq vs.toArray }) (hi : IntsAre vs ns) (hl : ns.length ≤ sizeLine) (hr : Room k callerA)
    (F : ∀ base : Heap, K.In base → base.Ns mainGlobals mg → FnOk P w K mg base CX k fa fd [x] sp) (hbind : ∀ (s : Shared) (u : Value), BindsTo s fd ⟨[u], []⟩ [(x, u)])
    (hsp : ∀ H : Hp, Only H → SqL K H a (ns.map V.int) → sp [.ref a] H (fun v _ => v = .bl true) fun _ _ _ => False)
    (hCX : ∀ H e s', CX [] H s₁ (fun _ _ _ => False) e s' → False) :
    codeAny (model P w) callerA (.call (.ref fa) ⟨[.ref a], []⟩) (fun r s' => r = .ok (.ret (.bool true)) ∧ OldK s₁.heap s'.heap ∧ s'.os = s₁.os ∧ AllBare s'.gens) s₁ := by
  have rv := vals_ints hi
  have lenV := hi.length
  -- from an abstract heap in which nothing but the script may be tracked
  have core : ∀ H : Hp, Only H → SqL K H a (ns.map V.int) → HOk P w H s₁.heap → (∀ b, H b ≠ none → b = a) → (H a ≠ none → K.lookup a = none) →
      codeAny (model P w) callerA (.call (.ref fa) ⟨[.ref a], []⟩) (fun r s' => r = .ok (.ret (.bool true)) ∧ OldK s₁.heap s'.heap ∧ s'.os = s₁.os ∧ AllBare s'.gens) s₁ := by
    intro H hO hS hok hA hK
    have base_of : ∀ {b : Addr} {o : Obj}, s₁.heap.get? b = some o → H b = none → (hidT s₁.heap H).get? b = some o := fun e n => hidT_get e n
    have noA : ∀ {b : Addr} {o : Obj} {es : Array DictEntry} {ep : Nat}, s₁.heap.get? b = some o → o.data = .dict es ep → H b = none := fun {b o es ep} e d => by
      cases q : H b with
      | none => rfl
      | some u =>
        have e' : b = a := hA b (by rw [q]; simp)
        subst e'
        rw [ha] at e; cases e
        have d' : Data.seq vs.toArray _ = Data.dict es ep := d
        cases d'
    have nsK : ∀ {b : Addr} {m : Str → Option Value}, s₁.heap.Ns b m → (hidT s₁.heap H).Ns b m := fun {b m} ⟨o, es, ep, e, d, r⟩ => ⟨o, es, ep, base_of e (noA e d), d, r⟩
    have hKb : K.In (hidT s₁.heap H) := fun b o e => base_of (KX b o e) (by
      cases q : H b with
      | none => rfl
      | some u =>
        have e' : b = a := hA b (by rw [q]; simp)
        subst e'
        rw [hK (by rw [q]; simp)] at e; cases e)
    have hM : Mod K mg (hidT s₁.heap H) := ⟨hKb, nsK hns, ⟨mb, nsK hb, hbb⟩, let ⟨mc, h1, h2⟩ := hlim; ⟨mc, nsK h1, h2⟩⟩
    have e0 : Env0 P w K mg (hidT s₁.heap H) callerA [] s₁ H := ⟨rfl, hM, fun b o e => of_hidT e, Nat.le_of_eq (hidT_size _ _), trivial, fun b hb => absurd (show b ∈ ([] : List Addr) from hb) (by simp), hok, .of_eq hg⟩
    refine codeAny_mono ((F _ hKb (nsK hns)).run callerA [] s₁ H ⟨[.ref a], []⟩ [.ref a] [.ref a] _ _ hr e0 (hbind s₁ (.ref a)) (.cons rfl .nil) (hsp H hO hS)) fun r s' h => ?_
    cases r with
    | error e => exact (hCX H e s' h).elim
    | ok fl =>
      cases fl with
      | next => exact False.elim h
      | brk => exact False.elim h
      | cont => exact False.elim h
      | ret u =>
        obtain ⟨v, H', os, bare, un, hok', r', q⟩ := h
        have q' : v = .bl true := q
        subst q'
        obtain rfl : u = Value.bool true := r'
        refine ⟨rfl, OldK.of_keep fun b o e => ?_, os, bare⟩
        cases q : H b with
        | none => exact un.keep b o e q (by intro z; exact absurd (show b ∈ ([] : List Addr) from z) (by simp)) (by simp)
        | some u =>
          rcases hO b with z | ⟨ob, xs, z⟩
          · rw [q] at z; cases z
          · have z2 := un.frzs b ob _ z
            obtain ⟨e1, _⟩ := hok b _ z
            obtain ⟨e2, _⟩ := hok' b _ z2
            rw [e] at e1; cases e1
            exact e2
  cases hk : K.lookup a with
  | some o =>
    -- the script is one of the module's own objects
    have e := KX a o hk
    rw [ha] at e
    cases e
    refine core (fun _ => none) (fun _ => .inl rfl) (.inr ⟨_, vs.toArray, _, hk, rfl, rfl, rfl, by rw [List.size_toArray, lenV]; exact hl, by simpa using rv⟩) (fun b u z => by have z' : (none : Option HO) = some u := z; cases z') (fun b z => absurd rfl z) fun z => absurd rfl z
  | none =>
    refine core (fun b => if b = a then some (.frz { cls := .type "list", data := .seq vs.toArray } (.lst (ns.map V.int))) else none) (fun b => ?_) (.inl (.inr ⟨{ cls := .type "list", data := .seq vs.toArray }, if_pos rfl⟩)) (fun b u z => ?_) (fun b z => ?_) fun _ => hk
    · by_cases hb : b = a
      · exact .inr ⟨_, _, if_pos hb⟩
      · exact .inl (if_neg hb)
    · by_cases hb : b = a
      · have z' := (if_pos hb).symm.trans z
        cases z'
        subst hb
        exact ⟨ha, by rw [List.length_map]; exact hl, vs, _, rv, ha⟩
      · have z' := (if_neg hb).symm.trans z
        cases z'
    · by_cases hb : b = a
      · exact hb
      · exact absurd (if_neg hb) z
end L2

namespace L2
open PySem PySem.Spec PyProof.Rows


/-- the goal that k_head leaves (case hc), from the law's promise. F gives the function object fd (K's own) once, then the promise over every base -/
theorem walk_of {l : PySem.W.OpenLaw} {n k : Nat} {q : Program} {loose : List Str} {XP : (Str → Option Value) → Heap → Prop} {YP : World → Heap → Prop} {d : DefRec} {K : Params → PySem.W.Frag} {CX : World → CXT} {sp : World → Sp} {x : Str}
    (hn : l.most = some n) (hn2 : n ≤ sizeLine) (hdf : d.params.defaults = []) (hr : Room k callerA)
    (hY : ∀ (w : World) (h : Heap), YP w h → (K w.params).In h)
    (F : ∀ (w : World) (mg : Str → Option Value) (fa : Addr) (h : Heap), (K w.params).In h → h.Ns mainGlobals mg → mg d.name = some (.ref fa) →
      ∃ fd : FuncData, (∀ (s : Shared) (u : Value), BindsTo s fd ⟨[u], []⟩ [(x, u)]) ∧
        ∀ base : Heap, (K w.params).In base → base.Ns mainGlobals mg → FnOk l.prog w (K w.params) mg base (CX w) k fa fd [x] (sp w))
    (hsp : ∀ (w : World) (H : Hp) (a : Addr) (ns : List Int), ns.length ≤ n → Only H → SqL (K w.params) H a (ns.map V.int) → sp w [.ref a] H (fun v _ => v = .bl true) fun _ _ _ => False)
    (hCX : ∀ (w : World) (H : Hp) (s : Shared) (e : Value) (s' : Shared), CX w [] H s (fun _ _ _ => False) e s' → False) :
    PySem.W.WalkO q loose XP YP l.row.toRowW d [] (fun f vs => PySem.call f vs) := by
  refine Att.attach_call hn hdf fun w s₀ s₁ mg mb fa o pm cd doc a vs ns G Y ho hd hcd hmg hobj hints hlen hg => ?_
  have KX := hY w _ Y
  obtain ⟨fd, hb, hF⟩ := F w mg fa _ KX G.T.g hmg
  exact law_call KX G.T.g G.T.b G.T.builtins G.T.nolimit hg hobj hints (Nat.le_trans hlen hn2) hr hF hb (fun H hO hS => hsp w H a ns hlen hO hS) fun H e s' => hCX w H s₁ e s'
end L2


/-! SHORT WORDS over the layer: a def of the text, its body, what a loop and a test want. -/
namespace L2
open PySem PySem.Spec PyProof.Rows

/-! ### the text by places -/
/-- the j-th statement of a class's body -/
def inClass (s : Stmt) (j : Nat) : Stmt := match s with
  | .ClassDef _ _ _ body _ _ _ _ _ _ _ => body.getD j (.Pass ⟨0, 0, 0, 0⟩)
  | _ => .Pass ⟨0, 0, 0, 0⟩
def defArgs (s : Stmt) : Arguments := match s with
  | .FunctionDef _ a _ _ _ _ _ _ _ _ => a
  | _ => { posonlyargs := [], args := [], vararg := none, kwonlyargs := [], kw_defaults := [], kwarg := none, defaults := [] }
def defBody (s : Stmt) : List Stmt := match s with
  | .FunctionDef _ _ b _ _ _ _ _ _ _ => b
  | _ => []
def defScope (s : Stmt) : Scope := match s with
  | .FunctionDef _ _ _ _ _ _ sc _ _ _ => sc
  | _ => { kind := .function, names := [], isGenerator := false, isCoroutine := false }

/-! ### no exception leaves a def -/
abbrev CX0 : CXT := fun _ _ _ _ _ _ => False
abbrev E0 : XK := fun _ _ _ => False
theorem pass0 {X : Cx} : Passes CX0 X E0 := fun _ _ _ _ _ _ _ h => h.elim

/-! ### a def (or method) of the text as it stands behind the top -/
structure Fun (K : PySem.W.Frag) (x qual : Str) (st : Stmt) (f : Addr) (fd : FuncData) : Prop where
  ex : ∃ (oc : Value) (od : Option Addr) (kV doc pm : Value) (an : Option Addr) (cdv ct : Value) (osl : Array (Option Value)),
    fd = PySem.W.fnOf x qual (defArgs st) (defBody st) (defScope st) .none kV doc pm an cdv ct ∧ K.lookup f = some ⟨oc, od, .func fd, osl⟩ ∧ PySem.W.codeIn K cdv qual = true
  kp : PySem.W.keepIn K (.ref f) = true
section
variable {P : Program} {w : World} {K : PySem.W.Frag} {mg : Str → Option Value} {base : Heap}
/-- THE RULE for a def: its body as a term of rules, and the reading of that term -/
theorem Fun.ok {x qual : Str} {st : Stmt} {f : Addr} {fd : FuncData} {N ps : List Str} {k : Nat} {sp : Sp} (F : Fun K x qual st f fd) (S : FnScope N ps (defScope st)) (len : ∀ vs H Q E, sp vs H Q E → vs.length = ps.length)
    (hbody : ∀ (cdv : Value) (A : Around) (outer : List Env) (s : Shared) (H : Hp) (vs : List V) (Q : VK) (E : XK), Room k (A.deeper (envOfC qual (defScope st) s.heap.objs.size f cdv)) → sp vs H Q E →
      ∃ t, PSs (cxOf CX0 P w K mg base N qual (defScope st) f cdv A outer s H E).nox (defBody st) t ∧ t { nx := fun _ H' => Q .non H', rt := Q } (start N vs) H) : FnOk P w K mg base CX0 (k + 1) f fd ps sp := by
  obtain ⟨oc, od, kV, doc, pm, an, cdv, ct, osl, rfl, lk, hcd⟩ := F.ex
  refine fn_of lk hcd S len fun A outer s H vs Q E hr hsp => ?_
  obtain ⟨t, h, q⟩ := hbody cdv A outer s H vs Q E hr hsp
  exact ⟨t, h.nox, q⟩
/-- how its arguments bind (no defaults): h is «fun _ _ _ _ _ _ us hl => match us, hl with | [_, _], _ => rfl», one _ a parameter -/
theorem Fun.binds {x qual : Str} {st : Stmt} {f : Addr} {fd : FuncData} {ps : List Str} (F : Fun K x qual st f fd)
    (h : ∀ (kV doc pm : Value) (an : Option Addr) (cdv ct : Value) (us : List Value), us.length = ps.length → bindArgs (PySem.W.fnOf x qual (defArgs st) (defBody st) (defScope st) .none kV doc pm an cdv ct) ⟨us, []⟩ = pure (ps.zip us)) : Binds K fd ps [] := by
  obtain ⟨oc, od, kV, doc, pm, an, cdv, ct, osl, rfl, lk, hcd⟩ := F.ex
  exact .all (h kV doc pm an cdv ct)
theorem fun_mk {x qual : Str} {st : Stmt} {f : Addr} {oc : Value} {od an : Option Addr} {osl : Array (Option Value)} {kV doc pm cdv ct : Value} (l : K.lookup f = some ⟨oc, od, .func (PySem.W.fnOf x qual (defArgs st) (defBody st) (defScope st) .none kV doc pm an cdv ct), osl⟩)
    (c : PySem.W.codeIn K cdv qual = true) (k : PySem.W.keepIn K (.ref f) = true) : Fun K x qual st f (PySem.W.fnOf x qual (defArgs st) (defBody st) (defScope st) .none kV doc pm an cdv ct) := ⟨⟨oc, od, kV, doc, pm, an, cdv, ct, osl, rfl, l, c⟩, k⟩
end
theorem small1000 {n : Nat} (h : n ≤ 1000) : n < sizeLine := Nat.lt_of_le_of_lt h (by decide)

/-! ### expressions in short: the name that stands in the i-th slot -/
section
variable {X : Cx}
theorem pv (i : Nat) {x : Str} {pos : Pos} (hN : X.N[i]? = some x := by rfl) (hv : Vis X.env.scope x := by first | exact Or.inl rfl | exact Or.inr (Or.inl rfl) | exact Or.inr (Or.inr rfl)) (hd : (x == ("__debug__" : Str)) = false := by decide)
    (hcd : (x == ("__classdict__" : Str)) = false := by decide) : PE X (.Name x pos) (tVar i) := pe_var hN hv hd hcd
end

/-! ### tests -/
theorem iteF {A B : Prop} (h : B) : if false = true then A else B := by
  rw [if_neg Bool.false_ne_true]
  exact h
theorem iteT {A B : Prop} (h : A) : if true = true then A else B := by
  rw [if_pos rfl]
  exact h

/-! ### heaps -/
/-- all that was tracked is as it was -/
def Same (H H' : Hp) : Prop := ∀ b o, H b = some o → H' b = some o
theorem Same.refl (H : Hp) : Same H H := fun _ _ h => h
theorem Same.trans {H H1 H2 : Hp} (a : Same H H1) (b : Same H1 H2) : Same H H2 := fun c o h => b c o (a c o h)
theorem Same.free {H H' : Hp} (e : Same H H') {l : Addr} (h : H' l = Option.none) : H l = Option.none := by
  cases q : H l with
  | none => rfl
  | some o =>
    rw [e l o q] at h
    cases h
theorem Same.seq {K : PySem.W.Frag} {H H' : Hp} {a : Addr} {xs : List V} (e : Same H H') (h : SqL K H a xs) : SqL K H' a xs := by
  rcases h with (h | ⟨o, h⟩) | h
  · exact .inl (.inl (e _ _ h))
  · exact .inl (.inr ⟨o, e _ _ h⟩)
  · exact .inr h

end L2

set_option Elab.async false
set_option linter.all false
set_option maxRecDepth 100000
namespace EV
open PySem PySem.Spec PyProof.Rows L2

/-! ### quick looks at the text -/
def notStar : Expr → Bool
  | .Starred _ _ => false
  | _ => true
theorem star_of {e : Expr} {es : List Expr} {env : Env} (h : notStar e = true) : starEach (e :: es) env = (false, eval e env) :: starEach es env := by
  cases e <;> first | rfl | (cases h)
theorem plain_of {pos : Pos} {env : Env} : ∀ {es : List Expr}, es.all notStar = true → (backTo pos (starEach es env)).any (·.1) = false
  | [], _ => rfl
  | e :: es, h => by
    rw [List.all_cons, Bool.and_eq_true] at h
    rw [star_of h.1]
    have := plain_of (pos := pos) (env := env) h.2
    simpa [backTo] using this
def noComp : Expr → Bool
  | .ListComp .. => false
  | .SetComp .. => false
  | .DictComp .. => false
  | _ => true
theorem swaps_of {v : Expr} {t : Option Expr} {l : Nat} {env : Env} (h : noComp v = true) : swapsWith v t l env = pure false := by
  cases v <;> first | rfl | (cases h)
/-! ### plain data, and how a value of the abstract heap stands for it -/
inductive D where
  | non
  | bl (b : Bool)
  | int (i : Int)
  | str (x : Str)
  | tup (xs : List D)
  | lst (xs : List D)
  | obj (C : Addr) (ns : List Str) (fs : List D)
  | adr (a : Addr)

mutual
def Is (K : PySem.W.Frag) (H : Hp) : D → V → Prop
  | .non, v => v = .non
  | .bl b, v => v = .bl b
  | .int i, v => v = .int i
  | .str x, v => v = .str x
  | .tup ds, v => ∃ a xs, v = .ref a ∧ SqT K H a xs ∧ IsL K H ds xs
  | .lst ds, v => ∃ a xs, v = .ref a ∧ SqL K H a xs ∧ IsL K H ds xs
  | .obj C ns fs, v => ∃ a dx vs, v = .ref a ∧ H a = some (.ins C dx (ns.zip vs)) ∧ ns.length = fs.length ∧ IsL K H fs vs
  | .adr a, v => v = .ref a
def IsL (K : PySem.W.Frag) (H : Hp) : List D → List V → Prop
  | [], vs => vs = []
  | d :: ds, vs => ∃ v r, vs = v :: r ∧ Is K H d v ∧ IsL K H ds r
end

theorem seqT {K : PySem.W.Frag} {H H' : Hp} {a : Addr} {xs : List V} (e : Same H H') (h : SqT K H a xs) : SqT K H' a xs := by
  rcases h with (h | ⟨o, h⟩) | h
  · exact .inl (.inl (e _ _ h))
  · exact .inl (.inr ⟨o, e _ _ h⟩)
  · exact .inr h

mutual
theorem Is.mono {K : PySem.W.Frag} {H H' : Hp} (s : Same H H') : ∀ (d : D) {v : V}, Is K H d v → Is K H' d v
  | .non, _, h => by unfold Is at *; exact h
  | .bl _, _, h => by unfold Is at *; exact h
  | .int _, _, h => by unfold Is at *; exact h
  | .str _, _, h => by unfold Is at *; exact h
  | .tup ds, _, h => by
    unfold Is at *
    obtain ⟨a, xs, e, q, r⟩ := h
    exact ⟨a, xs, e, seqT s q, IsL.mono s ds r⟩
  | .lst ds, _, h => by
    unfold Is at *
    obtain ⟨a, xs, e, q, r⟩ := h
    exact ⟨a, xs, e, s.seq q, IsL.mono s ds r⟩
  | .obj C ns fs, _, h => by
    unfold Is at *
    obtain ⟨a, dx, vs, e, q, l, r⟩ := h
    exact ⟨a, dx, vs, e, s _ _ q, l, IsL.mono s fs r⟩
  | .adr _, _, h => by unfold Is at *; exact h
theorem IsL.mono {K : PySem.W.Frag} {H H' : Hp} (s : Same H H') : ∀ (ds : List D) {vs : List V}, IsL K H ds vs → IsL K H' ds vs
  | [], _, h => by unfold IsL at *; exact h
  | d :: ds, _, h => by
    unfold IsL at *
    obtain ⟨v, r, e, q, z⟩ := h
    exact ⟨v, r, e, Is.mono s d q, IsL.mono s ds z⟩
end

theorem IsL.len {K : PySem.W.Frag} {H : Hp} : ∀ {ds : List D} {vs : List V}, IsL K H ds vs → ds.length = vs.length
  | [], _, h => by unfold IsL at h; subst h; rfl
  | d :: ds, _, h => by
    unfold IsL at h
    obtain ⟨v, r, rfl, _, z⟩ := h
    rw [List.length_cons, List.length_cons, IsL.len z]
theorem IsL.get {K : PySem.W.Frag} {H : Hp} : ∀ {ds : List D} {vs : List V} {i : Nat} {d : D}, IsL K H ds vs → ds[i]? = some d → ∃ v, vs[i]? = some v ∧ Is K H d v
  | [], _, _, _, _, e => by simp at e
  | d :: ds, _, 0, _, h, e => by
    unfold IsL at h
    obtain ⟨v, r, rfl, q, _⟩ := h
    simp at e
    subst e
    exact ⟨v, rfl, q⟩
  | d :: ds, _, i + 1, d', h, e => by
    unfold IsL at h
    obtain ⟨v, r, rfl, _, z⟩ := h
    obtain ⟨u, e2, q⟩ := IsL.get (i := i) (d := d') z (by simpa using e)
    exact ⟨u, by simpa using e2, q⟩
theorem IsL.back {K : PySem.W.Frag} {H : Hp} : ∀ {ds : List D} {vs : List V} {i : Nat} {v : V}, IsL K H ds vs → vs[i]? = some v → ∃ d, ds[i]? = some d ∧ Is K H d v
  | [], _, _, _, h, e => by unfold IsL at h; subst h; simp at e
  | d :: ds, _, 0, _, h, e => by
    unfold IsL at h
    obtain ⟨v, r, rfl, q, _⟩ := h
    simp at e
    subst e
    exact ⟨d, rfl, q⟩
  | d :: ds, _, i + 1, v', h, e => by
    unfold IsL at h
    obtain ⟨v, r, rfl, _, z⟩ := h
    obtain ⟨u, e2, q⟩ := IsL.back (i := i) (v := v') z (by simpa using e)
    exact ⟨u, by simpa using e2, q⟩
theorem IsL.append {K : PySem.W.Frag} {H : Hp} : ∀ {ds es : List D} {vs us : List V}, IsL K H ds vs → IsL K H es us → IsL K H (ds ++ es) (vs ++ us)
  | [], _, _, _, h, g => by unfold IsL at h; subst h; simpa using g
  | d :: ds, es, _, us, h, g => by
    unfold IsL at h
    obtain ⟨v, r, rfl, q, z⟩ := h
    show IsL K H (d :: (ds ++ es)) (v :: (r ++ us))
    unfold IsL
    exact ⟨v, r ++ us, rfl, q, IsL.append z g⟩
theorem IsL.drop {K : PySem.W.Frag} {H : Hp} : ∀ {ds : List D} {vs : List V} (n : Nat), IsL K H ds vs → IsL K H (ds.drop n) (vs.drop n)
  | _, _, 0, h => by simpa using h
  | [], _, n + 1, h => by unfold IsL at h; subst h; simp [IsL]
  | d :: ds, _, n + 1, h => by
    unfold IsL at h
    obtain ⟨v, r, rfl, _, z⟩ := h
    simpa using IsL.drop n z
theorem IsL.take {K : PySem.W.Frag} {H : Hp} : ∀ {ds : List D} {vs : List V} (n : Nat), IsL K H ds vs → IsL K H (ds.take n) (vs.take n)
  | _, _, 0, h => by simp [IsL]
  | [], _, n + 1, h => by unfold IsL at h; subst h; simp [IsL]
  | d :: ds, _, n + 1, h => by
    unfold IsL at h
    obtain ⟨v, r, rfl, q, z⟩ := h
    rw [List.take_succ_cons, List.take_succ_cons]
    unfold IsL
    exact ⟨v, r.take n, rfl, q, IsL.take n z⟩
theorem IsL.at {K : PySem.W.Frag} {H : Hp} {ds : List D} {vs : List V} {i : Int} {d : D} (h : IsL K H ds vs) (e : atI ds i = some d) : ∃ v, atI vs i = some v ∧ Is K H d v := by
  unfold atI at e ⊢
  rw [← h.len]
  cases q : ixN ds.length i with
  | none => rw [q] at e; cases e
  | some j =>
    rw [q] at e
    exact IsL.get h e
theorem IsL.ints {K : PySem.W.Frag} {H : Hp} : ∀ (ns : List Int), IsL K H (ns.map D.int) (ns.map V.int)
  | [] => by simp [IsL]
  | n :: ns => by
    rw [List.map_cons, List.map_cons]
    unfold IsL
    exact ⟨_, _, rfl, by unfold Is; rfl, IsL.ints ns⟩
theorem zip_look {K : PySem.W.Frag} {H : Hp} {f : Str} {d : D} : ∀ {ns : List Str} {fs : List D} {vs : List V}, ns.length = fs.length → IsL K H fs vs → (ns.zip fs).lookup f = some d → ∃ v, (ns.zip vs).lookup f = some v ∧ Is K H d v
  | [], _, _, _, _, e => by simp at e
  | n :: ns, [], _, l, _, _ => by simp at l
  | n :: ns, x :: fs, _, l, h, e => by
    unfold IsL at h
    obtain ⟨v, r, rfl, q, z⟩ := h
    rw [List.zip_cons_cons, List.lookup_cons] at e ⊢
    cases b : f == n with
    | true => rw [b] at e; cases e; exact ⟨v, rfl, q⟩
    | false => rw [b] at e; exact zip_look (by simpa using l) z e
theorem zip_none {f : Str} : ∀ {ns : List Str} {vs : List V}, f ∉ ns → (ns.zip vs).lookup f = none
  | [], _, _ => by simp
  | n :: ns, [], _ => by simp
  | n :: ns, v :: vs, h => by
    rw [List.zip_cons_cons, List.lookup_cons]
    have hb : (f == n) = false := by
      apply beq_eq_false_iff_ne.mpr
      intro e; exact h (by rw [e]; exact List.mem_cons_self)
    rw [hb]
    exact zip_none fun z => h (List.mem_cons_of_mem _ z)

/-! ### a frame's names -/
abbrev Sd := List (Option D)
def IsS (K : PySem.W.Frag) (H : Hp) (δ : Sd) (σ : L2.St) : Prop := σ.length = δ.length ∧ ∀ (i : Nat) (d : D), δ[i]? = some (some d) → ∃ v, σ[i]? = some (some v) ∧ Is K H d v
theorem IsS.mono {K : PySem.W.Frag} {H H' : Hp} {δ : Sd} {σ : L2.St} (h : IsS K H δ σ) (s : Same H H') : IsS K H' δ σ :=
  ⟨h.1, fun i d e => let ⟨v, e2, q⟩ := h.2 i d e; ⟨v, e2, Is.mono s d q⟩⟩
theorem IsS.set {K : PySem.W.Frag} {H : Hp} {δ : Sd} {σ : L2.St} (h : IsS K H δ σ) (i : Nat) {d : D} {v : V} (q : Is K H d v) : IsS K H (δ.set i (some d)) (σ.set i (some v)) := by
  refine ⟨by simp [h.1], fun j e hj => ?_⟩
  by_cases c : i = j
  · subst c
    rw [List.getElem?_set_self'] at hj
    cases hd : δ[i]? with
    | none => rw [hd] at hj; simp at hj
    | some z =>
      rw [hd] at hj
      simp at hj
      subst hj
      have hi : i < σ.length := by
        rw [h.1]
        exact (List.getElem?_eq_some_iff.mp hd).1
      exact ⟨v, List.getElem?_set_self hi, q⟩
  · rw [List.getElem?_set_ne c] at hj
    obtain ⟨u, e2, q2⟩ := h.2 j e hj
    exact ⟨u, by rw [List.getElem?_set_ne c]; exact e2, q2⟩

/-! ### the judgements -/
def rE (K : PySem.W.Frag) (δ : Sd) (d : D) : TE := fun σ H Q => IsS K H δ σ ∧ ∀ v H', Same H H' → Is K H' d v → Q v H'
structure EV (X : Cx) (e : Expr) (δ : Sd) (d : D) : Prop where
  run : PE X e (rE X.K δ d)
def rA (K : PySem.W.Frag) (δ : Sd) (ds : List D) : TA := fun σ H Q => IsS K H δ σ ∧ ∀ vs H', Same H H' → IsL K H' ds vs → Q vs H'
structure EA (X : Cx) (es : List Expr) (δ : Sd) (ds : List D) : Prop where
  run : PA X es (rA X.K δ ds)
def rT (K : PySem.W.Frag) (δ : Sd) (b : Bool) : TT := fun σ H Q => IsS K H δ σ ∧ ∀ H', Same H H' → Q b H'
structure ET (X : Cx) (e : Expr) (δ : Sd) (b : Bool) : Prop where
  run : PT X e (rT X.K δ b)
structure EW (X : Cx) (e : Expr) (δ : Sd) (b : Bool) : Prop where
  run : PW X e (rT X.K δ b)
inductive O where
  | nx (δ : Sd) | rt (d : D) | bk (δ : Sd) | ct (δ : Sd) | rf (ds : List D)
def rO (K : PySem.W.Frag) (o : O) (D : Ends) (H : Hp) : Prop := match o with
  | .nx δ => ∀ σ' H', Same H H' → IsS K H' δ σ' → D.nx σ' H'
  | .rt d => ∀ v H', Same H H' → Is K H' d v → D.rt v H'
  | .bk δ => ∀ σ' H', Same H H' → IsS K H' δ σ' → D.bk σ' H'
  | .ct δ => ∀ σ' H', Same H H' → IsS K H' δ σ' → D.ct σ' H'
  | .rf ds => ∀ a xs H', Same H H' → H' a = none → IsL K H' ds xs → D.rt (.ref a) (upd H' a (.lst xs))
theorem rO.mono {K : PySem.W.Frag} {o : O} {D : Ends} {H H1 : Hp} (h : rO K o D H) (s : Same H H1) : rO K o D H1 := by
  cases o with
  | nx δ => exact fun σ' H' s' S => h σ' H' (s.trans s') S
  | rt d => exact fun v H' s' S => h v H' (s.trans s') S
  | bk δ => exact fun σ' H' s' S => h σ' H' (s.trans s') S
  | ct δ => exact fun σ' H' s' S => h σ' H' (s.trans s') S
  | rf ds => exact fun a xs H' s' n l => h a xs H' (s.trans s') n l
def rS (K : PySem.W.Frag) (δ : Sd) (o : O) : TS := fun D σ H => IsS K H δ σ ∧ rO K o D H
structure ST (X : Cx) (st : Stmt) (δ : Sd) (o : O) : Prop where
  run : PS X st (rS X.K δ o)
structure SS (X : Cx) (sts : List Stmt) (δ : Sd) (o : O) : Prop where
  run : PSs X sts (rS X.K δ o)

theorem PE_imp {X : Cx} {e : Expr} {t t' : TE} (h : PE X e t) (i : ∀ σ H Q, t' σ H Q → t σ H Q) : PE X e t' := fun pins s σ H Q I q => h pins s σ H Q I (i σ H Q q)
theorem PT_imp {X : Cx} {e : Expr} {t t' : TT} (h : PT X e t) (i : ∀ σ H Q, t' σ H Q → t σ H Q) : PT X e t' := fun pins s σ H Q I q => h pins s σ H Q I (i σ H Q q)
theorem PW_imp {X : Cx} {e : Expr} {t t' : TT} (h : PW X e t) (i : ∀ σ H Q, t' σ H Q → t σ H Q) : PW X e t' := fun wh pins s σ H Q I q => h wh pins s σ H Q I (i σ H Q q)
theorem PA_imp {X : Cx} {e : List Expr} {t t' : TA} (h : PA X e t) (i : ∀ σ H Q, t' σ H Q → t σ H Q) : PA X e t' := fun pos pins s σ H Q I q => h pos pins s σ H Q I (i σ H Q q)
theorem PS_imp {X : Cx} {e : Stmt} {t t' : TS} (h : PS X e t) (i : ∀ D σ H, t' D σ H → t D σ H) : PS X e t' := fun pins s σ H D I q => h pins s σ H D I (i D σ H q)
theorem PSs_imp {X : Cx} {e : List Stmt} {t t' : TS} (h : PSs X e t) (i : ∀ D σ H, t' D σ H → t D σ H) : PSs X e t' := fun pins s σ H D I q => h pins s σ H D I (i D σ H q)

theorem EV_imp {X : Cx} {e : Expr} {δ : Sd} {d : D} {t : TE} (h : PE X e t) (i : ∀ σ H Q, rE X.K δ d σ H Q → t σ H Q) : EV X e δ d := ⟨PE_imp h i⟩
theorem ET_imp {X : Cx} {e : Expr} {δ : Sd} {d : Bool} {t : TT} (h : PT X e t) (i : ∀ σ H Q, rT X.K δ d σ H Q → t σ H Q) : ET X e δ d := ⟨PT_imp h i⟩
theorem EW_imp {X : Cx} {e : Expr} {δ : Sd} {d : Bool} {t : TT} (h : PW X e t) (i : ∀ σ H Q, rT X.K δ d σ H Q → t σ H Q) : EW X e δ d := ⟨PW_imp h i⟩
theorem EA_imp {X : Cx} {e : List Expr} {δ : Sd} {d : List D} {t : TA} (h : PA X e t) (i : ∀ σ H Q, rA X.K δ d σ H Q → t σ H Q) : EA X e δ d := ⟨PA_imp h i⟩
theorem ST_imp {X : Cx} {e : Stmt} {δ : Sd} {d : O} {t : TS} (h : PS X e t) (i : ∀ D σ H, rS X.K δ d D σ H → t D σ H) : ST X e δ d := ⟨PS_imp h i⟩
theorem SS_imp {X : Cx} {e : List Stmt} {δ : Sd} {d : O} {t : TS} (h : PSs X e t) (i : ∀ D σ H, rS X.K δ d D σ H → t D σ H) : SS X e δ d := ⟨PSs_imp h i⟩
theorem EV.conv {X : Cx} {e : Expr} {δ : Sd} {d d' : D} (h : EV X e δ d) (q : d = d') : EV X e δ d' := q ▸ h
theorem ET.conv {X : Cx} {e : Expr} {δ : Sd} {d d' : Bool} (h : ET X e δ d) (q : d = d') : ET X e δ d' := q ▸ h
theorem ST.conv {X : Cx} {e : Stmt} {δ : Sd} {d d' : O} (h : ST X e δ d) (q : d = d') : ST X e δ d' := q ▸ h
theorem SS.conv {X : Cx} {e : List Stmt} {δ : Sd} {d d' : O} (h : SS X e δ d) (q : d = d') : SS X e δ d' := q ▸ h

section
variable {X : Cx} {a b c e : Expr} {es : List Expr} {δ δ1 δ2 : Sd} {d d1 d2 : D} {ds : List D} {i j : Int} {p q : Bool} {pos pos' : Pos} {st : Stmt} {rest th el body : List Stmt} {o o1 : O}

/-! ### names, constants, displays -/
theorem ev_var (k : Nat) {x : Str} (hd : δ[k]? = some (some d)) (hN : X.N[k]? = some x := by rfl) (hv : Vis X.env.scope x := by first | exact Or.inl rfl | exact Or.inr (Or.inl rfl) | exact Or.inr (Or.inr rfl)) (h1 : (x == ("__debug__" : Str)) = false := by decide)
    (h2 : (x == ("__classdict__" : Str)) = false := by decide) : EV X (.Name x pos) δ d :=
  EV_imp (pe_var hN hv h1 h2) fun σ H Q ⟨S, q⟩ => let ⟨v, e, r⟩ := S.2 k d hd; ⟨v, e, q v H (Same.refl H) r⟩
theorem ev_int {k : Int} {n} : EV X (.Constant (.int k) n pos) δ (.int k) := EV_imp pe_int fun _ H _ ⟨_, q⟩ => q _ H (Same.refl H) (by unfold Is; rfl)
theorem ev_bl {k : Bool} {n} : EV X (.Constant (.bool k) n pos) δ (.bl k) := EV_imp pe_bl fun _ H _ ⟨_, q⟩ => q _ H (Same.refl H) (by unfold Is; rfl)
theorem ev_non {n} : EV X (.Constant .none n pos) δ .non := EV_imp pe_non fun _ H _ ⟨_, q⟩ => q _ H (Same.refl H) (by unfold Is; rfl)
theorem ea_nil : EA X [] δ [] := EA_imp pa_nil fun _ H _ ⟨_, q⟩ => q _ H (Same.refl H) (by unfold IsL; rfl)
theorem ea_cons (ha : EV X e δ d) (hr : EA X es δ ds) (hs : starEach (e :: es) X.env = (false, eval e X.env) :: starEach es X.env := by exact star_of rfl) : EA X (e :: es) δ (d :: ds) :=
  EA_imp (pa_cons ha.run hr.run hs) fun _ H Q ⟨S, q⟩ => ⟨S, fun v H1 s1 r1 => ⟨S.mono s1, fun vs H2 s2 r2 => q (v :: vs) H2 (s1.trans s2) (by unfold IsL; exact ⟨v, vs, rfl, Is.mono s2 d r1, r2⟩)⟩⟩
theorem same_new {H : Hp} {p : Addr} (h : H p = none) (o : HO) : Same H (upd H p o) := fun b u q => by rw [upd_ne (ne_of_none q h)]; exact q
theorem le_line {n : Nat} (h : n ≤ 1000) : n ≤ sizeLine := Nat.le_of_lt (small1000 h)
theorem ev_tup {n} (h : EA X es δ ds) (hz : ds.length ≤ 1000 := by exact Nat.le_of_ble_eq_true rfl) : EV X (.Tuple es n pos) δ (.tup ds) :=
  EV_imp (pe_tup h.run) fun _ H Q ⟨S, q⟩ => ⟨S, fun vs H1 s1 r1 => ⟨by rw [← r1.len]; exact le_line hz, fun p hp => q _ _ (s1.trans (same_new hp _)) (by unfold Is; exact ⟨p, vs, rfl, SqT.of upd_same, IsL.mono (same_new hp _) ds r1⟩)⟩⟩
theorem ev_lst (h : EA X es δ ds) (hz : ds.length ≤ 1000 := by exact Nat.le_of_ble_eq_true rfl) : EV X (.List es pos) δ (.lst ds) :=
  EV_imp (pe_lst h.run) fun _ H Q ⟨S, q⟩ => ⟨S, fun vs H1 s1 r1 => ⟨by rw [← r1.len]; exact le_line hz, fun p hp => q _ _ (s1.trans (same_new hp _)) (by unfold Is; exact ⟨p, vs, rfl, SqL.of upd_same, IsL.mono (same_new hp _) ds r1⟩)⟩⟩

/-! ### arithmetic -/
theorem ev_opI {op : Operator} {g : Int → Int → Int} (ho : OpR X (binaryOp op) (rI0 fun i j => .int (g i j))) (ha : EV X a δ (.int i)) (hb : EV X b δ (.int j)) : EV X (.BinOp a op b pos) δ (.int (g i j)) :=
  EV_imp (pe_op ho ha.run hb.run) fun _ H Q ⟨S, q⟩ => ⟨S, fun v H1 s1 r1 => ⟨S.mono s1, fun w H2 s2 r2 => ⟨i, j, by unfold Is at r1; exact r1, by unfold Is at r2; exact r2, q _ H2 (s1.trans s2) (by unfold Is; rfl)⟩⟩⟩
theorem ev_opC {op : Operator} {C : Int → Int → Prop} {g : Int → Int → Int} (ho : OpR X (binaryOp op) (rI C fun i j => .int (g i j))) (ha : EV X a δ (.int i)) (hb : EV X b δ (.int j)) (hc : C i j) : EV X (.BinOp a op b pos) δ (.int (g i j)) :=
  EV_imp (pe_op ho ha.run hb.run) fun _ H Q ⟨S, q⟩ => ⟨S, fun v H1 s1 r1 => ⟨S.mono s1, fun w H2 s2 r2 => ⟨i, j, by unfold Is at r1; exact r1, by unfold Is at r2; exact r2, hc, q _ H2 (s1.trans s2) (by unfold Is; rfl)⟩⟩⟩
theorem ev_add (ha : EV X a δ (.int i)) (hb : EV X b δ (.int j)) : EV X (.BinOp a .Add b pos) δ (.int (i + j)) := ev_opI (g := fun i j => i + j) op_add ha hb
theorem ev_sub (ha : EV X a δ (.int i)) (hb : EV X b δ (.int j)) : EV X (.BinOp a .Sub b pos) δ (.int (i - j)) := ev_opI (g := fun i j => i - j) op_sub ha hb
theorem op_mulOk : OpR X (binaryOp .Mult) (rI IntMulOk fun i j => .int (i * j)) := opI fun _ _ _ _ _ _ _ hc q => mul_int q hc
theorem ev_mul (ha : EV X a δ (.int i)) (hb : EV X b δ (.int j)) (hc : IntMulOk i j) : EV X (.BinOp a .Mult b pos) δ (.int (i * j)) := ev_opC (g := fun i j => i * j) op_mulOk ha hb hc
theorem ev_mod (ha : EV X a δ (.int i)) (hb : EV X b δ (.int j)) (hc : 0 < j) : EV X (.BinOp a .Mod b pos) δ (.int (i % j)) := ev_opC (g := fun i j => i % j) (C := fun _ j => 0 < j) op_mod ha hb hc
theorem ev_fdiv (ha : EV X a δ (.int i)) (hb : EV X b δ (.int j)) (hc : 0 < j ∧ j < 1073741824) : EV X (.BinOp a .FloorDiv b pos) δ (.int (i / j)) := ev_opC (g := fun i j => i / j) (C := CDiv) op_fdiv ha hb hc
theorem ev_pow (ha : EV X a δ (.int i)) (hb : EV X b δ (.int j)) (hc : 0 ≤ j ∧ j ≤ 1000000 ∧ i.natAbs < 2 ^ 64) : EV X (.BinOp a .Pow b pos) δ (.int (i ^ j.toNat)) := ev_opC (g := fun i j => i ^ j.toNat) (C := CPow) op_pow ha hb hc
theorem ev_neg (ha : EV X a δ (.int i)) : EV X (.UnaryOp .USub a pos) δ (.int (-i)) :=
  EV_imp (pe_un un_neg ha.run) fun _ H Q ⟨S, q⟩ => ⟨S, fun v H1 s1 r1 => ⟨i, by unfold Is at r1; exact r1, q _ H1 s1 (by unfold Is; rfl)⟩⟩

/-! ### comparisons -/
theorem ev_cmpI {op : CmpOp} {g : Int → Int → Bool} (ho : OpR X (compareOp op) (rI0 fun i j => .bl (g i j))) (ha : EV X a δ (.int i)) (hb : EV X b δ (.int j)) (hm : behindInMarks op b = false) : EV X (.Compare a [op] [b] pos) δ (.bl (g i j)) :=
  EV_imp (pe_cmpR ho ha.run hb.run hm) fun _ H Q ⟨S, q⟩ => ⟨S, fun v H1 s1 r1 => ⟨S.mono s1, fun w H2 s2 r2 => ⟨i, j, by unfold Is at r1; exact r1, by unfold Is at r2; exact r2, q _ H2 (s1.trans s2) (by unfold Is; rfl)⟩⟩⟩
theorem ev_gt (ha : EV X a δ (.int i)) (hb : EV X b δ (.int j)) : EV X (.Compare a [.Gt] [b] pos) δ (.bl (decide (j < i))) := ev_cmpI (g := fun i j => decide (j < i)) op_gt ha hb (nomark b)

mutual
def toPy : D → PyData
  | .non => .none
  | .bl b => .bool b
  | .int i => .int i
  | .str x => .str x
  | .tup ds => .tuple (toPyL ds)
  | .lst ds => .list (toPyL ds)
  | .obj _ _ _ => .dict []
  | .adr _ => .dict []
def toPyL : List D → List PyData
  | [] => []
  | d :: ds => toPy d :: toPyL ds
end
mutual
theorem Is.reads {pins : List (Addr × Obj)} {σ : L2.St} {H : Hp} {s : Shared} (I : Inv X pins σ H s) : ∀ (d : D) {x : V} {u : Value}, Is X.K H d x → RelV x u → (toPy d).canLay0 = true → ∃ as, Reads s.heap u (toPy d) as
  | .non, _, _, h, r, _ => by unfold Is at h; subst h; cases (show _ = Value.none from r); exact ⟨_, .none⟩
  | .bl b, _, _, h, r, _ => by unfold Is at h; subst h; cases (show _ = Value.bool b from r); exact ⟨_, .bool b⟩
  | .int i, _, _, h, r, _ => by unfold Is at h; subst h; obtain ⟨t, rfl⟩ := (show ∃ t, _ = Value.int i t from r); exact ⟨_, .int i t⟩
  | .str x, _, _, h, r, _ => by unfold Is at h; subst h; obtain ⟨t, rfl⟩ := (show ∃ t, _ = Value.str x t from r); exact ⟨_, .str x t⟩
  | .tup ds, _, _, h, r, c => by
    unfold Is at h
    obtain ⟨a, xs, rfl, q, l⟩ := h
    cases (show _ = Value.ref a from r)
    obtain ⟨its, rv, ⟨o, h1, h2, n, h3⟩, _⟩ := I.tuple q
    obtain ⟨as, ra⟩ := IsL.reads I ds l rv (by simpa [toPy, PyData.canLay0] using c)
    exact ⟨as, by unfold toPy; exact .tuple h1 h2 h3 (by simpa using ra)⟩
  | .lst ds, _, _, h, r, c => by
    unfold Is at h
    obtain ⟨a, xs, rfl, q, l⟩ := h
    cases (show _ = Value.ref a from r)
    obtain ⟨its, rv, pl, _⟩ := I.list q
    obtain ⟨as, ra⟩ := IsL.reads I ds l rv (by simpa [toPy, PyData.canLay0] using c)
    obtain ⟨o, n, h1, h2, h3, h4⟩ := pl
    exact ⟨a :: as, by unfold toPy; exact .list h1 h2 h4 (by simpa using ra)⟩
  | .obj _ _ _, _, _, _, _, c => by simp [toPy, PyData.canLay0] at c
  | .adr _, _, _, _, _, c => by simp [toPy, PyData.canLay0] at c
theorem IsL.reads {pins : List (Addr × Obj)} {σ : L2.St} {H : Hp} {s : Shared} (I : Inv X pins σ H s) : ∀ (ds : List D) {xs : List V} {us : List Value}, IsL X.K H ds xs → Vals xs us → PyData.canLayAll0 (toPyL ds) = true → ∃ as, ReadsAll s.heap us (toPyL ds) as
  | [], _, _, h, r, _ => by unfold IsL at h; subst h; cases r; exact ⟨_, .nil⟩
  | d :: ds, _, _, h, r, c => by
    unfold IsL at h
    obtain ⟨v, z, rfl, q, l⟩ := h
    cases r with
    | cons r1 r2 =>
      rw [toPyL, PyData.canLayAll0, Bool.and_eq_true] at c
      obtain ⟨as, ra⟩ := Is.reads I d q r1 c.1
      obtain ⟨bs, rb⟩ := IsL.reads I ds l r2 c.2
      exact ⟨as ++ bs, by unfold toPyL; exact .cons ra rb⟩
end
def shD (d : D) : Bool := SeqAt.shaped (toPy d)
def eqD (d1 d2 : D) : Bool := PyData.eqv (toPy d1) (toPy d2)
def rEqD (K : PySem.W.Frag) (neg : Bool) (d1 d2 : D) : R2 := fun x y H Q => Is K H d1 x ∧ Is K H d2 y ∧ shD d1 = true ∧ shD d2 = true ∧ Q (.bl (if neg then !eqD d1 d2 else eqD d1 d2)) H
theorem op_eqD {k : Nat} (hr : Room k X.A) : OpR X (compareOp .Eq) (rEqD X.K false d1 d2) := by
  intro pins s σ H x y v u Q I rx ry ⟨h1, h2, c1, c2, q⟩
  obtain ⟨as, ra⟩ := Is.reads I d1 h1 rx (SeqAt.canLay_of_shaped c1)
  obtain ⟨bs, rb⟩ := Is.reads I d2 h2 ry (SeqAt.canLay_of_shaped c2)
  exact SeqAt.compareEq_shaped ra rb c1 c2 hr.units ⟨.bl (eqD d1 d2), H, I, rfl, q⟩
theorem op_neD {k : Nat} (hr : Room k X.A) : OpR X (compareOp .NotEq) (rEqD X.K true d1 d2) := by
  intro pins s σ H x y v u Q I rx ry ⟨h1, h2, c1, c2, q⟩
  obtain ⟨as, ra⟩ := Is.reads I d1 h1 rx (SeqAt.canLay_of_shaped c1)
  obtain ⟨bs, rb⟩ := Is.reads I d2 h2 ry (SeqAt.canLay_of_shaped c2)
  exact SeqAt.compareNe_shaped ra rb c1 c2 hr.units ⟨.bl (!eqD d1 d2), H, I, rfl, q⟩
theorem ev_eq {k : Nat} (hr : Room k X.A) (ha : EV X a δ d1) (hb : EV X b δ d2) (c1 : shD d1 = true := by rfl) (c2 : shD d2 = true := by rfl) : EV X (.Compare a [.Eq] [b] pos) δ (.bl (eqD d1 d2)) :=
  EV_imp (pe_cmpR (op_eqD hr) ha.run hb.run (nomark b)) fun _ H Q ⟨S, q⟩ => ⟨S, fun v H1 s1 r1 => ⟨S.mono s1, fun w H2 s2 r2 => ⟨Is.mono s2 d1 r1, r2, c1, c2, q _ H2 (s1.trans s2) (by unfold Is; rfl)⟩⟩⟩

/-! ### tests -/
theorem et_val (h : EV X e δ (.bl p)) (he : ∀ whole, isTrue e X.env whole = (do let v ← whole; standAt e.pos; holding [v] (truthy v)) := by intro _; rfl) : ET X e δ p :=
  ET_imp (pt_val h.run he) fun _ H Q ⟨S, q⟩ => ⟨S, fun v H1 s1 r1 => ⟨p, by unfold Is at r1; exact r1, q H1 s1⟩⟩
theorem et_cmpI {op : CmpOp} {g : Int → Int → Bool} (ho : OpR X (compareOp op) (rI0 fun i j => .bl (g i j))) (ha : EV X a δ (.int i)) (hb : EV X b δ (.int j)) (hm : behindInMarks op b = false) : ET X (.Compare a [op] [b] pos) δ (g i j) :=
  ET_imp (pt_cmpR ho ha.run hb.run hm) fun _ H Q ⟨S, q⟩ => ⟨S, fun v H1 s1 r1 => ⟨S.mono s1, fun w H2 s2 r2 => ⟨i, j, by unfold Is at r1; exact r1, by unfold Is at r2; exact r2, _, rfl, q H2 (s1.trans s2)⟩⟩⟩
theorem et_lt (ha : EV X a δ (.int i)) (hb : EV X b δ (.int j)) : ET X (.Compare a [.Lt] [b] pos) δ (decide (i < j)) := et_cmpI (g := fun i j => decide (i < j)) op_lt ha hb (nomark b)
theorem et_gt (ha : EV X a δ (.int i)) (hb : EV X b δ (.int j)) : ET X (.Compare a [.Gt] [b] pos) δ (decide (j < i)) := et_cmpI (g := fun i j => decide (j < i)) op_gt ha hb (nomark b)
theorem et_eq {k : Nat} (hr : Room k X.A) (ha : EV X a δ d1) (hb : EV X b δ d2) (c1 : shD d1 = true := by rfl) (c2 : shD d2 = true := by rfl) : ET X (.Compare a [.Eq] [b] pos) δ (eqD d1 d2) :=
  ET_imp (pt_cmpR (op_eqD hr) ha.run hb.run (nomark b)) fun _ H Q ⟨S, q⟩ => ⟨S, fun v H1 s1 r1 => ⟨S.mono s1, fun w H2 s2 r2 => ⟨Is.mono s2 d1 r1, r2, c1, c2, _, rfl, q H2 (s1.trans s2)⟩⟩⟩
theorem et_ne {k : Nat} (hr : Room k X.A) (ha : EV X a δ d1) (hb : EV X b δ d2) (c1 : shD d1 = true := by rfl) (c2 : shD d2 = true := by rfl) : ET X (.Compare a [.NotEq] [b] pos) δ (!eqD d1 d2) :=
  ET_imp (pt_cmpR (op_neD hr) ha.run hb.run (nomark b)) fun _ H Q ⟨S, q⟩ => ⟨S, fun v H1 s1 r1 => ⟨S.mono s1, fun w H2 s2 r2 => ⟨Is.mono s2 d1 r1, r2, c1, c2, _, rfl, q H2 (s1.trans s2)⟩⟩⟩
theorem et_not (h : ET X e δ p) : ET X (.UnaryOp .Not e pos) δ (!p) := ET_imp (pt_not h.run) fun _ H Q ⟨S, q⟩ => ⟨S, fun H1 s1 => q H1 s1⟩
theorem EW.et (h : EW X e δ p) : ET X e δ p := ⟨PW.pt h.run⟩
theorem ew_and1 (h : ET X a δ p) : EW X (.BoolOp .And [a] pos) δ p := ⟨pw_and1 h.run⟩
theorem ew_or1 (h : ET X a δ p) : EW X (.BoolOp .Or [a] pos) δ p := ⟨pw_or1 h.run⟩
theorem ew_and {pos : Pos} {r : List Expr} (ha : ET X a δ p) (hb : p = true → EW X (.BoolOp .And (b :: r) pos) δ q) : EW X (.BoolOp .And (a :: b :: r) pos) δ (p && q) := by
  cases p with
  | false =>
    have hb' : PW X (.BoolOp .And (b :: r) pos) (fun _ _ _ => False) := fun _ _ _ _ _ _ _ h => h.elim
    exact EW_imp (pw_and ha.run hb') fun _ H Q ⟨S, k⟩ => ⟨S, fun H1 s1 => iteF (k H1 s1)⟩
  | true => exact EW_imp (pw_and ha.run (hb rfl).run) fun _ H Q ⟨S, k⟩ => ⟨S, fun H1 s1 => iteT ⟨S.mono s1, fun H2 s2 => k H2 (s1.trans s2)⟩⟩
theorem ew_or {pos : Pos} {r : List Expr} (ha : ET X a δ p) (hb : p = false → EW X (.BoolOp .Or (b :: r) pos) δ q) : EW X (.BoolOp .Or (a :: b :: r) pos) δ (p || q) := by
  cases p with
  | true =>
    have hb' : PW X (.BoolOp .Or (b :: r) pos) (fun _ _ _ => False) := fun _ _ _ _ _ _ _ h => h.elim
    exact EW_imp (pw_or ha.run hb') fun _ H Q ⟨S, k⟩ => ⟨S, fun H1 s1 => iteT (k H1 s1)⟩
  | false => exact EW_imp (pw_or ha.run (hb rfl).run) fun _ H Q ⟨S, k⟩ => ⟨S, fun H1 s1 => iteF ⟨S.mono s1, fun H2 s2 => k H2 (s1.trans s2)⟩⟩
theorem ev_and1 {op} (h : EV X a δ d) : EV X (.BoolOp op [a] pos) δ d := ⟨pe_one h.run⟩
theorem ev_and {r : List Expr} (ha : EV X a δ (.bl p)) (hb : p = true → EV X (.BoolOp .And (b :: r) pos) δ (.bl q)) : EV X (.BoolOp .And (a :: b :: r) pos) δ (.bl (p && q)) := by
  cases p with
  | false =>
    have hb' : PE X (.BoolOp .And (b :: r) pos) (fun _ _ _ => False) := fun _ _ _ _ _ _ h => h.elim
    exact EV_imp (pe_and ha.run hb') fun _ H Q ⟨S, k⟩ => ⟨S, fun v H1 s1 r1 => ⟨false, by unfold Is at r1; exact r1, iteF (k _ H1 s1 (by unfold Is; rfl))⟩⟩
  | true => exact EV_imp (pe_and ha.run (hb rfl).run) fun _ H Q ⟨S, k⟩ => ⟨S, fun v H1 s1 r1 => ⟨true, by unfold Is at r1; exact r1, iteT ⟨S.mono s1, fun v2 H2 s2 r2 => k _ H2 (s1.trans s2) r2⟩⟩⟩
theorem ev_or {r : List Expr} (ha : EV X a δ (.bl p)) (hb : p = false → EV X (.BoolOp .Or (b :: r) pos) δ (.bl q)) : EV X (.BoolOp .Or (a :: b :: r) pos) δ (.bl (p || q)) := by
  cases p with
  | true =>
    have hb' : PE X (.BoolOp .Or (b :: r) pos) (fun _ _ _ => False) := fun _ _ _ _ _ _ h => h.elim
    exact EV_imp (pe_or ha.run hb') fun _ H Q ⟨S, k⟩ => ⟨S, fun v H1 s1 r1 => ⟨true, by unfold Is at r1; exact r1, iteT (k _ H1 s1 (by unfold Is; rfl))⟩⟩
  | false => exact EV_imp (pe_or ha.run (hb rfl).run) fun _ H Q ⟨S, k⟩ => ⟨S, fun v H1 s1 r1 => ⟨false, by unfold Is at r1; exact r1, iteF ⟨S.mono s1, fun v2 H2 s2 r2 => k _ H2 (s1.trans s2) r2⟩⟩⟩
theorem ev_not (ha : EV X a δ (.bl p)) : EV X (.UnaryOp .Not a pos) δ (.bl (!p)) :=
  EV_imp (pe_not ha.run) fun _ H Q ⟨S, k⟩ => ⟨S, fun v H1 s1 r1 => ⟨p, by unfold Is at r1; exact r1, k _ H1 s1 (by unfold Is; rfl)⟩⟩
theorem ev_ifE (hc : ET X c δ p) (ha : p = true → EV X a δ d1) (hb : p = false → EV X b δ d2) : EV X (.IfExp c a b pos) δ (if p = true then d1 else d2) := by
  have no : ∀ e, PE X e (fun _ _ _ => False) := fun _ _ _ _ _ _ _ h => h.elim
  cases p with
  | true => exact EV_imp (pe_ifExp hc.run (ha rfl).run (no b)) fun _ H Q ⟨S, k⟩ => ⟨S, fun H1 s1 => iteT ⟨S.mono s1, fun v H2 s2 r2 => k v H2 (s1.trans s2) r2⟩⟩
  | false => exact EV_imp (pe_ifExp hc.run (no a) (hb rfl).run) fun _ H Q ⟨S, k⟩ => ⟨S, fun H1 s1 => iteF ⟨S.mono s1, fun v H2 s2 r2 => k v H2 (s1.trans s2) r2⟩⟩

/-! ### items, fields -/
theorem ev_ixT (ha : EV X a δ (.tup ds)) (hb : EV X b δ (.int i)) (hd : atI ds i = some d) (hs : PlainIx b := by intro _ _; rfl) : EV X (.Subscript a b pos) δ d :=
  EV_imp (pe_ix ix_tup ha.run hb.run hs) fun _ H Q ⟨S, k⟩ => ⟨S, fun v H1 s1 r1 => ⟨S.mono s1, fun w H2 s2 r2 => by
    unfold Is at r1 r2
    obtain ⟨p, xs, rfl, q, l⟩ := r1
    obtain ⟨z, e, r⟩ := (IsL.mono s2 ds l).at hd
    exact ⟨p, xs, i, z, rfl, r2, seqT s2 q, e, k z H2 (s1.trans s2) r⟩⟩⟩
theorem ev_ixL (ha : EV X a δ (.lst ds)) (hb : EV X b δ (.int i)) (hd : atI ds i = some d) (hs : PlainIx b := by intro _ _; rfl) : EV X (.Subscript a b pos) δ d :=
  EV_imp (pe_ix ix_list ha.run hb.run hs) fun _ H Q ⟨S, k⟩ => ⟨S, fun v H1 s1 r1 => ⟨S.mono s1, fun w H2 s2 r2 => by
    unfold Is at r1 r2
    obtain ⟨p, xs, rfl, q, l⟩ := r1
    obtain ⟨z, e, r⟩ := (IsL.mono s2 ds l).at hd
    exact ⟨p, xs, i, z, rfl, r2, s2.seq q, e, k z H2 (s1.trans s2) r⟩⟩⟩
theorem ev_fld {C : Addr} {ns : List Str} {f : Str} (ha : EV X a δ (.obj C ns ds)) (cl : Cls X.K C) (na : NoAttr X.K C f) (hd : (ns.zip ds).lookup f = some d) (hb : attributeBase a f X.env (eval a X.env) = eval a X.env := by rfl) : EV X (.Attribute a f pos) δ d :=
  EV_imp (pe_fld ha.run hb) fun _ H Q ⟨S, k⟩ => ⟨S, fun v H1 s1 r1 => by
    unfold Is at r1
    obtain ⟨p, dx, vs, rfl, q, l, r⟩ := r1
    obtain ⟨z, e, rz⟩ := zip_look l r hd
    exact ⟨p, C, dx, _, z, rfl, q, cl, na, e, k z H1 s1 rz⟩⟩

/-! ### statements -/
theorem ss_nil : SS X [] δ (.nx δ) := SS_imp pss_nil fun D σ H ⟨S, k⟩ => k σ H (Same.refl H) S
theorem ss_cons (h1 : ST X st δ (.nx δ1)) (h2 : SS X rest δ1 o) : SS X (st :: rest) δ o :=
  SS_imp (pss_cons h1.run h2.run) fun D σ H ⟨S, k⟩ => ⟨S, fun σ' H' s' S' => ⟨S', k.mono s'⟩⟩
theorem ss_ret (h1 : ST X st δ (.rt d)) : SS X (st :: rest) δ (.rt d) := SS_imp (pss_cons h1.run pss_never) fun D σ H ⟨S, k⟩ => ⟨S, k⟩
theorem st_ret (h : EV X e δ d) : ST X (.Return (some e) pos) δ (.rt d) := ST_imp (ps_ret h.run) fun D σ H ⟨S, k⟩ => ⟨S, fun v H1 s1 r1 => k v H1 s1 r1⟩
theorem st_set (k : Nat) {x : Str} (h : EV X e δ d) (nd : X.N.Nodup) (hi : X.N[k]? = some x := by rfl) (hx : Loc X.env.scope x := by first | exact Or.inl rfl | exact Or.inr rfl)
    (hs : swapsWith e (some (.Name x pos')) pos.line X.env = pure false := by exact swaps_of rfl) (hf : X.fn x = true ∨ X.env.scope.names.lookup x = some .local := by first | exact .inl rfl | exact .inr rfl) :
    ST X (.Assign [.Name x pos'] e pos) δ (.nx (δ.set k (some d))) :=
  ST_imp (ps_set nd hi hx h.run hs hf) fun D σ H ⟨S, g⟩ => ⟨S, fun v H1 s1 r1 => g _ H1 s1 ((S.mono s1).set k r1)⟩
theorem st_if (hc : ET X c δ p) (ht : p = true → SS X th δ o) (hf : p = false → SS X el δ o) : ST X (.If c th el pos) δ o := by
  cases p with
  | true => exact ST_imp (ps_if hc.run (ht rfl).run pss_never) fun D σ H ⟨S, g⟩ => ⟨S, fun H1 s1 => iteT ⟨S.mono s1, g.mono s1⟩⟩
  | false => exact ST_imp (ps_if hc.run pss_never (hf rfl).run) fun D σ H ⟨S, g⟩ => ⟨S, fun H1 s1 => iteF ⟨S.mono s1, g.mono s1⟩⟩
theorem st_ifT (hc : ET X c δ p) (hp : p = true) (ht : SS X th δ o) : ST X (.If c th el pos) δ o := st_if hc (fun _ => ht) fun h => by rw [hp] at h; cases h
theorem st_ifF (hc : ET X c δ p) (hp : p = false) (ht : SS X el δ o) : ST X (.If c th el pos) δ o := st_if hc (fun h => by rw [hp] at h; cases h) fun _ => ht
/-- if c: .. return d1, then the rest returns d2 -/
theorem ss_ifR (hc : ET X c δ p) (ht : p = true → SS X th δ (.rt d1)) (hf : p = false → SS X rest δ (.rt d2)) : SS X (.If c th [] pos :: rest) δ (.rt (if p = true then d1 else d2)) := by
  cases p with
  | true => exact ss_ret (st_ifT hc rfl (ht rfl))
  | false => exact ss_cons (st_ifF hc rfl ss_nil) (hf rfl)
/-- .. where the test is false -/
theorem ss_skip (hc : ET X c δ p) (hp : p = false) (h : SS X rest δ o) : SS X (.If c th [] pos :: rest) δ o := ss_cons (st_ifF hc hp ss_nil) h
theorem set_same {k : Nat} (h : δ[k]? = some (some d)) : δ.set k (some d) = δ := by
  apply List.ext_getElem?
  intro n
  by_cases c : k = n
  · subst c
    rw [List.getElem?_set_self', h]
    rfl
  · rw [List.getElem?_set_ne c]
/-- if c: x = .. -/
theorem st_ifS (k : Nat) (h0 : δ[k]? = some (some d2)) (hc : ET X c δ p) (ht : p = true → SS X th δ (.nx (δ.set k (some d1)))) : ST X (.If c th [] pos) δ (.nx (δ.set k (some (if p = true then d1 else d2)))) := by
  cases p with
  | true => exact st_ifT hc rfl (ht rfl)
  | false => exact st_ifF hc rfl (by rw [if_neg Bool.false_ne_true, set_same h0]; exact ss_nil)
/-- a, b = a tuple of two -/
theorem st_unpack (k l : Nat) {x y : Str} {px py pt : Pos} {kt : Nat} (hc : X.calm = true) (nd : X.N.Nodup) (h : EV X e δ (.tup [d1, d2])) (hi : X.N[k]? = some x := by rfl) (hj : X.N[l]? = some y := by rfl)
    (hx : Loc X.env.scope x := by first | exact Or.inl rfl | exact Or.inr rfl) (hy : Loc X.env.scope y := by first | exact Or.inl rfl | exact Or.inr rfl)
    (hf : X.fn x = true ∨ X.env.scope.names.lookup x = some .local := by first | exact .inl rfl | exact .inr rfl) (hf' : X.fn y = true ∨ X.env.scope.names.lookup y = some .local := by first | exact .inl rfl | exact .inr rfl)
    (hs : swapsWithSole [.Tuple [.Name x px, .Name y py] kt pt] e pos.line X.env = pure false := by rfl) (hw : swappedStores [.Tuple [.Name x px, .Name y py] kt pt] e X.env = pure none := by rfl) :
    ST X (.Assign [.Tuple [.Name x px, .Name y py] kt pt] e pos) δ (.nx ((δ.set k (some d1)).set l (some d2))) :=
  ST_imp (ps_asg h.run (pg_tup (n := 2) hc (pgs_cons (pg_name nd hi hx hf) (pgs_cons (pg_name nd hj hy hf') pgs_nil))) hs hw) fun D σ H ⟨S, g⟩ => ⟨S, fun v H1 s1 r1 => by
    unfold Is at r1
    obtain ⟨p, xs, rfl, q, r⟩ := r1
    unfold IsL at r
    obtain ⟨v1, r2, rfl, q1, r⟩ := r
    unfold IsL at r
    obtain ⟨v2, r3, rfl, q2, r⟩ := r
    unfold IsL at r
    subst r
    exact ⟨p, _, rfl, q, rfl, v1, _, rfl, v2, _, rfl, rfl, g _ H1 s1 (((S.mono s1).set k q1).set l q2)⟩⟩
/-- a, b = x, y -/
theorem st_par (k l : Nat) {x y : Str} {px py pt pt2 : Pos} {kt k2 : Nat} (hkl : k ≠ l) (hc : X.calm = true) (nd : X.N.Nodup) (h : EA X [a, b] δ [d1, d2]) (hi : X.N[k]? = some x := by rfl) (hj : X.N[l]? = some y := by rfl)
    (hx : X.env.scope.names.lookup x = some .local := by rfl) (hy : X.env.scope.names.lookup y = some .local := by rfl)
    (hw : swappedStores [.Tuple [.Name x px, .Name y py] kt pt] (.Tuple [a, b] k2 pt2) X.env = pure (some [x, y]) := by rfl)
    (hs : swapsWithSole [.Tuple [.Name x px, .Name y py] kt pt] (.Tuple [a, b] k2 pt2) pos.line X.env = pure false := by rfl) :
    ST X (.Assign [.Tuple [.Name x px, .Name y py] kt pt] (.Tuple [a, b] k2 pt2) pos) δ (.nx ((δ.set k (some d1)).set l (some d2))) :=
  ST_imp (ps_par hc nd hi hj hkl hx hy h.run hw hs) fun D σ H ⟨S, g⟩ => ⟨S, fun vs H1 s1 r1 => by
    unfold IsL at r1
    obtain ⟨v1, r2, rfl, q1, r⟩ := r1
    unfold IsL at r
    obtain ⟨v2, r3, rfl, q2, r⟩ := r
    unfold IsL at r
    subst r
    exact ⟨v1, v2, rfl, g _ H1 s1 (((S.mono s1).set k q1).set l q2)⟩⟩

/-! ### loops -/
inductive ForL (X : Cx) (i : Nat) (body : List Stmt) : List D → Sd → O → Prop where
  | nil {δ : Sd} : ForL X i body [] δ (.nx δ)
  | cons {d : D} {ds : List D} {δ δ1 : Sd} {o : O} : SS X body (δ.set i (some d)) (.nx δ1) → ForL X i body ds δ1 o → ForL X i body (d :: ds) δ o
  | cont {d : D} {ds : List D} {δ δ1 : Sd} {o : O} : SS X body (δ.set i (some d)) (.ct δ1) → ForL X i body ds δ1 o → ForL X i body (d :: ds) δ o
  | brk {d : D} {ds : List D} {δ δ1 : Sd} : SS X body (δ.set i (some d)) (.bk δ1) → ForL X i body (d :: ds) δ (.nx δ1)
  | ret {d r : D} {ds : List D} {δ : Sd} : SS X body (δ.set i (some d)) (.rt r) → ForL X i body (d :: ds) δ (.rt r)
def tAny (X : Cx) (body : List Stmt) : TS := fun D σ H => ∃ δ o, SS X body δ o ∧ rS X.K δ o D σ H
theorem pss_any : PSs X body (tAny X body) := fun pins s σ H D I ⟨_, _, h, q⟩ => h.run pins s σ H D I q
/-- one turn of a for -/
theorem for_turn {k : Nat} {ds : List D} {D : Ends} {σ : L2.St} {H H1 : Hp} {v : V} {Nx : L2.St → Hp → Prop} {o : O} (hL : ForL X k body (d :: ds) δ o) (S : IsS X.K H δ σ) (r : Is X.K H d v) (s1 : Same H1 H) (g : rO X.K o D H1)
    (hN : ∀ σ' H' δ', Same H1 H' → Same H H' → IsS X.K H' δ' σ' → ForL X k body ds δ' o → Nx σ' H') : tAny X body { D with nx := Nx, ct := Nx, bk := D.nx } (σ.set k (some v)) H := by
  cases hL with
  | cons h1 h2 => exact ⟨_, _, h1, S.set k r, fun σ' H' s' S' => hN σ' H' _ (s1.trans s') s' S' h2⟩
  | cont h1 h2 => exact ⟨_, _, h1, S.set k r, fun σ' H' s' S' => hN σ' H' _ (s1.trans s') s' S' h2⟩
  | brk h1 => exact ⟨_, _, h1, S.set k r, fun σ' H' s' S' => g σ' H' (s1.trans s') S'⟩
  | ret h1 => exact ⟨_, _, h1, S.set k r, fun v' H' s' S' => g v' H' (s1.trans s') S'⟩
theorem for_end {k : Nat} {D : Ends} {σ : L2.St} {H H1 : Hp} (hL : ForL X k body [] δ o) (S : IsS X.K H δ σ) (s1 : Same H1 H) (g : rO X.K o D H1) : D.nx σ H := by
  cases hL
  exact g σ H s1 S
theorem st_forL (k : Nat) {x : Str} {p2 : Pos} (hp : PassesOwn (model X.prog X.w) X.A X.env X.xe) (hc : X.calm = true) (nd : X.N.Nodup) (hit : EV X e δ (.lst ds)) (hL : ForL X k body ds δ o) (hi : X.N[k]? = some x := by rfl)
    (hx : Loc X.env.scope x := by first | exact Or.inl rfl | exact Or.inr rfl) (hf : X.fn x = true ∨ X.env.scope.names.lookup x = some .local := by first | exact .inl rfl | exact .inr rfl)
    (hs : ∀ x, foldedSetIterable e X.env x = pure x := by intro _; rfl) : ST X (.For (.Name x p2) e body [] pos) δ o :=
  ST_imp (ps_for hp hc (pi_list hit.run) (pg_name nd hi hx hf) pss_any hs) fun D σ H ⟨S, g⟩ => ⟨S, fun v H1 s1 r1 => by
    unfold Is at r1
    obtain ⟨a, xs, rfl, q, l⟩ := r1
    refine ⟨a, rfl, ⟨xs, q⟩, for_list (xs := xs) (fun n σ' H' => Same H1 H' ∧ ∃ δ', IsS X.K H' δ' σ' ∧ ForL X k body (ds.drop n) δ' o) ⟨Same.refl H1, δ, S.mono s1, by simpa using hL⟩ (fun n σ' H' _ h => h.1.seq q) ?_ ?_⟩
    · rintro n y σ' H' hn ⟨s2, δ', S', hL'⟩
      obtain ⟨z, hz, rz⟩ := IsL.back (IsL.mono s2 ds l) hn
      have hlt : n < ds.length := (List.getElem?_eq_some_iff.mp hz).1
      have hdr : ds.drop n = z :: ds.drop (n + 1) := by
        rw [List.drop_eq_getElem_cons hlt]
        rw [List.getElem?_eq_getElem hlt] at hz
        rw [Option.some.inj hz]
      rw [hdr] at hL'
      exact for_turn hL' S' rz s2 (g.mono s1) fun σ2 H2 δ2 s3 _ S2 hL2 => ⟨s3, δ2, S2, hL2⟩
    · rintro σ' H' ⟨s2, δ', S', hL'⟩
      rw [← l.len, List.drop_length] at hL'
      exact for_end hL' S' s2 (g.mono s1)⟩
def rangeD (n : Nat) : List D := (List.range n).map fun (k : Nat) => D.int (k : Int)
theorem rangeD_drop {n k : Nat} (h : k < n) : (rangeD n).drop k = D.int (k : Int) :: (rangeD n).drop (k + 1) := by
  have hl : k < (rangeD n).length := by simp [rangeD, h]
  rw [List.drop_eq_getElem_cons hl]
  simp [rangeD]
theorem st_forR (k : Nat) {x : Str} {p2 pr pc : Pos} {n : Int} (hp : PassesOwn (model X.prog X.w) X.A X.env X.xe) (hc : X.calm = true) (nd : X.N.Nodup) (hg : Gl X "range") (hm : X.mg "range" = none) (ha : EV X a δ (.int n)) (hn : -(2 ^ 62) ≤ n ∧ n < 2 ^ 62)
    (hL : ForL X k body (rangeD n.toNat) δ o) (hi : X.N[k]? = some x := by rfl)
    (hx : Loc X.env.scope x := by first | exact Or.inl rfl | exact Or.inr rfl) (hf : X.fn x = true ∨ X.env.scope.names.lookup x = some .local := by first | exact .inl rfl | exact .inr rfl) (hst : starEach [a] X.env = [(false, eval a X.env)] := by exact star_of rfl)
    (hs : ∀ x, foldedSetIterable (.Call (.Name "range" pr) [a] [] pc) X.env x = pure x := by intro _; rfl) : ST X (.For (.Name x p2) (.Call (.Name "range" pr) [a] [] pc) body [] pos) δ o :=
  ST_imp (ps_for hp hc (pi_range1 hg hm (ea_cons ha ea_nil hst).run hst) (pg_name nd hi hx hf) pss_any hs) fun D σ H ⟨S, g⟩ => ⟨S, fun vs H1 s1 r1 => by
    unfold IsL at r1
    obtain ⟨v1, r2, rfl, q1, r⟩ := r1
    unfold IsL at r
    subst r
    unfold Is at q1
    subst q1
    refine ⟨n, rfl, hn.1, hn.2, for_range (lo := 0) (n := n.toNat) (fun m σ' H' => Same H1 H' ∧ ∃ δ', IsS X.K H' δ' σ' ∧ ForL X k body ((rangeD n.toNat).drop m) δ' o) ⟨Same.refl H1, δ, S.mono s1, by simpa using hL⟩ ?_ ?_⟩
    · rintro m σ' H' hm' ⟨s2, δ', S', hL'⟩
      rw [rangeD_drop hm'] at hL'
      exact for_turn hL' S' (by unfold Is; rw [Int.zero_add]) s2 (g.mono s1) fun σ2 H2 δ2 s3 _ S2 hL2 => ⟨s3, δ2, S2, hL2⟩
    · rintro σ' H' ⟨s2, δ', S', hL'⟩
      have hl : (rangeD n.toNat).length = n.toNat := by simp [rangeD]
      rw [List.drop_eq_nil_of_le (by omega)] at hL'
      exact for_end hL' S' s2 (g.mono s1)⟩
theorem forR_fold {k : Nat} (g : Nat → Sd) (n : Nat) (h : ∀ m < n, SS X body ((g m).set k (some (.int (m : Int)))) (.nx (g (m + 1)))) : ForL X k body (rangeD n) (g 0) (.nx (g n)) := by
  have : ∀ j m : Nat, m + j = n → ForL X k body ((rangeD n).drop m) (g m) (.nx (g n)) := by
    intro j
    induction j with
    | zero =>
      intro m hm
      have e : m = n := by omega
      subst e
      have hl : (rangeD m).length = m := by simp [rangeD]
      rw [show (rangeD m).drop m = [] from List.drop_eq_nil_of_le (by omega)]
      exact .nil
    | succ j ih =>
      intro m hm
      rw [rangeD_drop (by omega)]
      exact .cons (h m (by omega)) (ih (m + 1) (by omega))
  simpa using this n 0 (by omega)
/-- the loop's own name behind k turns -/
def lastI : Nat → Option D
  | 0 => none
  | k + 1 => some (.int (k : Int))
end

/-! ### defs -/
def spD (K : PySem.W.Frag) (n : Nat) (R : List D → D → Prop) : Sp := fun vs H Q _ => ∃ ds d, ds.length = n ∧ IsL K H ds vs ∧ R ds d ∧ ∀ v H', Same H H' → Is K H' d v → Q v H'
/-- the def x of the module keeps R: its arguments ds, its answer d -/
structure DefD (P : Program) (w : World) (K : PySem.W.Frag) (mg : Str → Option Value) (base : Heap) (k : Nat) (x : Str) (ps : List Str) (R : List D → D → Prop) : Prop where
  ex : ∃ f fd, FnOk P w K mg base CX0 k f fd ps (spD K ps.length R) ∧ mg x = some (.ref f) ∧ PySem.W.keepIn K (.ref f) = true ∧ Binds K fd ps []
/-- the method m of the class at C -/
structure MethD (P : Program) (w : World) (K : PySem.W.Frag) (mg : Str → Option Value) (base : Heap) (k : Nat) (C : Addr) (m : Str) (ps : List Str) (R : List D → D → Prop) : Prop where
  cl : Cls K C
  ex : ∃ f fd, FnOk P w K mg base CX0 k f fd ps (spD K ps.length R) ∧ Meth K C m f ∧ Binds K fd ps []
def startD (N : List Str) (ds : List D) : Sd := ds.map some ++ List.replicate (N.length - ds.length) none
theorem start_is {K : PySem.W.Frag} {H : Hp} {N : List Str} {ds : List D} {vs : List V} (h : IsL K H ds vs) : IsS K H (startD N ds) (L2.start N vs) := by
  refine ⟨by simp [L2.start, startD, h.len], fun i d e => ?_⟩
  unfold startD at e
  unfold L2.start
  rcases Nat.lt_or_ge i ds.length with c | c
  · rw [List.getElem?_append_left (by simpa using c), List.getElem?_map] at e
    cases z : ds[i]? with
    | none => rw [z] at e; cases e
    | some y =>
      rw [z] at e
      cases e
      obtain ⟨v, e2, q⟩ := IsL.get h z
      refine ⟨v, ?_, q⟩
      rw [List.getElem?_append_left (by rw [List.length_map, ← h.len]; exact c), List.getElem?_map, e2]
      rfl
  · rw [List.getElem?_append_right (by simpa using c), List.getElem?_replicate] at e
    split at e <;> cases e
theorem def_ok {P : Program} {w : World} {K : PySem.W.Frag} {mg : Str → Option Value} {base : Heap} {x qual : Str} {st : Stmt} {f : Addr} {fd : FuncData} {N ps : List Str} {k : Nat} {R : List D → D → Prop} (F : Fun K x qual st f fd) (S : FnScope N ps (defScope st))
    (h : ∀ (cdv : Value) (A : Around) (outer : List Env) (s : Shared) (H : Hp) (E : XK) (ds : List D) (d : D), Room k (A.deeper (envOfC qual (defScope st) s.heap.objs.size f cdv)) → ds.length = ps.length → R ds d →
      SS (cxOf CX0 P w K mg base N qual (defScope st) f cdv A outer s H E).nox (defBody st) (startD N ds) (.rt d)) : FnOk P w K mg base CX0 (k + 1) f fd ps (spD K ps.length R) := by
  refine F.ok S (fun vs H Q E ⟨ds, d, hl, r, _⟩ => by rw [← r.len]; exact hl) (fun cdv A outer s H vs Q E hr ⟨ds, d, hl, r, hR, q⟩ => ?_)
  exact ⟨_, (h cdv A outer s H E ds d hr hl hR).run, start_is r, fun v H' s' r' => q v H' s' r'⟩
section
variable {X : Cx} {e a : Expr} {es : List Expr} {δ : Sd} {d : D} {ds fs : List D} {k : Nat} {x m : Str} {ps ns : List Str} {R : List D → D → Prop} {p pos apos : Pos} {C : Addr}
theorem ev_call (G : DefD X.prog X.w X.K X.mg X.base k x ps R) (hr : Room k X.A) (hg : Gl X x) (ha : EA X (e :: es) δ ds) (hl : ds.length = ps.length) (hR : R ds d) (hdb : (x == ("__debug__" : Str)) = false := by decide)
    (he : starEach (e :: es) X.env = (false, eval e X.env) :: starEach es X.env := by exact star_of rfl) (hpl : (backTo pos (starEach es X.env)).any (·.1) = false := by exact plain_of rfl) : EV X (.Call (.Name x p) (e :: es) [] pos) δ d := by
  obtain ⟨f, fd, F, hm, hk, hb⟩ := G.ex
  exact EV_imp (pe_call F hr hg hm hk hb .nil pass0 ha.run hdb he hpl) fun _ H Q ⟨S, q⟩ => ⟨S, fun vs H1 s1 r1 => by
    show spD X.K ps.length R (vs ++ []) H1 Q E0
    rw [List.append_nil]
    exact ⟨ds, d, hl, r1, hR, fun v H' s' r' => q v H' (s1.trans s') r'⟩⟩
theorem ev_meth {pl : Sem Bool} (G : MethD X.prog X.w X.K X.mg X.base k C m ps R) (hr : Room k X.A) (ho : EV X a δ (.obj C ns fs)) (ha : EA X (e :: es) δ ds) (hn : m ∉ ns) (hl : (D.obj C ns fs :: ds).length = ps.length) (hR : R (.obj C ns fs :: ds) d)
    (he : starEach (e :: es) X.env = (false, eval e X.env) :: starEach es X.env := by exact star_of rfl) (hpl : (backTo pos (starEach es X.env)).any (·.1) = false := by exact plain_of rfl)
    (ht : eval (.Call (.Attribute a m apos) (e :: es) [] pos) X.env = (do
      let ov ← eval a X.env
      standAt apos.atName
      let (f, first) ← holding [ov] (getMethod ov m pl)
      callWith pos f first (backTo pos (starEach (e :: es) X.env)) (backToKw pos (keywordEach [] X.env))) := by rfl) : EV X (.Call (.Attribute a m apos) (e :: es) [] pos) δ d := by
  obtain ⟨f, fd, F, hm, hb⟩ := G.ex
  exact EV_imp (pe_meth (pl := pl) ho.run G.cl hm F hr hb .nil pass0 ha.run he hpl ht) fun _ H Q ⟨S, q⟩ => ⟨S, fun v H1 s1 r1 => by
    have r0 := r1
    unfold Is at r1
    obtain ⟨b, dx, vs, rfl, hb, l, r⟩ := r1
    refine ⟨b, dx, _, rfl, hb, zip_none hn, S.mono s1, fun us H2 s2 r2 => ?_⟩
    show spD X.K ps.length R (.ref b :: (us ++ [])) H2 Q E0
    rw [List.append_nil]
    exact ⟨_, d, hl, by unfold IsL; exact ⟨_, _, rfl, Is.mono s2 _ r0, r2⟩, hR, fun v H' s' r' => q v H' ((s1.trans s2).trans s') r'⟩⟩
theorem ev_meth0 {pl : Sem Bool} (G : MethD X.prog X.w X.K X.mg X.base k C m ps R) (hr : Room k X.A) (ho : EV X a δ (.obj C ns fs)) (hn : m ∉ ns) (hl : [D.obj C ns fs].length = ps.length) (hR : R [.obj C ns fs] d)
    (ht : eval (.Call (.Attribute a m apos) [] [] pos) X.env = (do
      let ov ← eval a X.env
      standAt apos.atName
      let (f, first) ← holding [ov] (getMethod ov m pl)
      callWith pos f first (backTo pos (starEach [] X.env)) (backToKw pos (keywordEach [] X.env))) := by rfl) : EV X (.Call (.Attribute a m apos) [] [] pos) δ d := by
  obtain ⟨f, fd, F, hm, hb⟩ := G.ex
  exact EV_imp (pe_meth0 (pl := pl) ho.run G.cl hm F hr hb .nil pass0 ht) fun _ H Q ⟨S, q⟩ => ⟨S, fun v H1 s1 r1 => by
    have r0 := r1
    unfold Is at r1
    obtain ⟨b, dx, vs, rfl, hb, l, r⟩ := r1
    exact ⟨b, dx, _, rfl, hb, zip_none hn, _, d, hl, by unfold IsL; exact ⟨_, _, rfl, r0, by unfold IsL; rfl⟩, hR, fun v H' s' r' => q v H' (s1.trans s') r'⟩⟩
/-- C(..): what __init__ promises of the new instance -/
def spI (K : PySem.W.Frag) (C : Addr) (n : Nat) (ns : List Str) (R : List D → List D → Prop) : Sp := fun vs H Q _ => ∃ b dx rest ds fs, vs = .ref b :: rest ∧ H b = some (.ins C dx []) ∧ (ds.length + 1 = n) ∧ IsL K H ds rest ∧ R ds fs ∧
  ∀ H', (∀ z o, H z = some o → z ≠ b → H' z = some o) → (∃ us, H' b = some (.ins C dx (ns.zip us)) ∧ IsL K H' fs us) → Q .non H'
structure MakeD (P : Program) (w : World) (K : PySem.W.Frag) (mg : Str → Option Value) (base : Heap) (k : Nat) (x : Str) (C : Addr) (ps ns : List Str) (R : List D → List D → Prop) : Prop where
  ex : ∃ f fd, FnOk P w K mg base CX0 k f fd ps (spI K C ps.length ns R) ∧ Mk K C f ∧ mg x = some (.ref C) ∧ Binds K fd ps []
theorem ev_make {R : List D → List D → Prop} (G : MakeD X.prog X.w X.K X.mg X.base k x C ps ns R) (hr : Room (k + 1) X.A) (hg : Gl X x) (ha : EA X (e :: es) δ ds) (hl : ds.length + 1 = ps.length) (hf : ns.length = fs.length) (hR : R ds fs) (hdb : (x == ("__debug__" : Str)) = false := by decide)
    (he : starEach (e :: es) X.env = (false, eval e X.env) :: starEach es X.env := by exact star_of rfl) (hpl : (backTo pos (starEach es X.env)).any (·.1) = false := by exact plain_of rfl) : EV X (.Call (.Name x p) (e :: es) [] pos) δ (.obj C ns fs) := by
  obtain ⟨f, fd, F, M, hm, hb⟩ := G.ex
  exact EV_imp (pe_make M F hr hg hm hb .nil pass0 ha.run hdb he hpl) fun _ H Q ⟨S, q⟩ => ⟨S, fun vs H1 s1 r1 z dz hz hdz hne => by
    rw [List.append_nil]
    have s2 : Same H1 (upd (upd H1 dz (.own z)) z (.ins C dz [])) := fun b o e => by
      rw [upd_ne (ne_of_none e hz), upd_ne (ne_of_none e hdz)]
      exact e
    refine ⟨z, dz, vs, ds, fs, rfl, upd_same, hl, IsL.mono s2 ds r1, hR, fun H' kp ⟨us, hu, ru⟩ => ⟨rfl, q _ H' ?_ ?_⟩⟩
    · intro b o e
      have e1 := s1 b o e
      exact kp b o (s2 b o e1) (ne_of_none e1 hz)
    · unfold Is
      exact ⟨z, dz, us, rfl, hu, hf, ru⟩⟩
end

/-! ### builtins -/
section
variable {X : Cx} {e a b : Expr} {es : List Expr} {δ : Sd} {d : D} {ds : List D} {i j : Int} {q : Bool} {p pos : Pos}
theorem ev_callB {x : Str} {id : String} {r : List V → Hp → VK → Prop} (hc : CallR X (.builtin id) r) (hg : Gl X x) (hm : X.mg x = none) (hv : bootBuiltins x = some (.builtin id)) (ha : EA X (e :: es) δ ds)
    (hr : ∀ vs H (Q : VK), IsL X.K H ds vs → (∀ v H', Same H H' → Is X.K H' d v → Q v H') → r vs H Q) (hn : x ≠ "__name__" := by decide) (hdb : (x == ("__debug__" : Str)) = false := by decide)
    (he : starEach (e :: es) X.env = (false, eval e X.env) :: starEach es X.env := by exact star_of rfl) (hpl : (backTo pos (starEach es X.env)).any (·.1) = false := by exact plain_of rfl) : EV X (.Call (.Name x p) (e :: es) [] pos) δ d :=
  EV_imp (pe_callB hc hg hm hv ha.run hn hdb he hpl) fun _ H Q ⟨S, g⟩ => ⟨S, fun vs H1 s1 r1 => hr vs H1 Q r1 fun v H' s' r' => g v H' (s1.trans s') r'⟩
theorem ev_callTy {x : Str} {T : String} {r : List V → Hp → VK → Prop} (hc : CallR X (.type T) r) (hg : Gl X x) (hm : X.mg x = none) (hv : bootBuiltins x = some (.type T)) (ha : EA X (e :: es) δ ds)
    (hr : ∀ vs H (Q : VK), IsL X.K H ds vs → (∀ v H', Same H H' → Is X.K H' d v → Q v H') → r vs H Q) (hn : x ≠ "__name__" := by decide) (hdb : (x == ("__debug__" : Str)) = false := by decide)
    (he : starEach (e :: es) X.env = (false, eval e X.env) :: starEach es X.env := by exact star_of rfl) (hpl : (backTo pos (starEach es X.env)).any (·.1) = false := by exact plain_of rfl) : EV X (.Call (.Name x p) (e :: es) [] pos) δ d :=
  EV_imp (pe_callTy hc hg hm hv ha.run hn hdb he hpl) fun _ H Q ⟨S, g⟩ => ⟨S, fun vs H1 s1 r1 => hr vs H1 Q r1 fun v H' s' r' => g v H' (s1.trans s') r'⟩
theorem isL_one {K : PySem.W.Frag} {H : Hp} {vs : List V} (h : IsL K H [d] vs) : ∃ v, vs = [v] ∧ Is K H d v := by
  unfold IsL at h
  obtain ⟨v, r, rfl, q, z⟩ := h
  unfold IsL at z
  subst z
  exact ⟨v, rfl, q⟩
theorem isL_two {K : PySem.W.Frag} {H : Hp} {d' : D} {vs : List V} (h : IsL K H [d, d'] vs) : ∃ v w, vs = [v, w] ∧ Is K H d v ∧ Is K H d' w := by
  unfold IsL at h
  obtain ⟨v, r, rfl, q, z⟩ := h
  obtain ⟨w, rfl, q'⟩ := isL_one z
  exact ⟨v, w, rfl, q, q'⟩
theorem ev_lenL (hg : Gl X "len") (hm : X.mg "len" = none) (ha : EV X e δ (.lst ds)) (hst : starEach [e] X.env = [(false, eval e X.env)] := by exact star_of rfl) : EV X (.Call (.Name "len" p) [e] [] pos) δ (.int ds.length) :=
  ev_callB call_len_seq hg hm PySem.boot_len (ea_cons ha ea_nil hst) (fun vs H Q h k => by
    obtain ⟨v, rfl, q⟩ := isL_one h
    unfold Is at q
    obtain ⟨b, xs, rfl, q, l⟩ := q
    refine ⟨b, xs, rfl, .inl q, k _ H (Same.refl H) ?_⟩
    unfold Is
    rw [l.len]) (he := hst) (hpl := rfl)
theorem ev_intB (hg : Gl X "int") (hm : X.mg "int" = none) (ha : EV X e δ (.bl q)) (hst : starEach [e] X.env = [(false, eval e X.env)] := by exact star_of rfl) : EV X (.Call (.Name "int" p) [e] [] pos) δ (.int (if q = true then 1 else 0)) :=
  ev_callTy call_int1 hg hm (by rfl) (ea_cons ha ea_nil hst) (fun vs H Q h k => by
    obtain ⟨v, rfl, r⟩ := isL_one h
    unfold Is at r
    subst r
    exact .inr ⟨q, rfl, k _ H (Same.refl H) (by unfold Is; rfl)⟩) (he := hst) (hpl := rfl)
/-- the built-in type of a datum -/
def tyD : D → Option String
  | .non => some "NoneType"
  | .bl _ => some "bool"
  | .int _ => some "int"
  | .str _ => some "str"
  | .tup _ => some "tuple"
  | .lst _ => some "list"
  | .obj _ _ _ => none
  | .adr _ => none
theorem call_isinst {T : String} {t : String} (ht : tyD d = some t) (hk : PySem.W.kitOne X.K (.type t) (.type T) = some q) : CallR X (.builtin "isinstance") (fun xs H Q => ∃ x, xs = [x, .ty T] ∧ Is X.K H d x ∧ Q (.bl q) H) := by
  intro pins s σ H xs us Q I rv ⟨x, ex, hx, k⟩
  subst ex
  obtain ⟨u, w', rfl, r1, r2⟩ := vals2 rv
  obtain rfl : w' = Value.type T := r2
  have fin : ∀ tk, EP X pins σ Q (.bool q) { s with toks := tk } := fun tk => ⟨.bl q, H, I.tok tk, rfl, k⟩
  cases d with
  | non => cases ht; unfold Is at hx; subst hx; cases (show u = Value.none from r1); exact PySem.W.kia_one PySem.W.kitx_none I.kIn True.intro hk (fun z => nomatch z) fin
  | bl y => cases ht; unfold Is at hx; subst hx; cases (show u = Value.bool y from r1); exact PySem.W.kia_one PySem.W.kitx_bool I.kIn True.intro hk (fun z => nomatch z) fin
  | int i => cases ht; unfold Is at hx; subst hx; obtain ⟨t, z⟩ := (show ∃ t, u = Value.int i t from r1); cases z; exact PySem.W.kia_one PySem.W.kitx_int I.kIn True.intro hk (fun z => nomatch z) fin
  | str y => cases ht; unfold Is at hx; subst hx; obtain ⟨t, z⟩ := (show ∃ t, u = Value.str y t from r1); cases z; exact PySem.W.kia_one PySem.W.kitx_str I.kIn True.intro hk (fun z => nomatch z) fin
  | tup ds =>
    cases ht
    unfold Is at hx
    obtain ⟨a, xs, rfl, z, l⟩ := hx
    cases (show u = Value.ref a from r1)
    obtain ⟨its, rv, ⟨o, h1, h2, n, h3⟩, _⟩ := I.tuple z
    exact PySem.W.kia_one PySem.W.kitx_tuple I.kIn ⟨o, h1, h2⟩ hk (fun z => nomatch z) fin
  | lst ds =>
    cases ht
    unfold Is at hx
    obtain ⟨a, xs, rfl, z, l⟩ := hx
    cases (show u = Value.ref a from r1)
    obtain ⟨its, rv, pl, _⟩ := I.list z
    obtain ⟨o, n, h1, h2, h3, h4⟩ := pl
    exact PySem.W.kia_one PySem.W.kitx_list I.kIn ⟨o, h1, h2⟩ hk (fun z => nomatch z) fin
  | obj C ns fs => cases ht
  | adr _ => cases ht
/-- isinstance(e, T) of a built-in type -/
theorem ev_isinst {t T : String} {y : Str} {p2 : Pos} (hg : Gl X "isinstance") (hm : X.mg "isinstance" = none) (ha : EV X e δ d) (hgT : Gl X y) (hmT : X.mg y = none) (hbT : bootBuiltins y = some (.type T)) (ht : tyD d = some t) (hk : PySem.W.kitOne X.K (.type t) (.type T) = some q)
    (hst : starEach [e, .Name y p2] X.env = (false, eval e X.env) :: starEach [.Name y p2] X.env := by exact star_of rfl) (hst2 : starEach [.Name y p2] X.env = [(false, eval (.Name y p2) X.env)] := by exact star_of rfl) (hn : y ≠ "__name__" := by decide) (hd : (y == ("__debug__" : Str)) = false := by decide) :
    EV X (.Call (.Name "isinstance" p) [e, .Name y p2] [] pos) δ (.bl q) := by
  have hT : PE X (.Name y p2) (tC (.ty T)) := pe_bltn hgT hmT hbT rfl hn hd
  refine EV_imp (pe_callB (call_isinst ht hk) hg hm (by rfl) (pa_cons ha.run (pa_cons hT pa_nil hst2) hst) (by decide) (by decide) hst (by rw [hst2]; rfl)) fun _ H Q ⟨S, g⟩ => ⟨S, fun v H1 s1 r1 => ?_⟩
  exact ⟨v, rfl, r1, g _ H1 s1 (by unfold Is; rfl)⟩
end
end EV

set_option Elab.async false
set_option linter.all false
set_option maxRecDepth 100000
set_option maxHeartbeats 4000000
namespace EV
open PySem PySem.Spec PyProof.Rows L2
/-! ### a dict of the module's top: whole numbers to things -/
def entI (e : Int × Tok × Value) : DictEntry := ⟨hashInt e.1, .int e.1 e.2.1, e.2.2⟩
structure KD (K : PySem.W.Frag) (mg : Str → Option Value) (x : Str) (ents : List (Int × Tok × Value)) : Prop where
  ex : ∃ a ep, mg x = some (.ref a) ∧ (a == sysModules) = false ∧ K.lookup a = some ⟨.type "dict", none, .dict (ents.map entI).toArray ep, #[]⟩
  nd : (ents.map (·.1)).Nodup
def pairI (e : Int × Tok × Value) : Int × Value := (e.1, e.2.2)
theorem pairs_ent {P : Program} {w : World} : ∀ ents : List (Int × Tok × Value), Pairs (intKind P w) (ents.map entI) (ents.map pairI)
  | [] => .nil
  | e :: r => .cons (by show Value.isInt e.1 (.int e.1 e.2.1) = true; simp [Value.isInt]) rfl (pairs_ent r)
theorem kd_dict {P : Program} {w : World} {h : Heap} {K : PySem.W.Frag} {a : Addr} {ep : Nat} {ents : List (Int × Tok × Value)} (X : K.In h) (hk : K.lookup a = some ⟨.type "dict", none, .dict (ents.map entI).toArray ep, #[]⟩) (nd : (ents.map (·.1)).Nodup) :
    h.DictOf (intKind P w) a (ents.map pairI) := by
  refine ⟨_, (ents.map entI).toArray, ep, X a _ hk, ⟨rfl, rfl, rfl⟩, rfl, ?_, by simpa using pairs_ent ents, ?_⟩
  · intro e he
    simp only [List.mem_toArray, List.mem_map] at he
    obtain ⟨z, _, rfl⟩ := he
    exact ⟨z.1, by show Value.isInt z.1 (.int z.1 z.2.1) = true; simp [Value.isInt], rfl⟩
  · have : (ents.map pairI).map (·.1) = ents.map (·.1) := by rw [List.map_map]; rfl
    rw [this]
    exact nd
section
variable {X : Cx} {a b : Expr} {δ : Sd} {d : D} {i : Int} {x : Str} {ents : List (Int × Tok × Value)} {pos p2 : Pos}
theorem ev_inKD (D0 : KD X.K X.mg x ents) (hg : Gl X x) (ha : EV X a δ (.int i)) (hm : behindInMarks .In (.Name x p2) = false := by with_unfolding_all rfl) (hd : (x == ("__debug__" : Str)) = false := by decide) :
    EV X (.Compare a [.In] [.Name x p2] pos) δ (.bl (valueAt (ents.map pairI) i).isSome) := by
  obtain ⟨l, ep, hmg, hsm, hk⟩ := D0.ex
  have hT : PE X (.Name x p2) (tC (.ref l)) := pe_glob hg hmg rfl hd
  have ho : OpR X (compareOp .In) (fun x y H Q => x = .int i ∧ y = .ref l ∧ Q (.bl (valueAt (ents.map pairI) i).isSome) H) := by
    intro pins s σ H x y v u Q I rx ry ⟨ex, ey, q⟩
    subst ex ey
    obtain ⟨t, rfl⟩ := (show ∃ t, v = Value.int i t from rx)
    obtain rfl : u = Value.ref l := ry
    exact wpAny_in_of (knd := intKind X.prog X.w) (k := i) (by show Value.isInt i (.int i t) = true; simp [Value.isInt]) hsm (kd_dict I.kIn hk D0.nd).mapOf ⟨.bl _, H, I.tok _, rfl, q⟩
  exact EV_imp (pe_cmpR ho ha.run hT hm) fun _ H Q ⟨S, q⟩ => ⟨S, fun v H1 s1 r1 => ⟨by unfold Is at r1; exact r1, rfl, q _ H1 s1 (by unfold Is; rfl)⟩⟩
/-- a tuple of two whole numbers of the module's top -/
structure GT (K : PySem.W.Frag) (mg : Str → Option Value) (x : Str) (a b : Int) : Prop where
  ex : ∃ z, mg x = some (.ref z) ∧ ∀ H, SqT K H z [.int a, .int b]
theorem ev_globT {i j : Int} (Z : GT X.K X.mg x i j) (hg : Gl X x) (hd : (x == ("__debug__" : Str)) = false := by decide) : EV X (.Name x pos) δ (.tup [.int i, .int j]) := by
  obtain ⟨z, hm, hz⟩ := Z.ex
  refine EV_imp (pe_glob (v := .ref z) hg hm rfl hd) fun _ H Q ⟨S, q⟩ => q _ H (Same.refl H) ?_
  unfold Is
  refine ⟨z, _, rfl, hz H, ?_⟩
  unfold IsL
  refine ⟨_, _, rfl, by unfold Is; rfl, ?_⟩
  unfold IsL
  exact ⟨_, _, rfl, by unfold Is; rfl, by unfold IsL; rfl⟩
/-- a point of noughts at the module's top -/
structure GP (K : PySem.W.Frag) (mg : Str → Option Value) (x : Str) : Prop where
  ex : ∃ o z, mg x = some (.ref o) ∧ (∀ H, SqT K H o [.ref z, .ref z]) ∧ ∀ H, SqT K H z [.int 0, .int 0]
theorem ev_globP (Z : GP X.K X.mg x) (hg : Gl X x) (hd : (x == ("__debug__" : Str)) = false := by decide) : EV X (.Name x pos) δ (.tup [.tup [.int 0, .int 0], .tup [.int 0, .int 0]]) := by
  obtain ⟨o, z, hm, ho, hz⟩ := Z.ex
  refine EV_imp (pe_glob (v := .ref o) hg hm rfl hd) fun _ H Q ⟨S, q⟩ => q _ H (Same.refl H) ?_
  have hi : Is X.K H (.tup [.int 0, .int 0]) (.ref z) := by
    unfold Is
    refine ⟨z, _, rfl, hz H, ?_⟩
    unfold IsL
    refine ⟨_, _, rfl, by unfold Is; rfl, ?_⟩
    unfold IsL
    exact ⟨_, _, rfl, by unfold Is; rfl, by unfold IsL; rfl⟩
  unfold Is
  refine ⟨o, _, rfl, ho H, ?_⟩
  unfold IsL
  refine ⟨_, _, rfl, hi, ?_⟩
  unfold IsL
  exact ⟨_, _, rfl, hi, by unfold IsL; rfl⟩
/-- x[i], as the layer reads it -/
theorem pe_getKD {k : Nat} {v : V} {u : Value} (D0 : KD X.K X.mg x ents) (hg : Gl X x) (ha : PE X a (tVar k)) (hv : valueAt (ents.map pairI) i = some u) (rv : RelV v u) (hs : ∀ ov iv, subscripted a false ov iv = operate [ov, iv] (getItem ov iv) := by intro _ _; rfl) (hd : (x == ("__debug__" : Str)) = false := by decide) :
    PE X (.Subscript (.Name x p2) a pos) (fun σ H Q => σ[k]? = some (some (.int i)) ∧ Q v H) := by
  obtain ⟨l, ep, hmg, hsm, hk⟩ := D0.ex
  have hT : PE X (.Name x p2) (tC (.ref l)) := pe_glob hg hmg rfl hd
  have hi : IxR X (fun x y H Q => x = .ref l ∧ y = .int i ∧ Q v H) := by
    intro value slice pins s σ H x y vx vy Q I rx ry ⟨ex, ey, q⟩ hsub
    subst ex ey
    obtain rfl : vx = Value.ref l := rx
    obtain ⟨t, rfl⟩ := (show ∃ t, vy = Value.int i t from ry)
    have dd := kd_dict (P := X.prog) (w := X.w) I.kIn hk D0.nd
    exact tail_any dd.typeIs PySem.F.slot_dict_getitem.lookup (wpAny_getItem_of (knd := intKind X.prog X.w) (k := i) (by show Value.isInt i (.int i t) = true; simp [Value.isInt]) dd.mapOf hv ⟨v, H, I.tok _, rv, q⟩) hsub
  exact PE_imp (pe_ix hi hT ha hs) fun σ H Q ⟨h1, h2⟩ => ⟨_, h1, rfl, rfl, h2⟩
end
end EV
namespace Mt
/-! signs of c + b r, r the root of a whole number Δ that is no square -/
def sg (x : Int) : Int := if x > 0 then 1 else if x < 0 then -1 else 0
theorem sg_mul (x y : Int) : sg (x * y) = sg x * sg y := by
  unfold sg
  rcases Int.lt_trichotomy x 0 with h | h | h <;> rcases Int.lt_trichotomy y 0 with g | g | g
  · have := Int.mul_pos_of_neg_of_neg h g
    rw [if_pos this, if_neg (by omega), if_pos h, if_neg (by omega), if_pos g]; rfl
  · subst g; simp
  · have := Int.mul_neg_of_neg_of_pos h g
    rw [if_neg (by omega), if_pos this, if_neg (by omega), if_pos h, if_pos g]; rfl
  · subst h; simp
  · subst h; simp
  · subst h; simp
  · have := Int.mul_neg_of_pos_of_neg h g
    rw [if_neg (by omega), if_pos this, if_pos h, if_neg (by omega), if_pos g]; rfl
  · subst g; simp
  · have := Int.mul_pos h g
    rw [if_pos this, if_pos h, if_pos g]; rfl
theorem sq_lt {u v : Int} (h : u * u < v * v) : u.natAbs < v.natAbs := by
  rw [← Int.natAbs_mul_self' u, ← Int.natAbs_mul_self' v] at h
  have h' : u.natAbs * u.natAbs < v.natAbs * v.natAbs := by exact_mod_cast h
  exact Nat.mul_self_lt_mul_self_iff.mp h'
/-- the greater one of two tells the sign -/
theorem sg_add {u v : Int} (h : u.natAbs < v.natAbs) : sg (u + v) = sg v := by
  unfold sg
  rcases Int.lt_trichotomy v 0 with g | g | g
  · rw [if_neg (by omega), if_pos (by omega), if_neg (by omega), if_pos g]
  · subst g; simp at h
  · rw [if_pos (by omega), if_pos g]
theorem mul_lt_mul' {a b c d : Int} (h1 : a < b) (h2 : c < d) (ha : 0 ≤ a) (hc : 0 ≤ c) : a * c < b * d := by
  have hb : 0 < b := by omega
  have h3 : a * c ≤ b * c := Int.mul_le_mul_of_nonneg_right (by omega) hc
  have h4 : b * c < b * d := Int.mul_lt_mul_of_pos_left h2 hb
  omega
theorem sq_nn (a : Int) : 0 ≤ a * a := by
  rcases Int.le_total 0 a with h | h
  · exact Int.mul_nonneg h h
  · exact Int.mul_nonneg_of_nonpos_of_nonpos h h
/-- the norm -/
def nm (Δ c b : Int) : Int := c * c - Δ * b * b
def sn (Δ c b : Int) : Int := if nm Δ c b > 0 then sg c else if nm Δ c b < 0 then sg b else 0
theorem nm_mul (Δ c b e f : Int) : nm Δ (c * e + Δ * (b * f)) (c * f + b * e) = nm Δ c b * nm Δ e f := by
  unfold nm; grind
/-- the sign of a product -/
theorem sn_mul {Δ : Int} (hΔ : 0 ≤ Δ) (c b e f : Int) : sn Δ (c * e + Δ * (b * f)) (c * f + b * e) = sn Δ c b * sn Δ e f := by
  have hN := nm_mul Δ c b e f
  have q1 := sq_nn c; have q2 := sq_nn b; have q3 := sq_nn e; have q4 := sq_nn f
  have p2 : 0 ≤ Δ * b * b := by rw [Int.mul_assoc]; exact Int.mul_nonneg hΔ q2
  have p4 : 0 ≤ Δ * f * f := by rw [Int.mul_assoc]; exact Int.mul_nonneg hΔ q4
  unfold sn
  rw [hN]
  rcases Int.lt_trichotomy (nm Δ c b) 0 with h | h | h <;> rcases Int.lt_trichotomy (nm Δ e f) 0 with g | g | g
  · have hp := Int.mul_pos_of_neg_of_neg h g
    rw [if_pos hp, if_neg (by omega), if_pos h, if_neg (by omega), if_pos g]
    have k1 : c * c < Δ * b * b := by unfold nm at h; omega
    have k2 : e * e < Δ * f * f := by unfold nm at g; omega
    have k3 : (c * e) * (c * e) < (Δ * (b * f)) * (Δ * (b * f)) := by
      have := mul_lt_mul' k1 k2 q1 q3
      have e1 : c * c * (e * e) = (c * e) * (c * e) := by grind
      have e2 : Δ * b * b * (Δ * f * f) = (Δ * (b * f)) * (Δ * (b * f)) := by grind
      rw [e1, e2] at this; exact this
    rw [sg_add (sq_lt k3)]
    have hd : 0 < Δ := by
      rcases Int.lt_or_lt_of_ne (show Δ ≠ 0 from fun z => by rw [z] at k1; simp at k1; omega) with z | z
      · omega
      · exact z
    rw [sg_mul Δ, sg_mul b f]
    have : sg Δ = 1 := by unfold sg; rw [if_pos hd]
    rw [this, Int.one_mul]
  · rw [g, Int.mul_zero]; simp
  · have hp := Int.mul_neg_of_neg_of_pos h g
    rw [if_neg (by omega), if_pos hp, if_neg (by omega), if_pos h, if_pos g]
    have k1 : c * c < Δ * b * b := by unfold nm at h; omega
    have k2 : Δ * f * f < e * e := by unfold nm at g; omega
    have hd : 0 < Δ := by
      rcases Int.lt_or_lt_of_ne (show Δ ≠ 0 from fun z => by rw [z] at k1; simp at k1; omega) with z | z
      · omega
      · exact z
    have k3 : (c * f) * (c * f) < (b * e) * (b * e) := by
      have := mul_lt_mul' k1 k2 q1 p4
      have e1 : c * c * (Δ * f * f) = Δ * ((c * f) * (c * f)) := by grind
      have e2 : Δ * b * b * (e * e) = Δ * ((b * e) * (b * e)) := by grind
      rw [e1, e2] at this
      exact Int.lt_of_mul_lt_mul_left this (by omega)
    rw [sg_add (sq_lt k3), sg_mul]
  · rw [h, Int.zero_mul]; simp
  · rw [h, Int.zero_mul]; simp
  · rw [h, Int.zero_mul]; simp
  · have hp := Int.mul_neg_of_pos_of_neg h g
    rw [if_neg (by omega), if_pos hp, if_pos h, if_neg (by omega), if_pos g]
    have k1 : Δ * b * b < c * c := by unfold nm at h; omega
    have k2 : e * e < Δ * f * f := by unfold nm at g; omega
    have hd : 0 < Δ := by
      rcases Int.lt_or_lt_of_ne (show Δ ≠ 0 from fun z => by rw [z] at k2; simp at k2; omega) with z | z
      · omega
      · exact z
    have k3 : (b * e) * (b * e) < (c * f) * (c * f) := by
      have := mul_lt_mul' k1 k2 p2 q3
      have e1 : Δ * b * b * (e * e) = Δ * ((b * e) * (b * e)) := by grind
      have e2 : c * c * (Δ * f * f) = Δ * ((c * f) * (c * f)) := by grind
      rw [e1, e2] at this
      exact Int.lt_of_mul_lt_mul_left this (by omega)
    rw [Int.add_comm, sg_add (sq_lt k3), sg_mul]
  · rw [g, Int.mul_zero]; simp
  · have hp := Int.mul_pos h g
    rw [if_pos hp, if_pos h, if_pos g]
    have k1 : Δ * b * b < c * c := by unfold nm at h; omega
    have k2 : Δ * f * f < e * e := by unfold nm at g; omega
    have k3 : (Δ * (b * f)) * (Δ * (b * f)) < (c * e) * (c * e) := by
      have := mul_lt_mul' k1 k2 p2 p4
      have e1 : c * c * (e * e) = (c * e) * (c * e) := by grind
      have e2 : Δ * b * b * (Δ * f * f) = (Δ * (b * f)) * (Δ * (b * f)) := by grind
      rw [e1, e2] at this; exact this
    rw [Int.add_comm, sg_add (sq_lt k3), sg_mul]

theorem lt_or_ge (a b : Int) : a < b ∨ b ≤ a := by omega
theorem sq0 {k b : Nat} (hk : 0 < k) (e : 0 = k * b * b) : b = 0 := by
  rcases Nat.eq_zero_or_pos b with h | h
  · exact h
  · have := Nat.mul_pos (Nat.mul_pos hk h) h
    omega
theorem abs_mul_lt {Δ p q r s : Int} (hΔ : 0 ≤ Δ) (h1 : Δ * q * q ≤ p * p) (h2 : Δ * s * s ≤ r * r) (hp : 0 ≤ p) (hr : 0 ≤ r) : Δ * (q * s) ≤ p * r := by
  have a1 : 0 ≤ Δ * q * q := by rw [Int.mul_assoc]; exact Int.mul_nonneg hΔ (sq_nn q)
  have a2 : 0 ≤ Δ * s * s := by rw [Int.mul_assoc]; exact Int.mul_nonneg hΔ (sq_nn s)
  have h3 : (Δ * (q * s)) * (Δ * (q * s)) ≤ (p * r) * (p * r) := by
    have i1 : Δ * q * q * (Δ * s * s) ≤ p * p * (Δ * s * s) := Int.mul_le_mul_of_nonneg_right h1 a2
    have i2 : p * p * (Δ * s * s) ≤ p * p * (r * r) := Int.mul_le_mul_of_nonneg_left h2 (sq_nn p)
    have e1 : Δ * q * q * (Δ * s * s) = (Δ * (q * s)) * (Δ * (q * s)) := by grind
    have e2 : p * p * (r * r) = (p * r) * (p * r) := by grind
    rw [e1] at i1; rw [e2] at i2; omega
  have h4 : 0 ≤ p * r := Int.mul_nonneg hp hr
  rcases lt_or_ge (p * r) (Δ * (q * s)) with g | g
  · have := mul_lt_mul' g g h4 h4
    omega
  · exact g
/-- p > q r, r < s r (as far as the root goes) -/
theorem split1 {Δ p q r s : Int} (hΔ : 0 ≤ Δ) (hp : 0 ≤ p) (hq : 0 ≤ q) (hr : 0 ≤ r) (hs : 0 ≤ s) (h1 : Δ * q * q < p * p) (h2 : r * r < Δ * s * s) (h3 : p ≤ r) : q < s ∧ (r - p) * (r - p) < Δ * (s - q) * (s - q) := by
  have hpr : p * p ≤ r * r := Int.mul_le_mul h3 h3 hp hr
  have hqs : q < s := by
    rcases lt_or_ge q s with g | g
    · exact g
    · have a : s * s ≤ q * q := Int.mul_le_mul g g hs hq
      have b : Δ * (s * s) ≤ Δ * (q * q) := Int.mul_le_mul_of_nonneg_left a hΔ
      rw [← Int.mul_assoc, ← Int.mul_assoc] at b
      omega
  refine ⟨hqs, ?_⟩
  rcases lt_or_ge ((r - p) * (r - p)) (Δ * (s - q) * (s - q)) with g | g
  · exact g
  · exfalso
    have k := abs_mul_lt (Δ := Δ) (p := p) (q := q) (r := r - p) (s := s - q) hΔ (by omega) g hp (by omega)
    have e1 : Δ * s * s = Δ * q * q + 2 * (Δ * (q * (s - q))) + Δ * (s - q) * (s - q) := by grind
    have e2 : r * r = p * p + 2 * (p * (r - p)) + (r - p) * (r - p) := by grind
    omega
theorem split2 {Δ p q r s : Int} (hΔ : 0 ≤ Δ) (hp : 0 ≤ p) (hq : 0 ≤ q) (hr : 0 ≤ r) (hs : 0 ≤ s) (h1 : Δ * q * q < p * p) (h2 : r * r < Δ * s * s) (h3 : s ≤ q) : r < p ∧ Δ * (q - s) * (q - s) < (p - r) * (p - r) := by
  have a : s * s ≤ q * q := Int.mul_le_mul h3 h3 hs hq
  have b : Δ * (s * s) ≤ Δ * (q * q) := Int.mul_le_mul_of_nonneg_left a hΔ
  rw [← Int.mul_assoc, ← Int.mul_assoc] at b
  have hrp : r < p := by
    rcases lt_or_ge r p with g | g
    · exact g
    · have c : p * p ≤ r * r := Int.mul_le_mul g g hp hr
      omega
  refine ⟨hrp, ?_⟩
  rcases lt_or_ge (Δ * (q - s) * (q - s)) ((p - r) * (p - r)) with g | g
  · exact g
  · exfalso
    have k : r * (p - r) ≤ Δ * (s * (q - s)) := by
      have h4 : (r * (p - r)) * (r * (p - r)) ≤ (Δ * (s * (q - s))) * (Δ * (s * (q - s))) := by
        have i1 : r * r * ((p - r) * (p - r)) ≤ Δ * s * s * ((p - r) * (p - r)) := Int.mul_le_mul_of_nonneg_right (by omega) (sq_nn _)
        have i2 : Δ * s * s * ((p - r) * (p - r)) ≤ Δ * s * s * (Δ * (q - s) * (q - s)) := Int.mul_le_mul_of_nonneg_left g (by rw [Int.mul_assoc]; exact Int.mul_nonneg hΔ (sq_nn s))
        have e1 : r * r * ((p - r) * (p - r)) = (r * (p - r)) * (r * (p - r)) := by grind
        have e2 : Δ * s * s * (Δ * (q - s) * (q - s)) = (Δ * (s * (q - s))) * (Δ * (s * (q - s))) := by grind
        rw [e1] at i1; rw [e2] at i2; omega
      have n1 : 0 ≤ Δ * (s * (q - s)) := Int.mul_nonneg hΔ (Int.mul_nonneg hs (by omega))
      rcases lt_or_ge (Δ * (s * (q - s))) (r * (p - r)) with z | z
      · have := mul_lt_mul' z z n1 n1
        omega
      · exact z
    have e1 : p * p = r * r + 2 * (r * (p - r)) + (p - r) * (p - r) := by grind
    have e2 : Δ * q * q = Δ * s * s + 2 * (Δ * (s * (q - s))) + Δ * (q - s) * (q - s) := by grind
    omega
def Pos (Δ c b : Int) : Prop := (0 < c ∧ Δ * b * b < c * c) ∨ (0 < b ∧ c * c < Δ * b * b)
theorem sn_pos {Δ c b : Int} : sn Δ c b = 1 ↔ Pos Δ c b := by
  unfold sn nm sg Pos
  constructor
  · intro h
    split at h
    · split at h
      · exact .inl (by omega)
      · split at h <;> omega
    · split at h
      · split at h
        · exact .inr (by omega)
        · split at h <;> omega
      · omega
  · rintro (⟨h1, h2⟩ | ⟨h1, h2⟩)
    · rw [if_pos (by omega), if_pos (by omega)]
    · rw [if_neg (by omega), if_pos (by omega), if_pos (by omega)]
theorem absx (a : Int) : ∃ x : Int, 0 ≤ x ∧ x * x = a * a ∧ a ≤ x ∧ -a ≤ x ∧ (x = a ∨ x = -a) := by
  rcases Int.le_total 0 a with h | h
  · exact ⟨a, h, rfl, by omega, by omega, .inl rfl⟩
  · exact ⟨-a, by omega, by grind, by omega, by omega, .inr rfl⟩
def NoSq (Δ : Int) : Prop := ∀ c b : Int, c * c = Δ * b * b → c = 0 ∧ b = 0
theorem sqx {Δ a x : Int} (h : x * x = a * a) : Δ * x * x = Δ * a * a := by rw [Int.mul_assoc, h, Int.mul_assoc]
theorem pos_ab {Δ : Int} (hΔ : 0 ≤ Δ) (hn : NoSq Δ) {c1 b1 c2 b2 : Int} (h1 : 0 < c1) (h2 : Δ * b1 * b1 < c1 * c1) (h3 : 0 < b2) (h4 : c2 * c2 < Δ * b2 * b2) : Pos Δ (c1 + c2) (b1 + b2) := by
  obtain ⟨x, x0, xx, xa, xb, xc⟩ := absx b1
  obtain ⟨y, y0, yy, ya, yb, yc⟩ := absx c2
  have k1 : Δ * x * x < c1 * c1 := by rw [sqx xx]; exact h2
  have k2 : y * y < Δ * b2 * b2 := by rw [yy]; exact h4
  rcases Int.lt_trichotomy ((c1 + c2) * (c1 + c2)) (Δ * (b1 + b2) * (b1 + b2)) with g | g | g
  · refine .inr ⟨?_, g⟩
    rcases lt_or_ge 0 (b1 + b2) with z | z
    · exact z
    · exfalso
      obtain ⟨m1, m2⟩ := split2 hΔ (Int.le_of_lt h1) x0 y0 (Int.le_of_lt h3) k1 k2 (by omega)
      have e : x = -b1 := by omega
      subst e
      have e2 : Δ * (-b1 - b2) * (-b1 - b2) = Δ * (b1 + b2) * (b1 + b2) := by grind
      rw [e2] at m2
      have m3 : (c1 - y) * (c1 - y) ≤ (c1 + c2) * (c1 + c2) := Int.mul_le_mul (by omega) (by omega) (by omega) (by omega)
      omega
  · obtain ⟨z1, z2⟩ := hn _ _ g
    exfalso
    have e1 : c2 = -c1 := by omega
    have e2 : b1 = -b2 := by omega
    subst e1 e2
    have e3 : Δ * -b2 * -b2 = Δ * b2 * b2 := by grind
    have e4 : -c1 * -c1 = c1 * c1 := by grind
    omega
  · refine .inl ⟨?_, g⟩
    rcases lt_or_ge 0 (c1 + c2) with z | z
    · exact z
    · exfalso
      obtain ⟨m1, m2⟩ := split1 hΔ (Int.le_of_lt h1) x0 y0 (Int.le_of_lt h3) k1 k2 (by omega)
      have e : y = -c2 := by omega
      subst e
      have e2 : (-c2 - c1) * (-c2 - c1) = (c1 + c2) * (c1 + c2) := by grind
      rw [e2] at m2
      have m3 : (b2 - x) * (b2 - x) ≤ (b1 + b2) * (b1 + b2) := Int.mul_le_mul (by omega) (by omega) (by omega) (by omega)
      have m4 : Δ * ((b2 - x) * (b2 - x)) ≤ Δ * ((b1 + b2) * (b1 + b2)) := Int.mul_le_mul_of_nonneg_left m3 hΔ
      rw [← Int.mul_assoc, ← Int.mul_assoc] at m4
      omega
theorem pos_add {Δ : Int} (hΔ : 0 ≤ Δ) (hn : NoSq Δ) {c1 b1 c2 b2 : Int} (h1 : Pos Δ c1 b1) (h2 : Pos Δ c2 b2) : Pos Δ (c1 + c2) (b1 + b2) := by
  rcases h1 with ⟨h1, h2'⟩ | ⟨h1, h2'⟩ <;> rcases h2 with ⟨h3, h4⟩ | ⟨h3, h4⟩
  · refine .inl ⟨by omega, ?_⟩
    have k := abs_mul_lt (q := b1) (s := b2) hΔ (Int.le_of_lt h2') (Int.le_of_lt h4) (Int.le_of_lt h1) (Int.le_of_lt h3)
    have e1 : Δ * (b1 + b2) * (b1 + b2) = Δ * b1 * b1 + Δ * b2 * b2 + 2 * (Δ * (b1 * b2)) := by grind
    have e2 : (c1 + c2) * (c1 + c2) = c1 * c1 + c2 * c2 + 2 * (c1 * c2) := by grind
    omega
  · exact pos_ab hΔ hn h1 h2' h3 h4
  · rw [Int.add_comm c1, Int.add_comm b1]; exact pos_ab hΔ hn h3 h4 h1 h2'
  · refine .inr ⟨by omega, ?_⟩
    have k : c1 * c2 ≤ Δ * (b1 * b2) := by
      have h5 : (c1 * c2) * (c1 * c2) ≤ (Δ * (b1 * b2)) * (Δ * (b1 * b2)) := by
        have i1 : c1 * c1 * (c2 * c2) ≤ Δ * b1 * b1 * (c2 * c2) := Int.mul_le_mul_of_nonneg_right (by omega) (sq_nn _)
        have i2 : Δ * b1 * b1 * (c2 * c2) ≤ Δ * b1 * b1 * (Δ * b2 * b2) := Int.mul_le_mul_of_nonneg_left (by omega) (by rw [Int.mul_assoc]; exact Int.mul_nonneg hΔ (sq_nn _))
        have e1 : c1 * c1 * (c2 * c2) = (c1 * c2) * (c1 * c2) := by grind
        have e2 : Δ * b1 * b1 * (Δ * b2 * b2) = (Δ * (b1 * b2)) * (Δ * (b1 * b2)) := by grind
        rw [e1] at i1; rw [e2] at i2; omega
      have n1 : 0 ≤ Δ * (b1 * b2) := Int.mul_nonneg hΔ (Int.mul_nonneg (by omega) (by omega))
      rcases lt_or_ge (Δ * (b1 * b2)) (c1 * c2) with z | z
      · have := mul_lt_mul' z z n1 n1
        omega
      · exact z
    have e1 : Δ * (b1 + b2) * (b1 + b2) = Δ * b1 * b1 + Δ * b2 * b2 + 2 * (Δ * (b1 * b2)) := by grind
    have e2 : (c1 + c2) * (c1 + c2) = c1 * c1 + c2 * c2 + 2 * (c1 * c2) := by grind
    omega
theorem sg_neg (x : Int) : sg (-x) = - sg x := by
  unfold sg
  rcases Int.lt_trichotomy x 0 with h | h | h
  · rw [if_pos (by omega), if_neg (by omega), if_pos h]; rfl
  · subst h; simp
  · rw [if_neg (by omega), if_pos (by omega), if_pos h]
theorem sn_neg (Δ c b : Int) : sn Δ (-c) (-b) = - sn Δ c b := by
  have e : nm Δ (-c) (-b) = nm Δ c b := by unfold nm; grind
  unfold sn
  rw [e, sg_neg, sg_neg]
  split
  · rfl
  · split
    · rfl
    · rfl
theorem sg_cases (x : Int) : sg x = 1 ∨ sg x = 0 ∨ sg x = -1 := by
  unfold sg; split
  · exact .inl rfl
  · split
    · exact .inr (.inr rfl)
    · exact .inr (.inl rfl)
theorem sn_cases (Δ c b : Int) : sn Δ c b = 1 ∨ sn Δ c b = 0 ∨ sn Δ c b = -1 := by
  unfold sn; split
  · exact sg_cases c
  · split
    · exact sg_cases b
    · exact .inr (.inl rfl)
/-- no square: by the rest that a prime leaves again and again -/
theorem noSq_of {Δ : Int} (h : ∀ n : Nat, ∀ c b : Nat, c ≤ n → c * c = Δ.toNat * b * b → c = 0 ∧ b = 0) (hΔ : 0 ≤ Δ) : NoSq Δ := by
  intro c b e
  have e2 : (c.natAbs : Int) * c.natAbs = Δ * b.natAbs * b.natAbs := by
    rw [Int.natAbs_mul_self' c, Int.mul_assoc, Int.natAbs_mul_self' b, ← Int.mul_assoc]; exact e
  have e3 : c.natAbs * c.natAbs = Δ.toNat * b.natAbs * b.natAbs := by
    have : (Δ.toNat : Int) = Δ := Int.toNat_of_nonneg hΔ
    rw [← this] at e2
    exact_mod_cast e2
  have := h c.natAbs c.natAbs b.natAbs (Nat.le_refl _) e3
  omega
theorem par2 (c : Nat) (h : c * c % 2 = 0) : c % 2 = 0 := by
  rcases Nat.mod_two_eq_zero_or_one c with g | g
  · exact g
  · rw [Nat.mul_mod, g] at h; simp at h
theorem par3 (c : Nat) (h : c * c % 3 = 0) : c % 3 = 0 := by
  have : c % 3 = 0 ∨ c % 3 = 1 ∨ c % 3 = 2 := by omega
  rcases this with g | g | g
  · exact g
  · rw [Nat.mul_mod, g] at h; simp at h
  · rw [Nat.mul_mod, g] at h; simp at h
theorem par5 (c : Nat) (h : c * c % 5 = 0) : c % 5 = 0 := by
  have : c % 5 = 0 ∨ c % 5 = 1 ∨ c % 5 = 2 ∨ c % 5 = 3 ∨ c % 5 = 4 := by omega
  rcases this with g | g | g | g | g
  · exact g
  all_goals rw [Nat.mul_mod, g] at h; simp at h
theorem nosq2 : ∀ n c b : Nat, c ≤ n → c * c = 2 * b * b → c = 0 ∧ b = 0
  | 0, c, b, hc, e => by
    have : c = 0 := by omega
    subst this
    exact ⟨rfl, sq0 (k := 2) (by decide) (by simpa only [Nat.mul_zero] using e)⟩
  | n + 1, c, b, hc, e => by
    have h1 : c % 2 = 0 := par2 c (by rw [e, Nat.mul_assoc]; omega)
    obtain ⟨k, rfl⟩ : ∃ k, c = 2 * k := ⟨c / 2, by omega⟩
    have e2 : b * b = 2 * k * k := by grind
    have h2 : b % 2 = 0 := par2 b (by rw [e2, Nat.mul_assoc]; omega)
    obtain ⟨l, rfl⟩ : ∃ l, b = 2 * l := ⟨b / 2, by omega⟩
    have e3 : k * k = 2 * l * l := by grind
    have := nosq2 n k l (by omega) e3
    omega
theorem nosq3 : ∀ n c b : Nat, c ≤ n → c * c = 3 * b * b → c = 0 ∧ b = 0
  | 0, c, b, hc, e => by
    have : c = 0 := by omega
    subst this
    exact ⟨rfl, sq0 (k := 3) (by decide) (by simpa only [Nat.mul_zero] using e)⟩
  | n + 1, c, b, hc, e => by
    have h1 : c % 3 = 0 := par3 c (by rw [e, Nat.mul_assoc]; omega)
    obtain ⟨k, rfl⟩ : ∃ k, c = 3 * k := ⟨c / 3, by omega⟩
    have e2 : b * b = 3 * k * k := by grind
    have h2 : b % 3 = 0 := par3 b (by rw [e2, Nat.mul_assoc]; omega)
    obtain ⟨l, rfl⟩ : ∃ l, b = 3 * l := ⟨b / 3, by omega⟩
    have e3 : k * k = 3 * l * l := by grind
    have := nosq3 n k l (by omega) e3
    omega
theorem nosq5 : ∀ n c b : Nat, c ≤ n → c * c = 5 * b * b → c = 0 ∧ b = 0
  | 0, c, b, hc, e => by
    have : c = 0 := by omega
    subst this
    exact ⟨rfl, sq0 (k := 5) (by decide) (by simpa only [Nat.mul_zero] using e)⟩
  | n + 1, c, b, hc, e => by
    have h1 : c % 5 = 0 := par5 c (by rw [e, Nat.mul_assoc]; omega)
    obtain ⟨k, rfl⟩ : ∃ k, c = 5 * k := ⟨c / 5, by omega⟩
    have e2 : b * b = 5 * k * k := by grind
    have h2 : b % 5 = 0 := par5 b (by rw [e2, Nat.mul_assoc]; omega)
    obtain ⟨l, rfl⟩ : ∃ l, b = 5 * l := ⟨b / 5, by omega⟩
    have e3 : k * k = 5 * l * l := by grind
    have := nosq5 n k l (by omega) e3
    omega
theorem NoSq2 : NoSq 2 := noSq_of nosq2 (by decide)
theorem NoSq3 : NoSq 3 := noSq_of nosq3 (by decide)
theorem NoSq5 : NoSq 5 := noSq_of nosq5 (by decide)
theorem NoSq8 : NoSq 8 := fun c b e => by
  have := NoSq2 c (2 * b) (by grind)
  omega
theorem NoSq12 : NoSq 12 := fun c b e => by
  have := NoSq3 c (2 * b) (by grind)
  omega
end Mt
namespace My
open PySem L2 EV
/-! ### sizes -/
structure Bd (n : Nat) (i : Int) : Prop where
  lt : i.natAbs < 2 ^ n
theorem Bd.mono {n m : Nat} {i : Int} (h : Bd n i) (g : n ≤ m) : Bd m i := ⟨Nat.lt_of_lt_of_le h.lt (Nat.pow_le_pow_right (by decide) g)⟩
theorem Bd.mul {n m : Nat} {i j : Int} (h : Bd n i) (g : Bd m j) : Bd (n + m) (i * j) := by
  constructor
  rw [Int.natAbs_mul, Nat.pow_add]
  exact Nat.mul_lt_mul'' h.lt g.lt
theorem Bd.add {n m : Nat} {i j : Int} (h : Bd n i) (g : Bd m j) : Bd (max n m + 1) (i + j) := by
  have h' := (h.mono (Nat.le_max_left n m)).lt
  have g' := (g.mono (Nat.le_max_right n m)).lt
  constructor
  rw [Nat.pow_succ]
  omega
theorem Bd.sub {n m : Nat} {i j : Int} (h : Bd n i) (g : Bd m j) : Bd (max n m + 1) (i - j) := by
  have h' := (h.mono (Nat.le_max_left n m)).lt
  have g' := (g.mono (Nat.le_max_right n m)).lt
  constructor
  rw [Nat.pow_succ]
  omega
theorem Bd.neg {n : Nat} {i : Int} (h : Bd n i) : Bd n (-i) := ⟨by rw [Int.natAbs_neg]; exact h.lt⟩
theorem Bd.ite {n m : Nat} {i j : Int} {c : Prop} [Decidable c] (h : Bd n i) (g : Bd m j) : Bd (max n m) (if c then i else j) := by
  split
  · exact h.mono (Nat.le_max_left n m)
  · exact g.mono (Nat.le_max_right n m)
theorem Bd.bits {n : Nat} {i : Int} (h : Bd n i) : Builtin.Int.intBits i ≤ n := by
  unfold Builtin.Int.intBits
  split
  · exact Nat.zero_le _
  · rename_i z
    have z' : i.natAbs ≠ 0 := by
      intro e
      apply z
      simp
      omega
    have := (Nat.log2_lt z').mpr h.lt
    omega
theorem bd0 : Bd 1 0 := ⟨by decide⟩
theorem bd1 : Bd 1 1 := ⟨by decide⟩
theorem bdm1 : Bd 1 (-1) := ⟨by decide⟩
theorem bd2 : Bd 2 2 := ⟨by decide⟩
theorem bd3 : Bd 2 3 := ⟨by decide⟩
theorem bd4 : Bd 3 4 := ⟨by decide⟩
theorem mulOk {n m : Nat} {i j : Int} (h : Bd n i) (g : Bd m j) (k : n + m ≤ 100000000) : IntMulOk i j := by
  unfold IntMulOk
  have b1 := h.bits
  have b2 := g.bits
  have : Builtin.Int.intTooBig ((Builtin.Int.intBits i : Int) + (Builtin.Int.intBits j : Int)) = false := by
    unfold Builtin.Int.intTooBig
    apply decide_eq_false
    have : (bitsLine : Int) = 134217728 := by decide
    rw [this]
    omega
  rw [this]
  simp
/-! ### the reader of the script -/
def cellF (a b c e : Int) (ns : List Int) (k : Int) : Int :=
  if decide (k < (ns.length : Int)) = true then ns.getD k.toNat 0
  else if eqD (.int (ns.length : Int)) (.int 0) = true then k * k * a + b
  else ns.getD (k * 3 % (ns.length : Int)).toNat 0 % 2147483629 * c + k * k * e
inductive R_cell (a b c e : Int) : List D → D → Prop where
  | mk (ns : List Int) (k : Int) (h0 : 0 ≤ k) (h1 : k ≤ 1000) : R_cell a b c e [.lst (ns.map .int), .int k] (.int (cellF a b c e ns k))
theorem ix_ints {ns : List Int} {k : Int} (h0 : 0 ≤ k) (h1 : k < (ns.length : Int)) : atI (ns.map D.int) k = some (.int (ns.getD k.toNat 0)) := by
  have hk : k.toNat < ns.length := by omega
  have ek : k = ((k.toNat : Nat) : Int) := by omega
  have q : atI (ns.map D.int) ((k.toNat : Nat) : Int) = some (.int (ns.getD k.toNat 0)) := atI_nat (by rw [List.getElem?_map, List.getElem?_eq_getElem hk, List.getD_eq_getElem?_getD, List.getElem?_eq_getElem hk]; rfl)
  rw [← ek] at q
  exact q
/-! ### frames -/
def m5 (r : Int) : Int := if r = 0 then 4 else if r = 1 then 6 else if r = 2 then 8 else if r = 3 then 10 else 12
theorem ix5 {r : Int} (h0 : 0 ≤ r) (h1 : r < 5) : atI [D.int 4, .int 6, .int 8, .int 10, .int 12] r = some (.int (m5 r)) := by
  have : r = 0 ∨ r = 1 ∨ r = 2 ∨ r = 3 ∨ r = 4 := by omega
  rcases this with rfl | rfl | rfl | rfl | rfl <;> rfl
def OkM (m : Int) : Prop := m = 4 ∨ m = 6 ∨ m = 8 ∨ m = 10 ∨ m = 12
theorem okM5 (r : Int) : OkM (m5 r) := by
  unfold OkM m5
  split
  · exact .inl rfl
  · split
    · exact .inr (.inl rfl)
    · split
      · exact .inr (.inr (.inl rfl))
      · split
        · exact .inr (.inr (.inr (.inl rfl)))
        · exact .inr (.inr (.inr (.inr rfl)))
/-- w w = p + q w -/
def sqP (m : Int) : Int := if m = 6 then 1 else if m = 8 then 2 else if m = 10 then 1 else if m = 12 then 3 else 0
def sqQ (m : Int) : Int := if m = 10 then 1 else 0
def FrD (C : Addr) (m : Int) : D := .obj C ["m", "square"] [.int m, .tup [.int (sqP m), .int (sqQ m)]]
inductive R_frame : List D → List D → Prop where
  | mk (m : Int) (h : OkM m) : R_frame [.int m] [.int m, .tup [.int (sqP m), .int (sqQ m)]]
inductive R_size (C : Addr) : List D → D → Prop where
  | mk (m : Int) (h : OkM m) : R_size C [FrD C m] (.int m)
abbrev nD (a b : Int) : D := .tup [.int a, .int b]
def nA (m a b : Int) : Int := if m = 6 then a + b else a
def nB (m b : Int) : Int := if m = 4 then 0 else if m = 6 then 0 else b
inductive R_number (C : Addr) : List D → D → Prop where
  | mk (m a b : Int) (h : OkM m) : R_number C [FrD C m, .int a, .int b] (nD (nA m a b) (nB m b))
inductive R_isw : List D → D → Prop where
  | mk (x : Int) : R_isw [.int x] (.bl true)
inductive R_okm : List D → D → Prop where
  | mk (m : Int) (h : OkM m) : R_okm [.int m] (.bl true)
inductive R_plus : List D → D → Prop where
  | mk (a b c d : Int) : R_plus [nD a b, nD c d] (nD (a + c) (b + d))
inductive R_minus : List D → D → Prop where
  | mk (a b c d : Int) : R_minus [nD a b, nD c d] (nD (a - c) (b - d))
inductive R_law : List D → D → Prop where
  | mk (ns : List Int) (h : ns.length ≤ 63) : R_law [.lst (ns.map .int)] (.bl true)
/-! ### products, powers, signs -/
theorem sqP_bd (m : Int) : Bd 2 (sqP m) := by
  constructor
  unfold sqP
  split
  · decide
  · split
    · decide
    · split
      · decide
      · split <;> decide
theorem sqQ_bd (m : Int) : Bd 2 (sqQ m) := by
  constructor
  unfold sqQ
  split <;> decide
theorem nA_bd {n k : Nat} {m a b : Int} (ha : Bd n a) (hb : Bd k b) : Bd (max n k + 1) (nA m a b) := by
  unfold nA
  split
  · exact ha.add hb
  · exact ha.mono (by omega)
theorem nB_bd {n : Nat} {m b : Int} (hb : Bd n b) : Bd n (nB m b) := by
  unfold nB
  have h0 : Bd n 0 := ⟨Nat.two_pow_pos n⟩
  split
  · exact h0
  · split
    · exact h0
    · exact hb
abbrev BB (i : Int) : Prop := Bd 100000 i
def tX (m a b c d : Int) : Int := a * c + b * d * sqP m
def tY (m a b c d : Int) : Int := a * d + b * c + b * d * sqQ m
def tA (m a b c d : Int) : Int := nA m (tX m a b c d) (tY m a b c d)
def tB (m a b c d : Int) : Int := nB m (tY m a b c d)
theorem tX_bd {n k : Nat} {m a b c d : Int} (ha : Bd n a) (hb : Bd n b) (hc : Bd k c) (hd : Bd k d) : Bd (n + k + 3) (tX m a b c d) :=
  ((ha.mul hc).add ((hb.mul hd).mul (sqP_bd m))).mono (by omega)
theorem tY_bd {n k : Nat} {m a b c d : Int} (ha : Bd n a) (hb : Bd n b) (hc : Bd k c) (hd : Bd k d) : Bd (n + k + 4) (tY m a b c d) :=
  (((ha.mul hd).add (hb.mul hc)).add ((hb.mul hd).mul (sqQ_bd m))).mono (by omega)
theorem tA_bd {n k : Nat} {m a b c d : Int} (ha : Bd n a) (hb : Bd n b) (hc : Bd k c) (hd : Bd k d) : Bd (n + k + 5) (tA m a b c d) :=
  (nA_bd (tX_bd ha hb hc hd) (tY_bd ha hb hc hd)).mono (by omega)
theorem tB_bd {n k : Nat} {m a b c d : Int} (ha : Bd n a) (hb : Bd n b) (hc : Bd k c) (hd : Bd k d) : Bd (n + k + 5) (tB m a b c d) :=
  (nB_bd (tY_bd ha hb hc hd)).mono (by omega)
inductive R_times (C : Addr) : List D → D → Prop where
  | mk (m a b c d : Int) (h : OkM m) (ha : BB a) (hb : BB b) (hc : BB c) (hd : BB d) : R_times C [FrD C m, nD a b, nD c d] (nD (tA m a b c d) (tB m a b c d))
inductive R_ws : List D → D → Prop where
  | mk (x : Int) : R_ws [.int x] (.int (Mt.sg x))
def sgn (m a b : Int) : Int := Mt.sn (sqQ m * sqQ m + 4 * sqP m) (2 * a + sqQ m * b) b
inductive R_sign (C : Addr) : List D → D → Prop where
  | mk (m a b : Int) (h : OkM m) (ha : BB a) (hb : BB b) : R_sign C [FrD C m, nD a b] (.int (sgn m a b))
/-! ### the laws' own products -/
def lX (m a b c d : Int) : Int := if m = 8 then a * c + 2 * (b * d) else if m = 10 then a * c + b * d else if m = 12 then a * c + 3 * (b * d) else a * c
def lY (m a b c d : Int) : Int := if m = 10 then a * d + b * c + b * d else a * d + b * c
theorem lX_bd {n k : Nat} {m a b c d : Int} (ha : Bd n a) (hb : Bd n b) (hc : Bd k c) (hd : Bd k d) : Bd (n + k + 5) (lX m a b c d) := by
  have h2 := bd2
  have h3 := bd3
  unfold lX
  split
  · exact ((ha.mul hc).add (h2.mul (hb.mul hd))).mono (by omega)
  · split
    · exact ((ha.mul hc).add (hb.mul hd)).mono (by omega)
    · split
      · exact ((ha.mul hc).add (h3.mul (hb.mul hd))).mono (by omega)
      · exact (ha.mul hc).mono (by omega)
theorem lY_bd {n k : Nat} {m a b c d : Int} (ha : Bd n a) (hb : Bd n b) (hc : Bd k c) (hd : Bd k d) : Bd (n + k + 5) (lY m a b c d) := by
  unfold lY
  split
  · exact (((ha.mul hd).add (hb.mul hc)).add (hb.mul hd)).mono (by omega)
  · exact ((ha.mul hd).add (hb.mul hc)).mono (by omega)
/-- in the frames 4 and 6 the second place is 0 -/
def Z2 (m b : Int) : Prop := m < 8 → b = 0
theorem tB_z {m a b c d : Int} (hm : OkM m) : Z2 m (tB m a b c d) := by
  intro h
  rcases hm with rfl | rfl | rfl | rfl | rfl <;> first | omega | simp [tB, nB]
theorem eqD_int (a b : Int) : eqD (.int a) (.int b) = (a == b) := rfl
end My
namespace My
open PySem L2 EV
/-! ### signs of numbers of a frame -/
theorem sn_two (Δ c b : Int) : Mt.sn Δ (2 * c) (2 * b) = Mt.sn Δ c b := by
  have e : Mt.nm Δ (2 * c) (2 * b) = 4 * Mt.nm Δ c b := by unfold Mt.nm; grind
  have s2 : ∀ x : Int, Mt.sg (2 * x) = Mt.sg x := fun x => by rw [Mt.sg_mul]; show 1 * Mt.sg x = _; omega
  unfold Mt.sn
  rw [e, s2, s2]
  by_cases h : Mt.nm Δ c b > 0
  · rw [if_pos h, if_pos (by omega)]
  · by_cases g : Mt.nm Δ c b < 0
    · rw [if_neg h, if_pos g, if_neg (by omega), if_pos (by omega)]
    · rw [if_neg h, if_neg g, if_neg (by omega), if_neg (by omega)]
theorem sn_b0 (Δ c : Int) : Mt.sn Δ c 0 = Mt.sg c := by
  unfold Mt.sn Mt.nm
  have q := Mt.sq_nn c
  by_cases h : c = 0
  · subst h; simp [Mt.sg]
  · have : 0 < c * c := by
      rcases Int.lt_or_gt_of_ne h with z | z
      · exact Int.mul_pos_of_neg_of_neg z z
      · exact Int.mul_pos z z
    rw [if_pos (by simp; exact this)]
theorem sgn_cases (m a b : Int) : sgn m a b = 1 ∨ sgn m a b = 0 ∨ sgn m a b = -1 := Mt.sn_cases _ _ _
theorem sgn_bd (m a b : Int) : Bd 1 (sgn m a b) := by
  constructor
  rcases sgn_cases m a b with h | h | h <;> rw [h] <;> decide
theorem t_plain {m a b c d : Int} (hm : OkM m) (hb : Z2 m b) (hd : Z2 m d) : tA m a b c d = tX m a b c d ∧ tB m a b c d = tY m a b c d := by
  rcases hm with rfl | rfl | rfl | rfl | rfl
  · obtain rfl := hb (by decide); obtain rfl := hd (by decide); simp [tA, tB, tX, tY, nA, nB]
  · obtain rfl := hb (by decide); obtain rfl := hd (by decide); simp [tA, tB, tX, tY, nA, nB]
  all_goals simp [tA, tB, nA, nB]
theorem sq_nn' (m : Int) : 0 ≤ sqQ m * sqQ m + 4 * sqP m := by
  have h1 := Mt.sq_nn (sqQ m)
  have h2 : 0 ≤ sqP m := by
    unfold sqP
    split
    · decide
    · split
      · decide
      · split
        · decide
        · split <;> decide
  omega
/-- the sign of a product -/
theorem sgn_mul {m a b c d : Int} (hm : OkM m) (hb : Z2 m b) (hd : Z2 m d) : sgn m (tA m a b c d) (tB m a b c d) = sgn m a b * sgn m c d := by
  rw [(t_plain hm hb hd).1, (t_plain hm hb hd).2]
  unfold sgn
  rw [← Mt.sn_mul (sq_nn' m), ← sn_two]
  congr 1
  · unfold tX tY; grind
  · unfold tY; grind
theorem sgn_neg (m a b : Int) : sgn m (-a) (-b) = - sgn m a b := by
  unfold sgn
  rw [← Mt.sn_neg]
  congr 1
  grind
theorem nosq {m : Int} (h : m = 8 ∨ m = 10 ∨ m = 12) : Mt.NoSq (sqQ m * sqQ m + 4 * sqP m) := by
  rcases h with rfl | rfl | rfl
  · exact Mt.NoSq8
  · exact Mt.NoSq5
  · exact Mt.NoSq12
theorem sg_two (x : Int) : Mt.sg (2 * x) = Mt.sg x := by rw [Mt.sg_mul]; show 1 * Mt.sg x = _; omega
theorem okM_split {m : Int} (hm : OkM m) : (m < 8) ∨ (m = 8 ∨ m = 10 ∨ m = 12) := by
  rcases hm with rfl | rfl | rfl | rfl | rfl <;> omega
theorem sgn_small {m a b : Int} (h : m < 8) (hb : Z2 m b) : sgn m a b = Mt.sg a := by
  obtain rfl := hb h
  unfold sgn
  rw [sn_b0, Int.mul_zero, Int.add_zero, sg_two]
/-- two above 0 -/
theorem sgn_add1 {m a b c d : Int} (hm : OkM m) (hb : Z2 m b) (hd : Z2 m d) (h1 : sgn m a b = 1) (h2 : sgn m c d = 1) : sgn m (a + c) (b + d) = 1 := by
  rcases okM_split hm with h | h
  · rw [sgn_small h hb] at h1
    rw [sgn_small h hd] at h2
    rw [sgn_small h (fun z => by rw [hb z, hd z]; rfl)]
    have p1 : a > 0 := by unfold Mt.sg at h1; split at h1; · assumption
                          · split at h1 <;> omega
    have p2 : c > 0 := by unfold Mt.sg at h2; split at h2; · assumption
                          · split at h2 <;> omega
    unfold Mt.sg
    rw [if_pos (by omega)]
  · unfold sgn at *
    rw [Mt.sn_pos] at *
    have := Mt.pos_add (sq_nn' m) (nosq h) h1 h2
    have e : 2 * (a + c) + sqQ m * (b + d) = 2 * a + sqQ m * b + (2 * c + sqQ m * d) := by grind
    rw [e]
    exact this
theorem z2_neg {m b : Int} (h : Z2 m b) : Z2 m (-b) := fun z => by rw [h z]; rfl
theorem z2_add {m b d : Int} (h : Z2 m b) (g : Z2 m d) : Z2 m (b + d) := fun z => by rw [h z, g z]; rfl
theorem z2_sub {m b d : Int} (h : Z2 m b) (g : Z2 m d) : Z2 m (b - d) := fun z => by rw [h z, g z]; rfl
theorem sgn_00 (m : Int) : sgn m 0 0 = 0 := by unfold sgn; rw [sn_b0]; simp [Mt.sg]
theorem t_sub {m a b c d e f : Int} (hm : OkM m) : tA m (c - a) (d - b) e f = tA m c d e f - tA m a b e f ∧ tB m (c - a) (d - b) e f = tB m c d e f - tB m a b e f := by
  rcases hm with rfl | rfl | rfl | rfl | rfl <;> (simp [tA, tB, tX, tY, nA, nB, sqP, sqQ]; try grind)
end My
namespace My
open PySem L2 EV
/-! ### points -/
abbrev pD (a b c d : Int) : D := .tup [nD a b, nD c d]
/-- x + w y -/
def aA (m a c d : Int) : Int := a + tA m (nA m 0 1) (nB m 1) c d
def aB (m b c d : Int) : Int := b + tB m (nA m 0 1) (nB m 1) c d
theorem w_bd (m : Int) : Bd 2 (nA m 0 1) ∧ Bd 2 (nB m 1) := ⟨nA_bd bd0 bd1, (nB_bd bd1).mono (by decide)⟩
theorem aA_bd {n : Nat} {m a c d : Int} (ha : Bd n a) (hc : Bd n c) (hd : Bd n d) : Bd (n + 8) (aA m a c d) :=
  (ha.add (tA_bd (w_bd m).1 (w_bd m).2 hc hd)).mono (by omega)
theorem aB_bd {n : Nat} {m b c d : Int} (hb : Bd n b) (hc : Bd n c) (hd : Bd n d) : Bd (n + 8) (aB m b c d) :=
  (hb.add (tB_bd (w_bd m).1 (w_bd m).2 hc hd)).mono (by omega)
inductive R_along (C : Addr) : List D → D → Prop where
  | mk (m a b c d : Int) (h : OkM m) (ha : Bd 50000 a) (hb : Bd 50000 b) (hc : Bd 50000 c) (hd : Bd 50000 d) : R_along C [FrD C m, pD a b c d] (nD (aA m a c d) (aB m b c d))
inductive R_once (C : Addr) : List D → D → Prop where
  | mk (m a b c d : Int) (h : OkM m) (ha : Bd 50000 a) (hb : Bd 50000 b) (hc : Bd 50000 c) (hd : Bd 50000 d) : R_once C [FrD C m, pD a b c d] (pD (0 - c) (0 - d) (aA m a c d) (aB m b c d))
structure P4 where
  a : Int
  b : Int
  c : Int
  d : Int
abbrev P4.D (p : P4) : D := pD p.a p.b p.c p.d
def P4.once (m : Int) (p : P4) : P4 := ⟨0 - p.c, 0 - p.d, aA m p.a p.c p.d, aB m p.b p.c p.d⟩
def P4.turn (m : Int) (p : P4) : Nat → P4
  | 0 => p
  | k + 1 => (P4.turn m p k).once m
structure P4.B (n : Nat) (p : P4) : Prop where
  a : Bd n p.a
  b : Bd n p.b
  c : Bd n p.c
  d : Bd n p.d
theorem P4.B.mono {n k : Nat} {p : P4} (h : p.B n) (g : n ≤ k) : p.B k := ⟨h.a.mono g, h.b.mono g, h.c.mono g, h.d.mono g⟩
theorem P4.once_B {n : Nat} {m : Int} {p : P4} (h : p.B n) : (p.once m).B (n + 8) :=
  ⟨(bd0.sub h.c).mono (by omega), (bd0.sub h.d).mono (by omega), aA_bd h.a h.c h.d, aB_bd h.b h.c h.d⟩
theorem P4.turn_B {n : Nat} {m : Int} {p : P4} (h : p.B n) : ∀ k, (p.turn m k).B (n + 8 * k)
  | 0 => h.mono (by omega)
  | k + 1 => (P4.once_B (P4.turn_B h k)).mono (by omega)
inductive R_turned (C : Addr) : List D → D → Prop where
  | mk (m r : Int) (p : P4) (h : OkM m) (hp : p.B 40000) : R_turned C [FrD C m, pD p.a p.b p.c p.d, .int r] (P4.D (p.turn m (r % m).toNat))
def P4.mir (m : Int) (p : P4) : P4 := ⟨aA m p.a p.c p.d, aB m p.b p.c p.d, 0 - p.c, 0 - p.d⟩
inductive R_mirrored (C : Addr) : List D → D → Prop where
  | mk (m : Int) (p : P4) (h : OkM m) (hp : p.B 40000) : R_mirrored C [FrD C m, pD p.a p.b p.c p.d] (P4.D (p.mir m))
def P4.plus (p q : P4) : P4 := ⟨p.a + q.a, p.b + q.b, p.c + q.c, p.d + q.d⟩
inductive R_added : List D → D → Prop where
  | mk (p q : P4) : R_added [pD p.a p.b p.c p.d, pD q.a q.b q.c q.d] (P4.D (p.plus q))
def P4.scal (m e f : Int) (p : P4) : P4 := ⟨tA m p.a p.b e f, tB m p.a p.b e f, tA m p.c p.d e f, tB m p.c p.d e f⟩
inductive R_scaled (C : Addr) : List D → D → Prop where
  | mk (m e f : Int) (p : P4) (h : OkM m) (hp : p.B 40000) (he : BB e) (hf : BB f) : R_scaled C [FrD C m, pD p.a p.b p.c p.d, nD e f] (P4.D (p.scal m e f))
def crA (m : Int) (p q : P4) : Int := tA m p.a p.b q.c q.d - tA m p.c p.d q.a q.b
def crB (m : Int) (p q : P4) : Int := tB m p.a p.b q.c q.d - tB m p.c p.d q.a q.b
inductive R_cross (C : Addr) : List D → D → Prop where
  | mk (m : Int) (p q : P4) (h : OkM m) (hp : p.B 100000) (hq : q.B 100000) : R_cross C [FrD C m, pD p.a p.b p.c p.d, pD q.a q.b q.c q.d] (nD (crA m p q) (crB m p q))
/-- the second places are 0 in the frames 4 and 6 -/
structure P4.Z (m : Int) (p : P4) : Prop where
  b : Z2 m p.b
  d : Z2 m p.d
theorem P4.once_Z {m : Int} {p : P4} (hm : OkM m) (h : p.Z m) : (p.once m).Z m :=
  ⟨z2_sub (fun _ => rfl) h.d, z2_add h.b (tB_z hm)⟩
theorem P4.mir_Z {m : Int} {p : P4} (hm : OkM m) (h : p.Z m) : (p.mir m).Z m :=
  ⟨z2_add h.b (tB_z hm), z2_sub (fun _ => rfl) h.d⟩
theorem P4.turn_Z {m : Int} {p : P4} (hm : OkM m) (h : p.Z m) : ∀ k, (p.turn m k).Z m
  | 0 => h
  | k + 1 => P4.once_Z hm (P4.turn_Z hm h k)
theorem P4.ext' {p q : P4} (h1 : p.a = q.a) (h2 : p.b = q.b) (h3 : p.c = q.c) (h4 : p.d = q.d) : p = q := by cases p; cases q; simp_all
/-- a cross stays when both are turned -/
theorem cr_once {m : Int} {p q : P4} (hm : OkM m) (hp : p.Z m) (hq : q.Z m) : crA m (p.once m) (q.once m) = crA m p q ∧ crB m (p.once m) (q.once m) = crB m p q := by
  obtain ⟨a, b, c, d⟩ := p
  obtain ⟨e, f, g, h⟩ := q
  rcases hm with rfl | rfl | rfl | rfl | rfl
  · obtain rfl : b = 0 := hp.b (by decide); obtain rfl : d = 0 := hp.d (by decide); obtain rfl : f = 0 := hq.b (by decide); obtain rfl : h = 0 := hq.d (by decide)
    simp [crA, crB, P4.once, aA, aB, tA, tB, tX, tY, nA, nB, sqP, sqQ]; try grind
  · obtain rfl : b = 0 := hp.b (by decide); obtain rfl : d = 0 := hp.d (by decide); obtain rfl : f = 0 := hq.b (by decide); obtain rfl : h = 0 := hq.d (by decide)
    simp [crA, crB, P4.once, aA, aB, tA, tB, tX, tY, nA, nB, sqP, sqQ]; try grind
  all_goals (simp [crA, crB, P4.once, aA, aB, tA, tB, tX, tY, nA, nB, sqP, sqQ]; try grind)
theorem cr_turn {m : Int} {p q : P4} (hm : OkM m) (hp : p.Z m) (hq : q.Z m) : ∀ k, crA m (p.turn m k) (q.turn m k) = crA m p q ∧ crB m (p.turn m k) (q.turn m k) = crB m p q
  | 0 => ⟨rfl, rfl⟩
  | k + 1 => by
    have h := cr_once hm (P4.turn_Z hm hp k) (P4.turn_Z hm hq k)
    have g := cr_turn hm hp hq k
    exact ⟨h.1.trans g.1, h.2.trans g.2⟩
theorem cr_mir {m : Int} {p q : P4} (hm : OkM m) (hp : p.Z m) (hq : q.Z m) : crA m (p.mir m) (q.mir m) = - crA m p q ∧ crB m (p.mir m) (q.mir m) = - crB m p q := by
  obtain ⟨a, b, c, d⟩ := p
  obtain ⟨e, f, g, h⟩ := q
  rcases hm with rfl | rfl | rfl | rfl | rfl
  · obtain rfl : b = 0 := hp.b (by decide); obtain rfl : d = 0 := hp.d (by decide); obtain rfl : f = 0 := hq.b (by decide); obtain rfl : h = 0 := hq.d (by decide)
    simp [crA, crB, P4.mir, aA, aB, tA, tB, tX, tY, nA, nB, sqP, sqQ]; try grind
  · obtain rfl : b = 0 := hp.b (by decide); obtain rfl : d = 0 := hp.d (by decide); obtain rfl : f = 0 := hq.b (by decide); obtain rfl : h = 0 := hq.d (by decide)
    simp [crA, crB, P4.mir, aA, aB, tA, tB, tX, tY, nA, nB, sqP, sqQ]; try grind
  all_goals (simp [crA, crB, P4.mir, aA, aB, tA, tB, tX, tY, nA, nB, sqP, sqQ]; try grind)
theorem cr_add {m : Int} {p q r : P4} (hm : OkM m) : crA m p (q.plus r) = crA m p q + crA m p r ∧ crB m p (q.plus r) = crB m p q + crB m p r := by
  obtain ⟨a, b, c, d⟩ := p
  obtain ⟨e, f, g, h⟩ := q
  obtain ⟨i, j, k, l⟩ := r
  rcases hm with rfl | rfl | rfl | rfl | rfl <;> (simp [crA, crB, P4.plus, tA, tB, tX, tY, nA, nB, sqP, sqQ]; try grind)
theorem cr_swap {m : Int} {p q : P4} (hm : OkM m) : crA m q p = - crA m p q ∧ crB m q p = - crB m p q := by
  obtain ⟨a, b, c, d⟩ := p
  obtain ⟨e, f, g, h⟩ := q
  rcases hm with rfl | rfl | rfl | rfl | rfl <;> (simp [crA, crB, tA, tB, tX, tY, nA, nB, sqP, sqQ]; try grind)
theorem cr_scal {m e f : Int} {p q : P4} (hm : OkM m) (hp : p.Z m) (hq : q.Z m) (hf : Z2 m f) : crA m (p.scal m e f) q = tA m (crA m p q) (crB m p q) e f ∧ crB m (p.scal m e f) q = tB m (crA m p q) (crB m p q) e f := by
  obtain ⟨a, b, c, d⟩ := p
  obtain ⟨x, y, z, t⟩ := q
  rcases hm with rfl | rfl | rfl | rfl | rfl
  · obtain rfl : b = 0 := hp.b (by decide); obtain rfl : d = 0 := hp.d (by decide); obtain rfl : y = 0 := hq.b (by decide); obtain rfl : t = 0 := hq.d (by decide); obtain rfl : f = 0 := hf (by decide)
    simp [crA, crB, P4.scal, tA, tB, tX, tY, nA, nB, sqP, sqQ]; try grind
  · obtain rfl : b = 0 := hp.b (by decide); obtain rfl : d = 0 := hp.d (by decide); obtain rfl : y = 0 := hq.b (by decide); obtain rfl : t = 0 := hq.d (by decide); obtain rfl : f = 0 := hf (by decide)
    simp [crA, crB, P4.scal, tA, tB, tX, tY, nA, nB, sqP, sqQ]; try grind
  all_goals (simp [crA, crB, P4.scal, tA, tB, tX, tY, nA, nB, sqP, sqQ]; try grind)
theorem P4.mir_B {n : Nat} {m : Int} {p : P4} (h : p.B n) : (p.mir m).B (n + 8) :=
  ⟨aA_bd h.a h.c h.d, aB_bd h.b h.c h.d, (bd0.sub h.c).mono (by omega), (bd0.sub h.d).mono (by omega)⟩
theorem P4.plus_B {n k : Nat} {p q : P4} (h : p.B n) (g : q.B k) : (p.plus q).B (n + k + 1) :=
  ⟨(h.a.add g.a).mono (by omega), (h.b.add g.b).mono (by omega), (h.c.add g.c).mono (by omega), (h.d.add g.d).mono (by omega)⟩
theorem P4.scal_B {n k : Nat} {m e f : Int} {p : P4} (h : p.B n) (he : Bd k e) (hf : Bd k f) : (p.scal m e f).B (n + k + 5) :=
  ⟨tA_bd h.a h.b he hf, tB_bd h.a h.b he hf, tA_bd h.c h.d he hf, tB_bd h.c h.d he hf⟩
theorem crA_bd {n k : Nat} {m : Int} {p q : P4} (h : p.B n) (g : q.B k) : Bd (n + k + 6) (crA m p q) :=
  ((tA_bd h.a h.b g.c g.d).sub (tA_bd h.c h.d g.a g.b)).mono (by omega)
theorem crB_bd {n k : Nat} {m : Int} {p q : P4} (h : p.B n) (g : q.B k) : Bd (n + k + 6) (crB m p q) :=
  ((tB_bd h.a h.b g.c g.d).sub (tB_bd h.c h.d g.a g.b)).mono (by omega)
theorem okM_pos {m : Int} (hm : OkM m) : 0 < m ∧ m ≤ 12 := by rcases hm with rfl | rfl | rfl | rfl | rfl <;> omega
theorem turns_le {m : Int} (hm : OkM m) (r : Int) : (r % m).toNat ≤ 12 := by
  have h := okM_pos hm
  have h1 := Int.emod_lt_of_pos r h.1
  omega
end My
namespace My
open PySem L2 EV
/-! ### whole and half turns, mirrors -/
def P4.neg (p : P4) : P4 := ⟨-p.a, -p.b, -p.c, -p.d⟩
theorem P4.turn_add (m : Int) (p : P4) (j : Nat) : ∀ k, (p.turn m j).turn m k = p.turn m (j + k)
  | 0 => rfl
  | k + 1 => by
    show ((p.turn m j).turn m k).once m = (p.turn m (j + k)).once m
    rw [P4.turn_add m p j k]
theorem half_turn {m : Int} {p : P4} (hm : OkM m) (hp : p.Z m) : p.turn m (m / 2).toNat = p.neg := by
  obtain ⟨a, b, c, d⟩ := p
  rcases hm with rfl | rfl | rfl | rfl | rfl
  · obtain rfl : b = 0 := hp.b (by decide); obtain rfl : d = 0 := hp.d (by decide)
    show P4.turn 4 _ 2 = _
    simp [P4.turn, P4.once, P4.neg, aA, aB, tA, tB, tX, tY, nA, nB, sqP, sqQ]
  · obtain rfl : b = 0 := hp.b (by decide); obtain rfl : d = 0 := hp.d (by decide)
    show P4.turn 6 _ 3 = _
    simp [P4.turn, P4.once, P4.neg, aA, aB, tA, tB, tX, tY, nA, nB, sqP, sqQ]
    try omega
  · show P4.turn 8 _ 4 = _
    apply P4.ext' <;> (simp [P4.turn, P4.once, P4.neg, aA, aB, tA, tB, tX, tY, nA, nB, sqP, sqQ]; try omega)
  · show P4.turn 10 _ 5 = _
    apply P4.ext' <;> (simp [P4.turn, P4.once, P4.neg, aA, aB, tA, tB, tX, tY, nA, nB, sqP, sqQ]; try omega)
  · show P4.turn 12 _ 6 = _
    apply P4.ext' <;> (simp [P4.turn, P4.once, P4.neg, aA, aB, tA, tB, tX, tY, nA, nB, sqP, sqQ]; try omega)
theorem P4.neg_neg (p : P4) : p.neg.neg = p := by cases p; simp [P4.neg]
theorem P4.neg_Z {m : Int} {p : P4} (h : p.Z m) : p.neg.Z m := ⟨z2_neg h.b, z2_neg h.d⟩
theorem full_turn {m : Int} {p : P4} (hm : OkM m) (hp : p.Z m) : p.turn m m.toNat = p := by
  have e : m.toNat = (m / 2).toNat + (m / 2).toNat := by rcases hm with rfl | rfl | rfl | rfl | rfl <;> rfl
  rw [e, ← P4.turn_add, half_turn hm hp, half_turn hm (P4.neg_Z hp), P4.neg_neg]
theorem turn_per {m : Int} {p : P4} (hm : OkM m) (hp : p.Z m) (k : Nat) : p.turn m (k + m.toNat) = p.turn m k := by
  rw [← P4.turn_add, full_turn hm (P4.turn_Z hm hp k)]
/-- turned so often and then otherwise -/
theorem turn_two {m r s : Int} {p : P4} (hm : OkM m) (hp : p.Z m) : (p.turn m (r % m).toNat).turn m (s % m).toNat = p.turn m ((r + s) % m).toNat := by
  have h := okM_pos hm
  have r1 := Int.emod_nonneg r (Int.ne_of_gt h.1)
  have r2 := Int.emod_lt_of_pos r h.1
  have s1 := Int.emod_nonneg s (Int.ne_of_gt h.1)
  have s2 := Int.emod_lt_of_pos s h.1
  rw [P4.turn_add, Int.add_emod]
  rcases (by omega : r % m + s % m < m ∨ m ≤ r % m + s % m) with c | c
  · have e : (r % m + s % m) % m = r % m + s % m := Int.emod_eq_of_lt (by omega) c
    rw [e]
    congr 1
    omega
  · have e : (r % m + s % m) % m = r % m + s % m - m := by
      rw [← Int.sub_emod_right, Int.emod_eq_of_lt (by omega) (by omega)]
    rw [e]
    have e2 : (r % m).toNat + (s % m).toNat = (r % m + s % m - m).toNat + m.toNat := by omega
    rw [e2, turn_per hm hp]
theorem mir_mir {m : Int} {p : P4} (hm : OkM m) (hp : p.Z m) : (p.mir m).mir m = p := by
  obtain ⟨a, b, c, d⟩ := p
  rcases hm with rfl | rfl | rfl | rfl | rfl
  · obtain rfl : b = 0 := hp.b (by decide); obtain rfl : d = 0 := hp.d (by decide)
    apply P4.ext' <;> (simp [P4.mir, aA, aB, tA, tB, tX, tY, nA, nB, sqP, sqQ]; try omega)
  · obtain rfl : b = 0 := hp.b (by decide); obtain rfl : d = 0 := hp.d (by decide)
    apply P4.ext' <;> (simp [P4.mir, aA, aB, tA, tB, tX, tY, nA, nB, sqP, sqQ]; try omega)
  all_goals (apply P4.ext' <;> (simp [P4.mir, aA, aB, tA, tB, tX, tY, nA, nB, sqP, sqQ]; try omega))
theorem mir_once {m : Int} {p : P4} (hm : OkM m) (hp : p.Z m) : ((p.once m).mir m).once m = p.mir m := by
  obtain ⟨a, b, c, d⟩ := p
  rcases hm with rfl | rfl | rfl | rfl | rfl
  · obtain rfl : b = 0 := hp.b (by decide); obtain rfl : d = 0 := hp.d (by decide)
    apply P4.ext' <;> (simp [P4.mir, P4.once, aA, aB, tA, tB, tX, tY, nA, nB, sqP, sqQ]; try omega)
  · obtain rfl : b = 0 := hp.b (by decide); obtain rfl : d = 0 := hp.d (by decide)
    apply P4.ext' <;> (simp [P4.mir, P4.once, aA, aB, tA, tB, tX, tY, nA, nB, sqP, sqQ]; try omega)
  all_goals (apply P4.ext' <;> (simp [P4.mir, P4.once, aA, aB, tA, tB, tX, tY, nA, nB, sqP, sqQ]; try omega))
theorem once_turn (m : Int) (p : P4) : ∀ k, (p.once m).turn m k = (p.turn m k).once m
  | 0 => rfl
  | k + 1 => by
    show ((p.once m).turn m k).once m = _
    rw [once_turn m p k]; rfl
theorem mir_turn {m : Int} {p : P4} (hm : OkM m) (hp : p.Z m) : ∀ k, ((p.turn m k).mir m).turn m k = p.mir m
  | 0 => rfl
  | k + 1 => by
    show (((p.turn m k).once m).mir m).turn m (k + 1) = _
    show ((((p.turn m k).once m).mir m).turn m k).once m = _
    rw [← once_turn, mir_once hm (P4.turn_Z hm hp k), mir_turn hm hp k]
/-- a mirror turns the other way -/
theorem mir_back {m r : Int} {p : P4} (hm : OkM m) (hp : p.Z m) : (p.turn m (r % m).toNat).mir m = (p.mir m).turn m ((-r) % m).toNat := by
  have hz : ((p.turn m (r % m).toNat).mir m).Z m := P4.mir_Z hm (P4.turn_Z hm hp _)
  rw [← mir_turn hm hp (r % m).toNat, turn_two (s := -r) hm hz]
  have e : r + -r = 0 := by omega
  rw [e]
  rfl
theorem zero_turn {m : Int} (hm : OkM m) : ∀ k, P4.turn m ⟨0, 0, 0, 0⟩ k = ⟨0, 0, 0, 0⟩
  | 0 => rfl
  | k + 1 => by
    show (P4.turn m ⟨0, 0, 0, 0⟩ k).once m = _
    rw [zero_turn hm k]
    rcases hm with rfl | rfl | rfl | rfl | rfl <;> rfl
theorem eqD_p (p : P4) : eqD (P4.D p) (P4.D p) = true := by
  show (((p.a == p.a) && ((p.b == p.b) && true)) && (((p.c == p.c) && ((p.d == p.d) && true)) && true)) = true
  simp
end My
namespace My
open PySem L2 EV
/-! ### the greatest whole number that is not above b w (k04, k05): what the laws' halving finds, and the sign by it -/
end My
namespace My
open PySem PySem.Spec PyProof.Rows L2 EV
/-! ### the table of squares, Frame's __init__, size, number, is_frame_size, plus, minus -/
structure Sq (K : PySem.W.Frag) (mg : Str → Option Value) (ents : List (Int × Tok × Value)) : Prop where
  kd : KD K mg "SQUARES" ents
  at_ : ∀ m, OkM m → ∃ b, valueAt (ents.map pairI) m = some (.ref b) ∧ ∀ H, SqT K H b [.int (sqP m), .int (sqQ m)]
structure Cl (K : PySem.W.Frag) (C : Addr) : Prop where
  cl : Cls K C
  n_m : NoAttr K C "m"
  n_square : NoAttr K C "square"
theorem kne : ¬ (("m" : Str) = "square") := by decide +kernel
theorem flds_eq (x y : V) : putF "square" y (putF "m" x []) = (["m", "square"] : List Str).zip [x, y] := by
  show (if ("m" : Str) = "square" then [(("m" : Str), y)] else (("m" : Str), x) :: putF "square" y []) = _
  rw [if_neg kne]
  rfl
theorem tupK {K : PySem.W.Frag} {b : Addr} {oc : Value} {dd : Option Addr} {n : Nat} {t u : Tok} {x y : Int} {sl : Array (Option Value)} (h : K.lookup b = some ⟨.type "tuple", dd, .seq #[.int x t, .int y u] n, sl⟩) : ∀ H, SqT K H b [.int x, .int y] :=
  fun H => .inr ⟨_, _, n, h, rfl, rfl, by show 2 ≤ sizeLine; decide, .cons ⟨t, rfl⟩ (.cons ⟨u, rfl⟩ .nil)⟩
theorem refK {K : PySem.W.Frag} {b x y : Addr} {dd : Option Addr} {n : Nat} {sl : Array (Option Value)} (h : K.lookup b = some ⟨.type "tuple", dd, .seq #[.ref x, .ref y] n, sl⟩) : ∀ H, SqT K H b [.ref x, .ref y] :=
  fun H => .inr ⟨_, _, n, h, rfl, rfl, by show 2 ≤ sizeLine; decide, .cons rfl (.cons rfl .nil)⟩
theorem sq_mk {K : PySem.W.Frag} {mg : Str → Option Value} {a b4 b6 b8 b10 b12 : Addr} {ep : Nat} {t4 t6 t8 t10 t12 : Tok} (hm : mg "SQUARES" = some (.ref a)) (hs : (a == sysModules) = false)
    (hk : K.lookup a = some ⟨.type "dict", none, .dict #[⟨4, .int 4 t4, .ref b4⟩, ⟨6, .int 6 t6, .ref b6⟩, ⟨8, .int 8 t8, .ref b8⟩, ⟨10, .int 10 t10, .ref b10⟩, ⟨12, .int 12 t12, .ref b12⟩] ep, #[]⟩)
    (h4 : ∀ H, SqT K H b4 [.int 0, .int 0]) (h6 : ∀ H, SqT K H b6 [.int 1, .int 0]) (h8 : ∀ H, SqT K H b8 [.int 2, .int 0]) (h10 : ∀ H, SqT K H b10 [.int 1, .int 1]) (h12 : ∀ H, SqT K H b12 [.int 3, .int 0]) :
    Sq K mg [(4, t4, .ref b4), (6, t6, .ref b6), (8, t8, .ref b8), (10, t10, .ref b10), (12, t12, .ref b12)] := by
  refine ⟨⟨⟨a, ep, hm, hs, hk⟩, (by decide : ([4, 6, 8, 10, 12] : List Int).Nodup)⟩, fun m h => ?_⟩
  rcases h with rfl | rfl | rfl | rfl | rfl
  · exact ⟨b4, rfl, h4⟩
  · exact ⟨b6, rfl, h6⟩
  · exact ⟨b8, rfl, h8⟩
  · exact ⟨b10, rfl, h10⟩
  · exact ⟨b12, rfl, h12⟩
theorem sq_some {K : PySem.W.Frag} {mg : Str → Option Value} {ents : List (Int × Tok × Value)} (S : Sq K mg ents) {m : Int} (h : OkM m) : (valueAt (ents.map pairI) m).isSome = true := by
  obtain ⟨b, e, _⟩ := S.at_ m h
  rw [e]; rfl
theorem len_pos {ns : List Int} (h : eqD (.int ((ns.map D.int).length : Int)) (.int 0) = false) : (0 : Int) < ((ns.map D.int).length : Int) := by
  have : ¬ (((ns.map D.int).length : Int) = 0) := by simpa [eqD_int] using h
  omega
theorem len_ix {ns : List Int} {k : Int} (h : eqD (.int ((ns.map D.int).length : Int)) (.int 0) = false) : atI (ns.map D.int) (k % ((ns.map D.int).length : Int)) = some (.int (ns.getD (k % (ns.length : Int)).toNat 0)) := by
  have g := len_pos h
  rw [List.length_map] at g ⊢
  exact ix_ints (Int.emod_nonneg _ (by omega)) (Int.emod_lt_of_pos _ g)
end My
namespace EVL
open PySem PySem.W PySem.Calls PyProof.Rows Att
end EVL
namespace EVL
open PySem PySem.Spec PyProof.Rows L2
end EVL
namespace EV
open PySem PySem.Spec PyProof.Rows L2
/-! ### a list comprehension of one clause (with no test or one) -/
theorem closure_of {scope : Scope} {env : Env} (h : ∀ p ∈ scope.names, p.2 = NameKind.free → ∃ c, env.cells.lookup p.1 = some c) :
    ∃ cl, closureFor scope env = pure cl ∧ (∀ x c, cl.lookup x = some c → env.cells.lookup x = some c) ∧ (∀ p ∈ scope.names, p.2 = NameKind.free → ∃ c, cl.lookup p.1 = some c) := by
  have key : ∀ (l : List (Str × NameKind)) (acc : List (Str × Addr)), (∀ p ∈ l, p.2 = NameKind.free → ∃ c, env.cells.lookup p.1 = some c) → (∀ x c, acc.lookup x = some c → env.cells.lookup x = some c) →
      ∃ cl, (forIn l acc (fun (x : Str × NameKind) (r : List (Str × Addr)) => match x with
        | (name, kind) => if (kind == NameKind.free) = true then (do let c ← cellOf env name; pure (ForInStep.yield ((name, c) :: r))) else pure (ForInStep.yield r)) : Sem (List (Str × Addr))) = pure cl ∧
        (∀ x c, cl.lookup x = some c → env.cells.lookup x = some c) ∧ (∀ p ∈ l, p.2 = NameKind.free → ∃ c, cl.lookup p.1 = some c) ∧ (∀ x c, acc.lookup x = some c → ∃ c', cl.lookup x = some c') := by
    intro l
    induction l with
    | nil => intro acc _ ha; exact ⟨acc, rfl, ha, (fun _ z => by cases z), fun x c e => ⟨c, e⟩⟩
    | cons p l ih =>
      intro acc hl ha
      obtain ⟨n, k⟩ := p
      rw [List.forIn_cons]
      by_cases hk : k = NameKind.free
      · subst hk
        obtain ⟨c, hc⟩ := hl (n, .free) List.mem_cons_self rfl
        have hc' : env.cells.lookup n = some c := hc
        have e1 : cellOf env n = pure c := by unfold cellOf; rw [hc']
        obtain ⟨cl, e, q1, q2, q3⟩ := ih ((n, c) :: acc) (fun p hp => hl p (List.mem_cons_of_mem _ hp)) (fun x c' e' => by
          rw [List.lookup_cons] at e'
          cases b : x == n with
          | true => rw [b] at e'; cases e'; rw [eq_of_beq b]; exact hc'
          | false => rw [b] at e'; exact ha x c' e')
        refine ⟨cl, ?_, q1, ?_, ?_⟩
        · rw [← e]
          simp only [beq_self_eq_true, if_true, e1]
          rfl
        · intro p hp hf
          rcases List.mem_cons.mp hp with rfl | hp
          · exact q3 n c (by rw [List.lookup_cons, beq_self_eq_true])
          · exact q2 p hp hf
        · intro x c' e'
          cases b : x == n with
          | true => exact q3 x c (by rw [List.lookup_cons, b])
          | false => exact q3 x c' (by rw [List.lookup_cons, b]; exact e')
      · have hb : (k == NameKind.free) = false := by simpa using hk
        obtain ⟨cl, e, q1, q2, q3⟩ := ih acc (fun p hp => hl p (List.mem_cons_of_mem _ hp)) ha
        refine ⟨cl, ?_, q1, ?_, q3⟩
        · rw [← e]
          simp only [hb, Bool.false_eq_true, if_false]
          rfl
        · intro p hp hf
          rcases List.mem_cons.mp hp with rfl | hp
          · exact absurd hf hk
          · exact q2 p hp hf
  obtain ⟨cl, e, q1, q2, _⟩ := key scope.names [] h (fun x c e => by simp at e)
  refine ⟨cl, ?_, q1, q2⟩
  unfold closureFor
  dsimp only
  refine (congrArg (fun z => z >>= fun cs => pure cs) e).trans ?_
  rfl
section
variable {prog : Program} {w : World} {A : Around} {E : Value → Shared → Prop} {R : Result → Shared → Prop} {s : Shared}
/-- the loop, whatever the target is -/
theorem compLoop_own {elt target iter : Expr} {ifs : List Expr} {scope : Scope} {pos : Pos} {it acc : Value} {env : Env} (I : Nat → Shared → Prop)
    (turn : ∀ n s, I n s → wpAny (model prog w) A (pyNext it) (fun r s₁ => match r with
      | none => R (.ok .next) s₁
      | some v => wpAny (model prog w) A (letOwnedTupleGo target it v) (fun _ s₀ => wpAny (model prog w) A (assign target env v) (fun _ s₂ =>
          wpAny (model prog w) A (forIn ifs true fun c r => if r = true then do let ok ← isTrue c env (eval c env); pure (ForInStep.yield ok) else pure (ForInStep.yield r)) (fun ok s₃ =>
            if ok = true then wpAny (model prog w) A (eval elt env) (fun x s₄ =>
              wpAny (model prog w) A (call (.builtin "list.append") [acc, x]) (fun _ s₅ => ∃ m, m < n ∧ I m s₅) (notedBy (model prog w) A env fun e s' => R (.error e) s') s₄) (notedBy (model prog w) A env fun e s' => R (.error e) s') s₃
            else ∃ m, m < n ∧ I m s₃) (notedBy (model prog w) A env fun e s' => R (.error e) s') s₂) (notedBy (model prog w) A env fun e s' => R (.error e) s') s₀) (notedBy (model prog w) A env fun e s' => R (.error e) s') s₁) (notedBy (model prog w) A env fun e s' => R (.error e) s') s)
    (n : Nat) (h : I n s) :
    codeAny (model prog w) A (.compLoop (.ListComp elt [⟨target, iter, ifs, 0⟩] scope pos) 0 it acc env) R s := by
  refine codeAny_loop rfl I (fun n s hI => ?_) n h
  show wpAny _ A ((compTurn (.ListComp elt [⟨target, iter, ifs, 0⟩] scope pos) 0 it acc env).onRaise (fun x => do noteFrame x env; theTreesLotGoes x)) _ _ s
  refine wpAny_noted ?_
  rw [compTurn_list]
  refine wpAny_bind (wpAny_standAt (wpAny_bind (wpAny_mono (turn n s hI) (fun r s₁ h₁ => ?_) fun _ _ h' => h')))
  cases r with
  | none => exact wpAny_pure h₁
  | some v =>
    refine wpAny_bind (wpAny_mono h₁ (fun _ s₀ h₀ => ?_) fun _ _ h' => h')
    refine wpAny_bind (wpAny_mono h₀ (fun _ s₂ h₂ => wpAny_bind (wpAny_mono h₂ (fun ok s₃ h₃ => ?_) fun _ _ h' => h')) fun _ _ h' => h')
    cases ok with
    | true =>
      simp only [if_true] at h₃ ⊢
      exact wpAny_bind (wpAny_bind (wpAny_mono h₃ (fun x s₄ h₄ => wpAny_bind (wpAny_mono h₄ (fun _ s₅ h₅ => wpAny_pure (wpAny_pure ⟨rfl, h₅⟩)) fun _ _ h' => h')) fun _ _ h' => h'))
    | false =>
      simp only [Bool.false_eq_true, if_false] at h₃ ⊢
      exact wpAny_bind (wpAny_pure (wpAny_pure ⟨rfl, h₃⟩))
end

/-- the block's context -/
abbrev cxC (X : Cx) (Nc : List Str) (scope : Scope) (cl : List (Str × Addr)) (C : Addr) (s₀ : Shared) (H₀ : Hp) (ex : List Addr) : Cx :=
  { X with N := Nc, s₀ := s₀, H₀ := H₀, env := compEnvC scope cl C X.env, outer := X.stack, ex := ex, fn := fun _ => false, pn := [], xe := fun _ _ => False }
/-- sc: the scope around; N its names; the block's names are those of its target and Nr (N without what the block hides) -/
structure CompOk (sc : Scope) (N : List Str) (ts : List Str) (scope : Scope) (Nr : List Str) : Prop where
  kind : scope.kind = .function
  cell : ∀ y ∈ scope.names, y.2 ≠ .cell
  names : ∀ y ∈ scope.names, y.2 = .local → scope.names.lookup y.1 = some .local
  tg : ∀ x ∈ ts, scope.names.lookup x = some .local
  fr : ∀ p ∈ scope.names, p.2 = .free → sc.names.lookup p.1 = some .cell ∨ sc.names.lookup p.1 = some .free
  nd : (ts ++ Nr).Nodup
  nr : ∀ (i : Nat) (y : Str), Nr[i]? = some y → Vis scope y → N[i]? = some y ∧ scope.names.lookup y = some .free
  len : Nr.length = N.length
def visB (sc : Scope) (y : Str) : Bool := decide (sc.names.lookup y = some .local) || decide (sc.names.lookup y = some .cell) || decide (sc.names.lookup y = some .free)
theorem visB_of {sc : Scope} {y : Str} (h : Vis sc y) : visB sc y = true := by
  unfold visB
  rcases h with h | h | h <;> simp [h]
def nrB (scope : Scope) : List Str → List Str → Bool
  | [], [] => true
  | a :: r, b :: q => (!visB scope a || (decide (a = b) && decide (scope.names.lookup a = some .free))) && nrB scope r q
  | _, _ => false
theorem nrB_of {scope : Scope} : ∀ {Nr N : List Str}, nrB scope Nr N = true → Nr.length = N.length ∧ ∀ (i : Nat) (y : Str), Nr[i]? = some y → Vis scope y → N[i]? = some y ∧ scope.names.lookup y = some .free
  | [], [], _ => ⟨rfl, fun i y e _ => by simp at e⟩
  | a :: r, b :: q, h => by
    unfold nrB at h
    rw [Bool.and_eq_true] at h
    obtain ⟨l, k⟩ := nrB_of h.2
    refine ⟨by simp [l], fun i y e v => ?_⟩
    cases i with
    | zero =>
      simp at e
      subst e
      have h1 := h.1
      rw [visB_of v] at h1
      simp at h1
      exact ⟨by simp [h1.1], h1.2⟩
    | succ i => simpa using k i y (by simpa using e) v
  | [], b :: q, h => by simp [nrB] at h
  | a :: r, [], h => by simp [nrB] at h
def compB (sc : Scope) (N : List Str) (ts : List Str) (scope : Scope) (Nr : List Str) : Bool :=
  decide (scope.kind = .function) && (scope.names.all (fun y => !decide (y.2 = .cell)) && (scope.names.all (fun y => !decide (y.2 = .local) || decide (scope.names.lookup y.1 = some .local)) && (ts.all (fun x => decide (scope.names.lookup x = some .local)) &&
    (scope.names.all (fun p => !decide (p.2 = .free) || (decide (sc.names.lookup p.1 = some .cell) || decide (sc.names.lookup p.1 = some .free))) && (decide ((ts ++ Nr).Nodup) && nrB scope Nr N)))))
theorem compB_of {sc : Scope} {N ts : List Str} {scope : Scope} {Nr : List Str} (h : compB sc N ts scope Nr = true) : CompOk sc N ts scope Nr := by
  unfold compB at h
  simp only [Bool.and_eq_true, decide_eq_true_eq, List.all_eq_true, Bool.or_eq_true, Bool.not_eq_true', decide_eq_false_iff_not] at h
  obtain ⟨h1, h2, h3, h4, h5, h6, h7⟩ := h
  obtain ⟨l, k⟩ := nrB_of h7
  exact ⟨h1, h2, fun y hy e => (h3 y hy).resolve_left fun z => z e, h4, fun p hp e => (h5 p hp).resolve_left fun z => z e, h6, k, l⟩
theorem lookup_relabel {env : Env} : ∀ {names : List (Str × NameKind)} {x : Str},
    (names.map fun (n, k) => if (k == NameKind.free && env.scope.kind == .function && env.kindOf n == some .cell) then (n, NameKind.cell) else (n, k)).lookup x =
      (names.lookup x).map fun k => if (k == NameKind.free && env.scope.kind == .function && env.kindOf x == some .cell) then NameKind.cell else k
  | [], x => rfl
  | (n, k) :: r, x => by
    rw [List.map_cons]
    show List.lookup x ((if (k == NameKind.free && env.scope.kind == .function && env.kindOf n == some .cell) = true then (n, NameKind.cell) else (n, k)) :: _) = _
    rw [List.lookup_cons (as := r)]
    cases b : x == n with
    | true =>
      have e := eq_of_beq b
      subst e
      split <;> simp_all [List.lookup_cons]
    | false =>
      have ih := @lookup_relabel env r x
      split <;> (rw [List.lookup_cons]; simp only [b]; exact ih)
theorem _root_.L2.HOk.track {P : Program} {w : World} {H : Hp} {h : Heap} {a : Addr} {o : HO} (x : HOk P w H h) (hn : H a = none) (new : ObjOk P w (upd H a o) h a o) : HOk P w (upd H a o) h := fun b u e => by
  by_cases hb : b = a
  · subst hb; rw [upd_same] at e; cases e; exact new
  · rw [upd_ne hb] at e
    exact (x b u e).stay (fun c v _ q => q) (fun c q => by rw [upd_ne (ne_of_none q hn)]; exact q) fun c xs q => by rw [upd_ne (ne_of_none q hn)]; exact q
section
variable {X : Cx} {ts Nr : List Str} {scope : Scope} {cl : List (Str × Addr)} {C : Addr} {pins : List (Addr × Obj)} {σ : L2.St} {H : Hp} {s : Shared} {fp : List Addr}
/-- into the block -/
theorem _root_.L2.Inv.comp {h₁ : Heap} {m : Str → Option Value} {t : Nat} (I : Inv X pins σ H s) (ok : CompOk X.env.scope X.N ts scope Nr) (c1 : ∀ x c, cl.lookup x = some c → X.env.cells.lookup x = some c) (c2 : ∀ p ∈ scope.names, p.2 = NameKind.free → ∃ c, cl.lookup p.1 = some c)
    (hf : ∀ b ∈ fp, FpOk X pins H b) (hx : ∀ b ∈ fp, b < s.heap.objs.size) (hC : s.heap.objs.size ≤ C) (kk : ∀ b o, s.heap.get? b = some o → h₁.get? b = some o) (hn : h₁.Ns C m) :
    Inv (cxC X (ts ++ Nr) scope cl C s H fp) [] (ts.map (fun _ => none) ++ σ) H { s with heap := h₁, toks := t } := by
  have relF : ∀ y, ((relabel scope X.env).names.lookup y = some .cell ∨ (relabel scope X.env).names.lookup y = some .free) → (y, NameKind.free) ∈ scope.names := by
    intro y h
    unfold relabel at h
    rw [lookup_relabel] at h
    cases e : scope.names.lookup y with
    | none => rw [e] at h; simp at h
    | some k =>
      have hm : (y, k) ∈ scope.names := by
        rw [List.lookup_eq_some_iff] at e
        obtain ⟨l1, l2, e, _⟩ := e
        rw [e]; simp
      rw [e] at h
      by_cases hk : k = .free
      · rw [← hk]; exact hm
      · have hb : (k == NameKind.free) = false := by simpa using hk
        have e2 : (if (k == NameKind.free && X.env.scope.kind == .function && X.env.kindOf y == some .cell) = true then NameKind.cell else k) = k := by rw [hb]; rfl
        simp only [Option.map_some, e2] at h
        rcases h with h | h
        · exact absurd (Option.some.inj h) (ok.cell _ hm)
        · exact absurd (Option.some.inj h) hk
  refine ⟨⟨I.ok.mod, ok.kind, I.ok.glob, I.ok.blt, hC, fun x y c e1 e2 => I.ok.inj x y c (c1 x c e1) (c1 y c e2), fun y h => c2 (y, .free) (relF y h) rfl, fun _ _ z => (by cases z), I.ok.hd, I.ok.frames, .inl rfl, fun b hb => ⟨?_, ?_⟩, I.bs, Nat.le_trans I.ok.bsz I.sz, ?_, ?_, I.stack, I.stkFree⟩,
    rfl, I.bare, Un.kept kk, ⟨m, hn, ?_⟩, ?_, I.hok.fresh hC, fun y c e => I.freeC y c (c1 y c e), fun p hp => (by simp at hp), I.hok.kept kk, ?_⟩
  · exact Nat.ne_of_lt (Nat.lt_of_lt_of_le (hx b hb) hC)
  · exact fun y c e => (hf b hb).2.2.2.2.1 y c (c1 y c e)
  · intro b o e hb
    rcases (hf b hb).2.2.2.1 with z | z
    · exact I.ok.noex b o e z
    · exact absurd (Nat.lt_of_lt_of_le (Heap.lt_size (I.ok.bs b o e).1) z) (Nat.lt_irrefl _)
  · intro b hb hm
    rcases List.mem_cons.mp (I.stkSub b hm) with e | e
    · exact (hf b hb).2.1 e
    · exact (hf b hb).2.2.1 e
  · intro i y v e1 e2 e3
    have hlt : ¬ i < ts.length := by
      intro hlt
      rw [List.getElem?_append_left (by simpa using hlt), List.getElem?_map] at e2
      cases z : ts[i]? with
      | none => rw [z] at e2; cases e2
      | some q => rw [z] at e2; cases e2
    have hge : ts.length ≤ i := Nat.le_of_not_lt hlt
    rw [List.getElem?_append_right (by simpa using hge)] at e2
    have e1' : Nr[i - ts.length]? = some y := by
      rw [← e1]
      exact (List.getElem?_append_right hge).symm
    have e2' : σ[i - ts.length]? = some (some v) := by simpa using e2
    have vs : Vis scope y := by
      unfold Vis at e3 ⊢
      change (relabel scope X.env).names.lookup y = some .local ∨ (relabel scope X.env).names.lookup y = some .cell ∨ (relabel scope X.env).names.lookup y = some .free at e3
      unfold relabel at e3
      rw [lookup_relabel] at e3
      cases z : scope.names.lookup y with
      | none => rw [z] at e3; simp at e3
      | some k =>
        rw [z] at e3
        by_cases hk : k = .free
        · subst hk; exact .inr (.inr rfl)
        · have hb : (k == NameKind.free) = false := by simpa using hk
          have e2 : (if (k == NameKind.free && X.env.scope.kind == .function && X.env.kindOf y == some .cell) = true then NameKind.cell else k) = k := by rw [hb]; rfl
          simp only [Option.map_some, e2] at e3
          exact e3
    obtain ⟨n1, n2⟩ := ok.nr _ y e1' vs
    have hm : (y, NameKind.free) ∈ scope.names := by
      rw [List.lookup_eq_some_iff] at n2
      obtain ⟨l1, l2, e, _⟩ := n2
      rw [e]; simp
    have hfr := ok.fr _ hm rfl
    obtain ⟨m0, hn0, hl0⟩ := I.loc
    obtain ⟨u, r, lk⟩ := hl0 _ y v n1 e2' (by rcases hfr with z | z; exact .inr (.inl z); exact .inr (.inr z))
    refine ⟨u, r, .inr ⟨?_, ?_⟩⟩
    · show (relabel scope X.env).names.lookup y = some .cell ∨ (relabel scope X.env).names.lookup y = some .free
      unfold relabel
      rw [lookup_relabel, n2]
      by_cases hb : (NameKind.free == NameKind.free && X.env.scope.kind == .function && X.env.kindOf y == some .cell) = true
      · left; simp only [Option.map_some, hb, if_true]
      · right; simp only [Option.map_some, hb, if_false]; rfl
    · rcases lk with ⟨k, _⟩ | ⟨_, c, ec, z⟩
      · have k' : X.env.scope.names.lookup y = some .local := k
        rcases hfr with z | z
        · have z' : X.env.scope.names.lookup y = some .cell := z
          rw [k'] at z'; cases z'
        · have z' : X.env.scope.names.lookup y = some .free := z
          rw [k'] at z'; cases z'
      · obtain ⟨c', e'⟩ := c2 _ hm rfl
        have := c1 _ _ e'
        have ec' : X.env.cells.lookup y = some c := ec
        have ecc : c' = c := Option.some.inj ((show X.env.cells.lookup y = some c' from this).symm.trans ec')
        subst ecc
        exact ⟨_, e', z.keeps kk⟩
  · intro y c e
    obtain ⟨v, z⟩ := I.cell y c (c1 y c e)
    exact ⟨v, z.keeps kk⟩
  · show (ts.map (fun _ => none) ++ σ).length = (ts ++ Nr).length
    simp [I.len, ok.len]
/-- out of the block: its list is tracked -/
theorem _root_.L2.Inv.uncomp {Nc : List Str} {pins' : List (Addr × Obj)} {σ' : L2.St} {H' : Hp} {s' : Shared} {D : Addr} {its : List Value} {vs : List V} {n : Nat} (I : Inv X pins σ H s) (Ic : Inv (cxC X Nc scope cl C s H fp) pins' σ' H' s') (hf : ∀ b ∈ fp, FpOk X pins H b) (hD : s.heap.objs.size ≤ D) (hDn : H' D = none)
    (e : s'.heap.get? D = some { cls := .type "list", data := .seq its.toArray n }) (rv : Vals vs its) (hz : vs.length ≤ sizeLine) : Inv X pins σ (upd H' D (.lst vs)) s' := by
  have hDs : H D = none := I.hok.fresh hD
  have u : Un (frs X.stack) fp H H' s.heap s'.heap := Ic.base
  refine I.call' (ch := fp) Ic.os ⟨u.keep, u.slot, fun b o q n hb => ?_, u.there, fun b xs q => ?_, fun b o x q => ?_, fun b ps q => ?_⟩ (Ic.hok.track hDn ⟨hz, its, n, rv, e⟩) Ic.bare (fun b hb => ⟨(hf b hb).2.2.2.1, (hf b hb).2.1, (hf b hb).2.2.2.2.1, (hf b hb).2.2.2.2.2⟩)
  · rw [upd_ne (Nat.ne_of_lt (Nat.lt_of_lt_of_le (Heap.lt_size q) hD))]
    exact u.free b o q n hb
  · rw [upd_ne (ne_of_none q hDs)]; exact u.tups b xs q
  · rw [upd_ne (ne_of_none q hDs)]; exact u.frzs b o x q
  · obtain ⟨more, z⟩ := u.tbls b ps q
    exact ⟨more, by rw [upd_ne (ne_of_none q hDs)]; exact z⟩
end

/-- what is walked: the data ds, one after another, as long as the heap only grows -/
def Src (K : PySem.W.Frag) (J : It) (ds : List D) (H : Hp) : Prop := ∀ H', Same H H' → ∀ i, (∀ d, ds[i]? = some d → J.go i H' ∧ ∀ x H'', J.yld i H' x H'' → H'' = H' ∧ Is K H d x) ∧ (ds.length ≤ i → J.stop i H')
theorem PI_imp {X : Cx} {tg e : Expr} {t t' : TI} (h : PI X tg e t) (i : ∀ σ H R, t' σ H R → t σ H R) : PI X tg e t' := fun pins s σ H R I q => h pins s σ H R I (i σ H R q)
structure EI (X : Cx) (tg iter : Expr) (δ : Sd) (ds : List D) : Prop where
  run : PI X tg iter (fun σ H R => IsS X.K H δ σ ∧ ∀ J H', Same H H' → Src X.K J ds H' → R J H')
section
variable {X : Cx} {tg e a : Expr} {δ : Sd} {ds : List D}
theorem ei_list (h : EV X e δ (.lst ds)) : EI X tg e δ ds := ⟨PI_imp (pi_list h.run) fun σ H R ⟨S, q⟩ => ⟨S, fun v H1 s1 r1 => by
  unfold Is at r1
  obtain ⟨p, xs, rfl, z, l⟩ := r1
  refine ⟨p, rfl, ⟨xs, z⟩, q _ H1 s1 fun H2 s2 i => ⟨fun d hd => ?_, fun hi => ⟨xs, s2.seq z, by rw [← l.len]; exact hi⟩⟩⟩
  obtain ⟨v, e, r⟩ := IsL.get l hd
  refine ⟨⟨xs, v, s2.seq z, e⟩, fun x H3 y => ?_⟩
  obtain ⟨rfl, y⟩ := y
  have := y xs (s2.seq z)
  rw [e] at this
  cases this
  exact ⟨rfl, r⟩⟩⟩
theorem ei_tup (h : EV X e δ (.tup ds)) : EI X tg e δ ds := ⟨PI_imp (pi_tup h.run) fun σ H R ⟨S, q⟩ => ⟨S, fun v H1 s1 r1 => by
  unfold Is at r1
  obtain ⟨p, xs, rfl, z, l⟩ := r1
  refine ⟨p, rfl, ⟨xs, z⟩, q _ H1 s1 fun H2 s2 i => ⟨fun d hd => ?_, fun hi => ⟨xs, seqT s2 z, by rw [← l.len]; exact hi⟩⟩⟩
  obtain ⟨v, e, r⟩ := IsL.get l hd
  refine ⟨⟨xs, v, seqT s2 z, e⟩, fun x H3 y => ?_⟩
  obtain ⟨rfl, y⟩ := y
  have := y xs (seqT s2 z)
  rw [e] at this
  cases this
  exact ⟨rfl, r⟩⟩⟩
def rangeF (lo : Int) (n : Nat) : List D := (List.range n).map fun (k : Nat) => D.int (lo + (k : Int))
theorem src_range {K : PySem.W.Frag} {lo : Int} {n : Nat} {H : Hp} : Src K (Itr lo n) (rangeF lo n) H := fun H' _ i => by
  refine ⟨fun d hd => ?_, fun hi => by show n ≤ i; simpa [rangeF] using hi⟩
  unfold rangeF at hd
  rw [List.getElem?_map] at hd
  rcases Nat.lt_or_ge i n with c | c
  · rw [List.getElem?_range c] at hd
    cases hd
    refine ⟨c, fun x H2 y => ?_⟩
    obtain ⟨rfl, rfl⟩ := y
    exact ⟨rfl, by unfold Is; rfl⟩
  · rw [List.getElem?_eq_none (by simpa using c)] at hd
    cases hd
theorem rangeF_0 (n : Nat) : rangeF 0 n = rangeD n := by
  unfold rangeF rangeD
  congr 1
  funext k
  rw [Int.zero_add]
theorem ei_range {p pos : Pos} {n : Int} (hg : Gl X "range") (hm : X.mg "range" = none) (ha : EV X a δ (.int n)) (hn : -(2 ^ 62) ≤ n ∧ n < 2 ^ 62) (hst : starEach [a] X.env = [(false, eval a X.env)] := by exact star_of rfl) : EI X tg (.Call (.Name "range" p) [a] [] pos) δ (rangeD n.toNat) :=
  ⟨PI_imp (pi_range1 hg hm (ea_cons ha ea_nil hst).run hst) fun σ H R ⟨S, q⟩ => ⟨S, fun vs H1 s1 r1 => by
    obtain ⟨v, rfl, r⟩ := isL_one r1
    unfold Is at r
    subst r
    refine ⟨n, rfl, hn.1, hn.2, q _ H1 s1 ?_⟩
    rw [← rangeF_0]
    exact src_range⟩⟩
/-- the tests of a clause: none, or one -/
inductive Tests (X : Cx) : List Expr → Sd → Bool → Prop where
  | nil {δ : Sd} : Tests X [] δ true
  | one {c : Expr} {δ : Sd} {b : Bool} : ET X c δ b → Tests X [c] δ b
theorem Tests.run {ifs : List Expr} {b : Bool} {pins : List (Addr × Obj)} {σ : L2.St} {H : Hp} {s : Shared} (h : Tests X ifs δ b) (I : Inv X pins σ H s) (S : IsS X.K H δ σ) :
    wpAny (model X.prog X.w) X.A (forIn ifs true fun c r => if r = true then do let ok ← isTrue c X.env (eval c X.env); pure (ForInStep.yield ok) else pure (ForInStep.yield r)) (fun ok s' => ok = b ∧ ∃ H', Inv X pins σ H' s' ∧ Same H H') X.xe s := by
  cases h with
  | nil => exact wpAny_tests_nil ⟨rfl, H, I, Same.refl H⟩
  | one h =>
    refine wpAny_tests_one (wpAny_mono (h.run pins s σ H (fun b' H' => b' = b ∧ Same H H') I ⟨S, fun H' s' => ⟨rfl, s'⟩⟩) (fun b' s' ⟨H', I', q, s1⟩ => ⟨q, H', I', s1⟩) fun _ _ z => z)
end
/-- what a target does with a datum: the values of its names -/
structure EG (X : Cx) (tg : Expr) (d : D) (es : List D) : Prop where
  run : ∀ (pins : List (Addr × Obj)) (s : Shared) (t σ : L2.St) (H : Hp) (v : V) (u : Value), t.length = es.length → Inv X pins (t ++ σ) H s → RelV v u → Is X.K H d v →
    wpAny (model X.prog X.w) X.A (assign tg X.env u) (fun _ s' => ∃ t', IsL X.K H es t' ∧ Inv X pins (t'.map some ++ σ) H s') X.xe s
theorem eg_name {X : Cx} {x : Str} {px : Pos} {d : D} (nd : X.N.Nodup) (hi : X.N[0]? = some x) (hx : X.env.scope.names.lookup x = some .local) : EG X (.Name x px) d [d] := ⟨fun pins s t σ H v u hl I r q => by
  match t, hl with
  | [t0], _ =>
    refine wpAny_mono (pg_name (X := X) (i := 0) nd hi (Or.inl hx) (.inr hx) pins s (t0 :: σ) H v u (fun σ' H' => σ' = some v :: σ ∧ H' = H) I r ⟨rfl, rfl⟩) (fun _ s' ⟨σ', H', I', e1, e2⟩ => ?_) fun _ _ z => z
    subst e1 e2
    exact ⟨[v], by unfold IsL; exact ⟨v, [], rfl, q, by unfold IsL; rfl⟩, I'⟩⟩
section
variable {X : Cx} {tg elt iter : Expr} {ts Nr : List Str} {ifs : List Expr} {scope : Scope} {δ : Sd} {ds : List D} {pos cpos : Pos}
/-- the walk -/
theorem comp_run {α : Type} {xs : List α} {f : α → D} {use : Option (Value → Sem Unit)} {Q : Value → Shared → Prop} (p : α → Bool) (es : α → List D) (g : α → D) (hc : X.calm = true) (ok : CompOk X.env.scope X.N ts scope Nr) (hit : EI X tg iter δ (xs.map f))
    (htg : ∀ cl C s₀ H₀ ex, ∀ d ∈ xs, EG (cxC X (ts ++ Nr) scope cl C s₀ H₀ ex) tg (f d) (es d) ∧ (es d).length = ts.length)
    (hts : ∀ cl C s₀ H₀ ex, ∀ d ∈ xs, Tests (cxC X (ts ++ Nr) scope cl C s₀ H₀ ex) ifs ((es d).map some ++ δ) (p d))
    (hel : ∀ cl C s₀ H₀ ex, ∀ d ∈ xs, p d = true → EV (cxC X (ts ++ Nr) scope cl C s₀ H₀ ex) elt ((es d).map some ++ δ) (g d))
    (hz : xs.length ≤ 1000) (hs : ∀ x, foldedSetIterable iter X.env x = pure x)
    {pins : List (Addr × Obj)} {σ : L2.St} {H : Hp} {s : Shared} (I : Inv X pins σ H s) (S : IsS X.K H δ σ)
    (hQ : ∀ (D C : Addr) (s' : Shared) (H' : Hp) (vs : List V) (m : Str → Option Value), Same H H' → Inv X pins σ (upd H' D (.lst vs)) s' → H' D = none → IsL X.K H' ((xs.filter p).map g) vs → s'.heap.Ns C m → FpOk X pins (upd H' D (.lst vs)) C →
      compPost (model X.prog X.w) X.A X.xe use Q (.ref D) C (.ok .next) s') :
    wpAny (model X.prog X.w) X.A (comprehension (.ListComp elt [⟨tg, iter, ifs, 0⟩] scope pos) scope X.env cpos (newList []) false (eval iter X.env) use) Q X.xe s := by
  obtain ⟨cl, hcl, c1, c2⟩ := closure_of (scope := scope) (env := X.env) (fun q hq e => I.ok.has q.1 (by have := ok.fr q hq e; exact this))
  refine wpAny_comprehension_free (use := use) rfl hs hcl ok.kind ok.names ?_
  refine wpAny_mono (hit.run pins s σ H (fun J H' => Same H H' ∧ Src X.K J (xs.map f) H') I ⟨S, fun J H' s' h => ⟨s', h⟩⟩) (fun v s1 h1 => wpAny_mono h1 (fun itv s2 h2 => ?_) fun _ _ z => z) fun _ _ z => z
  obtain ⟨it, fp, tn, J, H2, rfl, I2, T, st2, f2, sm2, src⟩ := h2
  refine wpAny_newObj_type (wpAny_newFunctionEnv ok.cell (by intro y hy; simp at hy) (fun h₁ hns₁ hsb₁ => ?_) ok.kind)
  dsimp only at hns₁ hsb₁ ⊢
  generalize hH3 : s2.heap.push { cls := .type "list", dict := none, data := .seq ([] : List Value).toArray } = h3 at hns₁ hsb₁ ⊢
  have hCe : h3.objs.size = s2.heap.objs.size + 1 := by rw [← hH3, Heap.size_push]
  have hDC : s2.heap.objs.size ≠ h3.objs.size := by rw [hCe]; exact Nat.ne_of_lt (Nat.lt_succ_self _)
  have hC : s2.heap.objs.size ≤ h3.objs.size := by rw [hCe]; exact Nat.le_succ _
  have hfp : ∀ b ∈ fp, b < s2.heap.objs.size := fun b hb => by
    obtain ⟨o, e, _⟩ := T.obj _ _ st2 b hb
    exact Heap.lt_size e
  have kk : ∀ b o, s2.heap.get? b = some o → h₁.get? b = some o := fun b o e => hsb₁.extBut b o (Nat.ne_of_lt (Nat.lt_of_lt_of_le (Heap.lt_size e) hC)) (Heap.get?_push_of_some _ (hH3 ▸ Heap.get?_push_of_some _ e))
  have hD1 : h₁.get? s2.heap.objs.size = some { cls := .type "list", data := .seq ([] : List Value).toArray 0 } := hsb₁.extBut _ _ hDC (Heap.get?_push_of_some _ (hH3 ▸ Heap.get?_push_size _ rfl))
  have Ic := I2.comp (t := s2.toks + ([] : List (Str × Value)).length) ok c1 c2 f2 hfp hC kk hns₁
  -- the iterator's records
  have stat : ∀ {H' : Hp} {ps : List (Addr × Obj)}, (∀ b ∈ fp, H' b = none) → (∀ q ∈ ps, q.1 ∉ fp) → ∀ b ∈ fp, FpOk (cxC X (ts ++ Nr) scope cl h3.objs.size s2 H2 fp) ps H' b := fun {H' ps} hn hps b hb =>
    ⟨hn b hb, Nat.ne_of_lt (Nat.lt_of_lt_of_le (hfp b hb) hC), fun hm => by
      rcases List.mem_cons.mp (I2.stkSub b hm) with e | e
      · exact (f2 b hb).2.1 e
      · exact (f2 b hb).2.2.1 e, .inl hb, fun y c e => (f2 b hb).2.2.2.2.1 y c (c1 y c e), fun q hq e => hps q (by simpa using hq) (e ▸ hb)⟩
  have hDf : s2.heap.objs.size ∉ fp := fun z => Nat.lt_irrefl _ (hfp _ z)
  have pinOk : ∀ {σ' : L2.St} {H' : Hp} {s' : Shared} {o : Obj}, Inv (cxC X (ts ++ Nr) scope cl h3.objs.size s2 H2 fp) [] σ' H' s' → H' s2.heap.objs.size = none → s'.heap.get? s2.heap.objs.size = some o → (∀ v, o.data ≠ .cell v) →
      Inv (cxC X (ts ++ Nr) scope cl h3.objs.size s2 H2 fp) [(s2.heap.objs.size, o)] σ' H' s' := fun {σ' H' s' o} I' hn e hd => I'.pins_of fun q hq => by
    have : q = (s2.heap.objs.size, o) := by simpa using hq
    subst this
    refine ⟨e, hn, hDC, fun hm => ?_, hd⟩
    rcases List.mem_cons.mp (I2.stkSub _ hm) with z | z
    · exact absurd I2.lt (by rw [← z]; exact Nat.lt_irrefl _)
    · exact I2.nofs (Nat.le_refl _) z
  have loop : codeAny (model X.prog X.w) X.A (.compLoop (.ListComp elt [⟨tg, iter, ifs, 0⟩] scope pos) 0 (.ref it) (.ref s2.heap.objs.size) (compEnvC scope cl h3.objs.size X.env))
      (compPost (model X.prog X.w) X.A X.xe use Q (.ref s2.heap.objs.size) h3.objs.size) { s2 with heap := h₁, toks := s2.toks + ([] : List (Str × Value)).length } := by
    refine compLoop_own (fun n s' => ∃ (i : Nat) (t : L2.St) (H' : Hp) (vs : List V) (its : List Value) (n0 : Nat), t.length = ts.length ∧ Inv (cxC X (ts ++ Nr) scope cl h3.objs.size s2 H2 fp) [] (t ++ σ) H' s' ∧ tn i s'.heap ∧ (∀ b ∈ fp, H' b = none) ∧ H' s2.heap.objs.size = none ∧
      s'.heap.get? s2.heap.objs.size = some { cls := .type "list", data := .seq its.toArray n0 } ∧ Vals vs its ∧ Same H2 H' ∧ IsL X.K H' (((xs.take i).filter p).map g) vs ∧ i ≤ xs.length ∧ n = xs.length - i) ?_ xs.length
      ⟨0, ts.map (fun _ => none), H2, [], [], 0, by simp, Ic, T.keep _ _ _ st2 (fun b _ o e => kk b o e), fun b hb => (f2 b hb).1, I2.hok.fresh (Nat.le_refl _), hD1, .nil, Same.refl _, by simp [IsL], Nat.zero_le _, rfl⟩
    rintro n s3 ⟨i, t, H3, vs, its, n0, htl, I3, st3, fr3, hDn, hDo, rv, sm, hL, hi, rfl⟩
    have hdl : ∀ v, ({ cls := .type "list", data := .seq its.toArray n0 } : Obj).data ≠ .cell v := fun v z => by cases z
    have I3p := pinOk I3 hDn hDo hdl
    have hpf : ∀ q ∈ [((s2.heap.objs.size, ({ cls := .type "list", data := .seq its.toArray n0 } : Obj)) : Addr × Obj)], q.1 ∉ fp := fun q hq => by
      have : q = (s2.heap.objs.size, { cls := .type "list", data := .seq its.toArray n0 }) := by simpa using hq
      subst this; exact hDf
    rcases Nat.lt_or_ge i xs.length with c | c
    · obtain ⟨go, yl⟩ := (src H3 sm i).1 (f xs[i]) (by rw [List.getElem?_map, List.getElem?_eq_getElem c]; rfl)
      have hmem : xs[i] ∈ xs := List.getElem_mem c
      refine wpAny_mono (T.item (cxC X (ts ++ Nr) scope cl h3.objs.size s2 H2 fp) rfl rfl rfl hc i _ s3 (t ++ σ) H3 (fun _ _ => False) I3p (stat fr3 hpf) st3 go) (fun r s4 ⟨u, hr, h4⟩ => ?_) fun _ _ z => z.elim
      subst hr
      refine wpAny_mono h4 (fun _ s5 ⟨xv, H5, I5, r5, y5, st5, fr5⟩ => ?_) fun _ _ z => z.elim
      obtain ⟨e35, isx0⟩ := yl xv H5 y5
      have s35 : Same H3 H5 := by rw [e35]; exact Same.refl _
      have isx : Is X.K H5 (f xs[i]) xv := by rw [e35]; exact Is.mono sm _ isx0
      have I5' := I5.pinned (stat fr5 hpf) (T.obj _ _ st5)
      obtain ⟨tgr, tgl⟩ := htg cl h3.objs.size s2 H2 fp _ hmem
      refine wpAny_mono (tgr.run _ s5 t σ H5 xv u (by rw [htl, tgl]) I5' r5 isx) (fun _ s6 ⟨t6, l6, I6⟩ => ?_) fun _ _ z => z.elim
      have S6 : IsS X.K H5 ((es xs[i]).map some ++ δ) (t6.map some ++ σ) := by
        have S5 := (S.mono (sm2.trans sm)).mono s35
        refine ⟨by simp [S5.1, l6.len], fun j d hd => ?_⟩
        rcases Nat.lt_or_ge j (es xs[i]).length with z | z
        · rw [List.getElem?_append_left (by simpa using z), List.getElem?_map] at hd
          rw [List.getElem?_append_left (by rw [List.length_map, ← l6.len]; exact z), List.getElem?_map]
          cases q : (es xs[i])[j]? with
          | none => rw [q] at hd; cases hd
          | some y =>
            rw [q] at hd
            cases hd
            obtain ⟨v, e, r⟩ := IsL.get l6 q
            exact ⟨v, by rw [e]; rfl, r⟩
        · rw [List.getElem?_append_right (by simpa using z)] at hd
          rw [List.getElem?_append_right (by rw [List.length_map, ← l6.len]; exact z)]
          have := S5.2 _ d hd
          simpa [l6.len] using this
      refine wpAny_mono ((hts cl h3.objs.size s2 H2 fp _ hmem).run I6 S6) (fun ok' s7 ⟨e7, H7, I7, sm7⟩ => ?_) fun _ _ z => z.elim
      have tk1 : xs.take (i + 1) = xs.take i ++ [xs[i]] := by rw [List.take_succ, List.getElem?_eq_getElem c]; rfl
      have st7 : ∀ {σ7 : L2.St} {H7 : Hp} {s7 : Shared}, Inv (cxC X (ts ++ Nr) scope cl h3.objs.size s2 H2 fp) ([(s2.heap.objs.size, { cls := .type "list", data := .seq its.toArray n0 })] ++ pinsAt fp s5.heap) σ7 H7 s7 →
          tn (i + 1) s7.heap ∧ (∀ b ∈ fp, H7 b = none) ∧ H7 s2.heap.objs.size = none ∧ s7.heap.get? s2.heap.objs.size = some { cls := .type "list", data := .seq its.toArray n0 } := fun {σ7 H7 s7} I7 => by
        have pD := I7.pin (s2.heap.objs.size, { cls := .type "list", data := .seq its.toArray n0 }) (List.mem_append_right _ (List.mem_append_left _ (by simp)))
        refine ⟨T.keep _ _ _ st5 fun b hb o e => (I7.pin (b, o) (List.mem_append_right _ (List.mem_append_right _ (mem_pinsAt hb e)))).1, fun b hb => ?_, pD.2.1, pD.1⟩
        obtain ⟨o, e, d⟩ := T.obj _ _ st5 b hb
        exact (I7.pin (b, o) (List.mem_append_right _ (List.mem_append_right _ (mem_pinsAt hb e)))).2.1
      subst e7
      cases hp : p xs[i] with
      | false =>
        simp only [Bool.false_eq_true, if_false]
        obtain ⟨a1, a2, a3, a4⟩ := st7 I7
        refine ⟨xs.length - (i + 1), by omega, i + 1, t6.map some, H7, vs, its, n0, by rw [List.length_map, ← l6.len, tgl], I7.pins_of (fun q hq => by cases hq), a1, a2, a3, a4, rv, ((sm.trans s35).trans sm7), ?_, c, rfl⟩
        rw [tk1, List.filter_append, List.filter_cons, hp]
        simpa using IsL.mono (s35.trans sm7) _ hL
      | true =>
        simp only [if_true]
        refine wpAny_mono ((hel cl h3.objs.size s2 H2 fp _ hmem hp).run _ s7 _ H7 (fun v H' => Same H7 H' ∧ Is X.K H' (g xs[i]) v) I7 ⟨S6.mono sm7, fun v H' s' r' => ⟨s', r'⟩⟩) (fun u8 s8 ⟨v8, H8, I8, r8, sm8, is8⟩ => ?_) fun _ _ z => z.elim
        obtain ⟨a1, a2, a3, a4⟩ := st7 I8
        have hlen : vs.length ≤ xs.length := by
          rw [← hL.len, List.length_map]
          refine Nat.le_trans (List.length_filter_le _ _) ?_
          rw [List.length_take]
          exact Nat.min_le_right _ _
        have hsz : its.length ≤ 1000 := by rw [← rv.length]; omega
        refine call_meets F.slot_list_append ⟨_, a4, rfl⟩ F.entry_list_append (F.args_list_append_2 _ _) (PySem.list_append _ its.toArray n0 u8 (by rw [List.size_toArray]; exact le_line hsz)) ⟨a4, ?_⟩
        have q := PySem.IsL.update a4 (fun z => z.push u8)
        have e9 : its.toArray.push u8 = (its ++ [u8]).toArray := by simp
        rw [e9] at q
        refine ⟨xs.length - (i + 1), by omega, i + 1, t6.map some, H8, vs ++ [v8], its ++ [u8], _, by rw [List.length_map, ← l6.len, tgl], ?_, ?_, a2, a3, q, rv.append (.cons r8 .nil), ((sm.trans s35).trans sm7).trans sm8, ?_, c, rfl⟩
        · have I9 : Inv (cxC X (ts ++ Nr) scope cl h3.objs.size s2 H2 fp) [] (t6.map some ++ σ) H8 s8 := I8.pins_of (fun q hq => by cases hq)
          refine I9.turned (it := s2.heap.objs.size) (t' := s8.toks) (fun b o hb e => (Heap.get?_update_other s8.heap _ (Ne.symm hb)).trans e) a3 hDC (.inr (Nat.le_refl _)) (fun y c' e => ?_) (fun q hq => by simp at hq)
          obtain ⟨v, z⟩ := I2.cell y c' (c1 y c' e)
          exact Nat.ne_of_lt z.lt
        · exact T.keep _ _ _ a1 fun b hb o e => (Heap.get?_update_other s8.heap _ (fun z => hDf (by rw [z]; exact hb))).trans e
        · rw [tk1, List.filter_append, List.filter_cons, hp]
          simp only [if_true, List.filter_nil, List.map_append, List.map_cons, List.map_nil]
          refine IsL.append (IsL.mono ((s35.trans sm7).trans sm8) _ hL) ?_
          unfold IsL
          exact ⟨v8, [], rfl, is8, by unfold IsL; rfl⟩
    · have e : i = xs.length := Nat.le_antisymm hi c
      subst e
      refine wpAny_mono (T.done (cxC X (ts ++ Nr) scope cl h3.objs.size s2 H2 fp) rfl rfl rfl hc _ _ s3 (t ++ σ) H3 (fun _ _ => False) I3p (stat fr3 hpf) st3 ((src H3 sm xs.length).2 (by simp))) (fun r s4 ⟨hr, I4⟩ => ?_) fun _ _ z => z.elim
      subst hr
      have pD := I4.pin (s2.heap.objs.size, { cls := .type "list", data := .seq its.toArray n0 }) (List.mem_append_right _ (by simp))
      have hlen : vs.length ≤ 1000 := by
        rw [← hL.len, List.length_map]
        refine Nat.le_trans (List.length_filter_le _ _) ?_
        rw [List.length_take]
        omega
      have IX := I2.uncomp I4 f2 (Nat.le_refl _) pD.2.1 pD.1 rv (le_line hlen)
      obtain ⟨m4, hm4, _⟩ := I4.loc
      rw [List.take_length] at hL
      refine hQ s2.heap.objs.size h3.objs.size s4 H3 vs m4 (sm2.trans sm) IX hDn hL hm4 (I2.fpOk hC ?_)
      rw [upd_ne (Ne.symm hDC)]
      exact I4.free
  exact codeAny_compStart_list loop (T.self _ 0 _ _ _ (T.keep _ _ _ st2 (fun b _ o e => kk b o e)) loop)
theorem eg_one {x : Str} {px : Pos} {d : D} (ok : CompOk X.env.scope X.N [x] scope Nr) (cl : List (Str × Addr)) (C : Addr) (s₀ : Shared) (H₀ : Hp) (ex : List Addr) : EG (cxC X ([x] ++ Nr) scope cl C s₀ H₀ ex) (.Name x px) d [d] ∧ [d].length = [x].length :=
  ⟨eg_name ok.nd rfl (by
    show (relabel scope X.env).names.lookup x = some .local
    exact lookup_relabel_local (ok.tg x (by simp))), rfl⟩
/-- [elt for x in iter if test] -/
theorem ev_comp1 {α : Type} {xs : List α} {f : α → D} {x : Str} {px : Pos} (p : α → Bool) (g : α → D) (hc : X.calm = true) (ok : compB X.env.scope X.N [x] scope Nr = true) (hit : EI X (.Name x px) iter δ (xs.map f))
    (hts : ∀ cl C s₀ H₀ ex, ∀ d ∈ xs, Tests (cxC X (x :: Nr) scope cl C s₀ H₀ ex) ifs (some (f d) :: δ) (p d))
    (hel : ∀ cl C s₀ H₀ ex, ∀ d ∈ xs, p d = true → EV (cxC X (x :: Nr) scope cl C s₀ H₀ ex) elt (some (f d) :: δ) (g d))
    (hz : xs.length ≤ 1000 := by first | exact Nat.le_of_ble_eq_true rfl | omega) (hs : ∀ x, foldedSetIterable iter X.env x = pure x := by intro _; rfl) : EV X (.ListComp elt [⟨.Name x px, iter, ifs, 0⟩] scope pos) δ (.lst ((xs.filter p).map g)) :=
  ⟨fun pins s σ H Q I ⟨S, q⟩ => by
    rw [eval_ListComp]
    refine comp_run (use := none) p (fun d => [f d]) g hc (compB_of ok) hit (fun cl C s₀ H₀ ex d _ => eg_one (compB_of ok) cl C s₀ H₀ ex) hts hel hz hs I S fun D C s' H' vs m sm IX hDn hL hn hf => ⟨m, hn, fun h' hs' => ?_⟩
    refine ⟨.ref D, _, IX.turned (it := C) (t' := s'.toks) (fun b o hb e => (hs'.2 b hb).trans e) hf.1 hf.2.1 hf.2.2.2.1 hf.2.2.2.2.1 hf.2.2.2.2.2, rfl, q _ _ (sm.trans (same_new hDn _)) ?_⟩
    unfold Is
    exact ⟨D, vs, rfl, SqL.of upd_same, IsL.mono (same_new hDn _) _ hL⟩⟩
theorem ev_comp0 {α : Type} {xs : List α} {f : α → D} {x : Str} {px : Pos} (g : α → D) (hc : X.calm = true) (ok : compB X.env.scope X.N [x] scope Nr = true) (hit : EI X (.Name x px) iter δ (xs.map f))
    (hel : ∀ cl C s₀ H₀ ex, ∀ d ∈ xs, EV (cxC X (x :: Nr) scope cl C s₀ H₀ ex) elt (some (f d) :: δ) (g d))
    (hz : xs.length ≤ 1000 := by first | exact Nat.le_of_ble_eq_true rfl | omega) (hs : ∀ x, foldedSetIterable iter X.env x = pure x := by intro _; rfl) : EV X (.ListComp elt [⟨.Name x px, iter, [], 0⟩] scope pos) δ (.lst (xs.map g)) := by
  have h := ev_comp1 (pos := pos) (fun _ => true) g hc ok hit (fun _ _ _ _ _ _ _ => .nil) (fun cl C s₀ H₀ ex d hd _ => hel cl C s₀ H₀ ex d hd) hz hs
  rwa [List.filter_eq_self.mpr (fun _ _ => rfl)] at h
/-- x = [.. for ..] on one row: the store comes ahead of the letting go -/
theorem st_comp1 {α : Type} {xs : List α} {f : α → D} {x : Str} {px : Pos} (k : Nat) {y : Str} {py spos : Pos} (p : α → Bool) (g : α → D) (hc : X.calm = true) (ok : compB X.env.scope X.N [x] scope Nr = true) (hit : EI X (.Name x px) iter δ (xs.map f))
    (hts : ∀ cl C s₀ H₀ ex, ∀ d ∈ xs, Tests (cxC X (x :: Nr) scope cl C s₀ H₀ ex) ifs (some (f d) :: δ) (p d))
    (hel : ∀ cl C s₀ H₀ ex, ∀ d ∈ xs, p d = true → EV (cxC X (x :: Nr) scope cl C s₀ H₀ ex) elt (some (f d) :: δ) (g d))
    (nd : X.N.Nodup) (hz : xs.length ≤ 1000 := by first | exact Nat.le_of_ble_eq_true rfl | omega) (hi : X.N[k]? = some y := by rfl) (hy : Loc X.env.scope y := by first | exact Or.inl rfl | exact Or.inr rfl) (hf : X.fn y = true ∨ X.env.scope.names.lookup y = some .local := by first | exact .inl rfl | exact .inr rfl)
    (hsw : swapsWith (.ListComp elt [⟨.Name x px, iter, ifs, 0⟩] scope pos) (some (.Name y py)) spos.line X.env = pure true := by rfl) (hs : ∀ x, foldedSetIterable iter X.env x = pure x := by intro _; rfl) :
    ST X (.Assign [.Name y py] (.ListComp elt [⟨.Name x px, iter, ifs, 0⟩] scope pos) spos) δ (.nx (δ.set k (some (.lst ((xs.filter p).map g))))) :=
  ⟨fun pins s σ H D I ⟨S, q⟩ => by
    rw [exec_Assign_Name_used _ _ _ _ hsw]
    refine wpAny_bind (wpAny_standAt (wpAny_bind ?_))
    show wpAny _ _ (do let _ ← comprehension (.ListComp elt [⟨.Name x px, iter, ifs, 0⟩] scope pos) scope X.env _ (newList []) false (eval iter X.env) (some (assign (.Name y py) X.env))) _ _ s
    refine wpAny_bind (wpAny_mono (comp_run (use := some (assign (.Name y py) X.env)) (Q := fun _ s' => SP X pins D .next s') p (fun d => [f d]) g hc (compB_of ok) hit (fun cl C s₀ H₀ ex d _ => eg_one (compB_of ok) cl C s₀ H₀ ex) hts hel hz hs I S fun Dd C s' H' vs m sm IX hDn hL hn hff => ?_) (fun _ s' hq => wpAny_pure (wpAny_pure hq)) fun _ _ e => e)
    refine wpAny_assign_Name (store_ok2 IX nd hi hy (show RelV (.ref Dd) (.ref Dd) from rfl) (fun s'' I'' ⟨a, sb, ha⟩ => ⟨m, hn.sameBut sb ?_, fun h' hs' => ?_⟩) hf)
    · rcases ha with rfl | ha
      · exact hff.2.1
      · exact fun z => hff.2.2.2.2.1 _ _ ha z.symm
    · refine ⟨_, _, I''.turned (it := C) (t' := s''.toks) (fun b o hb e => (hs'.2 b hb).trans e) hff.1 hff.2.1 hff.2.2.2.1 hff.2.2.2.2.1 hff.2.2.2.2.2, q _ _ (sm.trans (same_new hDn _)) ((S.mono (sm.trans (same_new hDn _))).set k ?_)⟩
      unfold Is
      exact ⟨Dd, vs, rfl, SqL.of upd_same, IsL.mono (same_new hDn _) _ hL⟩⟩
theorem st_comp0 {α : Type} {xs : List α} {f : α → D} {x : Str} {px : Pos} (k : Nat) {y : Str} {py spos : Pos} (g : α → D) (hc : X.calm = true) (ok : compB X.env.scope X.N [x] scope Nr = true) (hit : EI X (.Name x px) iter δ (xs.map f))
    (hel : ∀ cl C s₀ H₀ ex, ∀ d ∈ xs, EV (cxC X (x :: Nr) scope cl C s₀ H₀ ex) elt (some (f d) :: δ) (g d))
    (nd : X.N.Nodup) (hz : xs.length ≤ 1000 := by first | exact Nat.le_of_ble_eq_true rfl | omega) (hi : X.N[k]? = some y := by rfl) (hy : Loc X.env.scope y := by first | exact Or.inl rfl | exact Or.inr rfl) (hf : X.fn y = true ∨ X.env.scope.names.lookup y = some .local := by first | exact .inl rfl | exact .inr rfl)
    (hsw : swapsWith (.ListComp elt [⟨.Name x px, iter, [], 0⟩] scope pos) (some (.Name y py)) spos.line X.env = pure true := by rfl) (hs : ∀ x, foldedSetIterable iter X.env x = pure x := by intro _; rfl) :
    ST X (.Assign [.Name y py] (.ListComp elt [⟨.Name x px, iter, [], 0⟩] scope pos) spos) δ (.nx (δ.set k (some (.lst (xs.map g))))) := by
  have h := st_comp1 (py := py) (spos := spos) (pos := pos) k (fun _ => true) g hc ok hit (fun _ _ _ _ _ _ _ => .nil) (fun cl C s₀ H₀ ex d hd _ => hel cl C s₀ H₀ ex d hd) nd hz hi hy hf hsw hs
  rwa [List.filter_eq_self.mpr (fun _ _ => rfl)] at h
end
section
variable {X : Cx} {a b e : Expr} {δ : Sd} {ds es : List D} {pos p : Pos}
end
end EV
namespace EV
open PySem PySem.Spec PyProof.Rows L2
section
variable {X : Cx} {a b e : Expr} {δ : Sd} {ds es : List D} {i j : Int} {pos p : Pos}
theorem op_catS : OpR X (binaryOp .Add) (fun x y H Q => ∃ l b xs zs, x = .ref l ∧ y = .ref b ∧ SqL X.K H l xs ∧ SqL X.K H b zs ∧ xs.length + zs.length ≤ sizeLine ∧ ∀ p, H p = none → Q (.ref p) (upd H p (.lst (xs ++ zs)))) := by
  intro pins s σ H x y v u Q I rx ry h
  obtain ⟨l, b, xs, zs, rfl, rfl, hH, hB, hz, q⟩ := h
  cases rx
  cases ry
  obtain ⟨its, r, pl, z⟩ := I.list hH
  obtain ⟨its2, r2, pl2, z2⟩ := I.list hB
  obtain ⟨⟨cls, dd, data, sl⟩, n, ho, hc, hd, hs⟩ := pl
  obtain ⟨⟨cls2, dd2, data2, sl2⟩, n2, ho2, hc2, hd2, hs2⟩ := pl2
  simp only at hc hd hs hc2 hd2 hs2
  subst hc hd hs hc2 hd2 hs2
  have l1 := r.length
  have l2 := r2.length
  refine concat_meets ⟨_, ho, rfl⟩ ⟨_, ho2, rfl⟩ noFill_list_add seq_list_add PySem.F.slot_list_add PySem.F.entry_list_add (PySem.F.args_list_add_2 _ _) (list_addW l b its.toArray its2.toArray n n2 none none sl sl2 (by rw [List.size_toArray, List.size_toArray]; omega)) ⟨ho, ho2, ?_⟩
  have ea : its.toArray ++ its2.toArray = (its ++ its2).toArray := by simp
  rw [ea]
  exact ⟨.ref _, _, I.lnew (t' := s.toks) (r.append r2) (by rw [List.length_append]; omega), rfl, q _ I.fresh⟩
theorem ev_catL (ha : EV X a δ (.lst ds)) (hb : EV X b δ (.lst es)) (hz : ds.length + es.length ≤ 1000) : EV X (.BinOp a .Add b pos) δ (.lst (ds ++ es)) :=
  EV_imp (pe_op op_catS ha.run hb.run) fun _ H Q ⟨S, q⟩ => ⟨S, fun v H1 s1 r1 => ⟨S.mono s1, fun w H2 s2 r2 => by
    unfold Is at r1 r2
    obtain ⟨l, xs, rfl, z1, l1⟩ := r1
    obtain ⟨l', ys, rfl, z2, l2⟩ := r2
    refine ⟨l, l', xs, ys, rfl, rfl, s2.seq z1, z2, by rw [← l1.len, ← l2.len]; exact le_line hz, fun q' hq => q _ _ ((s1.trans s2).trans (same_new hq _)) ?_⟩
    unfold Is
    exact ⟨q', _, rfl, SqL.of upd_same, IsL.append (IsL.mono (s2.trans (same_new hq _)) ds l1) (IsL.mono (same_new hq _) es l2)⟩⟩⟩
/-- xs[lo:hi] -/
def cutD (ds : List D) (lo hi : Option Int) : List D := (ds.drop (HT.sIx ds.length 0 lo)).take (HT.sIx ds.length ds.length hi - HT.sIx ds.length 0 lo)
theorem cut_is {K : PySem.W.Frag} {H : Hp} {xs : List V} {lo hi : Option Int} (l : IsL K H ds xs) : IsL K H (cutD ds lo hi) (cutV xs lo hi) := by
  unfold cutD cutV
  rw [l.len]
  exact (l.drop _).take _
inductive EO (X : Cx) : Option Expr → Sd → Option Int → Prop where
  | none {δ : Sd} : EO X .none δ .none
  | some {e : Expr} {δ : Sd} {i : Int} : EV X e δ (.int i) → EO X (.some e) δ (.some i)
theorem EO.run {o : Option Expr} {k : Option Int} (h : EO X o δ k) : PO X o (fun σ H Q => IsS X.K H δ σ ∧ ∀ H', Same H H' → Q k H') := by
  cases h with
  | none => exact fun pins s σ H Q I ⟨S, q⟩ => po_none pins s σ H Q I (q H (Same.refl H))
  | some h => exact fun pins s σ H Q I ⟨S, q⟩ => po_some h.run pins s σ H Q I ⟨S, fun v H1 s1 r1 => ⟨_, by unfold Is at r1; exact r1, q H1 s1⟩⟩
theorem ev_slL {lo hi : Option Expr} {kl kh : Option Int} {p2 : Pos} (ha : EV X e δ (.lst ds)) (hl : EO X lo δ kl) (hh : EO X hi δ kh) : EV X (.Subscript e (.Slice lo hi none p2) pos) δ (.lst (cutD ds kl kh)) :=
  EV_imp (pe_slice sl_list ha.run hl.run hh.run) fun _ H Q ⟨S, q⟩ => ⟨S, fun v H1 s1 r1 => ⟨S.mono s1, fun H2 s2 => ⟨(S.mono s1).mono s2, fun H3 s3 => by
    unfold Is at r1
    obtain ⟨l, xs, rfl, z1, l1⟩ := r1
    refine ⟨l, xs, rfl, (s2.trans s3).seq z1, fun q' hq => q _ _ (((s1.trans s2).trans s3).trans (same_new hq _)) ?_⟩
    unfold Is
    exact ⟨q', _, rfl, SqL.of upd_same, cut_is (IsL.mono ((s2.trans s3).trans (same_new hq _)) ds l1)⟩⟩⟩⟩
end
end EV
namespace EV
open PySem PySem.Spec PyProof.Rows L2
/-! ### lists of one's own: tracked, written, held by nobody else -/
abbrev Own := List (Addr × List D)
def dropA (H : Hp) (as : List Addr) : Hp := fun b => if b ∈ as then none else H b
def putA (H H' : Hp) (as : List Addr) : Hp := fun b => if b ∈ as then H b else H' b
abbrev adrs (O : Own) : List Addr := O.map Prod.fst
abbrev dropO (H : Hp) (O : Own) : Hp := dropA H (adrs O)
section
variable {K : PySem.W.Frag} {H H' : Hp} {as : List Addr} {b : Addr} {u : HO} {O : Own}
theorem dropA_in (h : b ∈ as) : dropA H as b = none := if_pos h
theorem dropA_out (h : b ∉ as) : dropA H as b = H b := if_neg h
theorem dropA_none (h : H b = none) : dropA H as b = none := by
  unfold dropA
  split
  · rfl
  · exact h
theorem dropA_some (h : dropA H as b = some u) : b ∉ as ∧ H b = some u := by
  unfold dropA at h
  split at h
  · cases h
  · exact ⟨by assumption, h⟩
theorem dropA_same : Same (dropA H as) H := fun _ _ e => (dropA_some e).2
theorem dropA_mono (s : Same H H') : Same (dropA H as) (dropA H' as) := fun c o e => by
  obtain ⟨h1, h2⟩ := dropA_some e
  rw [dropA_out h1]
  exact s c o h2
theorem putA_in (h : b ∈ as) : putA H H' as b = H b := if_pos h
theorem putA_out (h : b ∉ as) : putA H H' as b = H' b := if_neg h
theorem drop_put (h : ∀ b ∈ as, H' b = none) : dropA (putA H H' as) as = H' := by
  funext c
  by_cases hc : c ∈ as
  · rw [dropA_in hc, h c hc]
  · rw [dropA_out hc, putA_out hc]
theorem dropA_nil : dropA H [] = H := by funext c; exact dropA_out (by simp)
def Lsts (H : Hp) (as : List Addr) : Prop := ∀ b ∈ as, ∃ xs, H b = some (.lst xs)
theorem Lsts.out (l : Lsts H as) (h : H b = some u) (hu : ∀ xs, u ≠ .lst xs) : b ∉ as := fun hb => by
  obtain ⟨xs, q⟩ := l b hb
  rw [h] at q
  exact hu xs (Option.some.inj q)
theorem Lsts.outN (l : Lsts H as) (h : H b = none) : b ∉ as := fun hb => by
  obtain ⟨xs, q⟩ := l b hb
  rw [h] at q
  cases q
structure OwnIs (K : PySem.W.Frag) (H : Hp) (O : Own) : Prop where
  nd : (adrs O).Nodup
  at_ : ∀ p ∈ O, ∃ xs, H p.1 = some (.lst xs) ∧ IsL K (dropO H O) p.2 xs
theorem OwnIs.lsts (w : OwnIs K H O) : Lsts H (adrs O) := fun b hb => by
  obtain ⟨p, hp, rfl⟩ := List.mem_map.mp hb
  obtain ⟨xs, e, _⟩ := w.at_ p hp
  exact ⟨xs, e⟩
theorem own_nil : OwnIs K H [] := ⟨by simp, fun p hp => by cases hp⟩
theorem OwnIs.grow (w : OwnIs K H O) (s : Same H H') : OwnIs K H' O := ⟨w.nd, fun p hp => by
  obtain ⟨xs, e, l⟩ := w.at_ p hp
  exact ⟨xs, s _ _ e, IsL.mono (dropA_mono s) _ l⟩⟩
theorem OwnIs.put (w : OwnIs K H O) (hn : ∀ b ∈ adrs O, H' b = none) (s : Same (dropO H O) H') : OwnIs K (putA H H' (adrs O)) O := ⟨w.nd, fun p hp => by
  obtain ⟨xs, e, l⟩ := w.at_ p hp
  refine ⟨xs, by rw [putA_in (List.mem_map_of_mem hp)]; exact e, ?_⟩
  show IsL K (dropA (putA H H' (adrs O)) (adrs O)) p.2 xs
  rw [drop_put hn]
  exact IsL.mono s _ l⟩
end
section
variable {X : Cx} {pins : List (Addr × Obj)} {σ σ' : L2.St} {H H' : Hp} {s s' : Shared} {as : List Addr}
theorem _root_.L2.Inv.lstObj (I : Inv X pins σ H s) (l : Lsts H as) {b : Addr} (hb : b ∈ as) : ∃ (xs : List V) (its : List Value) (n : Nat), H b = some (.lst xs) ∧ xs.length ≤ sizeLine ∧ Vals xs its ∧ s.heap.get? b = some { cls := .type "list", data := .seq its.toArray n } := by
  obtain ⟨xs, q⟩ := l b hb
  obtain ⟨z, its, n, r, e⟩ := I.hok b _ q
  exact ⟨xs, its, n, q, z, r, e⟩
theorem _root_.L2.Inv.fsN (I : Inv X pins σ H s) : ∀ b ∈ X.fs, H b = none := fun b hb => by
  obtain ⟨_, o, ho, _⟩ := I.ok.funs.mem hb
  exact I.base.free b o ho (I.ok.frf b hb) fun z => I.ok.exfs b z hb
theorem _root_.L2.Inv.untrack (I : Inv X pins σ H s) (l : Lsts H as) : Inv X (pins ++ pinsAt as s.heap) σ (dropA H as) s := by
  refine ⟨I.ok, I.os, I.bare, ⟨I.base.keep, I.base.slot, fun b o e n hx => dropA_none (I.base.free b o e n hx), I.base.there, fun b xs e => ?_, fun b o u e => ?_, fun b ps e => ?_⟩, I.loc, I.cell, dropA_none I.free, fun x c e => dropA_none (I.freeC x c e), fun p hp => ?_, fun b u e => ?_, I.len⟩
  · have q := I.base.tups b xs e
    rw [dropA_out (l.out q fun _ z => by cases z)]; exact q
  · have q := I.base.frzs b o u e
    rw [dropA_out (l.out q fun _ z => by cases z)]; exact q
  · obtain ⟨more, q⟩ := I.base.tbls b ps e
    exact ⟨more, by rw [dropA_out (l.out q fun _ z => by cases z)]; exact q⟩
  · rw [← List.append_assoc] at hp
    rcases List.mem_append.mp hp with hp | hp
    · obtain ⟨a1, a2, a3, a4, a5⟩ := I.pin p hp
      exact ⟨a1, dropA_none a2, a3, a4, a5⟩
    · obtain ⟨hb, e⟩ := of_pinsAt hp
      obtain ⟨xs, its, n, q, _, _, e'⟩ := I.lstObj l hb
      rw [e] at e'
      have e2 : p.2 = { cls := .type "list", data := .seq its.toArray n } := Option.some.inj e'
      refine ⟨e, dropA_in hb, fun z => ?_, fun z => ?_, fun v z => ?_⟩
      · rw [z] at q; rw [I.free] at q; cases q
      · rw [I.fsN _ z] at q; cases q
      · rw [e2] at z; cases z
  · obtain ⟨hb, q⟩ := dropA_some e
    refine (I.hok b u q).stay (fun _ _ _ z => z) (fun c z => ?_) fun c xs z => ?_
    · rw [dropA_out (l.out z fun _ z => by cases z)]; exact z
    · rw [dropA_out (l.out z fun _ z => by cases z)]; exact z
theorem _root_.L2.Inv.pinnedN (I : Inv X pins σ H s) (l : Lsts H as) (I' : Inv X (pins ++ pinsAt as s.heap) σ' H' s') : ∀ b ∈ as, H' b = none := fun b hb => by
  obtain ⟨xs, its, n, q, _, _, e⟩ := I.lstObj l hb
  exact (I'.pin (b, _) (List.mem_append_right _ (List.mem_append_right _ (mem_pinsAt hb e)))).2.1
theorem _root_.L2.Inv.retrack (I : Inv X pins σ H s) (l : Lsts H as) (I' : Inv X (pins ++ pinsAt as s.heap) σ' H' s') : Inv X pins σ' (putA H H' as) s' := by
  have hN := I.pinnedN l I'
  have out : ∀ {b : Addr} {u : HO}, H' b = some u → b ∉ as := fun {b u} e hb => by rw [hN b hb] at e; cases e
  refine ⟨I'.ok, I'.os, I'.bare, ⟨I'.base.keep, I'.base.slot, fun b o e n hx => ?_, I'.base.there, fun b xs e => ?_, fun b o u e => ?_, fun b ps e => ?_⟩, I'.loc, I'.cell, ?_, fun x c e => ?_, fun p hp => ?_, fun b u e => ?_, I'.len⟩
  · rw [putA_out (l.outN (I.base.free b o e n hx))]
    exact I'.base.free b o e n hx
  · have q := I'.base.tups b xs e
    rw [putA_out (out q)]; exact q
  · have q := I'.base.frzs b o u e
    rw [putA_out (out q)]; exact q
  · obtain ⟨more, q⟩ := I'.base.tbls b ps e
    exact ⟨more, by rw [putA_out (out q)]; exact q⟩
  · rw [putA_out (l.outN I.free)]; exact I'.free
  · rw [putA_out (l.outN (I.freeC x c e))]; exact I'.freeC x c e
  · obtain ⟨a1, a2, a3, a4, a5⟩ := I'.pin p (by rw [← List.append_assoc]; exact List.mem_append_left _ hp)
    refine ⟨a1, ?_, a3, a4, a5⟩
    rw [putA_out (l.outN (I.pin p hp).2.1)]; exact a2
  · by_cases hb : b ∈ as
    · rw [putA_in hb] at e
      obtain ⟨xs, its, n, q, z, r, e'⟩ := I.lstObj l hb
      rw [q] at e
      cases e
      exact ⟨z, its, n, r, (I'.pin (b, _) (List.mem_append_right _ (List.mem_append_right _ (mem_pinsAt hb e')))).1⟩
    · rw [putA_out hb] at e
      refine (I'.hok b u e).stay (fun _ _ _ z => z) (fun c z => ?_) fun c xs z => ?_
      · rw [putA_out (out z)]; exact z
      · rw [putA_out (out z)]; exact z
end
/-! ### data without lists -/
mutual
def flatD : D → Bool
  | .lst _ => false
  | .tup ds => flatL ds
  | .obj _ _ fs => flatL fs
  | _ => true
def flatL : List D → Bool
  | [] => true
  | d :: ds => flatD d && flatL ds
end
mutual
theorem flat_drop {K : PySem.W.Frag} {H : Hp} {as : List Addr} (l : Lsts H as) : ∀ (d : D) {v : V}, flatD d = true → Is K H d v → Is K (dropA H as) d v
  | .non, _, _, h => by unfold Is at *; exact h
  | .bl _, _, _, h => by unfold Is at *; exact h
  | .int _, _, _, h => by unfold Is at *; exact h
  | .str _, _, _, h => by unfold Is at *; exact h
  | .adr _, _, _, h => by unfold Is at *; exact h
  | .lst _, _, f, _ => by simp [flatD] at f
  | .tup ds, _, f, h => by
    unfold Is at *
    obtain ⟨a, xs, e, q, r⟩ := h
    refine ⟨a, xs, e, ?_, flat_dropL l ds (by simpa [flatD] using f) r⟩
    rcases q with (q | ⟨o, q⟩) | q
    · exact .inl (.inl (by rw [dropA_out (l.out q fun _ z => by cases z)]; exact q))
    · exact .inl (.inr ⟨o, by rw [dropA_out (l.out q fun _ z => by cases z)]; exact q⟩)
    · exact .inr q
  | .obj C ns fs, _, f, h => by
    unfold Is at *
    obtain ⟨a, dx, vs, e, q, n, r⟩ := h
    exact ⟨a, dx, vs, e, by rw [dropA_out (l.out q fun _ z => by cases z)]; exact q, n, flat_dropL l fs (by simpa [flatD] using f) r⟩
theorem flat_dropL {K : PySem.W.Frag} {H : Hp} {as : List Addr} (l : Lsts H as) : ∀ (ds : List D) {vs : List V}, flatL ds = true → IsL K H ds vs → IsL K (dropA H as) ds vs
  | [], _, _, h => by unfold IsL at *; exact h
  | d :: ds, _, f, h => by
    unfold IsL at *
    obtain ⟨v, r, e, q, z⟩ := h
    have f' : flatD d = true ∧ flatL ds = true := by simpa [flatL] using f
    exact ⟨v, r, e, flat_drop l d f'.1 q, flat_dropL l ds f'.2 z⟩
end
/-! ### expressions and tests where some lists are one's own (their names bear adr) -/
def thD (O : Own) : D → D
  | .adr a => match O.lookup a with
    | some ds => .lst ds
    | none => .adr a
  | d => d
def thS (O : Own) (δ : Sd) : Sd := δ.map (Option.map (thD O))
theorem mem_lookup {O : Own} {a : Addr} {ds : List D} (h : O.lookup a = some ds) : (a, ds) ∈ O := by
  rw [List.lookup_eq_some_iff] at h
  obtain ⟨l1, l2, e, _⟩ := h
  rw [e]; simp
theorem th_is {K : PySem.W.Frag} {H : Hp} {O : Own} {δ : Sd} {σ : L2.St} (w : OwnIs K H O) (S : IsS K (dropO H O) δ σ) : IsS K H (thS O δ) σ := by
  refine ⟨by simp [thS, S.1], fun i d e => ?_⟩
  unfold thS at e
  rw [List.getElem?_map] at e
  cases q : δ[i]? with
  | none => rw [q] at e; cases e
  | some z =>
    rw [q] at e
    cases z with
    | none => cases e
    | some d0 =>
      have e1 : thD O d0 = d := by simpa using e
      obtain ⟨v, ev, r⟩ := S.2 i d0 q
      refine ⟨v, ev, ?_⟩
      have plain : thD O d0 = d0 → Is K H d v := fun h => by rw [← e1, h]; exact Is.mono dropA_same d0 r
      cases d0 with
      | adr a =>
        cases l : O.lookup a with
        | none => exact plain (by simp [thD, l])
        | some ds =>
          have e2 : d = .lst ds := by rw [← e1]; simp [thD, l]
          rw [e2]
          unfold Is at r ⊢
          obtain ⟨xs, hx, hl⟩ := w.at_ _ (mem_lookup l)
          exact ⟨a, xs, r, SqL.of hx, IsL.mono dropA_same ds hl⟩
      | non => exact plain rfl
      | bl _ => exact plain rfl
      | int _ => exact plain rfl
      | str _ => exact plain rfl
      | tup _ => exact plain rfl
      | lst _ => exact plain rfl
      | obj _ _ _ => exact plain rfl
structure EF (X : Cx) (e : Expr) (δ : Sd) (O : Own) (d : D) : Prop where
  run : PE X e (fun σ H Q => OwnIs X.K H O ∧ IsS X.K (dropO H O) δ σ ∧ ∀ v H', OwnIs X.K H' O → Same (dropO H O) (dropO H' O) → Is X.K (dropO H' O) d v → Q v H')
structure TF (X : Cx) (e : Expr) (δ : Sd) (O : Own) (b : Bool) : Prop where
  run : PT X e (fun σ H Q => OwnIs X.K H O ∧ IsS X.K (dropO H O) δ σ ∧ ∀ H', OwnIs X.K H' O → Same (dropO H O) (dropO H' O) → Q b H')
section
variable {X : Cx} {e a c : Expr} {es : List Expr} {δ δ1 : Sd} {O O1 : Own} {d d1 : D} {ds : List D} {b : Bool} {pos pos' : Pos} {st : Stmt} {sts rest th el body : List Stmt}
theorem ef_frame (h : EV X e δ d) : EF X e δ O d := ⟨fun pins s σ H Q I ⟨w, S, q⟩ => by
  refine wpAny_mono (h.run _ s σ (dropO H O) (fun v H' => Same (dropO H O) H' ∧ Is X.K H' d v) (I.untrack w.lsts) ⟨S, fun v H' s' r => ⟨s', r⟩⟩) (fun u s' ⟨v, H', I', rv, sm, r⟩ => ?_) fun _ _ z => z
  have hN := I.pinnedN w.lsts I'
  refine ⟨v, putA H H' (adrs O), I.retrack w.lsts I', rv, q v _ (w.put hN sm) ?_ ?_⟩
  · show Same _ (dropA (putA H H' (adrs O)) (adrs O))
    rw [drop_put hN]; exact sm
  · show Is X.K (dropA (putA H H' (adrs O)) (adrs O)) d v
    rw [drop_put hN]; exact r⟩
theorem ef_read (h : EV X e (thS O δ) d) (f : flatD d = true) : EF X e δ O d := ⟨fun pins s σ H Q I ⟨w, S, q⟩ => by
  refine wpAny_mono (h.run _ s σ H (fun v H' => Same H H' ∧ Is X.K H' d v) I ⟨th_is w S, fun v H' s' r => ⟨s', r⟩⟩) (fun u s' ⟨v, H', I', rv, sm, r⟩ => ?_) fun _ _ z => z
  have w' := w.grow sm
  exact ⟨v, H', I', rv, q v _ w' (dropA_mono sm) (flat_drop w'.lsts d f r)⟩⟩
theorem tf_read (h : ET X e (thS O δ) b) : TF X e δ O b := ⟨fun pins s σ H Q I ⟨w, S, q⟩ => by
  refine wpAny_mono (h.run _ s σ H (fun b' H' => b' = b ∧ Same H H') I ⟨th_is w S, fun H' s' => ⟨rfl, s'⟩⟩) (fun u s' ⟨H', I', eb, sm⟩ => ?_) fun _ _ z => z
  subst eb
  exact ⟨H', I', q _ (w.grow sm) (dropA_mono sm)⟩⟩
/-! ### statements -/
inductive OO where
  | nx (δ : Sd) (O : Own)
  | pl (o : EV.O)
def rOO (K : PySem.W.Frag) : OO → Ends → Hp → Prop
  | .nx δ O, D, B => ∀ σ' H', OwnIs K H' O → IsS K (dropO H' O) δ σ' → Same B (dropO H' O) → D.nx σ' H'
  | .pl o, D, B => rO K o D B
theorem rOO.mono {K : PySem.W.Frag} {o : OO} {D : Ends} {H H1 : Hp} (h : rOO K o D H) (s : Same H H1) : rOO K o D H1 := by
  cases o with
  | nx δ O => exact fun σ' H' w S s' => h σ' H' w S (s.trans s')
  | pl o => exact rO.mono (show rO K o D H from h) s
structure STo (X : Cx) (st : Stmt) (δ : Sd) (O : Own) (o : OO) : Prop where
  run : PS X st (fun D σ H => OwnIs X.K H O ∧ IsS X.K (dropO H O) δ σ ∧ rOO X.K o D (dropO H O))
structure SO (X : Cx) (sts : List Stmt) (δ : Sd) (O : Own) (o : OO) : Prop where
  run : PSs X sts (fun D σ H => OwnIs X.K H O ∧ IsS X.K (dropO H O) δ σ ∧ rOO X.K o D (dropO H O))
variable {o : OO}
theorem so_nil : SO X [] δ O (.nx δ O) := ⟨PSs_imp pss_nil fun D σ H ⟨w, S, k⟩ => k σ H w S (Same.refl _)⟩
theorem so_cons (h1 : STo X st δ O (.nx δ1 O1)) (h2 : SO X rest δ1 O1 o) : SO X (st :: rest) δ O o :=
  ⟨PSs_imp (pss_cons h1.run h2.run) fun D σ H ⟨w, S, k⟩ => ⟨w, S, fun σ' H' w' S' s' => ⟨w', S', k.mono s'⟩⟩⟩
theorem so_ss {o' : EV.O} (h : SO X sts δ [] (.pl o')) : SS X sts δ o' := ⟨PSs_imp h.run fun D σ H ⟨S, k⟩ => ⟨own_nil, by show IsS _ (dropA H []) _ _; rw [dropA_nil]; exact S, by show rO _ _ _ (dropA H []); rw [dropA_nil]; exact k⟩⟩
theorem sto_frame (h : ST X st δ (.nx δ1)) : STo X st δ O (.nx δ1 O) := ⟨fun pins s σ H D I ⟨w, S, q⟩ => by
  refine wpAny_mono (h.run _ s σ (dropO H O) ⟨fun σ' H' => Same (dropO H O) H' ∧ IsS X.K H' δ1 σ', fun _ _ => False, fun _ _ => False, fun _ _ => False⟩ (I.untrack w.lsts) ⟨S, fun σ' H' s' S' => ⟨s', S'⟩⟩) (fun f s' hf => ?_) fun _ _ z => z
  cases f with
  | next =>
    obtain ⟨σ', H', I', sm, S'⟩ := hf
    have hN := I.pinnedN w.lsts I'
    refine ⟨σ', putA H H' (adrs O), I.retrack w.lsts I', q σ' _ (w.put hN sm) ?_ ?_⟩
    · show IsS X.K (dropA (putA H H' (adrs O)) (adrs O)) δ1 σ'
      rw [drop_put hN]; exact S'
    · show Same _ (dropA (putA H H' (adrs O)) (adrs O))
      rw [drop_put hN]; exact sm
  | brk => obtain ⟨_, _, _, z⟩ := hf; exact z.elim
  | cont => obtain ⟨_, _, _, z⟩ := hf; exact z.elim
  | ret v => obtain ⟨_, _, _, _, _, z⟩ := hf; exact z.elim⟩
theorem sto_set (k : Nat) {x : Str} (h : EF X e δ O d) (nd : X.N.Nodup) (hi : X.N[k]? = some x := by rfl) (hx : Loc X.env.scope x := by first | exact Or.inl rfl | exact Or.inr rfl)
    (hs : swapsWith e (some (.Name x pos')) pos.line X.env = pure false := by exact swaps_of rfl) (hf : X.fn x = true ∨ X.env.scope.names.lookup x = some .local := by first | exact .inl rfl | exact .inr rfl) :
    STo X (.Assign [.Name x pos'] e pos) δ O (.nx (δ.set k (some d)) O) :=
  ⟨PS_imp (ps_set nd hi hx h.run hs hf) fun D σ H ⟨w, S, g⟩ => ⟨w, S, fun v H1 w1 s1 r1 => g _ H1 w1 ((S.mono s1).set k r1) s1⟩⟩
theorem so_if (hc : TF X c δ O b) (ht : b = true → SO X th δ O o) (hf : b = false → SO X el δ O o) : STo X (.If c th el pos) δ O o := by
  cases b with
  | true => exact ⟨PS_imp (ps_if hc.run (ht rfl).run pss_never) fun D σ H ⟨w, S, g⟩ => ⟨w, S, fun H1 w1 s1 => iteT ⟨w1, S.mono s1, g.mono s1⟩⟩⟩
  | false => exact ⟨PS_imp (ps_if hc.run pss_never (hf rfl).run) fun D σ H ⟨w, S, g⟩ => ⟨w, S, fun H1 w1 s1 => iteF ⟨w1, S.mono s1, g.mono s1⟩⟩⟩
/-! ### new lists -/
structure EN (X : Cx) (e : Expr) (δ : Sd) (ds : List D) : Prop where
  run : PE X e (fun σ H Q => IsS X.K H δ σ ∧ ∀ a xs H', Same H H' → H' a = none → IsL X.K H' ds xs → Q (.ref a) (upd H' a (.lst xs)))
theorem EN.ev (h : EN X e δ ds) : EV X e δ (.lst ds) := ⟨PE_imp h.run fun σ H Q ⟨S, q⟩ => ⟨S, fun a xs H' s n l => q _ _ (s.trans (same_new n _)) (by unfold Is; exact ⟨a, xs, rfl, SqL.of upd_same, IsL.mono (same_new n _) ds l⟩)⟩⟩
theorem en_lst (h : EA X es δ ds) (hz : ds.length ≤ 1000 := by exact Nat.le_of_ble_eq_true rfl) : EN X (.List es pos) δ ds :=
  ⟨PE_imp (pe_lst h.run) fun _ H Q ⟨S, q⟩ => ⟨S, fun vs H1 s1 r1 => ⟨by rw [← r1.len]; exact le_line hz, fun p hp => q p vs H1 s1 hp r1⟩⟩⟩
/-- x = a new list, one's own from now on -/
theorem so_new (k : Nat) {x : Str} (h : EN X e δ ds) (nd : X.N.Nodup) (hr : ∀ a, SO X rest (δ.set k (some (.adr a))) ((a, ds) :: O) o) (hi : X.N[k]? = some x := by rfl) (hx : Loc X.env.scope x := by first | exact Or.inl rfl | exact Or.inr rfl)
    (hs : swapsWith e (some (.Name x pos')) pos.line X.env = pure false := by exact swaps_of rfl) (hf : X.fn x = true ∨ X.env.scope.names.lookup x = some .local := by first | exact .inl rfl | exact .inr rfl) :
    SO X (.Assign [.Name x pos'] e pos :: rest) δ O o := by
  have hE : PE X e (fun σ H Q => OwnIs X.K H O ∧ IsS X.K (dropO H O) δ σ ∧ ∀ a H', OwnIs X.K H' ((a, ds) :: O) → Same (dropO H O) (dropO H' ((a, ds) :: O)) → Q (.ref a) H') := fun pins s σ H Q I ⟨w, S, q⟩ => by
    refine wpAny_mono (h.run _ s σ (dropO H O) (fun v H' => ∃ a xs H1, v = .ref a ∧ H' = upd H1 a (.lst xs) ∧ Same (dropO H O) H1 ∧ H1 a = none ∧ IsL X.K H1 ds xs) (I.untrack w.lsts) ⟨S, fun a xs H1 s1 n l => ⟨a, xs, H1, rfl, rfl, s1, n, l⟩⟩) (fun u s' ⟨v, H', I', rv, a, xs, H1, e1, e2, s1, n, l⟩ => ?_) fun _ _ z => z
    subst e1 e2
    have hN := I.pinnedN w.lsts I'
    have ha : a ∉ adrs O := fun z => by
      have := hN a z
      rw [upd_same] at this
      cases this
    have hN1 : ∀ b ∈ adrs O, H1 b = none := fun b hb => by
      have := hN b hb
      rwa [upd_ne (fun z => ha (by rw [← z]; exact hb))] at this
    have eD : dropO (putA H (upd H1 a (.lst xs)) (adrs O)) ((a, ds) :: O) = H1 := by
      funext b
      by_cases hb : b = a
      · subst hb
        exact (dropA_in (by simp)).trans n.symm
      · by_cases hm : b ∈ adrs O
        · exact (dropA_in (by simp only [adrs, List.map_cons, List.mem_cons]; exact .inr hm)).trans (hN1 b hm).symm
        · rw [show dropO (putA H (upd H1 a (.lst xs)) (adrs O)) ((a, ds) :: O) b = putA H (upd H1 a (.lst xs)) (adrs O) b from dropA_out (by simp only [adrs, List.map_cons, List.mem_cons]; rintro (z | z); exact hb z; exact hm z), putA_out hm, upd_ne hb]
    refine ⟨.ref a, putA H (upd H1 a (.lst xs)) (adrs O), I.retrack w.lsts I', rv, q a _ ⟨?_, fun p hp => ?_⟩ (by rw [eD]; exact s1)⟩
    · simp only [adrs, List.map_cons, List.nodup_cons]
      exact ⟨ha, w.nd⟩
    · rw [eD]
      rcases List.mem_cons.mp hp with rfl | hp
      · exact ⟨xs, by rw [putA_out ha, upd_same], l⟩
      · obtain ⟨ys, e3, l3⟩ := w.at_ p hp
        exact ⟨ys, by rw [putA_in (List.mem_map_of_mem hp)]; exact e3, IsL.mono s1 _ l3⟩
  have hR : PSs X rest (fun D σ H => ∃ a, OwnIs X.K H ((a, ds) :: O) ∧ IsS X.K (dropO H ((a, ds) :: O)) (δ.set k (some (.adr a))) σ ∧ rOO X.K o D (dropO H ((a, ds) :: O))) := fun pins s σ H D I ⟨a, h⟩ => (hr a).run pins s σ H D I h
  exact ⟨PSs_imp (pss_cons (ps_set nd hi hx hE hs hf) hR) fun D σ H ⟨w, S, g⟩ => ⟨w, S, fun a H' w' s' => ⟨a, w', (S.mono s').set k (by unfold Is; rfl), g.mono s'⟩⟩⟩
/-! ### writing one's own list -/
def setO (O : Own) (a : Addr) (ds : List D) : Own := O.map fun p => if p.1 = a then (a, ds) else p
theorem setO_adrs (O : Own) (a : Addr) (ds : List D) : adrs (setO O a ds) = adrs O := by
  unfold setO adrs
  rw [List.map_map]
  apply List.map_congr_left
  intro p _
  show (if p.1 = a then (a, ds) else p).1 = p.1
  split
  · rename_i h; exact h.symm
  · rfl
theorem OwnIs.write {K : PySem.W.Frag} {H : Hp} {a : Addr} {xs : List V} (w : OwnIs K H O) (ha : a ∈ adrs O) (l : IsL K (dropO H O) ds xs) : OwnIs K (upd H a (.lst xs)) (setO O a ds) ∧ dropO (upd H a (.lst xs)) (setO O a ds) = dropO H O := by
  have eD : dropO (upd H a (.lst xs)) (setO O a ds) = dropO H O := by
    show dropA (upd H a (.lst xs)) (adrs (setO O a ds)) = dropA H (adrs O)
    rw [setO_adrs]
    funext b
    by_cases hb : b ∈ adrs O
    · rw [dropA_in hb, dropA_in hb]
    · rw [dropA_out hb, dropA_out hb, upd_ne (fun z => hb (by rw [z]; exact ha))]
  refine ⟨⟨by rw [setO_adrs]; exact w.nd, fun p hp => ?_⟩, eD⟩
  rw [eD]
  unfold setO at hp
  obtain ⟨q, hq, e⟩ := List.mem_map.mp hp
  by_cases hqa : q.1 = a
  · rw [if_pos hqa] at e
    subst e
    exact ⟨xs, upd_same, l⟩
  · rw [if_neg hqa] at e
    subst e
    obtain ⟨ys, e3, l3⟩ := w.at_ q hq
    exact ⟨ys, by rw [upd_ne hqa]; exact e3, l3⟩
theorem mem_adrs {a : Addr} (h : O.lookup a = some ds) : a ∈ adrs O := List.mem_map.mpr ⟨_, mem_lookup h, rfl⟩
/-- the name's value, and what stands there -/
theorem own_at {K : PySem.W.Frag} {H : Hp} {σ : L2.St} {a : Addr} {k : Nat} (w : OwnIs K H O) (S : IsS K (dropO H O) δ σ) (hk : δ[k]? = some (some (.adr a))) (hl : O.lookup a = some ds) :
    σ[k]? = some (some (.ref a)) ∧ ∃ xs, H a = some (.lst xs) ∧ IsL K (dropO H O) ds xs := by
  obtain ⟨v, ev, r⟩ := S.2 k _ hk
  unfold Is at r
  subst r
  exact ⟨ev, w.at_ _ (mem_lookup hl)⟩
theorem pa_one (h : EF X e δ O d) (hst : starEach [e] X.env = [(false, eval e X.env)] := by exact star_of rfl) : PA X [e] (fun σ H Q => OwnIs X.K H O ∧ IsS X.K (dropO H O) δ σ ∧ ∀ v H', OwnIs X.K H' O → Same (dropO H O) (dropO H' O) → Is X.K (dropO H' O) d v → Q [v] H') :=
  PA_imp (pa_cons h.run pa_nil hst) fun σ H Q ⟨w, S, q⟩ => ⟨w, S, fun v H' w' s' r' => q v H' w' s' r'⟩
/-- xs.append(e) -/
theorem sto_append (k : Nat) {x : Str} {a : Addr} {px apos cpos : Pos} (hk : δ[k]? = some (some (.adr a))) (hl : O.lookup a = some ds) (h : EF X e δ O d) (hz : ds.length < 1000) (hN : X.N[k]? = some x := by rfl)
    (hv : Vis X.env.scope x := by first | exact Or.inl rfl | exact Or.inr (Or.inl rfl) | exact Or.inr (Or.inr rfl)) (h1 : (x == ("__debug__" : Str)) = false := by decide) (h2 : (x == ("__classdict__" : Str)) = false := by decide)
    (hst : starEach [e] X.env = [(false, eval e X.env)] := by exact star_of rfl) (hbase : attributeBase (.Name x px) "append" X.env (eval (.Name x px) X.env) = eval (.Name x px) X.env := by rfl) (hline : (apos.endLine == cpos.line) = true := by rfl)
    (hfew : ((backTo cpos (starEach [e] X.env)).all (fun x => !x.1) && (backToKw cpos (keywordEach [] X.env)).all (fun x => x.1.isSome) && decide ([e].length + ([] : List Keyword).length + (if ([] : List Keyword).isEmpty then 0 else 1) < 30)) = true := by rfl)
    (hs : swapsWith (.Call (.Attribute (.Name x px) "append" apos) [e] [] cpos) none pos.line X.env = pure false := by exact swaps_of rfl) :
    STo X (.Expr (.Call (.Attribute (.Name x px) "append" apos) [e] [] cpos) pos) δ O (.nx δ (setO O a (ds ++ [d]))) :=
  ⟨PS_imp (ps_expr (pe_bm PySem.F.plainAttrs_list PySem.F.slot_list_append PySem.F.type_list_append mt_append (pe_var hN hv h1 h2) (pa_one h hst) hbase hfew hline hst (by rw [show starEach [] X.env = [] from rfl]; rfl)) hs) fun D σ H ⟨w, S, g⟩ => by
    obtain ⟨ev, xs, hx, lx⟩ := own_at w S hk hl
    refine ⟨.ref a, ev, .inl ⟨rfl, xs, SqL.of hx⟩, w, S, fun v H' w' s' r' => ?_⟩
    obtain ⟨_, xs', hx', lx'⟩ := own_at w' (S.mono s') hk hl
    obtain ⟨w2, e2⟩ := w'.write (mem_adrs hl) (IsL.append lx' (show IsL X.K (dropO H' O) [d] [v] by unfold IsL; exact ⟨v, [], rfl, r', by unfold IsL; rfl⟩))
    refine ⟨a, xs', v, rfl, rfl, hx', by rw [← lx'.len]; exact small1000 (by omega), g σ _ w2 ?_ ?_⟩
    · rw [e2]; exact S.mono s'
    · rw [e2]; exact s'⟩
/-- xs.pop(i) -/
theorem sto_pop (k : Nat) {x : Str} {a : Addr} {i : Int} {j : Nat} {px apos cpos : Pos} (hk : δ[k]? = some (some (.adr a))) (hl : O.lookup a = some ds) (h : EF X e δ O (.int i)) (hi0 : -(2 ^ 63) ≤ i) (hi1 : i < 2 ^ 63) (hj : seqIndex? i ds.length = some j) (hjl : j < ds.length) (hN : X.N[k]? = some x := by rfl)
    (hv : Vis X.env.scope x := by first | exact Or.inl rfl | exact Or.inr (Or.inl rfl) | exact Or.inr (Or.inr rfl)) (h1 : (x == ("__debug__" : Str)) = false := by decide) (h2 : (x == ("__classdict__" : Str)) = false := by decide)
    (hst : starEach [e] X.env = [(false, eval e X.env)] := by exact star_of rfl) (hbase : attributeBase (.Name x px) "pop" X.env (eval (.Name x px) X.env) = eval (.Name x px) X.env := by rfl) (hline : (apos.endLine == cpos.line) = true := by rfl)
    (hfew : ((backTo cpos (starEach [e] X.env)).all (fun x => !x.1) && (backToKw cpos (keywordEach [] X.env)).all (fun x => x.1.isSome) && decide ([e].length + ([] : List Keyword).length + (if ([] : List Keyword).isEmpty then 0 else 1) < 30)) = true := by rfl)
    (hs : swapsWith (.Call (.Attribute (.Name x px) "pop" apos) [e] [] cpos) none pos.line X.env = pure false := by exact swaps_of rfl) :
    STo X (.Expr (.Call (.Attribute (.Name x px) "pop" apos) [e] [] cpos) pos) δ O (.nx δ (setO O a (ds.eraseIdx j))) :=
  ⟨PS_imp (ps_expr (pe_bm PySem.F.plainAttrs_list PySem.F.slot_list_pop PySem.F.type_list_pop mt_popAt (pe_var hN hv h1 h2) (pa_one h hst) hbase hfew hline hst (by rw [show starEach [] X.env = [] from rfl]; rfl)) hs) fun D σ H ⟨w, S, g⟩ => by
    obtain ⟨ev, xs, hx, lx⟩ := own_at w S hk hl
    refine ⟨.ref a, ev, .inl ⟨rfl, xs, SqL.of hx⟩, w, S, fun v H' w' s' r' => ?_⟩
    obtain ⟨_, xs', hx', lx'⟩ := own_at w' (S.mono s') hk hl
    unfold Is at r'
    subst r'
    have hjx : j < xs'.length := by rw [← lx'.len]; exact hjl
    have hE : IsL X.K (dropO H' O) (ds.eraseIdx j) (xs'.eraseIdx j) := by
      rw [List.eraseIdx_eq_take_drop_succ, List.eraseIdx_eq_take_drop_succ]
      exact IsL.append (lx'.take j) (lx'.drop (j + 1))
    obtain ⟨w2, e2⟩ := w'.write (mem_adrs hl) hE
    refine ⟨a, xs', i, j, xs'[j], rfl, rfl, hx', hi0, hi1, by rw [← lx'.len]; exact hj, List.getElem?_eq_getElem hjx, g σ _ w2 ?_ ?_⟩
    · rw [e2]; exact S.mono s'
    · rw [e2]; exact s'⟩
end
end EV
namespace EV
open PySem PySem.Spec PyProof.Rows L2
section
variable {X : Cx} {e a c : Expr} {es : List Expr} {δ δ1 : Sd} {O O1 : Own} {d d1 : D} {ds : List D} {b : Bool} {pos pos' : Pos} {st : Stmt} {sts rest th el body : List Stmt} {o : OO}
theorem own_cons {K : PySem.W.Frag} {H : Hp} {p : Addr} (w : OwnIs K H ((p, ds) :: O)) : OwnIs K H O ∧ p ∉ adrs O ∧ Same (dropO H ((p, ds) :: O)) (dropO H O) ∧ ∃ xs, H p = some (.lst xs) ∧ IsL K (dropO H ((p, ds) :: O)) ds xs := by
  have hnd := w.nd
  simp only [adrs, List.map_cons, List.nodup_cons] at hnd
  have sm : Same (dropO H ((p, ds) :: O)) (dropO H O) := fun b u e => by
    obtain ⟨h1, h2⟩ := dropA_some e
    rw [show dropO H O b = H b from dropA_out (fun z => h1 (by simp only [adrs, List.map_cons, List.mem_cons]; exact .inr z))]
    exact h2
  refine ⟨⟨hnd.2, fun q hq => ?_⟩, hnd.1, sm, w.at_ _ List.mem_cons_self⟩
  obtain ⟨xs, e1, l⟩ := w.at_ q (List.mem_cons_of_mem _ hq)
  exact ⟨xs, e1, IsL.mono sm _ l⟩
theorem set_sameV {σ : L2.St} {k : Nat} {v : V} (h : σ[k]? = some (some v)) : σ.set k (some v) = σ := by
  apply List.ext_getElem?
  intro n
  by_cases c : k = n
  · subst c
    rw [List.getElem?_set_self', h]
    rfl
  · rw [List.getElem?_set_ne c]
/-- a list is given out of hand: from now on it is read only -/
theorem so_give (k : Nat) {p : Addr} (hk : δ[k]? = some (some (.adr p))) (h : SO X sts (δ.set k (some (.lst ds))) O o) : SO X sts δ ((p, ds) :: O) o :=
  ⟨PSs_imp h.run fun D σ H ⟨w, S, q⟩ => by
    obtain ⟨w', hp, sm, xs, hx, l⟩ := own_cons w
    obtain ⟨v, ev, r⟩ := S.2 k _ hk
    unfold Is at r
    subst r
    refine ⟨w', ?_, q.mono sm⟩
    have := (S.mono sm).set k (d := .lst ds) (v := .ref p) (by
      unfold Is
      exact ⟨p, xs, rfl, SqL.of (by rw [show dropO H O p = H p from dropA_out hp]; exact hx), IsL.mono sm ds l⟩)
    rwa [set_sameV ev] at this⟩
/-- return of one's own list -/
theorem so_retO (k : Nat) {x : Str} {p : Addr} {px : Pos} (hk : δ[k]? = some (some (.adr p))) (hN : X.N[k]? = some x := by rfl) (hv : Vis X.env.scope x := by first | exact Or.inl rfl | exact Or.inr (Or.inl rfl) | exact Or.inr (Or.inr rfl)) (h1 : (x == ("__debug__" : Str)) = false := by decide)
    (h2 : (x == ("__classdict__" : Str)) = false := by decide) : SO X (.Return (some (.Name x px)) pos :: rest) δ ((p, ds) :: O) (.pl (.rf ds)) :=
  ⟨PSs_imp (pss_cons (ps_ret (pe_var hN hv h1 h2)) pss_never) fun D σ H ⟨w, S, q⟩ => by
    obtain ⟨w', hp, sm, xs, hx, l⟩ := own_cons w
    obtain ⟨v, ev, r⟩ := S.2 k _ hk
    unfold Is at r
    subst r
    refine ⟨.ref p, ev, ?_⟩
    have q' : rO X.K (.rf ds) D (dropO H ((p, ds) :: O)) := q
    have sm2 : Same (dropO H ((p, ds) :: O)) (dropA H [p]) := fun b u e => by
      obtain ⟨z1, z2⟩ := dropA_some e
      rw [dropA_out (by simp only [List.mem_singleton]; rintro rfl; exact z1 (by simp))]
      exact z2
    have e1 : upd (dropA H [p]) p (.lst xs) = H := by
      funext b
      by_cases hb : b = p
      · subst hb; rw [upd_same, hx]
      · rw [upd_ne hb, dropA_out (by simpa using hb)]
    have := q' p xs (dropA H [p]) sm2 (dropA_in (by simp)) (IsL.mono sm2 ds l)
    rwa [e1] at this⟩
/-! ### loops -/
inductive ForO (X : Cx) (i : Nat) (body : List Stmt) : List D → Sd → Own → OO → Prop where
  | nil {δ : Sd} {O : Own} : ForO X i body [] δ O (.nx δ O)
  | cons {d : D} {ds : List D} {δ δ1 : Sd} {O O1 : Own} {o : OO} : SO X body (δ.set i (some d)) O (.nx δ1 O1) → ForO X i body ds δ1 O1 o → ForO X i body (d :: ds) δ O o
def tAnyO (X : Cx) (body : List Stmt) : TS := fun D σ H => ∃ δ O o, SO X body δ O o ∧ OwnIs X.K H O ∧ IsS X.K (dropO H O) δ σ ∧ rOO X.K o D (dropO H O)
theorem pss_anyO : PSs X body (tAnyO X body) := fun pins s σ H D I ⟨_, _, _, h, q⟩ => h.run pins s σ H D I q
theorem ei_own {tg iter : Expr} (h : EI X tg iter δ ds) : PI X tg iter (fun σ H R => OwnIs X.K H O ∧ IsS X.K (dropO H O) δ σ ∧ ∀ J H', OwnIs X.K H' O → Same (dropO H O) (dropO H' O) → Src X.K J ds (dropO H' O) → R J H') := fun pins s σ H R I ⟨w, S, q⟩ => by
  refine wpAny_mono (h.run _ s σ (dropO H O) (fun J H' => Same (dropO H O) H' ∧ Src X.K J ds H') (I.untrack w.lsts) ⟨S, fun J H' s' src => ⟨s', src⟩⟩) (fun v s1 h1 => wpAny_mono h1 (fun itv s2 h2 => ?_) fun _ _ z => z) fun _ _ z => z
  obtain ⟨it, fp, tn, J, H', e1, I', T, st2, f2, sm, src⟩ := h2
  have hN := I.pinnedN w.lsts I'
  have eD : dropO (putA H H' (adrs O)) O = H' := drop_put hN
  refine ⟨it, fp, tn, J, putA H H' (adrs O), e1, I.retrack w.lsts I', T, st2, fun b hb => ?_, q J _ (w.put hN sm) (by rw [eD]; exact sm) (by rw [eD]; exact src)⟩
  obtain ⟨f0, f1, f3, f4, f5, f6⟩ := f2 b hb
  refine ⟨?_, f1, f3, f4, f5, fun p hp => f6 p (by rw [← List.append_assoc]; exact List.mem_append_left _ hp)⟩
  rw [putA_out (fun hm => ?_)]
  · exact f0
  · obtain ⟨xs, its, n, qq, _, _, e⟩ := I.lstObj w.lsts hm
    exact f6 (b, _) (List.mem_append_right _ (List.mem_append_right _ (mem_pinsAt hm e))) rfl
theorem sto_for (k : Nat) {x : Str} {p2 : Pos} (hp : PassesOwn (model X.prog X.w) X.A X.env X.xe) (hc : X.calm = true) (nd : X.N.Nodup) (hit : EI X (.Name x p2) e δ ds) (hL : ForO X k body ds δ O o) (hi : X.N[k]? = some x := by rfl)
    (hx : Loc X.env.scope x := by first | exact Or.inl rfl | exact Or.inr rfl) (hf : X.fn x = true ∨ X.env.scope.names.lookup x = some .local := by first | exact .inl rfl | exact .inr rfl)
    (hs : ∀ x, foldedSetIterable e X.env x = pure x := by intro _; rfl) : STo X (.For (.Name x p2) e body [] pos) δ O o :=
  ⟨PS_imp (ps_for hp hc (ei_own (O := O) hit) (pg_name nd hi hx hf) pss_anyO hs) fun D σ H ⟨w, S, g⟩ => ⟨w, S, fun J H1 w1 s1 src => by
    refine ⟨fun i m σ' H' => m = ds.length - i ∧ i ≤ ds.length ∧ ∃ δ' O', OwnIs X.K H' O' ∧ IsS X.K (dropO H' O') δ' σ' ∧ Same (dropO H1 O) (dropO H' O') ∧ ForO X k body (ds.drop i) δ' O' o, ⟨ds.length, by simp, Nat.zero_le _, δ, O, w1, S.mono s1, Same.refl _, by simpa using hL⟩, ?_⟩
    rintro i m σ' H' ⟨rfl, hi', δ', O', w', S', sm, hF⟩
    have smH : Same (dropO H1 O) H' := sm.trans dropA_same
    rcases Nat.lt_or_ge i ds.length with c | c
    · obtain ⟨go, yl⟩ := (src H' smH i).1 ds[i] (List.getElem?_eq_getElem c)
      rw [List.drop_eq_getElem_cons c] at hF
      cases hF with
      | cons h1 h2 =>
        refine .inr ⟨go, fun σ2 H2 => ∃ δ2 O2, OwnIs X.K H2 O2 ∧ IsS X.K (dropO H2 O2) δ2 σ2 ∧ Same (dropO H1 O) (dropO H2 O2) ∧ ForO X k body (ds.drop (i + 1)) δ2 O2 o, fun σ2 H2 h => ⟨ds.length - (i + 1), by omega, rfl, c, h⟩, fun xv H2 y => ?_⟩
        obtain ⟨e2, isx⟩ := yl xv H2 y
        rw [e2]
        exact ⟨_, _, _, h1, w', (S'.set k (Is.mono sm _ isx)), fun σ3 H3 w3 S3 s3 => ⟨_, _, w3, S3, sm.trans s3, h2⟩⟩
    · have e2 : i = ds.length := Nat.le_antisymm hi' c
      subst e2
      rw [List.drop_length] at hF
      cases hF
      exact .inl ⟨(src H' smH ds.length).2 (Nat.le_refl _), (rOO.mono g s1) σ' H' w' S' sm⟩⟩⟩
theorem forO_fold {k : Nat} (g : Nat → Sd) (w : Nat → Own) (n : Nat) (h : ∀ m < n, SO X body ((g m).set k (some (.int (m : Int)))) (w m) (.nx (g (m + 1)) (w (m + 1)))) : ForO X k body (rangeD n) (g 0) (w 0) (.nx (g n) (w n)) := by
  have : ∀ j m : Nat, m + j = n → ForO X k body ((rangeD n).drop m) (g m) (w m) (.nx (g n) (w n)) := by
    intro j
    induction j with
    | zero =>
      intro m hm
      have e : m = n := by omega
      subst e
      have hl : (rangeD m).length = m := by simp [rangeD]
      rw [show (rangeD m).drop m = [] from List.drop_eq_nil_of_le (by omega)]
      exact .nil
    | succ j ih =>
      intro m hm
      rw [rangeD_drop (by omega)]
      exact .cons (h m (by omega)) (ih (m + 1) (by omega))
  simpa using this n 0 (by omega)
inductive WhileO (X : Cx) (c : Expr) (body : List Stmt) : Nat → Sd → Own → OO → Prop where
  | stop {n : Nat} {δ : Sd} {O : Own} : TF X c δ O false → WhileO X c body n δ O (.nx δ O)
  | turn {n : Nat} {δ δ1 : Sd} {O O1 : Own} {o : OO} : TF X c δ O true → SO X body δ O (.nx δ1 O1) → WhileO X c body n δ1 O1 o → WhileO X c body (n + 1) δ O o
theorem sto_while {n : Nat} (hp : PassesOwn (model X.prog X.w) X.A X.env X.xe) (h : WhileO X c body n δ O o) : STo X (.While c body [] pos) δ O o := by
  have hc : PT X c (fun σ H Q => ∃ δ O p, TF X c δ O p ∧ OwnIs X.K H O ∧ IsS X.K (dropO H O) δ σ ∧ ∀ H', OwnIs X.K H' O → Same (dropO H O) (dropO H' O) → Q p H') := fun pins s σ H Q I ⟨_, _, _, h, q⟩ => h.run pins s σ H Q I q
  refine ⟨PS_imp (ps_while hp hc (pss_anyO (body := body))) fun D σ H ⟨w, S, g⟩ => ?_⟩
  refine ⟨fun m σ' H' => ∃ δ' O', OwnIs X.K H' O' ∧ IsS X.K (dropO H' O') δ' σ' ∧ Same (dropO H O) (dropO H' O') ∧ WhileO X c body m δ' O' o, ⟨n, δ, O, w, S, Same.refl _, h⟩, ?_⟩
  rintro m σ' H' ⟨δ', O', w', S', sm, hw⟩
  cases hw with
  | stop h1 => exact ⟨_, _, _, h1, w', S', fun H2 w2 s2 => iteF (g σ' H2 w2 (S'.mono s2) (sm.trans s2))⟩
  | turn h1 h2 h3 => exact ⟨_, _, _, h1, w', S', fun H2 w2 s2 => iteT ⟨fun σ3 H3 => ∃ δ3 O3, OwnIs X.K H3 O3 ∧ IsS X.K (dropO H3 O3) δ3 σ3 ∧ Same (dropO H O) (dropO H3 O3) ∧ WhileO X c body _ δ3 O3 o, fun σ3 H3 h => ⟨_, Nat.lt_succ_self _, h⟩, _, _, _, h2, w2, S'.mono s2, fun σ3 H3 w3 S3 s3 => ⟨_, _, w3, S3, (sm.trans s2).trans s3, h3⟩⟩⟩
/-! ### defs that hand back a new list -/
def spF (K : PySem.W.Frag) (n : Nat) (R : List D → List D → Prop) : Sp := fun vs H Q _ => ∃ ds es, ds.length = n ∧ IsL K H ds vs ∧ R ds es ∧ ∀ a xs H', Same H H' → H' a = none → IsL K H' es xs → Q (.ref a) (upd H' a (.lst xs))
structure DefF (P : Program) (w : World) (K : PySem.W.Frag) (mg : Str → Option Value) (base : Heap) (k : Nat) (x : Str) (ps : List Str) (R : List D → List D → Prop) : Prop where
  ex : ∃ f fd, FnOk P w K mg base CX0 k f fd ps (spF K ps.length R) ∧ mg x = some (.ref f) ∧ PySem.W.keepIn K (.ref f) = true ∧ Binds K fd ps []
theorem def_okF {P : Program} {w : World} {K : PySem.W.Frag} {mg : Str → Option Value} {base : Heap} {x qual : Str} {st : Stmt} {f : Addr} {fd : FuncData} {N ps : List Str} {k : Nat} {R : List D → List D → Prop} (F : Fun K x qual st f fd) (S : FnScope N ps (defScope st))
    (h : ∀ (cdv : Value) (A : Around) (outer : List Env) (s : Shared) (H : Hp) (E : XK) (ds es : List D), Room k (A.deeper (envOfC qual (defScope st) s.heap.objs.size f cdv)) → ds.length = ps.length → R ds es →
      SS (cxOf CX0 P w K mg base N qual (defScope st) f cdv A outer s H E).nox (defBody st) (startD N ds) (.rf es)) : FnOk P w K mg base CX0 (k + 1) f fd ps (spF K ps.length R) := by
  refine F.ok S (fun vs H Q E ⟨ds, es, hl, r, _⟩ => by rw [← r.len]; exact hl) (fun cdv A outer s H vs Q E hr ⟨ds, es, hl, r, hR, q⟩ => ?_)
  exact ⟨_, (h cdv A outer s H E ds es hr hl hR).run, start_is r, fun a xs H' s' n l => q a xs H' s' n l⟩
theorem en_call {k : Nat} {x : Str} {ps : List Str} {R : List D → List D → Prop} {p : Pos} {as : List D} (G : DefF X.prog X.w X.K X.mg X.base k x ps R) (hr : Room k X.A) (hg : Gl X x) (ha : EA X (e :: es) δ as) (hl : as.length = ps.length) (hR : R as ds) (hdb : (x == ("__debug__" : Str)) = false := by decide)
    (he : starEach (e :: es) X.env = (false, eval e X.env) :: starEach es X.env := by exact star_of rfl) (hpl : (backTo pos (starEach es X.env)).any (·.1) = false := by exact plain_of rfl) : EN X (.Call (.Name x p) (e :: es) [] pos) δ ds := by
  obtain ⟨f, fd, F, hm, hk, hb⟩ := G.ex
  exact ⟨PE_imp (pe_call F hr hg hm hk hb .nil pass0 ha.run hdb he hpl) fun _ H Q ⟨S, q⟩ => ⟨S, fun vs H1 s1 r1 => by
    show spF X.K ps.length R (vs ++ []) H1 Q E0
    rw [List.append_nil]
    exact ⟨as, ds, hl, r1, hR, fun a xs H' s' n l => q a xs H' (s1.trans s') n l⟩⟩⟩
end
end EV
namespace Mt
/-! ### the sign by thirty figures -/
end Mt
namespace My
open PySem L2 EV
/-! ### moves -/
theorem once_plus {m : Int} {p q : P4} (hm : OkM m) : (p.plus q).once m = (p.once m).plus (q.once m) := by
  obtain ⟨a, b, c, d⟩ := p
  obtain ⟨e, f, g, h⟩ := q
  rcases hm with rfl | rfl | rfl | rfl | rfl <;> (apply P4.ext' <;> (simp [P4.plus, P4.once, aA, aB, tA, tB, tX, tY, nA, nB, sqP, sqQ]; try omega))
theorem mir_plus {m : Int} {p q : P4} (hm : OkM m) : (p.plus q).mir m = (p.mir m).plus (q.mir m) := by
  obtain ⟨a, b, c, d⟩ := p
  obtain ⟨e, f, g, h⟩ := q
  rcases hm with rfl | rfl | rfl | rfl | rfl <;> (apply P4.ext' <;> (simp [P4.plus, P4.mir, aA, aB, tA, tB, tX, tY, nA, nB, sqP, sqQ]; try omega))
theorem turn_plus {m : Int} {p q : P4} (hm : OkM m) : ∀ k, (p.plus q).turn m k = (p.turn m k).plus (q.turn m k)
  | 0 => rfl
  | k + 1 => by
    show ((p.plus q).turn m k).once m = ((p.turn m k).once m).plus ((q.turn m k).once m)
    rw [turn_plus hm k, once_plus hm]
def P4.zero : P4 := ⟨0, 0, 0, 0⟩
theorem plus_comm' (p q : P4) : p.plus q = q.plus p := by
  obtain ⟨a, b, c, d⟩ := p
  obtain ⟨e, f, g, h⟩ := q
  simp [P4.plus, Int.add_comm]
theorem plus_assoc' (p q r : P4) : (p.plus q).plus r = p.plus (q.plus r) := by
  obtain ⟨a, b, c, d⟩ := p
  obtain ⟨e, f, g, h⟩ := q
  obtain ⟨i, j, k, l⟩ := r
  simp [P4.plus, Int.add_assoc]
theorem plus_zero' (p : P4) : p.plus P4.zero = p := by
  obtain ⟨a, b, c, d⟩ := p
  simp [P4.plus, P4.zero]
theorem plus_neg' (p : P4) : p.plus p.neg = P4.zero := by
  obtain ⟨a, b, c, d⟩ := p
  simp [P4.plus, P4.neg, P4.zero, Int.add_right_neg]
theorem neg_plus' (p : P4) : p.neg.plus p = P4.zero := by rw [plus_comm', plus_neg']
theorem neg_of {p q : P4} (h : p.plus q = P4.zero) : p = q.neg := by
  obtain ⟨a, b, c, d⟩ := p
  obtain ⟨e, f, g, i⟩ := q
  simp [P4.plus, P4.zero] at h
  simp [P4.neg]
  omega
theorem plus_Z {m : Int} {p q : P4} (hp : p.Z m) (hq : q.Z m) : (p.plus q).Z m := ⟨z2_add hp.b hq.b, z2_add hp.d hq.d⟩
theorem zero_Z (m : Int) : P4.zero.Z m := ⟨fun _ => rfl, fun _ => rfl⟩
/-- mirrored, if f is 1, then turned -/
def lin (m t f : Int) (p : P4) : P4 := (if f = 1 then p.mir m else p).turn m (t % m).toNat
theorem lin_Z {m t f : Int} {p : P4} (hm : OkM m) (h : p.Z m) : (lin m t f p).Z m := by
  unfold lin
  apply P4.turn_Z hm
  split
  · exact P4.mir_Z hm h
  · exact h
theorem lin_B {n : Nat} {m t f : Int} {p : P4} (hm : OkM m) (h : p.B n) : (lin m t f p).B (n + 104) := by
  have ht := turns_le hm t
  unfold lin
  split
  · exact (P4.turn_B (P4.mir_B h) _).mono (by omega)
  · exact (P4.turn_B h _).mono (by omega)
theorem lin_plus {m t f : Int} {p q : P4} (hm : OkM m) : lin m t f (p.plus q) = (lin m t f p).plus (lin m t f q) := by
  unfold lin
  split
  · rw [mir_plus hm, turn_plus hm]
  · rw [turn_plus hm]
theorem mir_zero {m : Int} (hm : OkM m) : P4.zero.mir m = P4.zero := by rcases hm with rfl | rfl | rfl | rfl | rfl <;> rfl
theorem lin_zero {m t f : Int} (hm : OkM m) : lin m t f P4.zero = P4.zero := by
  unfold lin
  split
  · rw [mir_zero hm]; exact zero_turn hm _
  · exact zero_turn hm _
theorem lin_neg {m t f : Int} {p : P4} (hm : OkM m) : lin m t f p.neg = (lin m t f p).neg := by
  apply neg_of
  rw [← lin_plus hm, neg_plus', lin_zero hm]
def jT (m t1 t2 f2 : Int) : Int := (if f2 = 1 then t2 - t1 else t2 + t1) % m
theorem lin_lin {m t1 f1 t2 f2 : Int} {p : P4} (hm : OkM m) (hp : p.Z m) (h1 : f1 = 0 ∨ f1 = 1) (h2 : f2 = 0 ∨ f2 = 1) : lin m t2 f2 (lin m t1 f1 p) = lin m (jT m t1 t2 f2) ((f1 + f2) % 2) p := by
  have e : ∀ r : Int, (r % m % m) = r % m := fun r => Int.emod_emod_of_dvd r (Int.dvd_refl m)
  rcases h1 with rfl | rfl <;> rcases h2 with rfl | rfl
  · show (p.turn m (t1 % m).toNat).turn m (t2 % m).toNat = p.turn m ((t2 + t1) % m % m).toNat
    rw [turn_two hm hp, e, Int.add_comm]
  · show ((p.turn m (t1 % m).toNat).mir m).turn m (t2 % m).toNat = (p.mir m).turn m ((t2 - t1) % m % m).toNat
    rw [mir_back hm hp, turn_two hm (P4.mir_Z hm hp), e]
    congr 3
    omega
  · show ((p.mir m).turn m (t1 % m).toNat).turn m (t2 % m).toNat = (p.mir m).turn m ((t2 + t1) % m % m).toNat
    rw [turn_two hm (P4.mir_Z hm hp), e, Int.add_comm]
  · show (((p.mir m).turn m (t1 % m).toNat).mir m).turn m (t2 % m).toNat = p.turn m ((t2 - t1) % m % m).toNat
    rw [mir_back hm (P4.mir_Z hm hp), mir_mir hm hp, turn_two hm hp, e]
    congr 3
    omega
/-- a move -/
structure Mv where
  t : Int
  f : Int
  o : P4
abbrev Mv.D (x : Mv) : D := .tup [.int x.t, .int x.f, pD x.o.a x.o.b x.o.c x.o.d]
structure Mv.Ok (m : Int) (x : Mv) : Prop where
  t0 : 0 ≤ x.t
  t1 : x.t < m
  f : x.f = 0 ∨ x.f = 1
  o : x.o.Z m
def Mv.mv (m : Int) (x : Mv) (p : P4) : P4 := (lin m x.t x.f p).plus x.o
def Mv.join (m : Int) (x y : Mv) : Mv := ⟨jT m x.t y.t y.f, (x.f + y.f) % 2, y.mv m x.o⟩
def Mv.bt (m : Int) (x : Mv) : Int := if x.f = 1 then x.t else (-x.t) % m
def Mv.back (m : Int) (x : Mv) : Mv := ⟨x.bt m, x.f, (Mv.mv m ⟨x.bt m, x.f, P4.zero⟩ x.o).neg⟩
def Mv.still : Mv := ⟨0, 0, P4.zero⟩
theorem bt_ok {m : Int} {x : Mv} (hm : OkM m) (hx : x.Ok m) : 0 ≤ x.bt m ∧ x.bt m < m := by
  have h := okM_pos hm
  unfold Mv.bt
  split
  · exact ⟨hx.t0, hx.t1⟩
  · exact ⟨Int.emod_nonneg _ (Int.ne_of_gt h.1), Int.emod_lt_of_pos _ h.1⟩
theorem back_Ok {m : Int} {x : Mv} (hm : OkM m) (hx : x.Ok m) : (x.back m).Ok m :=
  ⟨(bt_ok hm hx).1, (bt_ok hm hx).2, hx.f, P4.neg_Z (plus_Z (lin_Z hm hx.o) (zero_Z m))⟩
/-- joined: where the one and then the other take it -/
theorem mv_join {m : Int} {x y : Mv} {p : P4} (hm : OkM m) (hx : x.Ok m) (hy : y.Ok m) (hp : p.Z m) : (x.join m y).mv m p = y.mv m (x.mv m p) := by
  show (lin m (jT m x.t y.t y.f) ((x.f + y.f) % 2) p).plus (y.mv m x.o) = (lin m y.t y.f ((lin m x.t x.f p).plus x.o)).plus y.o
  rw [lin_plus hm, lin_lin hm hp hx.f hy.f, plus_assoc']
  rfl
theorem Mv.ext' {x y : Mv} (h1 : x.t = y.t) (h2 : x.f = y.f) (h3 : x.o = y.o) : x = y := by cases x; cases y; simp_all
theorem lin_id {m : Int} {p : P4} (hm : OkM m) : lin m 0 0 p = p := by
  unfold lin
  rcases hm with rfl | rfl | rfl | rfl | rfl <;> rfl
/-- the parts of a move and its way back, either way round -/
theorem bt_1 {m : Int} {x : Mv} (hm : OkM m) (hx : x.Ok m) : jT m x.t (x.bt m) x.f = 0 ∧ jT m (x.bt m) x.t x.f = 0 ∧ (x.f + x.f) % 2 = 0 := by
  have h := okM_pos hm
  refine ⟨?_, ?_, by have := hx.f; omega⟩
  · unfold jT Mv.bt
    rcases hx.f with e | e <;> rw [e]
    · simp [Int.add_left_neg, Int.add_right_neg]
    · simp
  · unfold jT Mv.bt
    rcases hx.f with e | e <;> rw [e]
    · simp [Int.add_left_neg, Int.add_right_neg]
    · simp
theorem join_back {m : Int} {x : Mv} (hm : OkM m) (hx : x.Ok m) : x.join m (x.back m) = Mv.still := by
  obtain ⟨h1, h2, h3⟩ := bt_1 hm hx
  apply Mv.ext'
  · exact h1
  · exact h3
  · show (lin m (x.bt m) x.f x.o).plus ((lin m (x.bt m) x.f x.o).plus P4.zero).neg = P4.zero
    rw [plus_zero', plus_neg']
theorem mv_back {m : Int} {x : Mv} {p : P4} (hm : OkM m) (hx : x.Ok m) (hp : p.Z m) : (x.back m).mv m (x.mv m p) = p := by
  rw [← mv_join hm hx (back_Ok hm hx) hp, join_back hm hx]
  show (lin m 0 0 p).plus P4.zero = p
  rw [lin_id hm, plus_zero']
theorem mv_B {n k : Nat} {m : Int} {x : Mv} {p : P4} (hm : OkM m) (hp : p.B n) (hx : x.o.B k) : (x.mv m p).B (n + k + 105) := (P4.plus_B (lin_B hm hp) hx).mono (by omega)
theorem neg_B {n : Nat} {p : P4} (h : p.B n) : p.neg.B n := ⟨h.a.neg, h.b.neg, h.c.neg, h.d.neg⟩
theorem zero_B : P4.zero.B 1 := ⟨bd0.mono (by decide), bd0.mono (by decide), bd0.mono (by decide), bd0.mono (by decide)⟩
end My
namespace My
open PySem L2 EV
/-! ### crosses as a form; hands; rims without bays -/
def P4.sub (p q : P4) : P4 := ⟨p.a - q.a, p.b - q.b, p.c - q.c, p.d - q.d⟩
theorem plus_neg (p q : P4) : p.plus q.neg = p.sub q := by
  cases p; cases q
  simp [P4.plus, P4.neg, P4.sub, Int.sub_eq_add_neg]
theorem sub_Z {m : Int} {p q : P4} (hp : p.Z m) (hq : q.Z m) : (p.sub q).Z m := ⟨z2_sub hp.b hq.b, z2_sub hp.d hq.d⟩
theorem sub_B {n : Nat} {p q : P4} (hp : p.B n) (hq : q.B n) : (p.sub q).B (n + 1) :=
  ⟨(hp.a.sub hq.a).mono (by omega), (hp.b.sub hq.b).mono (by omega), (hp.c.sub hq.c).mono (by omega), (hp.d.sub hq.d).mono (by omega)⟩
theorem t_addL {m a b c d e f : Int} (hm : OkM m) : tA m (a + c) (b + d) e f = tA m a b e f + tA m c d e f ∧ tB m (a + c) (b + d) e f = tB m a b e f + tB m c d e f := by
  rcases hm with rfl | rfl | rfl | rfl | rfl <;> (simp [tA, tB, tX, tY, nA, nB, sqP, sqQ]; try grind)
theorem crA_addL {m : Int} {p q r : P4} (hm : OkM m) : crA m (p.plus q) r = crA m p r + crA m q r := by
  unfold crA P4.plus
  simp only [(t_addL hm).1]
  omega
theorem crB_addL {m : Int} {p q r : P4} (hm : OkM m) : crB m (p.plus q) r = crB m p r + crB m q r := by
  unfold crB P4.plus
  simp only [(t_addL hm).2]
  omega
theorem crA_subL {m : Int} {p q r : P4} (hm : OkM m) : crA m (p.sub q) r = crA m p r - crA m q r := by
  unfold crA P4.sub
  simp only [(t_sub hm).1]
  omega
theorem crB_subL {m : Int} {p q r : P4} (hm : OkM m) : crB m (p.sub q) r = crB m p r - crB m q r := by
  unfold crB P4.sub
  simp only [(t_sub hm).2]
  omega
theorem crA_addR {m : Int} {p q r : P4} (hm : OkM m) : crA m r (p.plus q) = crA m r p + crA m r q := (cr_add hm).1
theorem crB_addR {m : Int} {p q r : P4} (hm : OkM m) : crB m r (p.plus q) = crB m r p + crB m r q := (cr_add hm).2
theorem crA_subR {m : Int} {p q r : P4} (hm : OkM m) : crA m r (p.sub q) = crA m r p - crA m r q := by
  rw [(cr_swap hm).1, crA_subL hm, (cr_swap (p := r) (q := p) hm).1, (cr_swap (p := r) (q := q) hm).1]; omega
theorem crB_subR {m : Int} {p q r : P4} (hm : OkM m) : crB m r (p.sub q) = crB m r p - crB m r q := by
  rw [(cr_swap hm).2, crB_subL hm, (cr_swap (p := r) (q := p) hm).2, (cr_swap (p := r) (q := q) hm).2]; omega
theorem cr_self {m : Int} (hm : OkM m) (p : P4) : crA m p p = 0 ∧ crB m p p = 0 := by
  have h1 := (cr_swap (p := p) (q := p) hm).1
  have h2 := (cr_swap (p := p) (q := p) hm).2
  omega
theorem crB_Z {m : Int} (hm : OkM m) (p q : P4) : Z2 m (crB m p q) := z2_sub (tB_z hm) (tB_z hm)
/-- who goes from p to q: the hand of r -/
def hnd (m : Int) (p q r : P4) : Int := sgn m (crA m (q.sub p) (r.sub p)) (crB m (q.sub p) (r.sub p))
/-- a cross above 0 -/
def Up (m : Int) (p q : P4) : Prop := sgn m (crA m p q) (crB m p q) = 1
/-- the triple's own cross: hands are its sign -/
def trA (m : Int) (p q r : P4) : Int := crA m p q + crA m q r + crA m r p
def trB (m : Int) (p q r : P4) : Int := crB m p q + crB m q r + crB m r p
theorem hnd_tr {m : Int} (hm : OkM m) (p q r : P4) : hnd m p q r = sgn m (trA m p q r) (trB m p q r) := by
  unfold hnd trA trB
  have a1 := (cr_self hm p).1
  have a2 := (cr_self hm p).2
  have a3 := (cr_swap (p := p) (q := r) hm).1
  have a4 := (cr_swap (p := p) (q := r) hm).2
  have a5 := (cr_swap (p := q) (q := p) hm).1
  have a6 := (cr_swap (p := q) (q := p) hm).2
  congr 1
  · rw [crA_subL hm, crA_subR hm, crA_subR hm]; omega
  · rw [crB_subL hm, crB_subR hm, crB_subR hm]; omega
theorem tr_rot (m : Int) (p q r : P4) : trA m q r p = trA m p q r ∧ trB m q r p = trB m p q r := by
  unfold trA trB; omega
theorem hnd_rot {m : Int} (hm : OkM m) (p q r : P4) : hnd m q r p = hnd m p q r := by
  rw [hnd_tr hm, hnd_tr hm, (tr_rot m p q r).1, (tr_rot m p q r).2]
theorem hnd_cases (m : Int) (p q r : P4) : hnd m p q r = 1 ∨ hnd m p q r = 0 ∨ hnd m p q r = -1 := sgn_cases _ _ _
/-! all triples in order at the left hand -/
def Pr (m : Int) (p : P4) : List P4 → Prop
  | [] => True
  | q :: qs => (∀ r ∈ qs, hnd m p q r = 1) ∧ Pr m p qs
def Tri (m : Int) : List P4 → Prop
  | [] => True
  | p :: ps => Pr m p ps ∧ Tri m ps
theorem Pr.sub {m : Int} {p : P4} : ∀ {xs ys : List P4}, xs.Sublist ys → Pr m p ys → Pr m p xs
  | _, _, .slnil, h => h
  | _, _, .cons _ s, h => Pr.sub s h.2
  | _, _, .cons₂ _ s, h => ⟨fun r hr => h.1 r (s.subset hr), Pr.sub s h.2⟩
theorem Tri.sub {m : Int} : ∀ {xs ys : List P4}, xs.Sublist ys → Tri m ys → Tri m xs
  | _, _, .slnil, h => h
  | _, _, .cons _ s, h => Tri.sub s h.2
  | _, _, .cons₂ _ s, h => ⟨h.1.sub s, Tri.sub s h.2⟩
/-! ways -/
theorem scal_Z {m e f : Int} {p : P4} (hm : OkM m) : (p.scal m e f).Z m := ⟨tB_z hm, tB_z hm⟩
theorem once_scal {m e f : Int} {p : P4} (hm : OkM m) (hp : p.Z m) (hf : Z2 m f) : (p.scal m e f).once m = (p.once m).scal m e f := by
  obtain ⟨a, b, c, d⟩ := p
  rcases hm with rfl | rfl | rfl | rfl | rfl
  · obtain rfl : b = 0 := hp.b (by decide); obtain rfl : d = 0 := hp.d (by decide); obtain rfl : f = 0 := hf (by decide)
    apply P4.ext' <;> (simp [P4.once, P4.scal, aA, aB, tA, tB, tX, tY, nA, nB, sqP, sqQ]; try grind)
  · obtain rfl : b = 0 := hp.b (by decide); obtain rfl : d = 0 := hp.d (by decide); obtain rfl : f = 0 := hf (by decide)
    apply P4.ext' <;> (simp [P4.once, P4.scal, aA, aB, tA, tB, tX, tY, nA, nB, sqP, sqQ]; try grind)
  all_goals (apply P4.ext' <;> (simp [P4.once, P4.scal, aA, aB, tA, tB, tX, tY, nA, nB, sqP, sqQ]; try grind))
theorem turn_scal {m e f : Int} {p : P4} (hm : OkM m) (hp : p.Z m) (hf : Z2 m f) : ∀ k, (p.scal m e f).turn m k = (p.turn m k).scal m e f
  | 0 => rfl
  | k + 1 => by
    show ((p.scal m e f).turn m k).once m = ((p.turn m k).once m).scal m e f
    rw [turn_scal hm hp hf k, once_scal hm (P4.turn_Z hm hp k) hf]
def unit : P4 := ⟨1, 0, 0, 0⟩
theorem unit_Z (m : Int) : unit.Z m := ⟨fun _ => rfl, fun _ => rfl⟩
theorem unit_scal {m a b : Int} (hm : OkM m) (hb : Z2 m b) : unit.scal m a b = ⟨a, b, 0, 0⟩ := by
  rcases hm with rfl | rfl | rfl | rfl | rfl
  · obtain rfl := hb (by decide); apply P4.ext' <;> simp [unit, P4.scal, tA, tB, tX, tY, nA, nB, sqP, sqQ]
  · obtain rfl := hb (by decide); apply P4.ext' <;> simp [unit, P4.scal, tA, tB, tX, tY, nA, nB, sqP, sqQ]
  all_goals (apply P4.ext' <;> simp [unit, P4.scal, tA, tB, tX, tY, nA, nB, sqP, sqQ])
def wayF (m t a b : Int) : P4 := P4.turn m ⟨a, b, 0, 0⟩ (t % m).toNat
theorem way_scal {m t a b : Int} (hm : OkM m) (hb : Z2 m b) : wayF m t a b = (unit.turn m (t % m).toNat).scal m a b := by
  unfold wayF
  rw [← unit_scal hm hb, turn_scal hm (unit_Z m) hb]
theorem way_Z {m t a b : Int} (hm : OkM m) (hb : Z2 m b) : (wayF m t a b).Z m := P4.turn_Z hm ⟨hb, fun _ => rfl⟩ _
def unitsB : Bool := [4, 6, 8, 10, 12].all fun (m : Int) => (List.range 12).all fun k => decide ((unit.turn m k).a.natAbs ≤ 4 ∧ (unit.turn m k).b.natAbs ≤ 4 ∧ (unit.turn m k).c.natAbs ≤ 4 ∧ (unit.turn m k).d.natAbs ≤ 4)
theorem units_ok : unitsB = true := by decide +kernel
theorem unit_B {m : Int} (hm : OkM m) {k : Nat} (hk : k < 12) : (unit.turn m k).B 3 := by
  have h := units_ok
  unfold unitsB at h
  rw [List.all_eq_true] at h
  have h1 := h m (by rcases hm with rfl | rfl | rfl | rfl | rfl <;> simp)
  rw [List.all_eq_true] at h1
  have h2 := of_decide_eq_true (h1 k (List.mem_range.mpr hk))
  have e : (2 : Nat) ^ 3 = 8 := by decide
  exact ⟨⟨by omega⟩, ⟨by omega⟩, ⟨by omega⟩, ⟨by omega⟩⟩
theorem way_B {n : Nat} {m t a b : Int} (hm : OkM m) (hb : Z2 m b) (ba : Bd n a) (bb : Bd n b) : (wayF m t a b).B (n + 8) := by
  have h := okM_pos hm
  have h1 := Int.emod_nonneg t (Int.ne_of_gt h.1)
  have h2 := Int.emod_lt_of_pos t h.1
  rw [way_scal hm hb]
  exact (P4.scal_B (unit_B hm (by omega)) ba bb).mono (by omega)
def upsB : Bool := [4, 6, 8, 10, 12].all fun (m : Int) => (List.range 6).all fun i => (List.range 6).all fun j => decide (i < j → (j : Int) < m / 2 → sgn m (crA m (unit.turn m i) (unit.turn m j)) (crB m (unit.turn m i) (unit.turn m j)) = 1)
theorem ups_ok : upsB = true := by decide +kernel
theorem unit_up {m : Int} (hm : OkM m) {i j : Nat} (hij : i < j) (hj : (j : Int) < m / 2) : Up m (unit.turn m i) (unit.turn m j) := by
  have h := ups_ok
  unfold upsB at h
  rw [List.all_eq_true] at h
  have hp := okM_pos hm
  have h1 := h m (by rcases hm with rfl | rfl | rfl | rfl | rfl <;> simp)
  rw [List.all_eq_true] at h1
  have h2 := h1 i (List.mem_range.mpr (by omega))
  rw [List.all_eq_true] at h2
  exact of_decide_eq_true (h2 j (List.mem_range.mpr (by omega))) hij hj
/-- two ways, the second one less than half a turn further to the left -/
theorem way_up {m f s t a b c d : Int} (hm : OkM m) (hb : Z2 m b) (hd : Z2 m d) (h1 : sgn m a b = 1) (h2 : sgn m c d = 1) (hs : 0 ≤ s) (hst : s < t) (ht : t < m / 2) : Up m (wayF m (f + s) a b) (wayF m (f + t) c d) := by
  have hp := okM_pos hm
  have e1 : unit.turn m ((f + s) % m).toNat = (unit.turn m s.toNat).turn m (f % m).toNat := by
    rw [Int.add_comm, ← turn_two hm (unit_Z m), Int.emod_eq_of_lt hs (by omega)]
  have e2 : unit.turn m ((f + t) % m).toNat = (unit.turn m t.toNat).turn m (f % m).toNat := by
    rw [Int.add_comm, ← turn_two hm (unit_Z m), Int.emod_eq_of_lt (by omega) (by omega)]
  have z1 := P4.turn_Z hm (unit_Z m) s.toNat
  have z2 := P4.turn_Z hm (unit_Z m) t.toNat
  have y1 := P4.turn_Z hm z1 (f % m).toNat
  have y2 := P4.turn_Z hm z2 (f % m).toNat
  have u := unit_up hm (i := s.toNat) (j := t.toNat) (by omega) (by omega)
  unfold Up at u ⊢
  rw [way_scal hm hb, way_scal hm hd, e1, e2, (cr_scal hm y1 (scal_Z hm) hb).1, (cr_scal hm y1 (scal_Z hm) hb).2, sgn_mul hm (crB_Z hm _ _) hb, h1, Int.mul_one]
  rw [(cr_swap (m := m) (p := ((unit.turn m t.toNat).turn m (f % m).toNat).scal m c d) hm).1, (cr_swap (m := m) (p := ((unit.turn m t.toNat).turn m (f % m).toNat).scal m c d) hm).2, sgn_neg, (cr_scal hm y2 y1 hd).1, (cr_scal hm y2 y1 hd).2,
    sgn_mul hm (crB_Z hm _ _) hd, h2, Int.mul_one, ← sgn_neg, ← (cr_swap hm).1, ← (cr_swap hm).2, (cr_turn hm z1 z2 _).1, (cr_turn hm z1 z2 _).2, u]
end My
namespace My
open PySem L2 EV
/-! ### the rim of two or three ways and back: all triples at the left -/
def scanP (at_ : P4) : List P4 → List P4
  | [] => []
  | w :: r => at_ :: scanP (at_.plus w) r
def rimP (at_ : P4) (ws : List P4) : List P4 := scanP at_ (ws ++ ws.map fun w => P4.zero.sub w)
theorem crA_zL (m : Int) (p : P4) : crA m P4.zero p = 0 := by unfold crA P4.zero tA nA tX tY; simp
theorem crB_zL (m : Int) (p : P4) : crB m P4.zero p = 0 := by unfold crB P4.zero tB nB tY; simp
theorem crA_zR (m : Int) (p : P4) : crA m p P4.zero = 0 := by unfold crA P4.zero tA nA tX tY; simp
theorem crB_zR (m : Int) (p : P4) : crB m p P4.zero = 0 := by unfold crB P4.zero tB nB tY; simp
theorem hnd_1 {m x y : Int} {p q r : P4} (hm : OkM m) (e1 : trA m p q r = x) (e2 : trB m p q r = y) (h : sgn m x y = 1) : hnd m p q r = 1 := by rw [hnd_tr hm, e1, e2, h]
theorem hnd_o {m : Int} (o p q r : P4) : hnd m (o.plus p) (o.plus q) (o.plus r) = hnd m p q r := by
  have e : ∀ a b : P4, (o.plus a).sub (o.plus b) = a.sub b := fun a b => by apply P4.ext' <;> simp [P4.sub, P4.plus] <;> omega
  unfold hnd
  rw [e, e]
theorem Pr_o {m : Int} (o : P4) {p : P4} : ∀ {ps : List P4}, Pr m p ps → Pr m (o.plus p) (ps.map o.plus)
  | [], _ => True.intro
  | q :: qs, h => ⟨fun r hr => by obtain ⟨x, hx, rfl⟩ := List.mem_map.mp hr; rw [hnd_o]; exact h.1 x hx, Pr_o o h.2⟩
theorem Tri_o {m : Int} (o : P4) : ∀ {ps : List P4}, Tri m ps → Tri m (ps.map o.plus)
  | [], _ => True.intro
  | _ :: _, h => ⟨Pr_o o h.1, Tri_o o h.2⟩
theorem rim2 {m : Int} {at_ w1 w2 : P4} (hm : OkM m) (u12 : Up m w1 w2) : Tri m (rimP at_ [w1, w2]) := by
  obtain ⟨sa1, sb1⟩ := cr_self hm w1
  obtain ⟨ta12, tb12⟩ := cr_swap (p := w1) (q := w2) hm
  obtain ⟨sa2, sb2⟩ := cr_self hm w2
  have h012 : hnd m P4.zero w1 (w1.plus w2) = 1 := hnd_1 (x := crA m w1 w2) (y := crB m w1 w2) hm (by unfold trA; simp only [crA_addL hm, crA_addR hm, crA_zL, crA_zR, sa1, sa2, ta12]; first | done | omega) (by unfold trB; simp only [crB_addL hm, crB_addR hm, crB_zL, crB_zR, sb1, sb2, tb12]; first | done | omega) u12
  have h013 : hnd m P4.zero w1 w2 = 1 := hnd_1 (x := crA m w1 w2) (y := crB m w1 w2) hm (by unfold trA; simp only [crA_addL hm, crA_addR hm, crA_zL, crA_zR, sa1, sa2, ta12]; first | done | omega) (by unfold trB; simp only [crB_addL hm, crB_addR hm, crB_zL, crB_zR, sb1, sb2, tb12]; first | done | omega) u12
  have h023 : hnd m P4.zero (w1.plus w2) w2 = 1 := hnd_1 (x := crA m w1 w2) (y := crB m w1 w2) hm (by unfold trA; simp only [crA_addL hm, crA_addR hm, crA_zL, crA_zR, sa1, sa2, ta12]; first | done | omega) (by unfold trB; simp only [crB_addL hm, crB_addR hm, crB_zL, crB_zR, sb1, sb2, tb12]; first | done | omega) u12
  have h123 : hnd m w1 (w1.plus w2) w2 = 1 := hnd_1 (x := crA m w1 w2) (y := crB m w1 w2) hm (by unfold trA; simp only [crA_addL hm, crA_addR hm, crA_zL, crA_zR, sa1, sa2, ta12]; first | done | omega) (by unfold trB; simp only [crB_addL hm, crB_addR hm, crB_zL, crB_zR, sb1, sb2, tb12]; first | done | omega) u12
  have e : rimP at_ [w1, w2] = [P4.zero, w1, (w1.plus w2), w2].map at_.plus := by
    simp only [rimP, scanP, List.map_cons, List.map_nil, List.cons_append, List.nil_append, List.cons.injEq, and_true]
    refine ⟨?_, ?_, ?_, ?_⟩ <;> first | trivial | (apply P4.ext' <;> simp [P4.plus, P4.sub, P4.zero] <;> omega)
  rw [e]
  refine Tri_o at_ ?_
  exact ⟨⟨(fun r hr => by simp only [List.mem_cons, List.not_mem_nil, or_false] at hr; rcases hr with rfl | rfl <;> assumption), ⟨(fun r hr => by simp only [List.mem_cons, List.not_mem_nil, or_false] at hr; rcases hr with rfl <;> assumption), ⟨(fun r hr => by cases hr), trivial⟩⟩⟩, ⟨⟨(fun r hr => by simp only [List.mem_cons, List.not_mem_nil, or_false] at hr; rcases hr with rfl <;> assumption), ⟨(fun r hr => by cases hr), trivial⟩⟩, ⟨⟨(fun r hr => by cases hr), trivial⟩, ⟨trivial, trivial⟩⟩⟩⟩
theorem rim3 {m : Int} {at_ w1 w2 w3 : P4} (hm : OkM m) (u12 : Up m w1 w2) (u13 : Up m w1 w3) (u23 : Up m w2 w3) : Tri m (rimP at_ [w1, w2, w3]) := by
  obtain ⟨sa1, sb1⟩ := cr_self hm w1
  obtain ⟨ta12, tb12⟩ := cr_swap (p := w1) (q := w2) hm
  obtain ⟨ta13, tb13⟩ := cr_swap (p := w1) (q := w3) hm
  obtain ⟨sa2, sb2⟩ := cr_self hm w2
  obtain ⟨ta23, tb23⟩ := cr_swap (p := w2) (q := w3) hm
  obtain ⟨sa3, sb3⟩ := cr_self hm w3
  have h012 : hnd m P4.zero w1 (w1.plus w2) = 1 := hnd_1 (x := crA m w1 w2) (y := crB m w1 w2) hm (by unfold trA; simp only [crA_addL hm, crA_addR hm, crA_zL, crA_zR, sa1, sa2, sa3, ta12, ta13, ta23]; first | done | omega) (by unfold trB; simp only [crB_addL hm, crB_addR hm, crB_zL, crB_zR, sb1, sb2, sb3, tb12, tb13, tb23]; first | done | omega) u12
  have h013 : hnd m P4.zero w1 ((w1.plus w2).plus w3) = 1 := hnd_1 (x := crA m w1 w2 + crA m w1 w3) (y := crB m w1 w2 + crB m w1 w3) hm (by unfold trA; simp only [crA_addL hm, crA_addR hm, crA_zL, crA_zR, sa1, sa2, sa3, ta12, ta13, ta23]; first | done | omega) (by unfold trB; simp only [crB_addL hm, crB_addR hm, crB_zL, crB_zR, sb1, sb2, sb3, tb12, tb13, tb23]; first | done | omega) (sgn_add1 hm (crB_Z hm _ _) (crB_Z hm _ _) u12 u13)
  have h014 : hnd m P4.zero w1 (w2.plus w3) = 1 := hnd_1 (x := crA m w1 w2 + crA m w1 w3) (y := crB m w1 w2 + crB m w1 w3) hm (by unfold trA; simp only [crA_addL hm, crA_addR hm, crA_zL, crA_zR, sa1, sa2, sa3, ta12, ta13, ta23]; first | done | omega) (by unfold trB; simp only [crB_addL hm, crB_addR hm, crB_zL, crB_zR, sb1, sb2, sb3, tb12, tb13, tb23]; first | done | omega) (sgn_add1 hm (crB_Z hm _ _) (crB_Z hm _ _) u12 u13)
  have h015 : hnd m P4.zero w1 w3 = 1 := hnd_1 (x := crA m w1 w3) (y := crB m w1 w3) hm (by unfold trA; simp only [crA_addL hm, crA_addR hm, crA_zL, crA_zR, sa1, sa2, sa3, ta12, ta13, ta23]; first | done | omega) (by unfold trB; simp only [crB_addL hm, crB_addR hm, crB_zL, crB_zR, sb1, sb2, sb3, tb12, tb13, tb23]; first | done | omega) u13
  have h023 : hnd m P4.zero (w1.plus w2) ((w1.plus w2).plus w3) = 1 := hnd_1 (x := crA m w1 w3 + crA m w2 w3) (y := crB m w1 w3 + crB m w2 w3) hm (by unfold trA; simp only [crA_addL hm, crA_addR hm, crA_zL, crA_zR, sa1, sa2, sa3, ta12, ta13, ta23]; first | done | omega) (by unfold trB; simp only [crB_addL hm, crB_addR hm, crB_zL, crB_zR, sb1, sb2, sb3, tb12, tb13, tb23]; first | done | omega) (sgn_add1 hm (crB_Z hm _ _) (crB_Z hm _ _) u13 u23)
  have h024 : hnd m P4.zero (w1.plus w2) (w2.plus w3) = 1 := hnd_1 (x := crA m w1 w2 + crA m w1 w3 + crA m w2 w3) (y := crB m w1 w2 + crB m w1 w3 + crB m w2 w3) hm (by unfold trA; simp only [crA_addL hm, crA_addR hm, crA_zL, crA_zR, sa1, sa2, sa3, ta12, ta13, ta23]; first | done | omega) (by unfold trB; simp only [crB_addL hm, crB_addR hm, crB_zL, crB_zR, sb1, sb2, sb3, tb12, tb13, tb23]; first | done | omega) (sgn_add1 hm (z2_add (crB_Z hm _ _) (crB_Z hm _ _)) (crB_Z hm _ _) (sgn_add1 hm (crB_Z hm _ _) (crB_Z hm _ _) u12 u13) u23)
  have h025 : hnd m P4.zero (w1.plus w2) w3 = 1 := hnd_1 (x := crA m w1 w3 + crA m w2 w3) (y := crB m w1 w3 + crB m w2 w3) hm (by unfold trA; simp only [crA_addL hm, crA_addR hm, crA_zL, crA_zR, sa1, sa2, sa3, ta12, ta13, ta23]; first | done | omega) (by unfold trB; simp only [crB_addL hm, crB_addR hm, crB_zL, crB_zR, sb1, sb2, sb3, tb12, tb13, tb23]; first | done | omega) (sgn_add1 hm (crB_Z hm _ _) (crB_Z hm _ _) u13 u23)
  have h034 : hnd m P4.zero ((w1.plus w2).plus w3) (w2.plus w3) = 1 := hnd_1 (x := crA m w1 w2 + crA m w1 w3) (y := crB m w1 w2 + crB m w1 w3) hm (by unfold trA; simp only [crA_addL hm, crA_addR hm, crA_zL, crA_zR, sa1, sa2, sa3, ta12, ta13, ta23]; first | done | omega) (by unfold trB; simp only [crB_addL hm, crB_addR hm, crB_zL, crB_zR, sb1, sb2, sb3, tb12, tb13, tb23]; first | done | omega) (sgn_add1 hm (crB_Z hm _ _) (crB_Z hm _ _) u12 u13)
  have h035 : hnd m P4.zero ((w1.plus w2).plus w3) w3 = 1 := hnd_1 (x := crA m w1 w3 + crA m w2 w3) (y := crB m w1 w3 + crB m w2 w3) hm (by unfold trA; simp only [crA_addL hm, crA_addR hm, crA_zL, crA_zR, sa1, sa2, sa3, ta12, ta13, ta23]; first | done | omega) (by unfold trB; simp only [crB_addL hm, crB_addR hm, crB_zL, crB_zR, sb1, sb2, sb3, tb12, tb13, tb23]; first | done | omega) (sgn_add1 hm (crB_Z hm _ _) (crB_Z hm _ _) u13 u23)
  have h045 : hnd m P4.zero (w2.plus w3) w3 = 1 := hnd_1 (x := crA m w2 w3) (y := crB m w2 w3) hm (by unfold trA; simp only [crA_addL hm, crA_addR hm, crA_zL, crA_zR, sa1, sa2, sa3, ta12, ta13, ta23]; first | done | omega) (by unfold trB; simp only [crB_addL hm, crB_addR hm, crB_zL, crB_zR, sb1, sb2, sb3, tb12, tb13, tb23]; first | done | omega) u23
  have h123 : hnd m w1 (w1.plus w2) ((w1.plus w2).plus w3) = 1 := hnd_1 (x := crA m w2 w3) (y := crB m w2 w3) hm (by unfold trA; simp only [crA_addL hm, crA_addR hm, crA_zL, crA_zR, sa1, sa2, sa3, ta12, ta13, ta23]; first | done | omega) (by unfold trB; simp only [crB_addL hm, crB_addR hm, crB_zL, crB_zR, sb1, sb2, sb3, tb12, tb13, tb23]; first | done | omega) u23
  have h124 : hnd m w1 (w1.plus w2) (w2.plus w3) = 1 := hnd_1 (x := crA m w1 w2 + crA m w2 w3) (y := crB m w1 w2 + crB m w2 w3) hm (by unfold trA; simp only [crA_addL hm, crA_addR hm, crA_zL, crA_zR, sa1, sa2, sa3, ta12, ta13, ta23]; first | done | omega) (by unfold trB; simp only [crB_addL hm, crB_addR hm, crB_zL, crB_zR, sb1, sb2, sb3, tb12, tb13, tb23]; first | done | omega) (sgn_add1 hm (crB_Z hm _ _) (crB_Z hm _ _) u12 u23)
  have h125 : hnd m w1 (w1.plus w2) w3 = 1 := hnd_1 (x := crA m w1 w2 + crA m w2 w3) (y := crB m w1 w2 + crB m w2 w3) hm (by unfold trA; simp only [crA_addL hm, crA_addR hm, crA_zL, crA_zR, sa1, sa2, sa3, ta12, ta13, ta23]; first | done | omega) (by unfold trB; simp only [crB_addL hm, crB_addR hm, crB_zL, crB_zR, sb1, sb2, sb3, tb12, tb13, tb23]; first | done | omega) (sgn_add1 hm (crB_Z hm _ _) (crB_Z hm _ _) u12 u23)
  have h134 : hnd m w1 ((w1.plus w2).plus w3) (w2.plus w3) = 1 := hnd_1 (x := crA m w1 w2 + crA m w1 w3) (y := crB m w1 w2 + crB m w1 w3) hm (by unfold trA; simp only [crA_addL hm, crA_addR hm, crA_zL, crA_zR, sa1, sa2, sa3, ta12, ta13, ta23]; first | done | omega) (by unfold trB; simp only [crB_addL hm, crB_addR hm, crB_zL, crB_zR, sb1, sb2, sb3, tb12, tb13, tb23]; first | done | omega) (sgn_add1 hm (crB_Z hm _ _) (crB_Z hm _ _) u12 u13)
  have h135 : hnd m w1 ((w1.plus w2).plus w3) w3 = 1 := hnd_1 (x := crA m w1 w2 + crA m w1 w3 + crA m w2 w3) (y := crB m w1 w2 + crB m w1 w3 + crB m w2 w3) hm (by unfold trA; simp only [crA_addL hm, crA_addR hm, crA_zL, crA_zR, sa1, sa2, sa3, ta12, ta13, ta23]; first | done | omega) (by unfold trB; simp only [crB_addL hm, crB_addR hm, crB_zL, crB_zR, sb1, sb2, sb3, tb12, tb13, tb23]; first | done | omega) (sgn_add1 hm (z2_add (crB_Z hm _ _) (crB_Z hm _ _)) (crB_Z hm _ _) (sgn_add1 hm (crB_Z hm _ _) (crB_Z hm _ _) u12 u13) u23)
  have h145 : hnd m w1 (w2.plus w3) w3 = 1 := hnd_1 (x := crA m w1 w2 + crA m w2 w3) (y := crB m w1 w2 + crB m w2 w3) hm (by unfold trA; simp only [crA_addL hm, crA_addR hm, crA_zL, crA_zR, sa1, sa2, sa3, ta12, ta13, ta23]; first | done | omega) (by unfold trB; simp only [crB_addL hm, crB_addR hm, crB_zL, crB_zR, sb1, sb2, sb3, tb12, tb13, tb23]; first | done | omega) (sgn_add1 hm (crB_Z hm _ _) (crB_Z hm _ _) u12 u23)
  have h234 : hnd m (w1.plus w2) ((w1.plus w2).plus w3) (w2.plus w3) = 1 := hnd_1 (x := crA m w1 w3) (y := crB m w1 w3) hm (by unfold trA; simp only [crA_addL hm, crA_addR hm, crA_zL, crA_zR, sa1, sa2, sa3, ta12, ta13, ta23]; first | done | omega) (by unfold trB; simp only [crB_addL hm, crB_addR hm, crB_zL, crB_zR, sb1, sb2, sb3, tb12, tb13, tb23]; first | done | omega) u13
  have h235 : hnd m (w1.plus w2) ((w1.plus w2).plus w3) w3 = 1 := hnd_1 (x := crA m w1 w3 + crA m w2 w3) (y := crB m w1 w3 + crB m w2 w3) hm (by unfold trA; simp only [crA_addL hm, crA_addR hm, crA_zL, crA_zR, sa1, sa2, sa3, ta12, ta13, ta23]; first | done | omega) (by unfold trB; simp only [crB_addL hm, crB_addR hm, crB_zL, crB_zR, sb1, sb2, sb3, tb12, tb13, tb23]; first | done | omega) (sgn_add1 hm (crB_Z hm _ _) (crB_Z hm _ _) u13 u23)
  have h245 : hnd m (w1.plus w2) (w2.plus w3) w3 = 1 := hnd_1 (x := crA m w1 w2 + crA m w2 w3) (y := crB m w1 w2 + crB m w2 w3) hm (by unfold trA; simp only [crA_addL hm, crA_addR hm, crA_zL, crA_zR, sa1, sa2, sa3, ta12, ta13, ta23]; first | done | omega) (by unfold trB; simp only [crB_addL hm, crB_addR hm, crB_zL, crB_zR, sb1, sb2, sb3, tb12, tb13, tb23]; first | done | omega) (sgn_add1 hm (crB_Z hm _ _) (crB_Z hm _ _) u12 u23)
  have h345 : hnd m ((w1.plus w2).plus w3) (w2.plus w3) w3 = 1 := hnd_1 (x := crA m w1 w2) (y := crB m w1 w2) hm (by unfold trA; simp only [crA_addL hm, crA_addR hm, crA_zL, crA_zR, sa1, sa2, sa3, ta12, ta13, ta23]; first | done | omega) (by unfold trB; simp only [crB_addL hm, crB_addR hm, crB_zL, crB_zR, sb1, sb2, sb3, tb12, tb13, tb23]; first | done | omega) u12
  have e : rimP at_ [w1, w2, w3] = [P4.zero, w1, (w1.plus w2), ((w1.plus w2).plus w3), (w2.plus w3), w3].map at_.plus := by
    simp only [rimP, scanP, List.map_cons, List.map_nil, List.cons_append, List.nil_append, List.cons.injEq, and_true]
    refine ⟨?_, ?_, ?_, ?_, ?_, ?_⟩ <;> first | trivial | (apply P4.ext' <;> simp [P4.plus, P4.sub, P4.zero] <;> omega)
  rw [e]
  refine Tri_o at_ ?_
  exact ⟨⟨(fun r hr => by simp only [List.mem_cons, List.not_mem_nil, or_false] at hr; rcases hr with rfl | rfl | rfl | rfl <;> assumption), ⟨(fun r hr => by simp only [List.mem_cons, List.not_mem_nil, or_false] at hr; rcases hr with rfl | rfl | rfl <;> assumption), ⟨(fun r hr => by simp only [List.mem_cons, List.not_mem_nil, or_false] at hr; rcases hr with rfl | rfl <;> assumption), ⟨(fun r hr => by simp only [List.mem_cons, List.not_mem_nil, or_false] at hr; rcases hr with rfl <;> assumption), ⟨(fun r hr => by cases hr), trivial⟩⟩⟩⟩⟩, ⟨⟨(fun r hr => by simp only [List.mem_cons, List.not_mem_nil, or_false] at hr; rcases hr with rfl | rfl | rfl <;> assumption), ⟨(fun r hr => by simp only [List.mem_cons, List.not_mem_nil, or_false] at hr; rcases hr with rfl | rfl <;> assumption), ⟨(fun r hr => by simp only [List.mem_cons, List.not_mem_nil, or_false] at hr; rcases hr with rfl <;> assumption), ⟨(fun r hr => by cases hr), trivial⟩⟩⟩⟩, ⟨⟨(fun r hr => by simp only [List.mem_cons, List.not_mem_nil, or_false] at hr; rcases hr with rfl | rfl <;> assumption), ⟨(fun r hr => by simp only [List.mem_cons, List.not_mem_nil, or_false] at hr; rcases hr with rfl <;> assumption), ⟨(fun r hr => by cases hr), trivial⟩⟩⟩, ⟨⟨(fun r hr => by simp only [List.mem_cons, List.not_mem_nil, or_false] at hr; rcases hr with rfl <;> assumption), ⟨(fun r hr => by cases hr), trivial⟩⟩, ⟨⟨(fun r hr => by cases hr), trivial⟩, ⟨trivial, trivial⟩⟩⟩⟩⟩⟩
end My
namespace EV
open PySem PySem.Spec PyProof.Rows L2
section
variable {X : Cx} {e a c : Expr} {es : List Expr} {δ δ1 δ' : Sd} {O O1 : Own} {d d1 : D} {ds : List D} {b : Bool} {pos pos' : Pos} {st : Stmt} {sts rest th el body : List Stmt} {o o' : OO}
theorem SO.conv (h : SO X sts δ O o) (q : o = o') : SO X sts δ O o' := q ▸ h
theorem STo.conv (h : STo X st δ O o) (q : o = o') : STo X st δ O o' := q ▸ h
theorem so_ifP {p : Bool} (hc : TF X c δ O p) (Q : Sd → Own → Prop) (ht : p = true → ∃ δ' O', Q δ' O' ∧ SO X th δ O (.nx δ' O')) (hf : p = false → Q δ O) (h : ∀ δ' O', Q δ' O' → SO X rest δ' O' o) : SO X (.If c th [] pos :: rest) δ O o := by
  cases p with
  | true =>
    obtain ⟨δ', O', q, hs⟩ := ht rfl
    exact so_cons (so_if hc (fun _ => hs) (fun z => by cases z)) (h _ _ q)
  | false => exact so_cons (so_if hc (fun z => by cases z) (fun _ => so_nil)) (h _ _ (hf rfl))
theorem lk0 {p : Addr} : List.lookup p ((p, ds) :: O) = some ds := by rw [List.lookup_cons, beq_self_eq_true]
theorem setO_one {p : Addr} {es' : List D} : setO [(p, ds)] p es' = [(p, es')] := by simp [setO]
theorem ef_readE (hth : thS O δ = δ') (h : EV X e δ' d) (f : flatD d = true) : EF X e δ O d := ef_read (hth ▸ h) f
theorem tf_readE (hth : thS O δ = δ') (h : ET X e δ' b) : TF X e δ O b := tf_read (hth ▸ h)
/-- xs.append(e), the only own list -/
theorem sto_append1 (k : Nat) {x : Str} {p : Addr} {px apos cpos : Pos} (hk : δ[k]? = some (some (.adr p))) (h : EF X e δ [(p, ds)] d) (hz : ds.length < 1000) (hN : X.N[k]? = some x := by rfl)
    (hv : Vis X.env.scope x := by first | exact Or.inl rfl | exact Or.inr (Or.inl rfl) | exact Or.inr (Or.inr rfl)) (h1 : (x == ("__debug__" : Str)) = false := by decide) (h2 : (x == ("__classdict__" : Str)) = false := by decide)
    (hst : starEach [e] X.env = [(false, eval e X.env)] := by exact star_of rfl) (hbase : attributeBase (.Name x px) "append" X.env (eval (.Name x px) X.env) = eval (.Name x px) X.env := by rfl) (hline : (apos.endLine == cpos.line) = true := by rfl)
    (hfew : ((backTo cpos (starEach [e] X.env)).all (fun x => !x.1) && (backToKw cpos (keywordEach [] X.env)).all (fun x => x.1.isSome) && decide ([e].length + ([] : List Keyword).length + (if ([] : List Keyword).isEmpty then 0 else 1) < 30)) = true := by rfl)
    (hs : swapsWith (.Call (.Attribute (.Name x px) "append" apos) [e] [] cpos) none pos.line X.env = pure false := by exact swaps_of rfl) :
    STo X (.Expr (.Call (.Attribute (.Name x px) "append" apos) [e] [] cpos) pos) δ [(p, ds)] (.nx δ [(p, ds ++ [d])]) :=
  (sto_append k hk lk0 h hz hN hv h1 h2 hst hbase hline hfew hs).conv (by rw [setO_one])
theorem sto_pop1 (k : Nat) {x : Str} {p : Addr} {i : Int} {px apos cpos : Pos} (hk : δ[k]? = some (some (.adr p))) (h : EF X e δ [(p, ds)] (.int i)) (h0 : 0 ≤ i) (hi : i < (ds.length : Int)) (hz : ds.length ≤ 1000) (hN : X.N[k]? = some x := by rfl)
    (hv : Vis X.env.scope x := by first | exact Or.inl rfl | exact Or.inr (Or.inl rfl) | exact Or.inr (Or.inr rfl)) (h1 : (x == ("__debug__" : Str)) = false := by decide) (h2 : (x == ("__classdict__" : Str)) = false := by decide)
    (hst : starEach [e] X.env = [(false, eval e X.env)] := by exact star_of rfl) (hbase : attributeBase (.Name x px) "pop" X.env (eval (.Name x px) X.env) = eval (.Name x px) X.env := by rfl) (hline : (apos.endLine == cpos.line) = true := by rfl)
    (hfew : ((backTo cpos (starEach [e] X.env)).all (fun x => !x.1) && (backToKw cpos (keywordEach [] X.env)).all (fun x => x.1.isSome) && decide ([e].length + ([] : List Keyword).length + (if ([] : List Keyword).isEmpty then 0 else 1) < 30)) = true := by rfl)
    (hs : swapsWith (.Call (.Attribute (.Name x px) "pop" apos) [e] [] cpos) none pos.line X.env = pure false := by exact swaps_of rfl) :
    STo X (.Expr (.Call (.Attribute (.Name x px) "pop" apos) [e] [] cpos) pos) δ [(p, ds)] (.nx δ [(p, ds.eraseIdx i.toNat)]) := by
  have hj : i.toNat < ds.length := by omega
  refine (sto_pop k hk lk0 h (j := i.toNat) (by omega) (by omega) ?_ hj hN hv h1 h2 hst hbase hline hfew hs).conv (by rw [setO_one])
  unfold seqIndex?
  first
    | (rw [if_neg (by omega), if_pos (by omega)])
    | (split <;> first | omega | (split <;> first | omega | rfl))
    | (simp; omega)
/-- a while over one own list, as long as go tells -/
def iterF {α : Type} (go : α → Bool) (nx : α → α) : Nat → α → α
  | 0, z => z
  | n + 1, z => if go z = true then iterF go nx n (nx z) else z
theorem whileO_by {p : Addr} {α : Type} (W : α → List D) (go : α → Bool) (nx : α → α) (Ok : α → Prop) (μ : α → Nat) (ht : ∀ z, Ok z → TF X c δ [(p, W z)] (go z)) (hb : ∀ z, Ok z → go z = true → SO X body δ [(p, W z)] (.nx δ [(p, W (nx z))]) ∧ Ok (nx z) ∧ μ (nx z) < μ z) :
    ∀ (n : Nat) (z : α), Ok z → μ z ≤ n → Ok (iterF go nx n z) ∧ go (iterF go nx n z) = false ∧ WhileO X c body n δ [(p, W z)] (.nx δ [(p, W (iterF go nx n z))])
  | 0, z, hz, hn => by
    cases hg : go z with
    | false => exact ⟨hz, hg, .stop (by have := ht z hz; rwa [hg] at this)⟩
    | true =>
      have := (hb z hz hg).2.2
      omega
  | n + 1, z, hz, hn => by
    cases hg : go z with
    | false =>
      have e : iterF go nx (n + 1) z = z := by unfold iterF; rw [if_neg (by rw [hg]; decide)]
      rw [e]
      exact ⟨hz, hg, .stop (by have := ht z hz; rwa [hg] at this)⟩
    | true =>
      have e : iterF go nx (n + 1) z = iterF go nx n (nx z) := by rw [iterF, if_pos hg]
      obtain ⟨h1, h2, h3⟩ := hb z hz hg
      obtain ⟨o1, o2, hw⟩ := whileO_by W go nx Ok μ ht hb n (nx z) h2 (by omega)
      rw [e]
      exact ⟨o1, o2, .turn (by have := ht z hz; rwa [hg] at this) h1 hw⟩
end
end EV
namespace My
open PySem PySem.Spec PyProof.Rows L2 EV
def endP (p : P4) : List P4 → P4
  | [] => p
  | w :: r => endP (p.plus w) r
def lastP (l : Option D) : List P4 → Option D
  | [] => l
  | w :: r => lastP (some (P4.D w)) r
theorem forO_scan {X : Cx} {i : Nat} {body : List Stmt} (G : P4 → Option D → Sd) (c : Addr) (step : ∀ p l w acc, acc.length < 900 → SO X body ((G p l).set i (some (P4.D w))) [(c, acc)] (.nx (G (p.plus w) (some (P4.D w))) [(c, acc ++ [P4.D p])])) :
    ∀ (ws : List P4) (p : P4) (acc : List D) (l : Option D), acc.length + ws.length < 900 → ForO X i body (ws.map P4.D) (G p l) [(c, acc)] (.nx (G (endP p ws) (lastP l ws)) [(c, acc ++ (scanP p ws).map P4.D)])
  | [], p, acc, l, _ => by simpa [scanP, endP, lastP] using (ForO.nil (X := X) (i := i) (body := body) (δ := G p l) (O := [(c, acc)]))
  | w :: r, p, acc, l, h => by
    have h1 : acc.length + (r.length + 1) < 900 := by simpa using h
    have h2 := forO_scan G c step r (p.plus w) (acc ++ [P4.D p]) (some (P4.D w)) (by simp; omega)
    rw [List.append_assoc] at h2
    exact .cons (step p l w acc (by omega)) h2
end My
namespace EV
open PySem PySem.Spec PyProof.Rows L2
/-! ### a whole number at the module's top; min and max of a list; is -/
structure GI (mg : Str → Option Value) (x : Str) (i : Int) : Prop where
  ex : ∃ t, mg x = some (.int i t)
section
variable {X : Cx} {e a b : Expr} {δ : Sd} {ds : List D} {d : D} {pos p : Pos} {x : Str} {i j M : Int} {ns : List Int} {u v : Bool}
theorem ev_globI (Z : GI X.mg x i) (hg : Gl X x) (hd : (x == ("__debug__" : Str)) = false := by decide) : EV X (.Name x pos) δ (.int i) := by
  obtain ⟨t, hm⟩ := Z.ex
  exact EV_imp (pe_glob (v := .int i) hg hm ⟨t, rfl⟩ hd) fun _ H Q ⟨S, q⟩ => q _ H (Same.refl H) (by unfold Is; rfl)
theorem nums_of {vs : List Value} (hi : IntsAre vs ns) : ∃ xs : Array (Int × Tok), vs.toArray = intItems xs ∧ ns = xs.toList.map (·.1) := by
  obtain ⟨xs, e⟩ := hi.allInts.items
  exact ⟨xs, e, by rw [← hi.numsOf, ← nums_intItems, ← e]⟩
theorem call_minL (hc : X.calm = true) (hM : M ∈ ns) (hle : ∀ z ∈ ns, M ≤ z) : CallR X (.builtin "min") (fun xs H Q => ∃ q, xs = [.ref q] ∧ SqL X.K H q (ns.map V.int) ∧ Q (.int M) H) := by
  intro pins s σ H xs us Q I r h
  obtain ⟨q, rfl, hq, k⟩ := h
  obtain ⟨w', rfl, rx⟩ := vals1 r
  cases rx
  obtain ⟨its, rv, pl, _⟩ := I.list hq
  obtain ⟨ys, e1, e2⟩ := nums_of (intsAre_of rv)
  have hl := pl.isList
  rw [e1] at hl
  have hpos : 0 < ys.size := by
    have := List.length_pos_of_mem hM
    rw [e2, List.length_map, Array.length_toList] at this
    exact this
  refine min_intList (I.ok.hd hc) hl hpos fun z h' tk hz kk => ?_
  obtain ⟨t, rfl⟩ := intItems_at hz
  obtain ⟨b1, b2⟩ := argBest_lt (numAt ys) (ys.size - 1)
  have eM : numAt ys (argBest (fun i j => decide (numAt ys i < numAt ys j)) (ys.size - 1)) = M := by
    apply Int.le_antisymm
    · rw [e2] at hM
      obtain ⟨j, hj, ej⟩ := mem_getD hM
      rw [List.length_map, Array.length_toList] at hj
      rw [← ej, ← numAt_eq]
      exact b2 j (by omega)
    · apply hle
      rw [e2, numAt_eq]
      exact getD_mem (by rw [List.length_map, Array.length_toList]; omega)
  exact ⟨.int M, H, I.kept kk, ⟨t, by rw [eM]⟩, k⟩
theorem call_maxL (hc : X.calm = true) (hM : M ∈ ns) (hle : ∀ z ∈ ns, z ≤ M) : CallR X (.builtin "max") (fun xs H Q => ∃ q, xs = [.ref q] ∧ SqL X.K H q (ns.map V.int) ∧ Q (.int M) H) := by
  intro pins s σ H xs us Q I r h
  obtain ⟨q, rfl, hq, k⟩ := h
  obtain ⟨w', rfl, rx⟩ := vals1 r
  cases rx
  obtain ⟨its, rv, pl, _⟩ := I.list hq
  obtain ⟨ys, e1, e2⟩ := nums_of (intsAre_of rv)
  have hl := pl.isList
  rw [e1] at hl
  have hpos : 0 < ys.size := by
    have := List.length_pos_of_mem hM
    rw [e2, List.length_map, Array.length_toList] at this
    exact this
  refine max_intList (I.ok.hd hc) hl hpos fun z h' tk hz kk => ?_
  obtain ⟨t, rfl⟩ := intItems_at hz
  obtain ⟨b1, b2⟩ := argBest_gt (numAt ys) (ys.size - 1)
  have eM : numAt ys (argBest (fun i j => decide (numAt ys i > numAt ys j)) (ys.size - 1)) = M := by
    apply Int.le_antisymm
    · apply hle
      rw [e2, numAt_eq]
      exact getD_mem (by rw [List.length_map, Array.length_toList]; omega)
    · rw [e2] at hM
      obtain ⟨j, hj, ej⟩ := mem_getD hM
      rw [List.length_map, Array.length_toList] at hj
      rw [← ej, ← numAt_eq]
      exact b2 j (by omega)
  exact ⟨.int M, H, I.kept kk, ⟨t, by rw [eM]⟩, k⟩
theorem isL_ints {K : PySem.W.Frag} {H : Hp} : ∀ {ns : List Int} {vs : List V}, IsL K H (ns.map D.int) vs → vs = ns.map V.int
  | [], vs, h => by simpa [IsL] using h
  | n :: ns, vs, h => by
    rw [List.map_cons] at h
    unfold IsL at h
    obtain ⟨v, r, rfl, q, z⟩ := h
    unfold Is at q
    rw [q, isL_ints z]; rfl
theorem ev_minL (hc : X.calm = true) (hg : Gl X "min") (hm : X.mg "min" = none) (ha : EV X e δ (.lst (ns.map .int))) (hM : M ∈ ns) (hle : ∀ z ∈ ns, M ≤ z) (hst : starEach [e] X.env = [(false, eval e X.env)] := by exact star_of rfl) : EV X (.Call (.Name "min" p) [e] [] pos) δ (.int M) :=
  ev_callB (call_minL hc hM hle) hg hm (by rfl) (ea_cons ha ea_nil hst) (fun vs H Q h k => by
    obtain ⟨w', rfl, q⟩ := isL_one h
    unfold Is at q
    obtain ⟨l, xs, rfl, z, il⟩ := q
    rw [isL_ints il] at z
    exact ⟨l, rfl, z, k _ H (Same.refl H) (by unfold Is; rfl)⟩) (he := hst) (hpl := rfl)
theorem ev_maxL (hc : X.calm = true) (hg : Gl X "max") (hm : X.mg "max" = none) (ha : EV X e δ (.lst (ns.map .int))) (hM : M ∈ ns) (hle : ∀ z ∈ ns, z ≤ M) (hst : starEach [e] X.env = [(false, eval e X.env)] := by exact star_of rfl) : EV X (.Call (.Name "max" p) [e] [] pos) δ (.int M) :=
  ev_callB (call_maxL hc hM hle) hg hm (by rfl) (ea_cons ha ea_nil hst) (fun vs H Q h k => by
    obtain ⟨w', rfl, q⟩ := isL_one h
    unfold Is at q
    obtain ⟨l, xs, rfl, z, il⟩ := q
    rw [isL_ints il] at z
    exact ⟨l, rfl, z, k _ H (Same.refl H) (by unfold Is; rfl)⟩) (he := hst) (hpl := rfl)
theorem op_isnB : OpR X (compareOp .IsNot) (fun x y H Q => x = .bl u ∧ y = .bl v ∧ Q (.bl (!(u == v))) H) := by
  intro pins s σ H x y a' b' Q I rx ry h
  obtain ⟨rfl, rfl, q⟩ := h
  cases rx
  cases ry
  refine wpAny_isNot_plain (by rfl) (fin_bl I q ?_)
  cases u <;> cases v <;> rfl
theorem et_isnB (ha : EV X a δ (.bl u)) (hb : EV X b δ (.bl v)) : ET X (.Compare a [.IsNot] [b] pos) δ (!(u == v)) :=
  ET_imp (pt_cmpR op_isnB ha.run hb.run (nomark b)) fun _ H Q ⟨S, q⟩ => ⟨S, fun x H1 s1 r1 => ⟨S.mono s1, fun y H2 s2 r2 => ⟨by unfold Is at r1; exact r1, by unfold Is at r2; exact r2, _, rfl, q H2 (s1.trans s2)⟩⟩⟩
end
/-! ### slices by natural places -/
theorem cut_lo {ds : List D} {k : Nat} (h : k ≤ ds.length) : cutD ds (some (k : Int)) none = ds.drop k := by
  unfold cutD
  rw [HT.sIx_nat, HT.sIx_none, Nat.min_eq_left h, List.take_of_length_le (by rw [List.length_drop]; omega)]
theorem cut_hi {ds : List D} {k : Nat} (h : k ≤ ds.length) : cutD ds none (some (k : Int)) = ds.take k := by
  unfold cutD
  rw [HT.sIx_nat, HT.sIx_none, Nat.min_eq_left h, List.drop_zero, Nat.sub_zero]
theorem eqD_refl {d : D} (c : shD d = true) : eqD d d = true := SeqAt.eqv_refl _ (SeqAt.canLay_of_shaped c)
/-! ### a loop that looks for the first one -/
theorem forR_first {X : Cx} {body : List Stmt} {k : Nat} (g : Nat → Sd) (r : D) (pr : Nat → Bool) (n : Nat) (hno : ∀ m < n, pr m = false → SS X body ((g m).set k (some (.int (m : Int)))) (.nx (g (m + 1)))) (hyes : ∀ m < n, pr m = true → SS X body ((g m).set k (some (.int (m : Int)))) (.rt r)) :
    ((List.range n).all (fun m => !pr m) = true → ForL X k body (rangeD n) (g 0) (.nx (g n))) ∧ ((List.range n).all (fun m => !pr m) = false → ForL X k body (rangeD n) (g 0) (.rt r)) := by
  constructor
  · intro h
    rw [List.all_eq_true] at h
    exact forR_fold g n fun m hm => hno m hm (by have := h m (List.mem_range.mpr hm); simpa using this)
  · intro h
    have key : ∀ j m : Nat, m + j = n → (∃ q, m ≤ q ∧ q < n ∧ pr q = true) → ForL X k body ((rangeD n).drop m) (g m) (.rt r) := by
      intro j
      induction j with
      | zero => intro m hm ⟨q, h1, h2, _⟩; omega
      | succ j ih =>
        intro m hm ⟨q, h1, h2, h3⟩
        rw [rangeD_drop (by omega)]
        cases hp : pr m with
        | true => exact .ret (hyes m (by omega) hp)
        | false =>
          have hne : m ≠ q := fun z => by rw [z, h3] at hp; cases hp
          exact .cons (hno m (by omega) hp) (ih (m + 1) (by omega) ⟨q, by omega, h2, h3⟩)
    have hex : ∃ q, q < n ∧ pr q = true := by
      rcases Classical.em (∃ q, q < n ∧ pr q = true) with z | z
      · exact z
      · exfalso
        have : (List.range n).all (fun m => !pr m) = true := by
          rw [List.all_eq_true]
          intro m hm
          cases hp : pr m with
          | false => rfl
          | true => exact absurd ⟨m, List.mem_range.mp hm, hp⟩ z
        rw [this] at h; cases h
    obtain ⟨q, h1, h2⟩ := hex
    simpa using key n 0 (by omega) ⟨q, Nat.zero_le _, h1, h2⟩
end EV
namespace My
open PySem L2 EV
/-! ### what is a shape: the program's look and the law's -/
def rotP (k : Nat) (ps : List P4) : List P4 := ps.drop k ++ ps.take k
def headOk (m : Int) : List P4 → Bool
  | a :: b :: r => r.all fun x => decide (hnd m a b x = 1)
  | _ => true
def isF (m : Int) (ps : List P4) : Bool := (decide (3 ≤ ps.length) && decide (ps.length ≤ 6)) && (List.range ps.length).all fun k => headOk m (rotP k ps)
def pt (ps : List P4) (i : Nat) : P4 := ps.getD i P4.zero
def prv (n k : Nat) : Nat := if k = 0 then n - 1 else k - 1
theorem len_split {ps : List P4} (h3 : 3 ≤ ps.length) (h6 : ps.length ≤ 6) : (∃ a b c, ps = [a, b, c]) ∨ (∃ a b c d, ps = [a, b, c, d]) ∨ (∃ a b c d e, ps = [a, b, c, d, e]) ∨ (∃ a b c d e f, ps = [a, b, c, d, e, f]) := by
  match ps, h3, h6 with
  | [a, b, c], _, _ => exact .inl ⟨a, b, c, rfl⟩
  | [a, b, c, d], _, _ => exact .inr (.inl ⟨a, b, c, d, rfl⟩)
  | [a, b, c, d, e], _, _ => exact .inr (.inr (.inl ⟨a, b, c, d, e, rfl⟩))
  | [a, b, c, d, e, f], _, _ => exact .inr (.inr (.inr ⟨a, b, c, d, e, f, rfl⟩))
/-- all triples at the left: a shape -/
theorem tri_is {m : Int} {ps : List P4} (hm : OkM m) (h : Tri m ps) (h3 : 3 ≤ ps.length) (h6 : ps.length ≤ 6) : isF m ps = true := by
  have rot := hnd_rot (m := m) hm
  rcases len_split h3 h6 with ⟨a, b, c, rfl⟩ | ⟨a, b, c, d, rfl⟩ | ⟨a, b, c, d, e, rfl⟩ | ⟨a, b, c, d, e, f, rfl⟩
  · simp only [Tri, Pr, List.mem_cons, List.not_mem_nil, or_false, and_true, forall_eq_or_imp, forall_eq, false_implies, implies_true] at h
    simp [isF, rotP, headOk, List.range, List.range.loop]
    grind
  · simp only [Tri, Pr, List.mem_cons, List.not_mem_nil, or_false, and_true, forall_eq_or_imp, forall_eq, false_implies, implies_true] at h
    simp [isF, rotP, headOk, List.range, List.range.loop]
    grind
  · simp only [Tri, Pr, List.mem_cons, List.not_mem_nil, or_false, and_true, forall_eq_or_imp, forall_eq, false_implies, implies_true] at h
    simp [isF, rotP, headOk, List.range, List.range.loop]
    grind
  · simp only [Tri, Pr, List.mem_cons, List.not_mem_nil, or_false, and_true, forall_eq_or_imp, forall_eq, false_implies, implies_true] at h
    simp [isF, rotP, headOk, List.range, List.range.loop]
    grind
end My
namespace EV
open PySem PySem.Spec PyProof.Rows L2
section
variable {X : Cx} {e a i1 i2 st : Expr} {es : List Expr} {δ δ1 δ' : Sd} {O : Own} {d d1 d2 : D} {ds : List D} {pos pos' p2 : Pos} {rest : List Stmt}
theorem IsL.rev {K : PySem.W.Frag} {H : Hp} : ∀ {ds : List D} {vs : List V}, IsL K H ds vs → IsL K H ds.reverse vs.reverse
  | [], _, h => by unfold IsL at h; subst h; simp [IsL]
  | d :: ds, _, h => by
    unfold IsL at h
    obtain ⟨v, r, rfl, q, z⟩ := h
    rw [List.reverse_cons, List.reverse_cons]
    exact IsL.append (IsL.rev z) (by unfold IsL; exact ⟨v, [], rfl, q, by unfold IsL; rfl⟩)
theorem IsL.put {K : PySem.W.Frag} {H : Hp} {d : D} {v : V} (q : Is K H d v) : ∀ {ds : List D} {vs : List V} (j : Nat), IsL K H ds vs → IsL K H (ds.set j d) (vs.set j v)
  | [], _, _, h => by unfold IsL at h; subst h; simp [IsL]
  | e :: ds, _, 0, h => by
    unfold IsL at h
    obtain ⟨w, r, rfl, _, z⟩ := h
    rw [List.set_cons_zero, List.set_cons_zero]
    unfold IsL
    exact ⟨v, r, rfl, q, z⟩
  | e :: ds, _, j + 1, h => by
    unfold IsL at h
    obtain ⟨w, r, rfl, qw, z⟩ := h
    rw [List.set_cons_succ, List.set_cons_succ]
    unfold IsL
    exact ⟨w, r.set j v, rfl, qw, IsL.put q j z⟩
/-- xs[::-1] -/
theorem en_revL (ha : EV X e δ (.lst ds)) (hs : EV X st δ (.int (-1))) : EN X (.Subscript e (.Slice none none (some st) p2) pos) δ ds.reverse :=
  ⟨fun pins s σ H Q I ⟨S, q⟩ => by
    refine Subscript_ (wpAny_mono (ha.run pins s σ H (fun v H' => Same H H' ∧ Is X.K H' (.lst ds) v) I ⟨S, fun v H' s' r => ⟨s', r⟩⟩) (fun v s1 ⟨x, H1, I1, r1, sm1, is1⟩ => ?_) fun _ _ z => z)
    have S1 := S.mono sm1
    refine wpAny_Slice (wpAny_mono (EO.none.run (δ := δ) pins s1 σ H1 (fun o H' => o = none ∧ Same H1 H') I1 ⟨S1, fun H' s' => ⟨rfl, s'⟩⟩) (fun vl s2 ⟨o2, H2, I2, pl, e2, sm2⟩ => wpAny_mono (EO.none.run (δ := δ) pins s2 σ H2 (fun o H' => o = none ∧ Same H2 H') I2 ⟨S1.mono sm2, fun H' s' => ⟨rfl, s'⟩⟩)
      (fun vu s3 ⟨o3, H3, I3, pu, e3, sm3⟩ => wpAny_mono ((EO.some hs).run pins s3 σ H3 (fun o H' => o = some (-1) ∧ Same H3 H') I3 ⟨(S1.mono sm2).mono sm3, fun H' s' => ⟨rfl, s'⟩⟩) (fun vt s4 ⟨o4, H4, I4, pt', e4, sm4⟩ => ?_) fun _ _ z => z) fun _ _ z => z) fun _ _ z => z)
    subst e2 e3 e4
    unfold Is at is1
    obtain ⟨l, xs, rfl, hq, il⟩ := is1
    cases r1
    have I5 : Inv X pins σ H4 { s4 with heap := s4.heap.push { cls := .type "slice", data := .fields #[vl, vu, vt] } } := I4.kept (t' := s4.toks) fun b ob z => Heap.get?_push_of_some _ z
    have smA : Same H1 H4 := (sm2.trans sm3).trans sm4
    obtain ⟨its, rv, plain, hz⟩ := I5.list (smA.seq hq)
    have hlen := rv.length
    show wpAny (model X.prog X.w) X.A (subscriptTail e (.Slice none none (some st) p2) (.ref l) (.ref s4.heap.objs.size)) (EP X pins σ Q) X.xe { s4 with heap := s4.heap.push { cls := .type "slice", data := .fields #[vl, vu, vt] } }
    refine tail_any (ops := [.ref l, .ref s4.heap.objs.size]) plain.isList.typeIs slot_list_getitem.lookup ?_ (by with_unfolding_all rfl)
    refine wpAny_getItem_list_slice plain.isList (Heap.IsSliceOf.new ..) pl pu pt' (by decide) ?_ (by rw [List.size_toArray]; omega)
    rw [PySem.W.krv_pick]
    refine ⟨.ref _, _, I5.lnew (t' := s4.toks) (its := its.reverse) (ys := xs.reverse) rv.reverse (by rw [List.length_reverse]; omega), rfl, q _ _ H4 (sm1.trans smA) I5.fresh ?_⟩
    have h2 := IsL.mono smA ds il
    exact IsL.rev h2⟩
end
end EV
namespace My
open PySem PySem.Spec PyProof.Rows L2 EV
/-! ### the sign by thirty figures, as the laws k10 to k14 reckon it; hands -/
inductive R_opp : List D → D → Prop where
  | mk (p : P4) : R_opp [pD p.a p.b p.c p.d] (P4.D p.neg)
inductive R_hand (C : Addr) : List D → D → Prop where
  | mk (m : Int) (p q r : P4) (h : OkM m) (hp : p.B 1000) (hq : q.B 1000) (hr : r.B 1000) : R_hand C [FrD C m, .tup [pD p.a p.b p.c p.d, pD q.a q.b q.c q.d], pD r.a r.b r.c r.d] (.int (hnd m p q r))
inductive R_iss (C : Addr) : List D → D → Prop where
  | mk (m : Int) (ps : List P4) (h : OkM m) (hb : ∀ p ∈ ps, p.B 1000) (hl : ps.length ≤ 100) : R_iss C [FrD C m, .lst (ps.map P4.D)] (.bl (isF m ps))
theorem min_ex : ∀ {ns : List Int}, ns ≠ [] → ∃ M, M ∈ ns ∧ ∀ z ∈ ns, M ≤ z
  | [], h => absurd rfl h
  | [n], _ => ⟨n, by simp, fun z hz => by simp at hz; omega⟩
  | n :: k :: r, _ => by
    obtain ⟨M, h1, h2⟩ := min_ex (ns := k :: r) (by simp)
    by_cases c : n ≤ M
    · exact ⟨n, by simp, fun z hz => by
        rcases List.mem_cons.mp hz with rfl | hz
        · omega
        · have := h2 z hz; omega⟩
    · exact ⟨M, List.mem_cons_of_mem _ h1, fun z hz => by
        rcases List.mem_cons.mp hz with rfl | hz
        · omega
        · exact h2 z hz⟩
theorem min_head {m : Int} {a b : P4} {r : List P4} {M : Int} (h1 : M ∈ r.map (hnd m a b)) (h2 : ∀ z ∈ r.map (hnd m a b), M ≤ z) : decide (M < 1) = !headOk m (a :: b :: r) := by
  have key : headOk m (a :: b :: r) = true ↔ ¬ M < 1 := by
    unfold headOk
    rw [List.all_eq_true]
    constructor
    · intro h
      obtain ⟨x, hx, e⟩ := List.mem_map.mp h1
      have := of_decide_eq_true (h x hx)
      omega
    · intro h x hx
      have := h2 _ (List.mem_map_of_mem hx)
      have hc := hnd_cases m a b x
      exact decide_eq_true (by omega)
  cases e : headOk m (a :: b :: r) with
  | true => rw [decide_eq_false (key.mp e)]; rfl
  | false =>
    have : M < 1 := by
      rcases Mt.lt_or_ge M 1 with z | z
      · exact z
      · have := key.mpr (by omega)
        rw [this] at e; cases e
    rw [decide_eq_true this]; rfl
def arO (ps : List P4) : Nat → Option D
  | 0 => none
  | k + 1 => some (.lst ((rotP k ps).map P4.D))
def siL : List P4 → Option D
  | a :: b :: _ => some (.tup [P4.D a, P4.D b])
  | _ => none
def siO (ps : List P4) : Nat → Option D
  | 0 => none
  | k + 1 => siL (rotP k ps)
theorem rot_cons {ps : List P4} {k : Nat} (h3 : 3 ≤ ps.length) (hk : k < ps.length) : ∃ a b c r, rotP k ps = a :: b :: c :: r := by
  have hl : (rotP k ps).length = ps.length := by unfold rotP; rw [List.length_append, List.length_drop, List.length_take]; omega
  match e : rotP k ps, hl with
  | a :: b :: c :: r, _ => exact ⟨a, b, c, r, rfl⟩
  | [], hl => simp at hl; omega
  | [_], hl => simp at hl; omega
  | [_, _], hl => simp at hl; omega
theorem rot_mem {ps : List P4} {k : Nat} {p : P4} (h : p ∈ rotP k ps) : p ∈ ps := by
  unfold rotP at h
  rcases List.mem_append.mp h with h | h
  · exact List.mem_of_mem_drop h
  · exact List.mem_of_mem_take h
theorem rot_cut {ps : List P4} {k : Nat} (hk : k ≤ ps.length) : cutD (ps.map P4.D) (some (k : Int)) none ++ cutD (ps.map P4.D) none (some (k : Int)) = (rotP k ps).map P4.D := by
  rw [cut_lo (by rw [List.length_map]; exact hk), cut_hi (by rw [List.length_map]; exact hk)]
  unfold rotP
  rw [List.map_append, List.map_drop, List.map_take]
theorem ix0 {α : Type} {x : α} {xs : List α} : atI (x :: xs) 0 = some x := atI_nat (j := 0) rfl
theorem ix1 {α : Type} {x y : α} {xs : List α} : atI (x :: y :: xs) 1 = some y := atI_nat (j := 1) rfl
theorem cut2 {x y : D} {xs : List D} : cutD (x :: y :: xs) (some 2) none = xs := cut_lo (ds := x :: y :: xs) (k := 2) (by simp)
end My
namespace EV
open PySem PySem.Spec PyProof.Rows L2
section
variable {X : Cx} {a b c : Expr} {δ : Sd} {i j : Int} {sts : List Stmt} {pos : Pos}
theorem so_of_ss {o' : EV.O} (h : SS X sts δ o') : SO X sts δ [] (.pl o') := ⟨PSs_imp h.run fun D σ H ⟨w, S, k⟩ => by
  change IsS X.K (dropA H []) δ σ at S
  change rO X.K o' D (dropA H []) at k
  rw [dropA_nil] at S k
  exact ⟨S, k⟩⟩
end
end EV
namespace My
open PySem PySem.Spec PyProof.Rows L2 EV
/-! ### lists of points: looked up, compared -/
theorem pts_lay : ∀ qs : List P4, PyData.canLayAll0 (toPyL (qs.map P4.D)) = true
  | [] => rfl
  | q :: qs => by
    rw [List.map_cons, toPyL, PyData.canLayAll0, pts_lay qs]
    rfl
theorem pts_depth : ∀ qs : List P4, PyData.depthAll (toPyL (qs.map P4.D)) ≤ 3
  | [] => by show PyData.depthAll [] ≤ 3; decide
  | q :: qs => by
    have h := pts_depth qs
    have e : PyData.depth (toPy (P4.D q)) ≤ 3 := by simp [P4.D, pD, nD, toPy, toPyL, PyData.depth, PyData.depthAll]
    rw [List.map_cons, toPyL]
    simp only [PyData.depthAll]
    omega
theorem shD_pts (qs : List P4) : shD (.lst (qs.map P4.D)) = true := by
  unfold shD SeqAt.shaped
  rw [Bool.and_eq_true]
  refine ⟨?_, decide_eq_true ?_⟩
  · show PyData.canLay0 (.list (toPyL (qs.map P4.D))) = true
    simp only [PyData.canLay0]
    exact pts_lay qs
  · have h := pts_depth qs
    show PyData.depth (.list (toPyL (qs.map P4.D))) ≤ 64
    simp only [PyData.depth]
    omega
theorem at_pt {ps : List P4} {k : Nat} (h : k < ps.length) : atI (ps.map P4.D) (k : Int) = some (P4.D (pt ps k)) :=
  atI_nat (by rw [List.getElem?_map, List.getElem?_eq_getElem h]; unfold pt; rw [List.getD_eq_getElem?_getD, List.getElem?_eq_getElem h]; rfl)
theorem at_prv {ps : List P4} {k : Nat} (h : k < ps.length) : atI (ps.map P4.D) ((k : Int) - 1) = some (P4.D (pt ps (prv ps.length k))) := by
  unfold prv
  by_cases z : k = 0
  · subst z
    rw [if_pos rfl]
    have e : ((0 : Nat) : Int) - 1 = -1 := rfl
    rw [e]
    have h1 : ps.length - 1 < ps.length := by omega
    unfold atI ixN
    rw [List.length_map, if_neg (by decide), if_pos (by omega)]
    have e2 : ((-1 : Int) + (ps.length : Int)).toNat = ps.length - 1 := by omega
    rw [e2]
    show (ps.map P4.D)[ps.length - 1]? = _
    rw [List.getElem?_map, List.getElem?_eq_getElem h1]
    unfold pt
    rw [List.getD_eq_getElem?_getD, List.getElem?_eq_getElem h1]
    rfl
  · rw [if_neg z]
    have e : (k : Int) - 1 = ((k - 1 : Nat) : Int) := by omega
    rw [e]
    exact at_pt (by omega)
theorem prv_lt {n k : Nat} (hn : 0 < n) (hk : k < n) : prv n k < n := by
  unfold prv
  split <;> omega
theorem pt_mem {ps : List P4} {k : Nat} (h : k < ps.length) : pt ps k ∈ ps := by
  unfold pt
  rw [List.getD_eq_getElem?_getD, List.getElem?_eq_getElem h]
  exact List.getElem_mem h
theorem emod_nat {c : Int} {n : Nat} (hn : 0 < n) : ∃ A : Nat, A < n ∧ c % (n : Int) = (A : Int) := by
  have h1 := Int.emod_nonneg c (show (n : Int) ≠ 0 by omega)
  have h2 := Int.emod_lt_of_pos c (show (0 : Int) < (n : Int) by omega)
  exact ⟨(c % (n : Int)).toNat, by omega, by omega⟩
end My

set_option Elab.async false
set_option linter.all false
set_option maxRecDepth 100000
set_option maxHeartbeats 4000000
namespace EZ
open PySem
/-! ### zip, walked by list(..): the owned tuple goes out once, then each pair is a new one -/
abbrev ZipO (h : Heap) (z TI TO : Addr) (f0 f1 : Value) : Prop :=
  h.get? z = some { cls := .type "zip", dict := none, data := .fields #[f0, f1, .bool false, .ref TI, .ref TO], slots := #[] }
section
variable {prog : Program} {w : World} {A : Around} {E : Value → Shared → Prop} {s : Shared}
theorem alive {a : Addr} {o : Obj} {Q : Option Obj → Shared → Prop} (ho : s.heap.get? a = some o) (h : Q (some o) s) : wpAny (model prog w) A (loadIfAlive a) Q E s := by
  have h' : Q (s.heap.get? a) s := by rw [ho]; exact h
  exact fun _ _ _ => h'
theorem free2 {z TI TO T : Addr} {b : Bool} {oT : Obj} (hz : ZipO s.heap z TI TO (rawInt T) (.bool b)) (hT : s.heap.get? T = some oT) :
    wpAny (model prog w) A (Builtin.SmallTypes.ownedTupleIsFree (.ref z)) (fun r s' => r = false ∧ ∃ h0, s' = { s with heap := h0 } ∧ ZipO h0 z TI TO (rawInt T) (.bool true) ∧ h0.objs.size = s.heap.objs.size ∧ ∀ c o, c ≠ z → s.heap.get? c = some o → h0.get? c = some o) E s := by
  unfold Builtin.SmallTypes.ownedTupleIsFree
  refine wpAny_bind (wpAny_field hz rfl (x := rawInt T) rfl ?_)
  show wpAny _ _ (loadIfAlive ((T : Int).toNat) >>= _) _ _ _
  rw [Int.toNat_natCast]
  refine wpAny_bind (alive hT ?_)
  simp only [Option.isNone_some, Bool.false_eq_true, if_false]
  refine wpAny_bind (wpAny_field hz rfl (x := .bool b) rfl ?_)
  cases b with
  | true =>
    rw [if_neg (show ¬ ((Value.bool true != Value.bool true) = true) from Bool.false_ne_true)]
    exact wpAny_pure ⟨rfl, s.heap, rfl, hz, rfl, fun c o _ e => e⟩
  | false =>
    rw [if_pos (show (Value.bool false != Value.bool true) = true from rfl)]
    refine wpAny_bind (wpAny_setField_rec hz (by simp) fun h₃ he₃ hs₃ => ?_)
    replace hs₃ : Heap.SameBut z s.heap h₃ := hs₃
    replace he₃ : ZipO h₃ z TI TO (rawInt T) (.bool true) := he₃
    exact wpAny_pure ⟨rfl, h₃, rfl, he₃, hs₃.1, fun c o hc e => hs₃.extBut _ _ hc e⟩
theorem next2_item {z TI TO i1 i2 l1 l2 T : Addr} {b : Bool} {oT : Obj} {k1 k2 : Nat} {xs ys : Array Value} {x y : Value} {Q : Value → Shared → Prop} (D : ZipApart z TI TO i1 i2 l1 l2)
    (hz : ZipO s.heap z TI TO (rawInt T) (.bool b)) (hTI : IsPair s.heap TI (.ref i1) (.ref i2)) (hT : s.heap.get? T = some oT)
    (h1 : s.heap.IsListIter i1 l1 k1) (h2 : s.heap.IsListIter i2 l2 k2) (hl1 : s.heap.IsList l1 xs) (hl2 : s.heap.IsList l2 ys) (hx : xs[k1]? = some x) (hy : ys[k2]? = some y)
    (hQ : ∀ h', ZipO h' z TI TO (rawInt T) (.bool true) → h'.IsListIter i1 l1 (k1 + 1) → h'.IsListIter i2 l2 (k2 + 1) → IsPair h' s.heap.objs.size x y → 
      (∀ c o, c ≠ z → c ≠ i1 → c ≠ i2 → s.heap.get? c = some o → h'.get? c = some o) → Q (.ref s.heap.objs.size) { s with heap := h' }) :
    wpAny (model prog w) A (Builtin.«zip.__next__» ⟨[.ref z], []⟩) (fun fin s' => ∃ v, fin = .done (.ret v) ∧ Q v s') E s := by
  have rest : ∀ h0 : Heap, ZipO h0 z TI TO (rawInt T) (.bool true) → h0.objs.size = s.heap.objs.size → (∀ c o, c ≠ z → s.heap.get? c = some o → h0.get? c = some o) →
      wpAny (model prog w) A (Builtin.SmallTypes.nextOf (.ref i1)) (fun u1 s1 => u1 = x ∧ wpAny (model prog w) A (Builtin.SmallTypes.nextOf (.ref i2)) (fun u2 s2 => u2 = y ∧ Q (.ref s2.heap.objs.size) { s2 with heap := s2.heap.push { cls := .type "tuple", data := .seq #[x, y] } }) E s1) E { s with heap := h0 } := by
    intro h0 hz0 hsz hk
    refine wpAny_nextOf_list_item (h1.at fun o e => hk _ o D.i1z e) (hl1.at fun o e => hk _ o D.l1z e) hx fun h2' a1 s2' => ⟨rfl, ?_⟩
    refine wpAny_nextOf_list_item ((h2.at fun o e => hk _ o D.i2z e).extBut s2'.extBut D.i12.symm) ((hl2.at fun o e => hk _ o D.l2z e).extBut s2'.extBut D.l2i1) hy fun h3' a2 s3' => ⟨rfl, ?_⟩
    have hsz3 : h3'.objs.size = s.heap.objs.size := by rw [s3'.1, s2'.1, hsz]
    have hz3 : ZipO h3' z TI TO (rawInt T) (.bool true) := s3'.extBut _ _ D.i2z.symm (s2'.extBut _ _ D.i1z.symm hz0)
    show Q (.ref h3'.objs.size) { s with heap := h3'.push { cls := .type "tuple", data := .seq #[x, y] } }
    rw [hsz3]
    have g := hQ (h3'.push { cls := .type "tuple", data := .seq #[x, y] }) (Heap.get?_push_of_some _ hz3) ((a1.extBut s3'.extBut D.i12).at fun o e => Heap.get?_push_of_some _ e) (a2.at fun o e => Heap.get?_push_of_some _ e) (by rw [← hsz3]; exact Heap.get?_push_size _ rfl)
      (fun c o c1 c2 c3 e => Heap.get?_push_of_some _ (s3'.extBut _ _ c3 (s2'.extBut _ _ c2 (hk c o c1 e))))
    exact g
  show wpAny _ _ (field (.ref z) 2 >>= _) _ _ _
  refine wpAny_bind (wpAny_field hz rfl (x := .bool false) rfl ?_)
  show wpAny _ _ (field (.ref z) 3 >>= _) _ _ _
  refine wpAny_bind (wpAny_field hz rfl (x := .ref TI) rfl ?_)
  refine wpAny_bind (wpAny_seqItems hTI rfl ?_)
  show wpAny _ _ (Builtin.SmallTypes.ownedTupleIsFree (.ref z) >>= _) _ _ _
  refine wpAny_bind (wpAny_mono (free2 hz hT) (fun r s' ⟨hr, h0, hs', hz0, hsz, hk⟩ => ?_) fun _ _ e => e)
  subst hr hs'
  simp only [Bool.false_eq_true, if_false]
  refine wpAny_bind ?_
  rw [← Array.forIn_toList]
  simp only [List.forIn_cons, List.forIn_nil]
  refine wpAny_bind (wpAny_bind (wpAny_holding ?_))
  show wpAny _ _ (Builtin.SmallTypes.nextOf (.ref i1) >>= _) _ _ _
  refine wpAny_bind (wpAny_mono (rest h0 hz0 hsz hk) (fun u1 s1 ⟨e1, q1⟩ => ?_) fun _ _ e => e)
  subst e1
  refine wpAny_pure (wpAny_pure ?_)
  refine wpAny_bind (wpAny_bind (wpAny_holding ?_))
  show wpAny _ _ (Builtin.SmallTypes.nextOf (.ref i2) >>= _) _ _ _
  refine wpAny_bind (wpAny_mono q1 (fun u2 s2 ⟨e2, q2⟩ => ?_) fun _ _ e => e)
  subst e2
  refine wpAny_pure (wpAny_pure (wpAny_pure ?_))
  refine wpAny_bind (wpAny_newTuple (hsz := by show (2 : Nat) ≤ sizeLine; decide) ?_)
  exact wpAny_pure ⟨_, rfl, q2⟩
theorem next2_end {z TI TO i1 i2 l1 l2 T : Addr} {b : Bool} {oT : Obj} {k1 k2 : Nat} {xs ys : Array Value} {Q : Fin → Shared → Prop} (hh : A.handled = none) (D : ZipApart z TI TO i1 i2 l1 l2)
    (hz : ZipO s.heap z TI TO (rawInt T) (.bool b)) (hTI : IsPair s.heap TI (.ref i1) (.ref i2)) (hT : s.heap.get? T = some oT)
    (h1 : s.heap.IsListIter i1 l1 k1) (hl1 : s.heap.IsList l1 xs) (hx : xs[k1]? = none)
    (hE : ∀ h' e, (∀ c o, c ≠ z → c ≠ i1 → s.heap.get? c = some o → h'.get? c = some o) → (∃ o, h'.get? e = some o ∧ o.cls = .type "StopIteration") → E (.ref e) { s with heap := h' }) :
    wpAny (model prog w) A (Builtin.«zip.__next__» ⟨[.ref z], []⟩) Q E s := by
  show wpAny _ _ (field (.ref z) 2 >>= _) _ _ _
  refine wpAny_bind (wpAny_field hz rfl (x := .bool false) rfl ?_)
  show wpAny _ _ (field (.ref z) 3 >>= _) _ _ _
  refine wpAny_bind (wpAny_field hz rfl (x := .ref TI) rfl ?_)
  refine wpAny_bind (wpAny_seqItems hTI rfl ?_)
  show wpAny _ _ (Builtin.SmallTypes.ownedTupleIsFree (.ref z) >>= _) _ _ _
  refine wpAny_bind (wpAny_mono (free2 hz hT) (fun r s' ⟨hr, h0, hs', hz0, hsz, hk⟩ => ?_) fun _ _ e => e)
  subst hr hs'
  simp only [Bool.false_eq_true, if_false]
  refine wpAny_bind ?_
  rw [← Array.forIn_toList]
  simp only [List.forIn_cons, List.forIn_nil]
  refine wpAny_bind (wpAny_bind (wpAny_holding ?_))
  show wpAny _ _ (Builtin.SmallTypes.nextOf (.ref i1) >>= _) _ _ _
  refine wpAny_bind (wpAny_nextOf_list_end hh (h1.at fun o e => hk _ o D.i1z e) (hl1.at fun o e => hk _ o D.l1z e) hx fun h₂ e hs₂ he => ?_)
  exact hE h₂ e (fun c o c1 c2 x => hs₂ _ _ c2 (hk c o c1 x)) he
theorem pyNext2_item {z TI TO i1 i2 l1 l2 T : Addr} {b : Bool} {oT : Obj} {k1 k2 : Nat} {xs ys : Array Value} {x y : Value} {Q : Option Value → Shared → Prop} (D : ZipApart z TI TO i1 i2 l1 l2)
    (hz : ZipO s.heap z TI TO (rawInt T) (.bool b)) (hTI : IsPair s.heap TI (.ref i1) (.ref i2)) (hT : s.heap.get? T = some oT)
    (h1 : s.heap.IsListIter i1 l1 k1) (h2 : s.heap.IsListIter i2 l2 k2) (hl1 : s.heap.IsList l1 xs) (hl2 : s.heap.IsList l2 ys) (hx : xs[k1]? = some x) (hy : ys[k2]? = some y)
    (hQ : ∀ h', ZipO h' z TI TO (rawInt T) (.bool true) → h'.IsListIter i1 l1 (k1 + 1) → h'.IsListIter i2 l2 (k2 + 1) → IsPair h' s.heap.objs.size x y → 
      (∀ c o, c ≠ z → c ≠ i1 → c ≠ i2 → s.heap.get? c = some o → h'.get? c = some o) → Q (some (.ref s.heap.objs.size)) { s with heap := h' }) :
    wpAny (model prog w) A (pyNext (.ref z)) Q E s := by
  have hTy : s.TypeIs (.ref z) "zip" := ⟨_, hz, rfl⟩
  unfold pyNext
  exact wpAny_bind (wpAny_attempt (wpAny_callSpecial?_slot (name := Str.ofString "__next__") hTy F.slot_zip_next
    (wpAny_call_entry F.slot_zip_next hTy F.entry_zip_next
      (next2_item D hz hTI hT h1 h2 hl1 hl2 hx hy fun h' a1 a2 a3 a4 a5 => wpAny_pure (hQ h' a1 a2 a3 a4 a5)) (F.args_zip_next_1 _))))
theorem pyNext2_end {z TI TO i1 i2 l1 l2 T : Addr} {b : Bool} {oT : Obj} {k1 : Nat} {xs : Array Value} {Q : Option Value → Shared → Prop} (hh : A.handled = none) (D : ZipApart z TI TO i1 i2 l1 l2)
    (hz : ZipO s.heap z TI TO (rawInt T) (.bool b)) (hTI : IsPair s.heap TI (.ref i1) (.ref i2)) (hT : s.heap.get? T = some oT)
    (h1 : s.heap.IsListIter i1 l1 k1) (hl1 : s.heap.IsList l1 xs) (hx : xs[k1]? = none)
    (hQ : ∀ h', (∀ c o, c ≠ z → c ≠ i1 → s.heap.get? c = some o → h'.get? c = some o) → Q none { s with heap := h' }) : wpAny (model prog w) A (pyNext (.ref z)) Q E s := by
  have hTy : s.TypeIs (.ref z) "zip" := ⟨_, hz, rfl⟩
  unfold pyNext
  refine wpAny_bind (wpAny_attempt (wpAny_callSpecial?_slot (name := Str.ofString "__next__") hTy F.slot_zip_next
    (wpAny_call_entry F.slot_zip_next hTy F.entry_zip_next (next2_end (ys := xs) (k2 := k1) (l2 := l2) hh D hz hTI hT h1 hl1 hx fun h' e hk he => ?_) (F.args_zip_next_1 _))))
  obtain ⟨o, ho, hc⟩ := he
  refine wpAny_bind (wpAny_isInstance (T := "StopIteration") (b := true) ⟨o, ho, hc⟩ isSubtype_stop ?_)
  exact wpAny_pure (hQ _ hk)

/-- the walk at place i; S: the list that is filled -/
structure ZSt (h : Heap) (z TI TO i1 i2 l1 l2 S : Addr) (xs ys : Array Value) (i : Nat) : Prop where
  st : (i = 0 ∧ IsZip h z TI TO .none) ∨ ∃ (T : Addr) (b : Bool) (oT : Obj), ZipO h z TI TO (rawInt T) (.bool b) ∧ h.get? T = some oT ∧ T ≠ z ∧ T ≠ TO ∧ T ≠ i1 ∧ T ≠ i2 ∧ T ≠ S
  ti : IsPair h TI (.ref i1) (.ref i2)
  to : ∃ a b, IsPair h TO a b
  it1 : h.IsListIter i1 l1 i
  it2 : h.IsListIter i2 l2 i
  hl1 : h.IsList l1 xs
  hl2 : h.IsList l2 ys
structure Off (S z TI TO i1 i2 l1 l2 : Addr) : Prop where
  z : z ≠ S
  TI : TI ≠ S
  TO : TO ≠ S
  i1 : i1 ≠ S
  i2 : i2 ≠ S
  l1 : l1 ≠ S
  l2 : l2 ≠ S
theorem ZSt.keep {h h' : Heap} {z TI TO i1 i2 l1 l2 S : Addr} {xs ys : Array Value} {i : Nat} (x : ZSt h z TI TO i1 i2 l1 l2 S xs ys i) (of : Off S z TI TO i1 i2 l1 l2) (hk : ∀ b o, b ≠ S → h.get? b = some o → h'.get? b = some o) : ZSt h' z TI TO i1 i2 l1 l2 S xs ys i := by
  obtain ⟨st, ti, ⟨a, b, to⟩, t1, t2, q1, q2⟩ := x
  refine ⟨?_, hk _ _ of.TI ti, ⟨a, b, hk _ _ of.TO to⟩, t1.at fun o e => hk _ o of.i1 e, t2.at fun o e => hk _ o of.i2 e, q1.at fun o e => hk _ o of.l1 e, q2.at fun o e => hk _ o of.l2 e⟩
  rcases st with ⟨e, q⟩ | ⟨T, b, oT, q, hT, n1, n2, n3, n4, n5⟩
  · exact .inl ⟨e, hk _ _ of.z q⟩
  · exact .inr ⟨T, b, oT, hk _ _ of.z q, hk _ _ n5 hT, n1, n2, n3, n4, n5⟩
theorem zitem {z TI TO i1 i2 l1 l2 S : Addr} {i : Nat} {xs ys : Array Value} {x y : Value} {Q : Option Value → Shared → Prop} (D : ZipApart z TI TO i1 i2 l1 l2) (hS : S < s.heap.objs.size) (hst : ZSt s.heap z TI TO i1 i2 l1 l2 S xs ys i)
    (hx : xs[i]? = some x) (hy : ys[i]? = some y)
    (hQ : ∀ h', ZSt h' z TI TO i1 i2 l1 l2 S xs ys (i + 1) → IsPair h' s.heap.objs.size x y → (∀ c o, c ≠ z → c ≠ TO → c ≠ i1 → c ≠ i2 → s.heap.get? c = some o → h'.get? c = some o) → Q (some (.ref s.heap.objs.size)) { s with heap := h' }) :
    wpAny (model prog w) A (pyNext (.ref z)) Q E s := by
  obtain ⟨st, ti, ⟨a, b, to⟩, t1, t2, q1, q2⟩ := hst
  have lt : ∀ {c o}, s.heap.get? c = some o → s.heap.objs.size ≠ c := fun e => Nat.ne_of_gt (Heap.lt_size e)
  rcases st with ⟨e, q⟩ | ⟨T, b', oT, q, hT, n1, n2, n3, n4, n5⟩
  · subst e
    refine wpAny_pyNext_zip_item D q ti to t1 t2 q1 q2 hx hy fun h' a1 a2 a3 a4 a5 a6 hk => hQ h' ⟨.inr ⟨s.heap.objs.size, false, _, a1, a5, lt q, lt to, ?_, ?_, Nat.ne_of_gt hS⟩, hk _ _ D.TIz D.TITO D.TIi1 D.TIi2 ti, ⟨_, _, a2⟩, a3, a4,
      q1.at fun o e => hk _ o D.l1z D.l1TO D.l1i1 D.l1i2 e, q2.at fun o e => hk _ o D.l2z D.l2TO D.l2i1 D.l2i2 e⟩ a5 hk
    · obtain ⟨_, e, _⟩ := t1; exact lt e
    · obtain ⟨_, e, _⟩ := t2; exact lt e
  · refine pyNext2_item D q ti hT t1 t2 q1 q2 hx hy fun h' a1 a2 a3 a4 hk => hQ h' ⟨.inr ⟨T, true, oT, a1, hk _ _ n1 n3 n4 hT, n1, n2, n3, n4, n5⟩, hk _ _ D.TIz D.TIi1 D.TIi2 ti, ⟨a, b, hk _ _ D.TOz D.TOi1 D.TOi2 to⟩, a2, a3,
      q1.at fun o e => hk _ o D.l1z D.l1i1 D.l1i2 e, q2.at fun o e => hk _ o D.l2z D.l2i1 D.l2i2 e⟩ a4 fun c o c1 _ c3 c4 e => hk c o c1 c3 c4 e
theorem zdone {z TI TO i1 i2 l1 l2 S : Addr} {i : Nat} {xs ys : Array Value} {Q : Option Value → Shared → Prop} (hh : A.handled = none) (D : ZipApart z TI TO i1 i2 l1 l2) (hst : ZSt s.heap z TI TO i1 i2 l1 l2 S xs ys i)
    (hx : xs[i]? = none)
    (hQ : ∀ h', (∀ c o, c ≠ z → c ≠ TO → c ≠ i1 → c ≠ i2 → s.heap.get? c = some o → h'.get? c = some o) → Q none { s with heap := h' }) :
    wpAny (model prog w) A (pyNext (.ref z)) Q E s := by
  obtain ⟨st, ti, ⟨a, b, to⟩, t1, t2, q1, q2⟩ := hst
  rcases st with ⟨e, q⟩ | ⟨T, b', oT, q, hT, n1, n2, n3, n4, n5⟩
  · exact wpAny_pyNext_zip_end hh D q ti to t1 t2 q1 q2 (.inl hx) hQ
  · exact pyNext2_end hh D q ti hT t1 q1 hx fun h' hk => hQ h' fun c o c1 _ c3 _ e => hk c o c1 c3 e
/-- the new tuples -/
structure ZG (xs ys : Array Value) (lo : Addr) (h : Heap) (as : List Addr) : Prop where
  rise : as.Pairwise (· < ·)
  above : ∀ a ∈ as, lo ≤ a
  pairs : ∀ (j : Nat) (a : Addr), as[j]? = some a → ∃ x y, xs[j]? = some x ∧ ys[j]? = some y ∧ IsPair h a x y
theorem ZG.there {xs ys : Array Value} {lo : Addr} {h : Heap} {as : List Addr} (g : ZG xs ys lo h as) {a : Addr} (ha : a ∈ as) : a < h.objs.size := by
  obtain ⟨j, hj⟩ := List.mem_iff_getElem?.mp ha
  obtain ⟨_, _, _, _, e⟩ := g.pairs j a hj
  exact Heap.lt_size e
theorem ZG.keep {xs ys : Array Value} {lo : Addr} {h h' : Heap} {as : List Addr} (g : ZG xs ys lo h as) (hk : ∀ b o, lo ≤ b → h.get? b = some o → h'.get? b = some o) : ZG xs ys lo h' as :=
  ⟨g.rise, g.above, fun j a hj => by
    obtain ⟨x, y, e1, e2, e3⟩ := g.pairs j a hj
    exact ⟨x, y, e1, e2, hk a _ (g.above a (List.mem_of_getElem? hj)) e3⟩⟩
end
section
variable {prog : Program} {w : World} {A : Around} {s : Shared} {R : Result → Shared → Prop}
theorem zloop {S z TI TO i1 i2 l1 l2 lo : Addr} {xs ys : Array Value} (hh : A.handled = none) (D : ZipApart z TI TO i1 i2 l1 l2) (of : Off S z TI TO i1 i2 l1 l2) (hxy : xs.size = ys.size) (hn : xs.size ≤ sizeLine) (res : Value)
    (hlo : S < lo ∧ z < lo ∧ TO < lo ∧ i1 < lo ∧ i2 < lo) {h₁ : Heap}
    (hR : ∀ h' tk acc c as, (∀ b o, b ≠ S → b ≠ z → b ≠ TO → b ≠ i1 → b ≠ i2 → h₁.get? b = some o → h'.get? b = some o) → h'.get? S = some { cls := .type "list", dict := none, data := .seq acc c, slots := #[] } → as.length = xs.size → ZG xs ys lo h' as →
      acc.toList = as.map Value.ref → R (.ok (.ret res)) { s with heap := h', toks := tk }) :
    ∀ (k i : Nat) (h : Heap) (tk c : Nat) (acc : Array Value) (as : List Addr), xs.size - i = k → i ≤ xs.size → ZSt h z TI TO i1 i2 l1 l2 S xs ys i → (∀ b o, b ≠ S → b ≠ z → b ≠ TO → b ≠ i1 → b ≠ i2 → h₁.get? b = some o → h.get? b = some o) →
      h.get? S = some { cls := .type "list", dict := none, data := .seq acc c, slots := #[] } → acc.toList = as.map Value.ref → as.length = i → ZG xs ys lo h as → lo ≤ h.objs.size →
      codeAny (model prog w) A (.builtin "list.extend.loop" ⟨[.ref S, .ref z, res], []⟩) R { s with heap := h, toks := tk } := by
  obtain ⟨lS, lz, lTO, li1, li2⟩ := hlo
  have ne : ∀ {b c : Addr}, c < lo → lo ≤ b → b ≠ c := fun h1 h2 e => by subst e; exact Nat.lt_irrefl _ (Nat.lt_of_lt_of_le h1 h2)
  intro k
  induction k with
  | zero =>
    intro i h tk c acc as hk hi hst hkeep hS hacc hal hG hIs
    have hin : i = xs.size := by omega
    refine codeAny_builtin PySem.F.entry_extend_loop ?_
    rw [Around.under_plainId PySem.F.plain_extend_loop _]
    show wpAny _ A.in1 (pyNext (.ref z) >>= _) _ _ _
    refine wpAny_bind (zdone (s := { s with heap := h, toks := tk }) (A := A.in1) hh D hst (Array.getElem?_eq_none (by omega)) fun h' he => ?_)
    exact wpAny_pure (hR h' tk acc c as (fun b o h0 h1 h2 h3 h4 e => he b o h1 h2 h3 h4 (hkeep b o h0 h1 h2 h3 h4 e)) (he S _ of.z.symm of.TO.symm of.i1.symm of.i2.symm hS) (by omega) (hG.keep fun b o hb e => he b o (ne lz hb) (ne lTO hb) (ne li1 hb) (ne li2 hb) e) hacc)
  | succ k ih =>
    intro i h tk c acc as hk hi hst hkeep hS hacc hal hG hIs
    have hlt : i < xs.size := by omega
    have hx : xs[i]? = some xs[i] := Array.getElem?_eq_getElem hlt
    have hy : ys[i]? = some (ys[i]'(by omega)) := Array.getElem?_eq_getElem (by omega)
    have hsz : acc.size = i := by rw [← Array.length_toList, hacc, List.length_map, hal]
    have hSl : S < h.objs.size := Heap.lt_size hS
    refine codeAny_builtin PySem.F.entry_extend_loop ?_
    rw [Around.under_plainId PySem.F.plain_extend_loop _]
    show wpAny _ A.in1 (pyNext (.ref z) >>= _) _ _ _
    refine wpAny_bind (zitem (s := { s with heap := h, toks := tk }) (S := S) D hSl hst hx hy fun h' hst' ht hkp => ?_)
    dsimp only at ht hkp ⊢
    have hS' := hkp S _ of.z.symm of.TO.symm of.i1.symm of.i2.symm hS
    have up : ∀ b o, b ≠ S → h'.get? b = some o → (h'.update S (Obj.mapSeq (·.push (Value.ref h.objs.size)))).get? b = some o := fun b o hb e => (Heap.get?_update_other _ _ (Ne.symm hb)).trans e
    have hpr := up _ _ (Nat.ne_of_gt hSl) ht
    show wpAny _ A.in1 (updateSeq S (·.push (Value.ref h.objs.size)) >>= _) _ _ _
    refine wpAny_bind ?_
    refine wpAny_updateSeq hS' rfl (wpAny_pure ⟨plainId_quiet PySem.F.plain_extend_loop _, ih (i + 1) _ tk _ (acc.push (Value.ref h.objs.size)) (as ++ [h.objs.size]) (by omega) hlt (hst'.keep of up)
      (fun b o h0 h1 h2 h3 h4 e => up b o h0 (hkp b o h1 h2 h3 h4 (hkeep b o h0 h1 h2 h3 h4 e))) (Heap.get?_update_self _ hS' rfl) (by rw [Array.toList_push, hacc, List.map_append]; rfl) (by rw [List.length_append, hal]; rfl) ⟨?_, ?_, ?_⟩ ?_⟩) (by rw [hsz]; omega) (by show (acc.push (Value.ref h.objs.size)).size ≤ sizeLine + 1; rw [Array.size_push, hsz]; omega)
    · refine List.pairwise_append.mpr ⟨hG.rise, List.pairwise_singleton _ _, fun a ha b hb => ?_⟩
      rw [List.mem_singleton.mp hb]
      exact hG.there ha
    · intro a ha
      rcases List.mem_append.mp ha with ha | ha
      · exact hG.above a ha
      · rw [List.mem_singleton.mp ha]; exact hIs
    · intro j b hj
      rcases Nat.lt_trichotomy j as.length with h1 | h1 | h1
      · rw [List.getElem?_append_left h1] at hj
        obtain ⟨x', y', e1, e2, e3⟩ := hG.pairs j b hj
        have hb := hG.above b (List.mem_of_getElem? hj)
        exact ⟨x', y', e1, e2, up b _ (ne lS hb) (hkp b _ (ne lz hb) (ne lTO hb) (ne li1 hb) (ne li2 hb) e3)⟩
      · subst h1
        have hb : h.objs.size = b := by simpa using hj
        subst hb
        exact ⟨_, _, by rw [hal]; exact hx, by rw [hal]; exact hy, hpr⟩
      · have hnone : (as ++ [h.objs.size])[j]? = none := List.getElem?_eq_none (by rw [List.length_append, List.length_singleton]; omega)
        rw [hnone] at hj; cases hj
    · exact Nat.le_of_lt (Nat.lt_of_le_of_lt hIs (Heap.lt_size hpr))

theorem zip_no_len : typeLookup (.type "zip") "__len__" = pure none := by rw [typeLookup_type, builtinLookup_eq_fast]; kernel_rfl
theorem zip_no_hint : typeLookup (.type "zip") "__length_hint__" = pure none := by rw [typeLookup_type, builtinLookup_eq_fast]; kernel_rfl
theorem zextend {S z TI TO i1 i2 l1 l2 lo : Addr} {xs ys : Array Value} {c₀ : Nat} (hh : A.handled = none) (D : ZipApart z TI TO i1 i2 l1 l2) (of : Off S z TI TO i1 i2 l1 l2) (hxy : xs.size = ys.size) (hn : xs.size ≤ sizeLine) (res : Value)
    (hlo : S < lo ∧ z < lo ∧ TO < lo ∧ i1 < lo ∧ i2 < lo) (hsz : lo ≤ s.heap.objs.size) (hz : IsZip s.heap z TI TO .none) (hst : ZSt s.heap z TI TO i1 i2 l1 l2 S xs ys 0)
    (hS : s.heap.get? S = some { cls := .type "list", data := .seq #[] c₀ })
    (hR : ∀ h' tk acc c as, (∀ b o, b ≠ S → b ≠ z → b ≠ TO → b ≠ i1 → b ≠ i2 → s.heap.get? b = some o → h'.get? b = some o) → h'.get? S = some { cls := .type "list", dict := none, data := .seq acc c, slots := #[] } → as.length = xs.size → ZG xs ys lo h' as →
      acc.toList = as.map Value.ref → R (.ok (.ret res)) { s with heap := h', toks := tk }) :
    wpAny (model prog w) A.in1 (Builtin.List.listExtendWith (.ref S) (.ref z) res)
      (fun fin s' => match fin with | .done f => R (.ok f) s' | .again c' => c'.quiet = true ∧ codeAny (model prog w) A c' R s') (fun e s' => R (.error e) s') s := by
  have hT : s.TypeIs (.ref z) "zip" := ⟨_, hz, rfl⟩
  unfold Builtin.List.listExtendWith
  refine wpAny_bind (wpAny_typeOf hT ?_)
  have h1 : Builtin.List.listSameRef (.ref S) (.ref z) = false := by simp [Builtin.List.listSameRef, of.z.symm]
  have h2 : (Value.type "zip" == Value.type "list") = false := by decide
  have h3 : (Value.type "zip" == Value.type "tuple") = false := by decide
  simp only [h1, h2, h3, Bool.or_false, Bool.false_eq_true, if_false]
  refine wpAny_bind (wpAny_pyIter_zip hz ?_)
  refine wpAny_bind (wpAny_holding ?_)
  unfold Builtin.List.listLengthHint
  refine wpAny_bind (wpAny_specialOf hT zip_no_len ?_)
  show wpAny _ A.in1 (specialOf (Value.ref z) (Str.ofString "__length_hint__") >>= _) _ _ _
  refine wpAny_bind (wpAny_specialOf hT zip_no_hint ?_)
  refine wpAny_pure ?_
  show wpAny _ A.in1 (rule "list.extend.makes-room" >>= fun _ => Builtin.List.listTouch (.ref S) >>= fun _ =>
    again (.builtin "list.extend.loop" ⟨[.ref S, .ref z, res], []⟩)) _ _ _
  refine wpAny_bind (wpAny_rule ?_)
  refine wpAny_bind ?_
  show wpAny _ A.in1 (updateSeq S (·.push .none) >>= fun _ => updateSeq S (·.pop)) _ _ _
  refine wpAny_bind (wpAny_updateSeq hS rfl ?_)
  have hS₂ := Heap.get?_update_self (Obj.mapSeq (·.push Value.none)) hS rfl
  refine wpAny_updateSeq (hz := by seq_fits) hS₂ rfl ?_
  have hS₃ := Heap.get?_update_self (Obj.mapSeq (·.pop)) hS₂ rfl
  have oth : ∀ b o, b ≠ S → s.heap.get? b = some o → ((s.heap.update S (Obj.mapSeq (·.push Value.none))).update S (Obj.mapSeq (·.pop))).get? b = some o :=
    fun b o hb e => (Heap.get?_update_other _ _ (Ne.symm hb)).trans ((Heap.get?_update_other _ _ (Ne.symm hb)).trans e)
  refine wpAny_pure ⟨plainId_quiet PySem.F.plain_extend_loop _, zloop (s := s) (h₁ := s.heap) hh D of hxy hn res hlo hR xs.size 0 _ s.toks _ #[] [] (Nat.sub_zero _) (Nat.zero_le _) (hst.keep of oth) (fun b o h0 _ _ _ _ e => oth b o h0 e) hS₃ rfl rfl
    ⟨List.Pairwise.nil, (fun _ ha => nomatch ha), (fun j a hj => by simp at hj)⟩ ?_⟩
  simp only [Heap.size_update]
  exact hsz
theorem zinit {S z TI TO i1 i2 l1 l2 lo : Addr} {xs ys : Array Value} (hh : A.handled = none) (D : ZipApart z TI TO i1 i2 l1 l2) (of : Off S z TI TO i1 i2 l1 l2) (hxy : xs.size = ys.size) (hn : xs.size ≤ sizeLine)
    (hlo : S < lo ∧ z < lo ∧ TO < lo ∧ i1 < lo ∧ i2 < lo) (hsz : lo ≤ s.heap.objs.size) (hz : IsZip s.heap z TI TO .none) (hst : ZSt s.heap z TI TO i1 i2 l1 l2 S xs ys 0)
    (hS : s.heap.get? S = some { cls := .type "list", data := .seq #[] })
    (hR : ∀ h' tk acc c as, (∀ b o, b ≠ S → b ≠ z → b ≠ TO → b ≠ i1 → b ≠ i2 → s.heap.get? b = some o → h'.get? b = some o) → h'.get? S = some { cls := .type "list", dict := none, data := .seq acc c, slots := #[] } → as.length = xs.size → ZG xs ys lo h' as →
      acc.toList = as.map Value.ref → R (.ok (.ret .none)) { s with heap := h', toks := tk }) :
    wpAny (model prog w) A.in1 (Builtin.«list.__init__» ⟨[.ref S, .ref z], []⟩)
      (fun fin s' => match fin with | .done f => R (.ok f) s' | .again c' => c'.quiet = true ∧ codeAny (model prog w) A c' R s') (fun e s' => R (.error e) s') s := by
  show wpAny _ A.in1 (do let old ← Builtin.List.listItems (.ref S); Builtin.List.listUpdate (.ref S) (fun _ => #[]); letGo old.toList.reverse; Builtin.List.listExtendWith (.ref S) (.ref z) .none) _ _ s
  refine wpAny_bind ?_
  unfold Builtin.List.listItems
  refine wpAny_bind (wpAny_seqItems hS rfl (wpAny_pure ?_))
  show wpAny _ A.in1 (updateSeq S (fun _ => #[]) >>= fun _ => letGo (#[] : Array Value).toList.reverse >>= fun _ => Builtin.List.listExtendWith (.ref S) (.ref z) .none) _ _ s
  refine wpAny_bind (wpAny_updateSeq hS rfl ?_)
  have hS₂ := Heap.get?_update_self (Obj.mapSeq (fun _ => (#[] : Array Value))) hS rfl
  have oth : ∀ b o, b ≠ S → s.heap.get? b = some o → (s.heap.update S (Obj.mapSeq (fun _ => (#[] : Array Value)))).get? b = some o :=
    fun b o hb e => (Heap.get?_update_other _ _ (Ne.symm hb)).trans e
  refine wpAny_bind (wpAny_letGo ?_)
  refine zextend (s := { s with heap := s.heap.update S (Obj.mapSeq (fun _ => (#[] : Array Value))) }) hh D of hxy hn .none hlo (by simp only [Heap.size_update]; exact hsz) (oth _ _ of.z hz) (hst.keep of oth) hS₂ fun h' tk acc c as hk hS' hl hG hacc => ?_
  exact hR h' tk acc c as (fun b o h0 h1 h2 h3 h4 e => hk b o h0 h1 h2 h3 h4 (oth b o h0 e)) hS' hl hG hacc
end
section
variable {prog : Program} {w : World} {A : Around} {E : Value → Shared → Prop} {s : Shared}
/-- list(zip(l1, l2)), both of one length -/
theorem call_list_zip {l1 l2 : Addr} {xs ys : Array Value} {Q : Value → Shared → Prop} (hh : A.handled = none) (hl1 : s.heap.IsList l1 xs) (hl2 : s.heap.IsList l2 ys) (hxy : xs.size = ys.size) (hn : xs.size ≤ sizeLine)
    (hQ : ∀ h' tk acc c as, (∀ b o, s.heap.get? b = some o → h'.get? b = some o) → h'.get? (s.heap.objs.size + 5) = some { cls := .type "list", dict := none, data := .seq acc c, slots := #[] } → as.length = xs.size → ZG xs ys (s.heap.objs.size + 6) h' as →
      acc.toList = as.map Value.ref → Q (.ref (s.heap.objs.size + 5)) { s with heap := h', toks := tk }) :
    wpAny (model prog w) A (call (.type "zip") [.ref l1, .ref l2]) (fun v s' => wpAny (model prog w) A (call (.type "list") [v]) Q E s') E s := by
  refine call_zip_2 hl1 hl2 fun h1 hz hTI hTO it1 it2 hs1 hk1 => ?_
  have b1 : @LT.lt Nat _ l1 s.heap.objs.size := let ⟨_, ho, _⟩ := hl1; Heap.lt_size ho
  have b2 : @LT.lt Nat _ l2 s.heap.objs.size := let ⟨_, ho, _⟩ := hl2; Heap.lt_size ho
  generalize hN : s.heap.objs.size = N at *
  have D : ZipApart (N + 4) (N + 2) (N + 3) N (N + 1) l1 l2 := by constructor <;> (intro e; have e' : @Eq Nat _ _ := e; omega)
  have of : Off (N + 5) (N + 4) (N + 2) (N + 3) N (N + 1) l1 l2 := by constructor <;> (intro e; have e' : @Eq Nat _ _ := e; omega)
  refine callType_codes (Q₁ := fun obj s₁ => obj = .ref (N + 5) ∧ s₁ = { s with heap := h1.push { cls := .type "list", data := .seq #[] } }) PySem.F.called_list (PySem.F.typeCall_list_1 _) PySem.F.entry_list_init
    (code_list_new _ ⟨by show Value.ref h1.objs.size = _; rw [hs1], rfl⟩) fun obj s₁ h₁ => ?_
  obtain ⟨rfl, rfl⟩ := h₁
  have hS : (h1.push { cls := .type "list", data := .seq #[] }).get? (N + 5) = some { cls := .type "list", data := .seq #[] } := by rw [← hs1]; exact Heap.get?_push_size _ rfl
  have pu : ∀ b o, h1.get? b = some o → (h1.push { cls := .type "list", data := .seq #[] }).get? b = some o := fun b o e => Heap.get?_push_of_some _ e
  refine ⟨⟨_, hS, rfl⟩, PySem.F.args_list_init_2 _ _, zinit (s := { s with heap := h1.push { cls := .type "list", data := .seq #[] } }) (A := A.in1) (lo := N + 6) hh D of hxy hn ⟨(by show @LT.lt Nat _ _ _; omega), (by show @LT.lt Nat _ _ _; omega), (by show @LT.lt Nat _ _ _; omega), (by show @LT.lt Nat _ _ _; omega), (by show @LT.lt Nat _ _ _; omega)⟩ (by show N + 6 ≤ (h1.push _).objs.size; rw [Heap.size_push, hs1]; exact Nat.le_refl _) (pu _ _ hz)
    ⟨.inl ⟨rfl, pu _ _ hz⟩, pu _ _ hTI, ⟨_, _, pu _ _ hTO⟩, it1.at fun o e => pu _ o e, it2.at fun o e => pu _ o e, hl1.at fun o e => pu _ o (hk1 _ o e), hl2.at fun o e => pu _ o (hk1 _ o e)⟩ hS fun h' tk acc c as hk hS' hl hG hacc => ?_⟩
  refine ⟨rfl, hQ h' tk acc c as (fun b o e => ?_) hS' hl hG hacc⟩
  have hb : @LT.lt Nat _ b N := by rw [← hN]; exact Heap.lt_size e
  have nb : ∀ m : Nat, b ≠ N + m := fun m e' => by have e2 : @Eq Nat _ _ := e'; omega
  exact hk b o (nb 5) (nb 4) (nb 3) (nb 0) (nb 1) (pu _ _ (hk1 b o e))
end
end EZ
namespace EV
open PySem PySem.Spec PyProof.Rows L2
section
variable {X : Cx} {pins : List (Addr × Obj)} {σ : L2.St} {H H' : Hp} {s : Shared} {h' : Heap}
/-- many objects laid at once -/
theorem inv_many {t' : Nat} (I : Inv X pins σ H s) (k : ∀ b u, s.heap.get? b = some u → h'.get? b = some u) (old : ∀ b u, H b = some u → H' b = some u)
    (new : ∀ b u, H' b = some u → H b = some u ∨ (s.heap.objs.size ≤ b ∧ ObjOk X.prog X.w H' h' b u)) : Inv X pins σ H' { s with heap := h', toks := t' } :=
  I.un ⟨fun b ob q _ _ _ => k b ob q, fun b ob q _ _ _ => ⟨ob.slots, k b ob q⟩, fun b o q n _ => by
      cases e : H' b with
      | none => rfl
      | some u =>
        rcases new b u e with z | ⟨z, _⟩
        · rw [n] at z; cases z
        · exact absurd (Nat.lt_of_lt_of_le (Heap.lt_size q) z) (Nat.lt_irrefl _), fun b ob q _ => ⟨ob, k b ob q⟩, fun b xs q => old b _ q, fun b o u q => old b _ q, fun b ps q => ⟨#[], by rw [old b _ q]; simp⟩⟩
    fun b u e => by
      rcases new b u e with z | ⟨_, z⟩
      · exact (I.hok b u z).stay (fun c v _ q => k c v q) (fun c q => old c _ q) fun c xs q => old c _ q
      · exact z
/-- tuples laid at as, in their order -/
def layT (H : Hp) : List Addr → List (List V) → Hp
  | a :: as, t :: ts => upd (layT H as ts) a (.tup t)
  | _, _ => H
theorem layT_at : ∀ {as : List Addr} {ts : List (List V)} {H : Hp} {j : Nat} {a : Addr} {t : List V}, as.Pairwise (· < ·) → as[j]? = some a → ts[j]? = some t → layT H as ts a = some (.tup t)
  | [], _, _, _, _, _, _, h, _ => by simp at h
  | _ :: _, [], _, _, _, _, _, _, h => by simp at h
  | b :: as, u :: ts, H, 0, a, t, _, h1, h2 => by
    simp at h1 h2
    subst h1 h2
    exact upd_same
  | b :: as, u :: ts, H, j + 1, a, t, hp, h1, h2 => by
    have hm : a ∈ as := List.mem_of_getElem? (by simpa using h1)
    have hlt := (List.pairwise_cons.mp hp).1 a hm
    show upd (layT H as ts) b (.tup u) a = _
    rw [upd_ne (Nat.ne_of_gt hlt)]
    exact layT_at (List.pairwise_cons.mp hp).2 (by simpa using h1) (by simpa using h2)
theorem layT_cases : ∀ {as : List Addr} {ts : List (List V)} {H : Hp} {b : Addr} {u : HO}, layT H as ts b = some u → H b = some u ∨ ∃ (j : Nat) (t : List V), as[j]? = some b ∧ ts[j]? = some t ∧ u = .tup t
  | [], _, _, _, _, h => .inl h
  | _ :: _, [], _, _, _, h => .inl h
  | a :: as, t :: ts, H, b, u, h => by
    by_cases hb : b = a
    · subst hb
      have h' : upd (layT H as ts) b (.tup t) b = some u := h
      rw [upd_same] at h'
      cases h'
      exact .inr ⟨0, t, rfl, rfl, rfl⟩
    · have h' : upd (layT H as ts) a (.tup t) b = some u := h
      rw [upd_ne hb] at h'
      rcases layT_cases h' with z | ⟨j, t', e1, e2, e3⟩
      · exact .inl z
      · exact .inr ⟨j + 1, t', by simpa using e1, by simpa using e2, e3⟩
theorem layT_out : ∀ {as : List Addr} {ts : List (List V)} {H : Hp} {b : Addr}, b ∉ as → layT H as ts b = H b
  | [], _, _, _, _ => rfl
  | _ :: _, [], _, _, _ => rfl
  | a :: as, t :: ts, H, b, h => by
    show upd (layT H as ts) a (.tup t) b = _
    rw [upd_ne (fun z => h (by simp [z]))]
    exact layT_out fun z => h (List.mem_cons_of_mem _ z)

theorem isL_mk {K : PySem.W.Frag} {H : Hp} : ∀ {ds : List D} {vs : List V}, ds.length = vs.length → (∀ (j : Nat) d v, ds[j]? = some d → vs[j]? = some v → Is K H d v) → IsL K H ds vs
  | [], [], _, _ => by unfold IsL; rfl
  | d :: ds, v :: vs, h, q => by
    unfold IsL
    exact ⟨v, vs, rfl, q 0 d v rfl rfl, isL_mk (by simpa using h) fun j d' v' e1 e2 => q (j + 1) d' v' (by simpa using e1) (by simpa using e2)⟩
  | [], _ :: _, h, _ => by simp at h
  | _ :: _, [], h, _ => by simp at h
theorem vals_get : ∀ {xs : List V} {us : List Value} {j : Nat} {x : V} {u : Value}, Vals xs us → xs[j]? = some x → us[j]? = some u → RelV x u
  | _, _, _, _, _, .nil, h, _ => by simp at h
  | _, _, 0, _, _, .cons r _, h1, h2 => by simp at h1 h2; subst h1 h2; exact r
  | _, _, j + 1, _, _, .cons _ r, h1, h2 => vals_get r (by simpa using h1) (by simpa using h2)
theorem valsRef : ∀ as : List Addr, Vals (as.map V.ref) (as.map Value.ref)
  | [] => .nil
  | _ :: as => .cons rfl (valsRef as)
variable {a b : Expr} {δ : Sd} {ds es : List D} {p p2 pos pos2 : Pos}
def zipD (ds es : List D) : List D := List.zipWith (fun x y => D.tup [x, y]) ds es
/-- list(zip(a, b)), two lists of one length -/
theorem ev_listzip (hc : X.calm = true) (hg : Gl X "list") (hm : X.mg "list" = none) (hg2 : Gl X "zip") (hm2 : X.mg "zip" = none) (ha : EV X a δ (.lst ds)) (hb : EV X b δ (.lst es)) (hl : ds.length = es.length) (hz : ds.length ≤ 1000)
    (hst : starEach [a, b] X.env = (false, eval a X.env) :: starEach [b] X.env := by exact star_of rfl) (hst2 : starEach [b] X.env = [(false, eval b X.env)] := by exact star_of rfl)
    (hst3 : starEach [.Call (.Name "zip" p2) [a, b] [] pos2] X.env = [(false, eval (.Call (.Name "zip" p2) [a, b] [] pos2) X.env)] := by exact star_of rfl) :
    EV X (.Call (.Name "list" p) [.Call (.Name "zip" p2) [a, b] [] pos2] [] pos) δ (.lst (zipD ds es)) :=
  ⟨fun pins s σ H Q I ⟨S, q⟩ => by
    refine wpAny_Call_Name_kw (ld_blt I hg hm (by rfl) ?_ (by decide) (by decide))
    refine PyProof.Rows.callWith_type1 ?_ hst3 rfl
    rw [hst3]
    show wpAny _ _ (spliced [(false, eval (.Call (.Name "zip" p2) [a, b] [] pos2) X.env)]) _ _ s
    refine Calls.spliced_cons ?_
    refine wpAny_Call_Name_kw (ld_blt I hg2 hm2 (by rfl) ?_ (by decide) (by decide))
    refine PyProof.Rows.callWith_type1 (thn ((ea_cons ha (ea_cons hb ea_nil hst2) hst).run pos2 pins s σ H (fun vs H' => Same H H' ∧ IsL X.K H' [.lst ds, .lst es] vs) I ⟨S, fun vs H' s' r => ⟨s', r⟩⟩) fun us s1 ⟨vs, H1, I1, r1, sm1, il⟩ => ?_) hst (by rw [hst2]; rfl)
    obtain ⟨v, w', rfl, iv, iw⟩ := isL_two il
    unfold Is at iv iw
    obtain ⟨l1, xs, rfl, z1, q1⟩ := iv
    obtain ⟨l2, ys, rfl, z2, q2⟩ := iw
    obtain ⟨u1, u2, rfl, ru1, ru2⟩ : ∃ u1 u2, us = [u1, u2] ∧ RelV (.ref l1) u1 ∧ RelV (.ref l2) u2 := by
      cases r1 with
      | cons r r' => cases r' with
        | cons r2 r3 => cases r3; exact ⟨_, _, rfl, r, r2⟩
    cases ru1
    cases ru2
    obtain ⟨is1, rv1, pl1, hz1⟩ := I1.list z1
    obtain ⟨is2, rv2, pl2, hz2⟩ := I1.list z2
    have e1 := rv1.length
    have e2 := rv2.length
    have e3 := q1.len
    have e4 := q2.len
    refine wpAny_mono (EZ.call_list_zip (I1.ok.hd hc) pl1.isList pl2.isList (by simp only [List.size_toArray]; omega) (by simp only [List.size_toArray]; omega) (Q := fun v s' => EP X pins σ Q v s') fun h' tk acc c as kp hS hal G hacc => ?_) (fun v s' h => Calls.spliced_nil h) fun _ _ e => e
    have hS5 : s1.heap.objs.size ≤ s1.heap.objs.size + 5 := Nat.le_add_right _ _
    have hSa : s1.heap.objs.size + 5 ∉ as := fun z => absurd (G.above _ z) (Nat.not_le_of_lt (Nat.lt_succ_self _))
    have hab : ∀ a ∈ as, s1.heap.objs.size ≤ a := fun a z => Nat.le_trans (Nat.le_add_right _ _) (G.above a z)
    have hlow : ∀ b u, H1 b = some u → b ∉ as ∧ b ≠ s1.heap.objs.size + 5 := fun b u e =>
      ⟨fun z => absurd (I1.hok.fresh (hab b z)) (by rw [e]; simp), fun z => absurd (I1.hok.fresh (z ▸ hS5)) (by rw [e]; simp)⟩
    have hals : as.length = xs.length := by rw [hal, List.size_toArray, e1]
    have hts : ∀ (j : Nat) (t : List V), (List.zipWith (fun x y => [x, y]) xs ys)[j]? = some t → ∃ x y, xs[j]? = some x ∧ ys[j]? = some y ∧ t = [x, y] := fun j t e => by
      rw [List.getElem?_zipWith] at e
      cases a1 : xs[j]? with
      | none => rw [a1] at e; cases e
      | some x =>
        cases a2 : ys[j]? with
        | none => rw [a1, a2] at e; cases e
        | some y => rw [a1, a2] at e; cases e; exact ⟨x, y, rfl, rfl, rfl⟩
    have haccL : acc = (as.map Value.ref).toArray := by rw [← hacc]
    have old : ∀ b u, H1 b = some u → upd (layT H1 as (List.zipWith (fun x y => [x, y]) xs ys)) (s1.heap.objs.size + 5) (.lst (as.map V.ref)) b = some u := fun b u e => by
      obtain ⟨n1, n2⟩ := hlow b u e
      rw [upd_ne n2, layT_out n1]
      exact e
    have I2 := inv_many (t' := tk) (H' := upd (layT H1 as (List.zipWith (fun x y => [x, y]) xs ys)) (s1.heap.objs.size + 5) (.lst (as.map V.ref))) I1 kp old (fun b u e => by
      by_cases hb : b = s1.heap.objs.size + 5
      · subst hb
        rw [upd_same] at e
        cases e
        refine .inr ⟨hS5, ?_⟩
        rw [haccL] at hS
        exact ⟨by rw [List.length_map, hals]; exact hz1, as.map Value.ref, c, valsRef as, hS⟩
      · rw [upd_ne hb] at e
        rcases layT_cases e with z | ⟨j, t, a1, a2, rfl⟩
        · exact .inl z
        · refine .inr ⟨hab b (List.mem_of_getElem? a1), ?_⟩
          obtain ⟨x, y, x1, y1, rfl⟩ := hts j t a2
          obtain ⟨u, v, p1, p2, p3⟩ := G.pairs j b a1
          exact ⟨by show (2 : Nat) ≤ sizeLine; decide, [u, v], .cons (vals_get rv1 x1 (by simpa using p1)) (.cons (vals_get rv2 y1 (by simpa using p2)) .nil), _, p3, rfl, _, rfl⟩)
    refine ⟨.ref (s1.heap.objs.size + 5), _, I2, rfl, q _ _ (sm1.trans fun b u e => old b u e) ?_⟩
    have sm : Same H1 (upd (layT H1 as (List.zipWith (fun x y => [x, y]) xs ys)) (s1.heap.objs.size + 5) (.lst (as.map V.ref))) := fun b u e => old b u e
    unfold Is
    refine ⟨_, as.map V.ref, rfl, SqL.of upd_same, isL_mk (by unfold zipD; rw [List.length_zipWith, List.length_map]; omega) fun j d v' g1 g2 => ?_⟩
    unfold zipD at g1
    rw [List.getElem?_zipWith] at g1
    rw [List.getElem?_map] at g2
    cases a1 : ds[j]? with
    | none => rw [a1] at g1; cases g1
    | some dx =>
      cases a2 : es[j]? with
      | none => rw [a1, a2] at g1; cases g1
      | some dy =>
        rw [a1, a2] at g1
        cases g1
        cases a3 : as[j]? with
        | none => rw [a3] at g2; cases g2
        | some a =>
          rw [a3] at g2
          cases g2
          obtain ⟨x, x1, ix⟩ := IsL.get q1 a1
          obtain ⟨y, y1, iy⟩ := IsL.get q2 a2
          have ma : a ∈ as := List.mem_of_getElem? a3
          have at_ : layT H1 as (List.zipWith (fun x y => [x, y]) xs ys) a = some (.tup [x, y]) := layT_at G.rise a3 (by rw [List.getElem?_zipWith, x1, y1])
          unfold Is
          refine ⟨a, [x, y], rfl, .inl (.inl ?_), ?_⟩
          · have na : a ≠ s1.heap.objs.size + 5 := fun z => hSa (z ▸ ma)
            rw [upd_ne na]
            exact at_
          · unfold IsL
            refine ⟨x, [y], rfl, Is.mono sm _ ix, ?_⟩
            unfold IsL
            refine ⟨y, [], rfl, Is.mono sm _ iy, ?_⟩
            unfold IsL
            rfl⟩
end
end EV
namespace EV
open PySem PySem.Spec PyProof.Rows L2
section
variable {X : Cx} {e : Expr} {δ : Sd} {ds : List D} {p pos : Pos} {body : List Stmt} {k : Nat}
/-- tuple(a list) -/
theorem ev_tupOfL (hg : Gl X "tuple") (hm : X.mg "tuple" = none) (ha : EV X e δ (.lst ds)) (hst : starEach [e] X.env = [(false, eval e X.env)] := by exact star_of rfl) : EV X (.Call (.Name "tuple" p) [e] [] pos) δ (.tup ds) :=
  ev_callTy call_tuple_of hg hm (by rfl) (ea_cons ha ea_nil hst) (fun vs H Q h k => by
    obtain ⟨v, rfl, r⟩ := isL_one h
    unfold Is at r
    obtain ⟨q, xs, rfl, z, l⟩ := r
    exact ⟨q, xs, rfl, .inl ⟨z, fun l' hl => k _ _ (same_new hl _) (by unfold Is; exact ⟨l', xs, rfl, .inl (.inl upd_same), IsL.mono (same_new hl _) ds l⟩)⟩⟩) (he := hst) (hpl := rfl)
/-- a for over a list that gathers -/
theorem forL_acc {α β : Type} {f : α → D} (g : β → Option D → Sd) (step : β → α → β) : ∀ (xs : List α) (b : β) (l : Option D), (∀ b l, ∀ x ∈ xs, SS X body ((g b l).set k (some (f x))) (.nx (g (step b x) (some (f x))))) →
    ForL X k body (xs.map f) (g b l) (.nx (g (xs.foldl step b) (xs.foldl (fun _ x => some (f x)) l)))
  | [], b, l, _ => .nil
  | x :: xs, b, l, h => .cons (h b l x List.mem_cons_self) (forL_acc g step xs (step b x) (some (f x)) fun b l y hy => h b l y (List.mem_cons_of_mem _ hy))
end
end EV

set_option Elab.async false
set_option linter.all false
set_option maxRecDepth 100000
set_option maxHeartbeats 4000000
namespace EV
open PySem PySem.Spec PyProof.Rows L2
section
variable {X : Cx} {e a b : Expr} {δ : Sd} {ds : List D} {p pos : Pos} {body : List Stmt} {k : Nat} {i j : Int} {bs : List Bool}
theorem ev_min2 (hc : X.calm = true) (hg : Gl X "min") (hm : X.mg "min" = none) (ha : EA X [a, b] δ [.int i, .int j]) (he : starEach [a, b] X.env = (false, eval a X.env) :: starEach [b] X.env := by exact star_of rfl) (hpl : (backTo pos (starEach [b] X.env)).any (·.1) = false := by exact plain_of rfl) :
    EV X (.Call (.Name "min" p) [a, b] [] pos) δ (.int (if j < i then j else i)) :=
  ev_callB (call_min2 hc) hg hm (by rfl) ha (fun vs H Q h k => by
    obtain ⟨v, w, rfl, q, q'⟩ := isL_two h
    unfold Is at q q'
    subst q q'
    exact ⟨i, j, rfl, k _ H (Same.refl H) (by unfold Is; rfl)⟩) (he := he) (hpl := hpl)
/-- a for over a list that gathers till it stops -/
def untilF {α β : Type} (step : β → α → β) (stop : β → Bool) : List α → β → β
  | [], b => b
  | x :: xs, b => if stop (step b x) = true then step b x else untilF step stop xs (step b x)
def stopsF {α β : Type} (step : β → α → β) (stop : β → Bool) : List α → β → Bool
  | [], _ => false
  | x :: xs, b => stop (step b x) || stopsF step stop xs (step b x)
theorem forL_until {α β : Type} {f : α → D} (g : β → Option D → Sd) (step : β → α → β) (stop : β → Bool) (ret : β → D) : ∀ (xs : List α) (b : β) (l : Option D),
    (∀ b l, ∀ x ∈ xs, stop (step b x) = false → SS X body ((g b l).set k (some (f x))) (.nx (g (step b x) (some (f x))))) →
    (∀ b l, ∀ x ∈ xs, stop (step b x) = true → SS X body ((g b l).set k (some (f x))) (.rt (ret (step b x)))) →
    (stopsF step stop xs b = false → ForL X k body (xs.map f) (g b l) (.nx (g (untilF step stop xs b) (xs.foldl (fun _ x => some (f x)) l)))) ∧ (stopsF step stop xs b = true → ForL X k body (xs.map f) (g b l) (.rt (ret (untilF step stop xs b))))
  | [], b, l, _, _ => ⟨fun _ => .nil, fun h => by cases h⟩
  | x :: xs, b, l, h1, h2 => by
    have ih := forL_until g step stop ret xs (step b x) (some (f x)) (fun b l y hy => h1 b l y (List.mem_cons_of_mem _ hy)) (fun b l y hy => h2 b l y (List.mem_cons_of_mem _ hy))
    unfold stopsF untilF
    cases hs : stop (step b x) with
    | true =>
      refine ⟨fun h => (by cases h), fun _ => ?_⟩
      rw [if_pos rfl]
      exact .ret (h2 b l x List.mem_cons_self hs)
    | false =>
      rw [if_neg (by decide), Bool.false_or]
      exact ⟨fun h => .cons (h1 b l x List.mem_cons_self hs) (ih.1 h), fun h => .cons (h1 b l x List.mem_cons_self hs) (ih.2 h)⟩
/-- a for over a list that looks for the first one -/
theorem forL_first {α : Type} {f : α → D} (g : Option D → Sd) (r : D) (pr : α → Bool) : ∀ (xs : List α) (l : Option D),
    (∀ l, ∀ x ∈ xs, pr x = false → SS X body ((g l).set k (some (f x))) (.nx (g (some (f x))))) → (∀ l, ∀ x ∈ xs, pr x = true → SS X body ((g l).set k (some (f x))) (.rt r)) →
    (xs.any pr = false → ForL X k body (xs.map f) (g l) (.nx (g (xs.foldl (fun _ x => some (f x)) l)))) ∧ (xs.any pr = true → ForL X k body (xs.map f) (g l) (.rt r))
  | [], l, _, _ => ⟨fun _ => .nil, fun h => by cases h⟩
  | x :: xs, l, h1, h2 => by
    have ih := forL_first g r pr xs (some (f x)) (fun l y hy => h1 l y (List.mem_cons_of_mem _ hy)) (fun l y hy => h2 l y (List.mem_cons_of_mem _ hy))
    rw [List.any_cons]
    cases hs : pr x with
    | true => exact ⟨fun h => (by cases h), fun _ => .ret (h2 l x List.mem_cons_self hs)⟩
    | false =>
      rw [Bool.false_or]
      exact ⟨fun h => .cons (h1 l x List.mem_cons_self hs) (ih.1 h), fun h => .cons (h1 l x List.mem_cons_self hs) (ih.2 h)⟩
theorem ss_forL_until {α β : Type} {f : α → D} {x : Str} {p2 : Pos} {rest : List Stmt} (g : β → Option D → Sd) (step : β → α → β) (stop : β → Bool) (ret : β → D) {xs : List α} {b : β} {l : Option D} (hp : PassesOwn (model X.prog X.w) X.A X.env X.xe) (hc : X.calm = true) (nd : X.N.Nodup) (hit : EV X e (g b l) (.lst (xs.map f)))
    (h1 : ∀ b l, ∀ x ∈ xs, stop (step b x) = false → SS X body ((g b l).set k (some (f x))) (.nx (g (step b x) (some (f x)))))
    (h2 : ∀ b l, ∀ x ∈ xs, stop (step b x) = true → SS X body ((g b l).set k (some (f x))) (.rt (ret (step b x))))
    (h3 : ∀ b l, SS X rest (g b l) (.rt (ret b)))
    (hi : X.N[k]? = some x := by rfl) (hx : Loc X.env.scope x := by first | exact Or.inl rfl | exact Or.inr rfl) (hf : X.fn x = true ∨ X.env.scope.names.lookup x = some .local := by first | exact .inl rfl | exact .inr rfl)
    (hs : ∀ x, foldedSetIterable e X.env x = pure x := by intro _; rfl) : SS X (.For (.Name x p2) e body [] pos :: rest) (g b l) (.rt (ret (untilF step stop xs b))) := by
  have h := forL_until (X := X) (body := body) (k := k) (f := f) g step stop ret xs b l h1 h2
  cases q : stopsF step stop xs b with
  | true => exact ss_ret (st_forL k hp hc nd hit (h.2 q) hi hx hf hs)
  | false => exact ss_cons (st_forL k hp hc nd hit (h.1 q) hi hx hf hs) (h3 _ _)
theorem ss_forL_first {α : Type} {f : α → D} {x : Str} {p2 : Pos} {rest : List Stmt} (g : Option D → Sd) (r r2 : D) (pr : α → Bool) {xs : List α} {l : Option D} (hp : PassesOwn (model X.prog X.w) X.A X.env X.xe) (hc : X.calm = true) (nd : X.N.Nodup) (hit : EV X e (g l) (.lst (xs.map f)))
    (h1 : ∀ l, ∀ x ∈ xs, pr x = false → SS X body ((g l).set k (some (f x))) (.nx (g (some (f x)))))
    (h2 : ∀ l, ∀ x ∈ xs, pr x = true → SS X body ((g l).set k (some (f x))) (.rt r))
    (h3 : ∀ l, SS X rest (g l) (.rt r2))
    (hi : X.N[k]? = some x := by rfl) (hx : Loc X.env.scope x := by first | exact Or.inl rfl | exact Or.inr rfl) (hf : X.fn x = true ∨ X.env.scope.names.lookup x = some .local := by first | exact .inl rfl | exact .inr rfl)
    (hs : ∀ x, foldedSetIterable e X.env x = pure x := by intro _; rfl) : SS X (.For (.Name x p2) e body [] pos :: rest) (g l) (.rt (if xs.any pr = true then r else r2)) := by
  have h := forL_first (X := X) (body := body) (k := k) (f := f) g r pr xs l h1 h2
  cases q : xs.any pr with
  | true => exact ss_ret (st_forL k hp hc nd hit (h.2 q) hi hx hf hs)
  | false => exact ss_cons (st_forL k hp hc nd hit (h.1 q) hi hx hf hs) (h3 _)
end
end EV

set_option Elab.async false
set_option linter.all false
set_option maxRecDepth 100000
set_option maxHeartbeats 4000000
namespace My
open PySem PySem.Spec PyProof.Rows L2 EV
/-! ### twice the area, the place of a point (k11) -/
theorem six {P : List P4 → Prop} (h3 : ∀ a b c, P [a, b, c]) (h4 : ∀ a b c d, P [a, b, c, d]) (h5 : ∀ a b c d e, P [a, b, c, d, e]) (h6 : ∀ a b c d e f, P [a, b, c, d, e, f]) : ∀ ps : List P4, 3 ≤ ps.length → ps.length ≤ 6 → P ps
  | [a, b, c], _, _ => h3 a b c
  | [a, b, c, d], _, _ => h4 a b c d
  | [a, b, c, d, e], _, _ => h5 a b c d e
  | [a, b, c, d, e, f], _, _ => h6 a b c d e f
  | [], h, _ => by simp at h
  | [_], h, _ => by simp at h
  | [_, _], h, _ => by simp at h
  | _ :: _ :: _ :: _ :: _ :: _ :: _ :: r, _, h => by simp at h
def sidesP (ps : List P4) : List (P4 × P4) := ps.zip (ps.drop 1 ++ ps.take 1)
def twStep (m : Int) (acc : Int × Int) (s : P4 × P4) : Int × Int := (acc.1 + crA m s.1 s.2, acc.2 + crB m s.1 s.2)
def twF (m : Int) (ps : List P4) : Int × Int := (sidesP ps).foldl (twStep m) (0, 0)
theorem cr_shift {m : Int} (hm : OkM m) (p q o : P4) : crA m (p.plus o) (q.plus o) = crA m p q + (crA m p o - crA m q o) ∧ crB m (p.plus o) (q.plus o) = crB m p q + (crB m p o - crB m q o) := by
  have a1 := cr_swap (p := o) (q := q) hm
  have a2 := cr_self hm o
  rw [crA_addL hm, crA_addR hm, crA_addR hm, crB_addL hm, crB_addR hm, crB_addR hm]
  omega
theorem tw_shift {m : Int} (hm : OkM m) (ps : List P4) (l3 : 3 ≤ ps.length) (l6 : ps.length ≤ 6) (o : P4) : twF m (ps.map fun p => p.plus o) = twF m ps := by
  refine six (P := fun ps => twF m (ps.map fun p => p.plus o) = twF m ps) ?_ ?_ ?_ ?_ ps l3 l6 <;> intros <;>
    (refine Prod.ext ?_ ?_ <;> simp [twF, sidesP, twStep, (cr_shift hm _ _ o).1, (cr_shift hm _ _ o).2] <;> omega)

theorem trB_Z {m : Int} (hm : OkM m) (p q r : P4) : Z2 m (trB m p q r) := z2_add (z2_add (crB_Z hm _ _) (crB_Z hm _ _)) (crB_Z hm _ _)
theorem tr_two {m : Int} (p q : P4) (hm : OkM m) : trA m p q p = 0 ∧ trB m p q p = 0 ∧ trA m p q q = 0 ∧ trB m p q q = 0 := by
  have a1 := cr_self hm p
  have a2 := cr_self hm q
  have a3 := cr_swap (p := p) (q := q) hm
  unfold trA trB
  omega
theorem hnd_two {m : Int} (hm : OkM m) (p q : P4) : hnd m p q p = 0 ∧ hnd m p q q = 0 := by
  obtain ⟨h1, h2, h3, h4⟩ := tr_two p q hm
  rw [hnd_tr hm, hnd_tr hm, h1, h2, h3, h4]
  exact ⟨sgn_00 m, sgn_00 m⟩

theorem tri_of {m : Int} {ps : List P4} (h : Tri m ps) {p q r : P4} (hs : [p, q, r].Sublist ps) : hnd m p q r = 1 := by
  have := h.sub hs
  simp [Tri, Pr] at this
  exact this
local macro_rules | `(tactic| walk_at "slx") => `(tactic| repeat (first | exact List.Sublist.slnil | exact List.nil_sublist _ | exact List.Sublist.refl _ | refine List.Sublist.cons₂ _ ?_ | refine List.Sublist.cons _ ?_))
local macro_rules | `(tactic| walk_at "sl3") => `(tactic| first | (refine tri_of (by assumption) ?_; walk_at "slx"; done) | (rw [hnd_rot (by assumption)]; refine tri_of (by assumption) ?_; walk_at "slx"; done) | (rw [hnd_rot (by assumption), hnd_rot (by assumption)]; refine tri_of (by assumption) ?_; walk_at "slx"; done))
theorem side_cases {m : Int} (hm : OkM m) (ps : List P4) (h : Tri m ps) (l3 : 3 ≤ ps.length) (l6 : ps.length ≤ 6) :
    (∀ s ∈ sidesP ps, ∀ r ∈ ps, hnd m s.1 s.2 r = 1 ∨ r = s.1 ∨ r = s.2) ∧ ∀ s ∈ sidesP ps, ∃ r ∈ ps, hnd m s.1 s.2 r = 1 := by
  revert h
  refine six (P := fun ps => Tri m ps → (∀ s ∈ sidesP ps, ∀ r ∈ ps, hnd m s.1 s.2 r = 1 ∨ r = s.1 ∨ r = s.2) ∧ ∀ s ∈ sidesP ps, ∃ r ∈ ps, hnd m s.1 s.2 r = 1) ?_ ?_ ?_ ?_ ps l3 l6
  · intro a b c h
    refine ⟨fun s hs r hr => ?_, fun s hs => ?_⟩
    · simp [sidesP] at hs
      simp at hr
      rcases hs with rfl | rfl | rfl <;> rcases hr with rfl | rfl | rfl <;> first | exact .inr (.inl rfl) | exact .inr (.inr rfl) | (refine .inl ?_; dsimp only; walk_at "sl3")
    · simp [sidesP] at hs
      rcases hs with rfl | rfl | rfl
      · exact ⟨c, by simp, by dsimp only; walk_at "sl3"⟩
      · exact ⟨a, by simp, by dsimp only; walk_at "sl3"⟩
      · exact ⟨b, by simp, by dsimp only; walk_at "sl3"⟩
  · intro a b c d h
    refine ⟨fun s hs r hr => ?_, fun s hs => ?_⟩
    · simp [sidesP] at hs
      simp at hr
      rcases hs with rfl | rfl | rfl | rfl <;> rcases hr with rfl | rfl | rfl | rfl <;> first | exact .inr (.inl rfl) | exact .inr (.inr rfl) | (refine .inl ?_; dsimp only; walk_at "sl3")
    · simp [sidesP] at hs
      rcases hs with rfl | rfl | rfl | rfl
      · exact ⟨c, by simp, by dsimp only; walk_at "sl3"⟩
      · exact ⟨a, by simp, by dsimp only; walk_at "sl3"⟩
      · exact ⟨a, by simp, by dsimp only; walk_at "sl3"⟩
      · exact ⟨b, by simp, by dsimp only; walk_at "sl3"⟩
  · intro a b c d e h
    refine ⟨fun s hs r hr => ?_, fun s hs => ?_⟩
    · simp [sidesP] at hs
      simp at hr
      rcases hs with rfl | rfl | rfl | rfl | rfl <;> rcases hr with rfl | rfl | rfl | rfl | rfl <;> first | exact .inr (.inl rfl) | exact .inr (.inr rfl) | (refine .inl ?_; dsimp only; walk_at "sl3")
    · simp [sidesP] at hs
      rcases hs with rfl | rfl | rfl | rfl | rfl
      · exact ⟨c, by simp, by dsimp only; walk_at "sl3"⟩
      · exact ⟨a, by simp, by dsimp only; walk_at "sl3"⟩
      · exact ⟨a, by simp, by dsimp only; walk_at "sl3"⟩
      · exact ⟨a, by simp, by dsimp only; walk_at "sl3"⟩
      · exact ⟨b, by simp, by dsimp only; walk_at "sl3"⟩
  · intro a b c d e f h
    refine ⟨fun s hs r hr => ?_, fun s hs => ?_⟩
    · simp [sidesP] at hs
      simp at hr
      rcases hs with rfl | rfl | rfl | rfl | rfl | rfl <;> rcases hr with rfl | rfl | rfl | rfl | rfl | rfl <;> first | exact .inr (.inl rfl) | exact .inr (.inr rfl) | (refine .inl ?_; dsimp only; walk_at "sl3")
    · simp [sidesP] at hs
      rcases hs with rfl | rfl | rfl | rfl | rfl | rfl
      · exact ⟨c, by simp, by dsimp only; walk_at "sl3"⟩
      · exact ⟨a, by simp, by dsimp only; walk_at "sl3"⟩
      · exact ⟨a, by simp, by dsimp only; walk_at "sl3"⟩
      · exact ⟨a, by simp, by dsimp only; walk_at "sl3"⟩
      · exact ⟨a, by simp, by dsimp only; walk_at "sl3"⟩
      · exact ⟨b, by simp, by dsimp only; walk_at "sl3"⟩
/-! the least -/
def minI : List Int → Int
  | [] => 0
  | [x] => x
  | x :: y :: r => min x (minI (y :: r))
theorem minI_ok : ∀ {l : List Int}, l ≠ [] → minI l ∈ l ∧ ∀ z ∈ l, minI l ≤ z
  | [], h => absurd rfl h
  | [x], _ => by simp [minI]
  | x :: y :: r, _ => by
    obtain ⟨h1, h2⟩ := minI_ok (l := y :: r) (by simp)
    have e : minI (x :: y :: r) = min x (minI (y :: r)) := rfl
    rw [e]
    rcases Int.le_total x (minI (y :: r)) with c | c
    · rw [Int.min_eq_left c]
      refine ⟨by simp, fun z hz => ?_⟩
      rcases List.mem_cons.mp hz with rfl | hz
      · exact Int.le_refl _
      · exact Int.le_trans c (h2 z hz)
    · rw [Int.min_eq_right c]
      refine ⟨List.mem_cons_of_mem _ h1, fun z hz => ?_⟩
      rcases List.mem_cons.mp hz with rfl | hz
      · exact c
      · exact h2 z hz
theorem minI_of {l : List Int} {M : Int} (h1 : M ∈ l) (h2 : ∀ z ∈ l, M ≤ z) : minI l = M := by
  obtain ⟨a, b⟩ := minI_ok (l := l) (by intro e; rw [e] at h1; cases h1)
  exact Int.le_antisymm (b M h1) (h2 _ a)
theorem minI_same {l k : List Int} (h : ∀ x, x ∈ l ↔ x ∈ k) (hl : l ≠ []) : minI l = minI k := by
  obtain ⟨a, b⟩ := minI_ok hl
  exact (minI_of ((h _).mp a) fun z hz => b z ((h z).mpr hz)).symm
/-- the least hand -/
def whF (m : Int) (ps : List P4) (p : P4) : Int := minI ((sidesP ps).map fun s => hnd m s.1 s.2 p)
theorem sides_ne {ps : List P4} (h : ps ≠ []) : sidesP ps ≠ [] := by
  match ps, h with
  | a :: r, _ => cases r <;> simp [sidesP]

/-! widened -/
def P4.wid (k : Int) (p : P4) : P4 := ⟨k * p.a, k * p.b, k * p.c, k * p.d⟩
theorem cr_widL {m k : Int} (hm : OkM m) (p q : P4) : crA m (p.wid k) q = k * crA m p q ∧ crB m (p.wid k) q = k * crB m p q := by
  obtain ⟨a, b, c, d⟩ := p
  obtain ⟨e, f, g, h⟩ := q
  rcases hm with rfl | rfl | rfl | rfl | rfl <;> (refine ⟨?_, ?_⟩ <;> (simp [P4.wid, crA, crB, tA, tB, tX, tY, nA, nB, sqP, sqQ]; try grind))
theorem cr_widR {m k : Int} (hm : OkM m) (p q : P4) : crA m p (q.wid k) = k * crA m p q ∧ crB m p (q.wid k) = k * crB m p q := by
  have h1 := cr_swap (p := q.wid k) (q := p) hm
  have h2 := cr_widL (k := k) hm q p
  have h3 := cr_swap (p := q) (q := p) hm
  rw [h1.1, h1.2, h2.1, h2.2, h3.1, h3.2]
  exact ⟨(Int.mul_neg ..).symm, (Int.mul_neg ..).symm⟩
theorem sgn_k {m k a b : Int} (hm : OkM m) (hb : Z2 m b) (hk : 0 < k) : sgn m (k * a) (k * b) = sgn m a b := by
  have e := sgn_mul (a := k) (b := 0) (c := a) (d := b) hm (fun _ => rfl) hb
  have e1 : sgn m k 0 = 1 := by unfold sgn; rw [Int.mul_zero, Int.add_zero, sn_b0]; unfold Mt.sg; rw [if_pos (by omega)]
  rw [e1, Int.one_mul] at e
  rw [← e]
  rcases hm with rfl | rfl | rfl | rfl | rfl
  · obtain rfl := hb (by decide); simp [tA, tB, tX, tY, nA, nB, sqP, sqQ]
  · obtain rfl := hb (by decide); simp [tA, tB, tX, tY, nA, nB, sqP, sqQ]
  all_goals simp [tA, tB, tX, tY, nA, nB, sqP, sqQ]
theorem sides_nn {m : Int} (hm : OkM m) (ps : List P4) (h : Tri m ps) (l3 : 3 ≤ ps.length) (l6 : ps.length ≤ 6) : ∀ s ∈ sidesP ps, ∀ r ∈ ps, 0 ≤ hnd m s.1 s.2 r := fun s hs r hr => by
  rcases (side_cases hm ps h l3 l6).1 s hs r hr with e | e | e
  · rw [e]; decide
  · rw [e, (hnd_two hm _ _).1]; decide
  · rw [e, (hnd_two hm _ _).2]; decide
end My

set_option Elab.async false
set_option linter.all false
set_option maxRecDepth 100000
set_option maxHeartbeats 4000000
namespace My
open PySem PySem.Spec PyProof.Rows L2 EV
/-! ### apart (k12) -/
def below (m : Int) (os : List P4) (s : P4 × P4) : Bool := os.all fun r => decide (hnd m s.1 s.2 r < 1)
def agF (m : Int) (one other : List P4) : Bool := (sidesP one).any (below m other)
def apF (m : Int) (one other : List P4) : Bool := agF m one other || agF m other one
theorem hnd_wid {m k : Int} (hm : OkM m) (hk : 0 < k) (p q r : P4) : hnd m (p.wid k) (q.wid k) (r.wid k) = hnd m p q r := by
  rw [hnd_tr hm, hnd_tr hm, ← sgn_k (k := k * k) (a := trA m p q r) (b := trB m p q r) hm (trB_Z hm _ _ _) (Int.mul_pos hk hk)]
  unfold trA trB
  simp only [(cr_widL hm _ _).1, (cr_widL hm _ _).2, (cr_widR hm _ _).1, (cr_widR hm _ _).2]
  congr 1 <;> grind
theorem Pr_wid {m k : Int} (hm : OkM m) (hk : 0 < k) {p : P4} : ∀ {ps : List P4}, Pr m p ps → Pr m (p.wid k) (ps.map (P4.wid k))
  | [], _ => True.intro
  | q :: qs, h => ⟨fun r hr => by
      obtain ⟨x, hx, rfl⟩ := List.mem_map.mp hr
      rw [hnd_wid hm hk]
      exact h.1 x hx, Pr_wid hm hk h.2⟩
theorem Tri_wid {m k : Int} (hm : OkM m) (hk : 0 < k) : ∀ {ps : List P4}, Tri m ps → Tri m (ps.map (P4.wid k))
  | [], _ => True.intro
  | _ :: _, h => ⟨Pr_wid hm hk h.1, Tri_wid hm hk h.2⟩
end My

set_option Elab.async false
set_option linter.all false
set_option maxRecDepth 100000
set_option maxHeartbeats 4000000
namespace HT2
open PySem PySem.Spec PyProof.Rows L2
open PySem.SeqAt
open PySem.AutoSeq1 (wpAny_loadPart')
open PySem.MeetsSeq PySem.MeetsSeq2 PySem.MeetsSeq3
/-- two things compared: whether they are the same, else whether the one is less -/
structure Two (op : CmpOp) (A : Around) (s : Shared) (y x : Value) (e l : Bool) : Prop where
  eq : EqAt A s y x e
  lt : ∀ (prog : Program) (w : World) (E : Value → Shared → Prop) (Q : Value → Shared → Prop), Q (.bool l) s → wpAny (model prog w) A (richCompare op y x) Q E s
/-- pair by pair -/
def lexB : List (Bool × Bool) → Bool
  | [] => false
  | (e, l) :: r => if e = true then lexB r else l
inductive Twos (op : CmpOp) (A : Around) (s : Shared) : List Value → List Value → List (Bool × Bool) → Prop where
  | nil : Twos op A s [] [] []
  | cons {y x : Value} {e l : Bool} {vs ws : List Value} {bs : List (Bool × Bool)} : Two op A s y x e l → Twos op A s vs ws bs → Twos op A s (y :: vs) (x :: ws) ((e, l) :: bs)
theorem Twos.len {op : CmpOp} {A : Around} {s : Shared} : ∀ {vs ws : List Value} {bs : List (Bool × Bool)}, Twos op A s vs ws bs → vs.length = ws.length
  | _, _, _, .nil => rfl
  | _, _, _, .cons _ h => by rw [List.length_cons, List.length_cons, Twos.len h]
theorem tuple_lt_two (l b : Addr) (items items2 : Array Value) (n n2 : Nat) (dd dd2 : Option Addr) (sl sl2 : Array (Option Value)) (bs : List (Bool × Bool)) :
    Meets (Builtin.«tuple.__lt__» ⟨[.ref l, .ref b], []⟩)
      (fun A R s => s.heap.get? l = some { cls := .type "tuple", dict := dd, data := .seq items n, slots := sl } ∧ s.heap.get? b = some { cls := .type "tuple", dict := dd2, data := .seq items2 n2, slots := sl2 } ∧
        Twos .Lt A.in1 s items.toList items2.toList bs ∧ R (.ok (.ret (.bool (lexB bs)))) s) :=
  .of_wp fun prog w A R s h => by
    obtain ⟨hp, g, d, tk, os⟩ := s; obtain ⟨hl, hb, ht, h⟩ := h
    have f2 := AutoSeq1.sub_tuple_tuple
    have z1 : items.size = items2.size := by have := ht.len; simpa using this
    wp_walk using wpAny_loadPart' hl, wpAny_loadPart' hb, wpAny_forIn_list _ (fun rest b s' => b.1 = none ∧ s' = ⟨hp, g, d, tk, os⟩ ∧ ∃ (vs ws : List Value) (bs' : List (Bool × Bool)), rest = vs.zip ws ∧
      Twos .Lt A.in1 ⟨hp, g, d, tk, os⟩ vs ws bs' ∧ R (.ok (.ret (.bool (lexB bs')))) ⟨hp, g, d, tk, os⟩) _
    case turn =>
      rintro ⟨y, x⟩ rest b s' ⟨hb', rfl, vs, ws, bs', hz, htw, hR⟩
      cases htw with
      | nil => cases hz
      | @cons y' x' e l vs' ws' bs'' h2 hr =>
        rw [List.zip_cons_cons] at hz
        injection hz with hyx hrest
        injection hyx with hy hx
        subst hy hx
        unfold lexB at hR
        refine wpAny_bind (h2.eq prog w _ _ ?_)
        cases e with
        | true =>
          rw [if_pos rfl] at hR
          wp_walk
          exact ⟨rfl, rfl, _, _, _, hrest, hr, hR⟩
        | false =>
          rw [if_neg Bool.false_ne_true] at hR
          have hri := h2.lt prog w
          wp_walk using hri
          exact ⟨_, rfl, by simpa using hR⟩
    case fin =>
      rintro ⟨b1, b2⟩ s' ⟨hb', rfl, vs, ws, bs', hz, htw, hR⟩
      simp only at hb'
      subst hb'
      have hv : lexB bs' = decide (items.size < items2.size) := by
        cases htw with
        | nil => rw [z1]; exact (decide_eq_false (Nat.lt_irrefl _)).symm
        | cons _ _ => rw [List.zip_cons_cons] at hz; cases hz
      rw [hv] at hR
      wp_walk
      exact ⟨_, rfl, by simpa [Builtin.Tuple.tupleCompareSizes] using hR⟩
    case h =>
      exact ⟨rfl, rfl, items.toList, items2.toList, bs, rfl, ht, h⟩
theorem tuple_gt_two (l b : Addr) (items items2 : Array Value) (n n2 : Nat) (dd dd2 : Option Addr) (sl sl2 : Array (Option Value)) (bs : List (Bool × Bool)) :
    Meets (Builtin.«tuple.__gt__» ⟨[.ref l, .ref b], []⟩)
      (fun A R s => s.heap.get? l = some { cls := .type "tuple", dict := dd, data := .seq items n, slots := sl } ∧ s.heap.get? b = some { cls := .type "tuple", dict := dd2, data := .seq items2 n2, slots := sl2 } ∧
        Twos .Gt A.in1 s items.toList items2.toList bs ∧ R (.ok (.ret (.bool (lexB bs)))) s) :=
  .of_wp fun prog w A R s h => by
    obtain ⟨hp, g, d, tk, os⟩ := s; obtain ⟨hl, hb, ht, h⟩ := h
    have f2 := AutoSeq1.sub_tuple_tuple
    have z1 : items.size = items2.size := by have := ht.len; simpa using this
    wp_walk using wpAny_loadPart' hl, wpAny_loadPart' hb, wpAny_forIn_list _ (fun rest b s' => b.1 = none ∧ s' = ⟨hp, g, d, tk, os⟩ ∧ ∃ (vs ws : List Value) (bs' : List (Bool × Bool)), rest = vs.zip ws ∧
      Twos .Gt A.in1 ⟨hp, g, d, tk, os⟩ vs ws bs' ∧ R (.ok (.ret (.bool (lexB bs')))) ⟨hp, g, d, tk, os⟩) _
    case turn =>
      rintro ⟨y, x⟩ rest b s' ⟨hb', rfl, vs, ws, bs', hz, htw, hR⟩
      cases htw with
      | nil => cases hz
      | @cons y' x' e l vs' ws' bs'' h2 hr =>
        rw [List.zip_cons_cons] at hz
        injection hz with hyx hrest
        injection hyx with hy hx
        subst hy hx
        unfold lexB at hR
        refine wpAny_bind (h2.eq prog w _ _ ?_)
        cases e with
        | true =>
          rw [if_pos rfl] at hR
          wp_walk
          exact ⟨rfl, rfl, _, _, _, hrest, hr, hR⟩
        | false =>
          rw [if_neg Bool.false_ne_true] at hR
          have hri := h2.lt prog w
          wp_walk using hri
          exact ⟨_, rfl, by simpa using hR⟩
    case fin =>
      rintro ⟨b1, b2⟩ s' ⟨hb', rfl, vs, ws, bs', hz, htw, hR⟩
      simp only at hb'
      subst hb'
      have hv : lexB bs' = decide (items2.size < items.size) := by
        cases htw with
        | nil => rw [z1]; exact (decide_eq_false (Nat.lt_irrefl _)).symm
        | cons _ _ => rw [List.zip_cons_cons] at hz; cases hz
      rw [hv] at hR
      wp_walk
      exact ⟨_, rfl, by simpa [Builtin.Tuple.tupleCompareSizes] using hR⟩
    case h =>
      exact ⟨rfl, rfl, items.toList, items2.toList, bs, rfl, ht, h⟩

def opOf (gt : Bool) : CmpOp := if gt = true then .Gt else .Lt
def cmpI (gt : Bool) (a c : Int) : Bool := if gt = true then decide (c < a) else decide (a < c)
theorem two_int (gt : Bool) (A : Around) (s : Shared) (a : Int) (t : Tok) (c : Int) (u : Tok) : Two (opOf gt) A s (.int a t) (.int c u) (a == c) (cmpI gt a c) := by
  refine ⟨SeqAt.EqAt.int_int a t c u, fun prog w E Q h => ?_⟩
  cases gt with
  | false => exact (PyProof.Rows.lt_int h : wpAny (model prog w) A (compareOp .Lt (.int a t) (.int c u)) Q E s)
  | true => exact (PyProof.Rows.gt_int h : wpAny (model prog w) A (compareOp .Gt (.int a t) (.int c u)) Q E s)
theorem two_tup {gt : Bool} {A : Around} {s : Shared} {l b : Addr} {o o2 : Obj} {items items2 : Array Value} {n n2 : Nat} {e : Bool} {bs : List (Bool × Bool)} (ho : s.heap.get? l = some o) (hc : o.cls = .type "tuple") (hd : o.data = .seq items n)
    (ho2 : s.heap.get? b = some o2) (hc2 : o2.cls = .type "tuple") (hd2 : o2.data = .seq items2 n2) (he : EqAt A s (.ref l) (.ref b) e) (ht : Twos (opOf gt) A.in1 s items.toList items2.toList bs) (hu : A.units < cLine) : Two (opOf gt) A s (.ref l) (.ref b) e (lexB bs) := by
  obtain ⟨cls, dd, data, sl⟩ := o
  obtain ⟨cls2, dd2, data2, sl2⟩ := o2
  simp only at hc hd hc2 hd2
  subst hc hd hc2 hd2
  refine ⟨he, fun prog w E Q h => ?_⟩
  cases gt with
  | false =>
    exact richCompare_meets_room (op := .Lt) ⟨_, ho, rfl⟩ ⟨_, ho2, rfl⟩ PySem.F.slot_tuple_lt PySem.F.entry_tuple_lt (PySem.F.args_tuple_lt_2 _ _) (tuple_lt_two l b items items2 n n2 dd dd2 sl sl2 bs)
      ⟨ho, ho2, ht, show Value.bool (lexB bs) ≠ Value.notImplemented ∧ Q (.bool (lexB bs)) s from ⟨(fun x => nomatch x), h⟩⟩ hu
  | true =>
    exact richCompare_meets_room (op := .Gt) ⟨_, ho, rfl⟩ ⟨_, ho2, rfl⟩ PySem.F.slot_tuple_gt PySem.F.entry_tuple_gt (PySem.F.args_tuple_gt_2 _ _) (tuple_gt_two l b items items2 n n2 dd dd2 sl sl2 bs)
      ⟨ho, ho2, ht, show Value.bool (lexB bs) ≠ Value.notImplemented ∧ Q (.bool (lexB bs)) s from ⟨(fun x => nomatch x), h⟩⟩ hu
open EV My
def ltn (gt : Bool) (a b c d : Int) : Bool := lexB [(a == c, cmpI gt a c), (b == d, cmpI gt b d)]
def ltp (gt : Bool) (p q : P4) : Bool := lexB [(eqD (nD p.a p.b) (nD q.a q.b), ltn gt p.a p.b q.a q.b), (eqD (nD p.c p.d) (nD q.c q.d), ltn gt p.c p.d q.c q.d)]
theorem reads_n {h : Heap} {u : Value} {a b : Int} {as : List Addr} (r : Reads h u (toPy (nD a b)) as) : ∃ l o n t1 t2, u = .ref l ∧ h.get? l = some o ∧ o.cls = .type "tuple" ∧ o.data = .seq #[.int a t1, .int b t2] n := by
  cases r with
  | @tuple l o vs n xs as h1 h2 h3 ra =>
    obtain ⟨items⟩ := vs
    cases ra with
    | cons r1 r2 =>
      cases r2 with
      | cons r3 r4 =>
        cases r4
        cases r1
        cases r3
        exact ⟨l, o, n, _, _, rfl, h1, h2, h3⟩
theorem reads_p {h : Heap} {u : Value} {p : P4} {as : List Addr} (r : Reads h u (toPy (P4.D p)) as) : ∃ l o n v1 v2 as1 as2, u = .ref l ∧ h.get? l = some o ∧ o.cls = .type "tuple" ∧ o.data = .seq #[v1, v2] n ∧ Reads h v1 (toPy (nD p.a p.b)) as1 ∧ Reads h v2 (toPy (nD p.c p.d)) as2 := by
  cases r with
  | @tuple l o vs n xs as h1 h2 h3 ra =>
    obtain ⟨items⟩ := vs
    cases ra with
    | cons r1 r2 =>
      cases r2 with
      | cons r3 r4 =>
        cases r4
        exact ⟨l, o, n, _, _, _, _, rfl, h1, h2, h3, r1, r3⟩
theorem two_n (gt : Bool) {A : Around} {s : Shared} {u v : Value} {a b c d : Int} {as bs : List Addr} (ra : Reads s.heap u (toPy (nD a b)) as) (rb : Reads s.heap v (toPy (nD c d)) bs) (hu : A.units + 64 < cLine) : Two (opOf gt) A s u v (eqD (nD a b) (nD c d)) (ltn gt a b c d) := by
  have he := eqAt_reads _ _ A s u v as bs ra rb rfl rfl (room_of_shaped (show shaped (toPy (nD a b)) = true from rfl) hu)
  obtain ⟨l, o, n, t1, t2, rfl, h1, h2, h3⟩ := reads_n ra
  obtain ⟨l', o', n', t1', t2', rfl, g1, g2, g3⟩ := reads_n rb
  exact two_tup h1 h2 h3 g1 g2 g3 he (.cons (two_int gt _ s a t1 c t1') (.cons (two_int gt _ s b t2 d t2') .nil)) (by omega)
theorem two_p (gt : Bool) {A : Around} {s : Shared} {u v : Value} {p q : P4} {as bs : List Addr} (ra : Reads s.heap u (toPy (P4.D p)) as) (rb : Reads s.heap v (toPy (P4.D q)) bs) (hu : A.units + 65 < cLine) : Two (opOf gt) A s u v (eqD (P4.D p) (P4.D q)) (ltp gt p q) := by
  have he := eqAt_reads _ _ A s u v as bs ra rb rfl rfl (room_of_shaped (show shaped (toPy (P4.D p)) = true from rfl) (by omega))
  obtain ⟨l, o, n, v1, v2, as1, as2, rfl, h1, h2, h3, r1, r2⟩ := reads_p ra
  obtain ⟨l', o', n', w1, w2, bs1, bs2, rfl, g1, g2, g3, q1, q2⟩ := reads_p rb
  exact two_tup h1 h2 h3 g1 g2 g3 he (.cons (two_n gt r1 q1 (by show A.units + 1 + 64 < cLine; omega)) (.cons (two_n gt r2 q2 (by show A.units + 1 + 64 < cLine; omega)) .nil)) (by omega)
end HT2

set_option Elab.async false
set_option linter.all false
set_option maxRecDepth 100000
set_option maxHeartbeats 4000000
namespace HT2
open PySem PySem.Spec PyProof.Rows L2
open PySem.SeqAt

section
variable {prog : Program} {w : World} {A : Around} {R : Result → Shared → Prop} {I : Addr} {fp wr : List Addr} {P : Nat → Value → Prop} {St : Nat → Heap → Prop} {E : Value → Shared → Prop}
theorem max_loop_end (W : Walks prog w A.in1 I fp wr 2 P St) (S : Addr) (hSf : S ∉ fp) {s : Shared} {x : Value} {c : Nat} (hst : St 2 s.heap)
    (hS : s.heap.get? S = some { cls := .type "list", dict := none, data := .seq #[x, x] c, slots := #[] })
    (hR : ∀ h' tk, (∀ b o, b ∉ wr → b ≠ S → s.heap.get? b = some o → h'.get? b = some o) → R (.ok (.ret x)) { s with heap := h', toks := tk }) :
    codeAny (model prog w) A (.builtin "max.loop" ⟨[.ref I, .none, .ref S], []⟩) R s := by
  have hSw : S ∉ wr := fun h => hSf (W.sub _ h)
  refine codeAny_builtin F.entry_max_loop ?_
  rw [Around.under_plainId F.plain_max_loop _]
  show wpAny _ A.in1 (seqItems? (.ref S) >>= _) _ _ s
  refine wpAny_bind (wpAny_seqItems hS rfl ?_)
  show wpAny _ A.in1 (tryCatch (pyNext (.ref I)) _ >>= _) _ _ s
  refine wpAny_bind (wpAny_tryCatch (W.done s _ _ hst fun h' tk hk' => ?_))
  have hS' := hk' S _ hSw hS
  show wpAny _ A.in1 (updateSeq S (fun _ => #[]) >>= _) _ _ _
  refine wpAny_bind ?_
  refine wpAny_updateSeq hS' rfl (wpAny_bind (wpAny_letGo (wpAny_pure ?_)))
  exact hR _ tk fun b o hbw hbS e => (Heap.get?_update_other _ _ (Ne.symm hbS)).trans (hk' b o hbw e)
theorem max_loop_mid (W : Walks prog w A.in1 I fp wr 2 P St) (S : Addr) (hSf : S ∉ fp) {s : Shared} {x v : Value} {c : Nat} {l : Bool} (hP : ∀ y, P 1 y → y = v) (hst : St 1 s.heap)
    (hS : s.heap.get? S = some { cls := .type "list", dict := none, data := .seq #[x, x] c, slots := #[] })
    (hc : ∀ s' : Shared, (∀ b o, b ∉ wr → b ≠ S → s.heap.get? b = some o → s'.heap.get? b = some o) → ∀ (E' : Value → Shared → Prop) (Q' : Value → Shared → Prop), Q' (.bool l) s' → wpAny (model prog w) A.in1 (richCompare .Gt v x) Q' E' s')
    (hR : ∀ h' tk, (∀ b o, b ∉ wr → b ≠ S → s.heap.get? b = some o → h'.get? b = some o) → R (.ok (.ret (if l = true then v else x))) { s with heap := h', toks := tk }) :
    codeAny (model prog w) A (.builtin "max.loop" ⟨[.ref I, .none, .ref S], []⟩) R s := by
  have hSw : S ∉ wr := fun h => hSf (W.sub _ h)
  have hname : (toString "max" ++ toString ".loop" : String) = "max.loop" := by decide
  refine codeAny_builtin F.entry_max_loop ?_
  rw [Around.under_plainId F.plain_max_loop _]
  show wpAny _ A.in1 (seqItems? (.ref S) >>= _) _ _ s
  refine wpAny_bind (wpAny_seqItems hS rfl ?_)
  show wpAny _ A.in1 (tryCatch (pyNext (.ref I)) _ >>= _) _ _ s
  refine wpAny_bind (wpAny_tryCatch (W.item 1 s _ _ (by decide) hst fun y h' tk hPy hst' hk' => ?_))
  obtain rfl := hP y hPy
  have hS' := hk' S _ hSw hS
  show wpAny _ A.in1 (tryCatch (holding [y, y] (richCompare .Gt y x >>= _)) _ >>= _) _ _ _
  refine wpAny_bind (wpAny_tryCatch (wpAny_holding (wpAny_bind (hc _ (fun b o hbw hbS e => hk' b o hbw e) _ _ ?_))))
  refine wpAny_bind (wpAny_holding (wpAny_truthy_bool ?_))
  refine wpAny_bind (wpAny_letGo (wpAny_pure ?_))
  cases l with
  | true =>
    simp only [if_true]
    refine wpAny_bind ?_
    refine wpAny_updateSeq hS' rfl (wpAny_bind (wpAny_letGo ?_))
    rw [hname]
    refine wpAny_pure ⟨plainId_quiet F.plain_max_loop _, max_loop_end W S hSf (W.frame _ _ _ hst' fun b hbf o e => ?_) (Heap.get?_update_self _ hS' rfl) fun h'' tk'' hk'' => ?_⟩
    · exact (Heap.get?_update_other _ _ (fun h : S = b => hSf (by rw [h]; exact hbf))).trans e
    · exact hR h'' tk'' fun b o hbw hbS e => hk'' b o hbw hbS ((Heap.get?_update_other _ _ (Ne.symm hbS)).trans (hk' b o hbw e))
  | false =>
    simp only [Bool.false_eq_true, if_false]
    refine wpAny_bind (wpAny_letGo ?_)
    rw [hname]
    refine wpAny_pure ⟨plainId_quiet F.plain_max_loop _, max_loop_end W S hSf hst' hS' fun h'' tk'' hk'' => ?_⟩
    exact hR h'' tk'' fun b o hbw hbS e => hk'' b o hbw hbS (hk' b o hbw e)
theorem max_loop_first (W : Walks prog w A.in1 I fp wr 2 P St) (S : Addr) (hSf : S ∉ fp) {s : Shared} {u v : Value} {c : Nat} {l : Bool} (hP0 : ∀ y, P 0 y → y = u) (hP : ∀ y, P 1 y → y = v) (hst : St 0 s.heap)
    (hS : s.heap.get? S = some { cls := .type "list", dict := none, data := .seq #[] c, slots := #[] })
    (hc : ∀ s' : Shared, (∀ b o, b ∉ wr → b ≠ S → s.heap.get? b = some o → s'.heap.get? b = some o) → ∀ (E' : Value → Shared → Prop) (Q' : Value → Shared → Prop), Q' (.bool l) s' → wpAny (model prog w) A.in1 (richCompare .Gt v u) Q' E' s')
    (hR : ∀ h' tk, (∀ b o, b ∉ wr → b ≠ S → s.heap.get? b = some o → h'.get? b = some o) → R (.ok (.ret (if l = true then v else u))) { s with heap := h', toks := tk }) :
    codeAny (model prog w) A (.builtin "max.loop" ⟨[.ref I, .none, .ref S], []⟩) R s := by
  have hSw : S ∉ wr := fun h => hSf (W.sub _ h)
  have hname : (toString "max" ++ toString ".loop" : String) = "max.loop" := by decide
  refine codeAny_builtin F.entry_max_loop ?_
  rw [Around.under_plainId F.plain_max_loop _]
  show wpAny _ A.in1 (seqItems? (.ref S) >>= _) _ _ s
  refine wpAny_bind (wpAny_seqItems hS rfl ?_)
  show wpAny _ A.in1 (tryCatch (pyNext (.ref I)) _ >>= _) _ _ s
  refine wpAny_bind (wpAny_tryCatch (W.item 0 s _ _ (by decide) hst fun y h' tk hPy hst' hk' => ?_))
  obtain rfl := hP0 y hPy
  have hS' := hk' S _ hSw hS
  show wpAny _ A.in1 (updateSeq S (fun _ => #[y, y]) >>= _) _ _ _
  refine wpAny_bind ?_
  refine wpAny_updateSeq hS' rfl ?_
  rw [hname]
  refine wpAny_pure ⟨plainId_quiet F.plain_max_loop _, max_loop_mid W S hSf hP (W.frame _ _ _ hst' fun b hbf o e => ?_) (Heap.get?_update_self _ hS' rfl) (fun s' ks => hc s' fun b o hbw hbS e => ks b o hbw hbS ?_) fun h'' tk'' hk'' => ?_⟩
  · exact (Heap.get?_update_other _ _ (fun h : S = b => hSf (by rw [h]; exact hbf))).trans e
  · exact (Heap.get?_update_other _ _ (Ne.symm hbS)).trans (hk' b o hbw e)
  · exact hR h'' tk'' fun b o hbw hbS e => hk'' b o hbw hbS ((Heap.get?_update_other _ _ (Ne.symm hbS)).trans (hk' b o hbw e))
theorem max_two_at {s : Shared} {u v : Value} {l : Bool} {Q : Value → Shared → Prop} (hh : A.handled = none)
    (hc : ∀ s' : Shared, (∀ c o, s.heap.get? c = some o → s'.heap.get? c = some o) → ∀ (E' : Value → Shared → Prop) (Q' : Value → Shared → Prop), Q' (.bool l) s' → wpAny (model prog w) A.in1 (richCompare .Gt v u) Q' E' s')
    (h : ∀ h' tk, (∀ c o, s.heap.get? c = some o → h'.get? c = some o) → Q (if l = true then v else u) { s with heap := h', toks := tk }) :
    wpAny (model prog w) A (call (.builtin "max") [u, v]) Q E s := by
  have hname : (toString "max" ++ toString ".loop" : String) = "max.loop" := by decide
  have hT : (s.heap.push { cls := .type "tuple", data := .seq #[u, v] }).IsTuple s.heap.objs.size #[u, v] := ⟨_, Heap.get?_push_size _ rfl, rfl, 0, rfl⟩
  have hsz : (s.heap.push { cls := .type "tuple", data := .seq #[u, v] }).objs.size = s.heap.objs.size + 1 := Heap.size_push ..
  refine call_function_tree F.kind_max F.plain_max F.entry_max (F.args_max2 _ _) ?_
  show wpAny _ A.in1 (Builtin.Builtins.bindParams "max" ["key", "default"] 0 ⟨[], []⟩ >>= _) _ _ s
  refine wpAny_bind (wpAny_of_eq (show Builtin.Builtins.bindParams "max" ["key", "default"] 0 ⟨[], []⟩ = pure [none, none] from rfl) ?_)
  show wpAny _ A.in1 (newTuple [u, v] >>= _) _ _ s
  refine wpAny_bind (wpAny_newObj_type ?_)
  refine wpAny_bind (wpAny_pyIter_tuple hT ?_)
  have W := Walks.tuple (prog := prog) (w := w) (A := A.in1) hh (s.heap.push { cls := .type "tuple", data := .seq #[u, v] }).objs.size s.heap.objs.size (by rw [hsz]; exact Nat.ne_of_lt (Nat.lt_succ_self _)) #[u, v]
  refine wpAny_bind (wpAny_newObj_type ?_)
  rw [hname]
  have old : ∀ (h' : Heap), (∀ b o, b ∉ [(s.heap.push { cls := .type "tuple", data := .seq #[u, v] }).objs.size] → b ≠ ((s.heap.push { cls := .type "tuple", data := .seq #[u, v] }).push { cls := .type "tuple_iterator", data := .fields #[.ref s.heap.objs.size, .int 0 0] }).objs.size → (((s.heap.push { cls := .type "tuple", data := .seq #[u, v] }).push { cls := .type "tuple_iterator", data := .fields #[.ref s.heap.objs.size, .int 0 0] }).push { cls := .type "list", data := .seq #[] }).get? b = some o → h'.get? b = some o) →
      ∀ c o, s.heap.get? c = some o → h'.get? c = some o := fun h' hk c o e => by
    have hlt := Heap.lt_size e
    refine hk c o (fun hm => ?_) (fun hm => ?_) (Heap.get?_push_of_some _ (Heap.get?_push_of_some _ (Heap.get?_push_of_some _ e)))
    · rw [List.mem_singleton.mp hm, hsz] at hlt; exact Nat.lt_irrefl _ (Nat.lt_of_succ_lt hlt)
    · rw [hm, Heap.size_push, hsz] at hlt; exact Nat.lt_irrefl _ (Nat.lt_of_succ_lt (Nat.lt_of_succ_lt hlt))
  refine wpAny_pure ⟨plainId_quiet F.plain_max_loop _, max_loop_first (u := u) (v := v) (l := l) W ((s.heap.push { cls := .type "tuple", data := .seq #[u, v] }).push { cls := .type "tuple_iterator", data := .fields #[.ref s.heap.objs.size, .int 0 0] }).objs.size ?_ (fun y hy => ?_) (fun y hy => ?_) ⟨⟨_, Heap.get?_push_of_some _ (Heap.get?_push_size _ rfl), rfl, rfl⟩, (hT.push _).push _⟩ (Heap.get?_push_size _ rfl) (fun s' hk => hc s' (old _ hk)) fun h' tk hk => h h' tk (old _ hk)⟩
  · intro hm
    have e3 : ((s.heap.push { cls := .type "tuple", data := .seq #[u, v] }).push { cls := .type "tuple_iterator", data := .fields #[.ref s.heap.objs.size, .int 0 0] }).objs.size = s.heap.objs.size + 2 := (Heap.size_push ..).trans (congrArg (· + 1) hsz)
    rw [e3, hsz] at hm
    rcases List.mem_cons.mp hm with e | hm
    · exact absurd e (Nat.ne_of_gt (Nat.lt_succ_self _))
    · have := List.mem_singleton.mp hm
      exact absurd this (Nat.ne_of_gt (Nat.lt_succ_of_lt (Nat.lt_succ_self _)))
  · have hy : some u = some y := hy
    exact (Option.some.inj hy).symm
  · have hy : some v = some y := hy
    exact (Option.some.inj hy).symm
theorem min_loop_end (W : Walks prog w A.in1 I fp wr 2 P St) (S : Addr) (hSf : S ∉ fp) {s : Shared} {x : Value} {c : Nat} (hst : St 2 s.heap)
    (hS : s.heap.get? S = some { cls := .type "list", dict := none, data := .seq #[x, x] c, slots := #[] })
    (hR : ∀ h' tk, (∀ b o, b ∉ wr → b ≠ S → s.heap.get? b = some o → h'.get? b = some o) → R (.ok (.ret x)) { s with heap := h', toks := tk }) :
    codeAny (model prog w) A (.builtin "min.loop" ⟨[.ref I, .none, .ref S], []⟩) R s := by
  have hSw : S ∉ wr := fun h => hSf (W.sub _ h)
  refine codeAny_builtin F.entry_min_loop ?_
  rw [Around.under_plainId F.plain_min_loop _]
  show wpAny _ A.in1 (seqItems? (.ref S) >>= _) _ _ s
  refine wpAny_bind (wpAny_seqItems hS rfl ?_)
  show wpAny _ A.in1 (tryCatch (pyNext (.ref I)) _ >>= _) _ _ s
  refine wpAny_bind (wpAny_tryCatch (W.done s _ _ hst fun h' tk hk' => ?_))
  have hS' := hk' S _ hSw hS
  show wpAny _ A.in1 (updateSeq S (fun _ => #[]) >>= _) _ _ _
  refine wpAny_bind ?_
  refine wpAny_updateSeq hS' rfl (wpAny_bind (wpAny_letGo (wpAny_pure ?_)))
  exact hR _ tk fun b o hbw hbS e => (Heap.get?_update_other _ _ (Ne.symm hbS)).trans (hk' b o hbw e)
theorem min_loop_mid (W : Walks prog w A.in1 I fp wr 2 P St) (S : Addr) (hSf : S ∉ fp) {s : Shared} {x v : Value} {c : Nat} {l : Bool} (hP : ∀ y, P 1 y → y = v) (hst : St 1 s.heap)
    (hS : s.heap.get? S = some { cls := .type "list", dict := none, data := .seq #[x, x] c, slots := #[] })
    (hc : ∀ s' : Shared, (∀ b o, b ∉ wr → b ≠ S → s.heap.get? b = some o → s'.heap.get? b = some o) → ∀ (E' : Value → Shared → Prop) (Q' : Value → Shared → Prop), Q' (.bool l) s' → wpAny (model prog w) A.in1 (richCompare .Lt v x) Q' E' s')
    (hR : ∀ h' tk, (∀ b o, b ∉ wr → b ≠ S → s.heap.get? b = some o → h'.get? b = some o) → R (.ok (.ret (if l = true then v else x))) { s with heap := h', toks := tk }) :
    codeAny (model prog w) A (.builtin "min.loop" ⟨[.ref I, .none, .ref S], []⟩) R s := by
  have hSw : S ∉ wr := fun h => hSf (W.sub _ h)
  have hname : (toString "min" ++ toString ".loop" : String) = "min.loop" := by decide
  refine codeAny_builtin F.entry_min_loop ?_
  rw [Around.under_plainId F.plain_min_loop _]
  show wpAny _ A.in1 (seqItems? (.ref S) >>= _) _ _ s
  refine wpAny_bind (wpAny_seqItems hS rfl ?_)
  show wpAny _ A.in1 (tryCatch (pyNext (.ref I)) _ >>= _) _ _ s
  refine wpAny_bind (wpAny_tryCatch (W.item 1 s _ _ (by decide) hst fun y h' tk hPy hst' hk' => ?_))
  obtain rfl := hP y hPy
  have hS' := hk' S _ hSw hS
  show wpAny _ A.in1 (tryCatch (holding [y, y] (richCompare .Lt y x >>= _)) _ >>= _) _ _ _
  refine wpAny_bind (wpAny_tryCatch (wpAny_holding (wpAny_bind (hc _ (fun b o hbw hbS e => hk' b o hbw e) _ _ ?_))))
  refine wpAny_bind (wpAny_holding (wpAny_truthy_bool ?_))
  refine wpAny_bind (wpAny_letGo (wpAny_pure ?_))
  cases l with
  | true =>
    simp only [if_true]
    refine wpAny_bind ?_
    refine wpAny_updateSeq hS' rfl (wpAny_bind (wpAny_letGo ?_))
    rw [hname]
    refine wpAny_pure ⟨plainId_quiet F.plain_min_loop _, min_loop_end W S hSf (W.frame _ _ _ hst' fun b hbf o e => ?_) (Heap.get?_update_self _ hS' rfl) fun h'' tk'' hk'' => ?_⟩
    · exact (Heap.get?_update_other _ _ (fun h : S = b => hSf (by rw [h]; exact hbf))).trans e
    · exact hR h'' tk'' fun b o hbw hbS e => hk'' b o hbw hbS ((Heap.get?_update_other _ _ (Ne.symm hbS)).trans (hk' b o hbw e))
  | false =>
    simp only [Bool.false_eq_true, if_false]
    refine wpAny_bind (wpAny_letGo ?_)
    rw [hname]
    refine wpAny_pure ⟨plainId_quiet F.plain_min_loop _, min_loop_end W S hSf hst' hS' fun h'' tk'' hk'' => ?_⟩
    exact hR h'' tk'' fun b o hbw hbS e => hk'' b o hbw hbS (hk' b o hbw e)
theorem min_loop_first (W : Walks prog w A.in1 I fp wr 2 P St) (S : Addr) (hSf : S ∉ fp) {s : Shared} {u v : Value} {c : Nat} {l : Bool} (hP0 : ∀ y, P 0 y → y = u) (hP : ∀ y, P 1 y → y = v) (hst : St 0 s.heap)
    (hS : s.heap.get? S = some { cls := .type "list", dict := none, data := .seq #[] c, slots := #[] })
    (hc : ∀ s' : Shared, (∀ b o, b ∉ wr → b ≠ S → s.heap.get? b = some o → s'.heap.get? b = some o) → ∀ (E' : Value → Shared → Prop) (Q' : Value → Shared → Prop), Q' (.bool l) s' → wpAny (model prog w) A.in1 (richCompare .Lt v u) Q' E' s')
    (hR : ∀ h' tk, (∀ b o, b ∉ wr → b ≠ S → s.heap.get? b = some o → h'.get? b = some o) → R (.ok (.ret (if l = true then v else u))) { s with heap := h', toks := tk }) :
    codeAny (model prog w) A (.builtin "min.loop" ⟨[.ref I, .none, .ref S], []⟩) R s := by
  have hSw : S ∉ wr := fun h => hSf (W.sub _ h)
  have hname : (toString "min" ++ toString ".loop" : String) = "min.loop" := by decide
  refine codeAny_builtin F.entry_min_loop ?_
  rw [Around.under_plainId F.plain_min_loop _]
  show wpAny _ A.in1 (seqItems? (.ref S) >>= _) _ _ s
  refine wpAny_bind (wpAny_seqItems hS rfl ?_)
  show wpAny _ A.in1 (tryCatch (pyNext (.ref I)) _ >>= _) _ _ s
  refine wpAny_bind (wpAny_tryCatch (W.item 0 s _ _ (by decide) hst fun y h' tk hPy hst' hk' => ?_))
  obtain rfl := hP0 y hPy
  have hS' := hk' S _ hSw hS
  show wpAny _ A.in1 (updateSeq S (fun _ => #[y, y]) >>= _) _ _ _
  refine wpAny_bind ?_
  refine wpAny_updateSeq hS' rfl ?_
  rw [hname]
  refine wpAny_pure ⟨plainId_quiet F.plain_min_loop _, min_loop_mid W S hSf hP (W.frame _ _ _ hst' fun b hbf o e => ?_) (Heap.get?_update_self _ hS' rfl) (fun s' ks => hc s' fun b o hbw hbS e => ks b o hbw hbS ?_) fun h'' tk'' hk'' => ?_⟩
  · exact (Heap.get?_update_other _ _ (fun h : S = b => hSf (by rw [h]; exact hbf))).trans e
  · exact (Heap.get?_update_other _ _ (Ne.symm hbS)).trans (hk' b o hbw e)
  · exact hR h'' tk'' fun b o hbw hbS e => hk'' b o hbw hbS ((Heap.get?_update_other _ _ (Ne.symm hbS)).trans (hk' b o hbw e))
theorem min_two_at {s : Shared} {u v : Value} {l : Bool} {Q : Value → Shared → Prop} (hh : A.handled = none)
    (hc : ∀ s' : Shared, (∀ c o, s.heap.get? c = some o → s'.heap.get? c = some o) → ∀ (E' : Value → Shared → Prop) (Q' : Value → Shared → Prop), Q' (.bool l) s' → wpAny (model prog w) A.in1 (richCompare .Lt v u) Q' E' s')
    (h : ∀ h' tk, (∀ c o, s.heap.get? c = some o → h'.get? c = some o) → Q (if l = true then v else u) { s with heap := h', toks := tk }) :
    wpAny (model prog w) A (call (.builtin "min") [u, v]) Q E s := by
  have hname : (toString "min" ++ toString ".loop" : String) = "min.loop" := by decide
  have hT : (s.heap.push { cls := .type "tuple", data := .seq #[u, v] }).IsTuple s.heap.objs.size #[u, v] := ⟨_, Heap.get?_push_size _ rfl, rfl, 0, rfl⟩
  have hsz : (s.heap.push { cls := .type "tuple", data := .seq #[u, v] }).objs.size = s.heap.objs.size + 1 := Heap.size_push ..
  refine call_function_tree F.kind_min F.plain_min F.entry_min (F.args_min2 _ _) ?_
  show wpAny _ A.in1 (Builtin.Builtins.bindParams "min" ["key", "default"] 0 ⟨[], []⟩ >>= _) _ _ s
  refine wpAny_bind (wpAny_of_eq (show Builtin.Builtins.bindParams "min" ["key", "default"] 0 ⟨[], []⟩ = pure [none, none] from rfl) ?_)
  show wpAny _ A.in1 (newTuple [u, v] >>= _) _ _ s
  refine wpAny_bind (wpAny_newObj_type ?_)
  refine wpAny_bind (wpAny_pyIter_tuple hT ?_)
  have W := Walks.tuple (prog := prog) (w := w) (A := A.in1) hh (s.heap.push { cls := .type "tuple", data := .seq #[u, v] }).objs.size s.heap.objs.size (by rw [hsz]; exact Nat.ne_of_lt (Nat.lt_succ_self _)) #[u, v]
  refine wpAny_bind (wpAny_newObj_type ?_)
  rw [hname]
  have old : ∀ (h' : Heap), (∀ b o, b ∉ [(s.heap.push { cls := .type "tuple", data := .seq #[u, v] }).objs.size] → b ≠ ((s.heap.push { cls := .type "tuple", data := .seq #[u, v] }).push { cls := .type "tuple_iterator", data := .fields #[.ref s.heap.objs.size, .int 0 0] }).objs.size → (((s.heap.push { cls := .type "tuple", data := .seq #[u, v] }).push { cls := .type "tuple_iterator", data := .fields #[.ref s.heap.objs.size, .int 0 0] }).push { cls := .type "list", data := .seq #[] }).get? b = some o → h'.get? b = some o) →
      ∀ c o, s.heap.get? c = some o → h'.get? c = some o := fun h' hk c o e => by
    have hlt := Heap.lt_size e
    refine hk c o (fun hm => ?_) (fun hm => ?_) (Heap.get?_push_of_some _ (Heap.get?_push_of_some _ (Heap.get?_push_of_some _ e)))
    · rw [List.mem_singleton.mp hm, hsz] at hlt; exact Nat.lt_irrefl _ (Nat.lt_of_succ_lt hlt)
    · rw [hm, Heap.size_push, hsz] at hlt; exact Nat.lt_irrefl _ (Nat.lt_of_succ_lt (Nat.lt_of_succ_lt hlt))
  refine wpAny_pure ⟨plainId_quiet F.plain_min_loop _, min_loop_first (u := u) (v := v) (l := l) W ((s.heap.push { cls := .type "tuple", data := .seq #[u, v] }).push { cls := .type "tuple_iterator", data := .fields #[.ref s.heap.objs.size, .int 0 0] }).objs.size ?_ (fun y hy => ?_) (fun y hy => ?_) ⟨⟨_, Heap.get?_push_of_some _ (Heap.get?_push_size _ rfl), rfl, rfl⟩, (hT.push _).push _⟩ (Heap.get?_push_size _ rfl) (fun s' hk => hc s' (old _ hk)) fun h' tk hk => h h' tk (old _ hk)⟩
  · intro hm
    have e3 : ((s.heap.push { cls := .type "tuple", data := .seq #[u, v] }).push { cls := .type "tuple_iterator", data := .fields #[.ref s.heap.objs.size, .int 0 0] }).objs.size = s.heap.objs.size + 2 := (Heap.size_push ..).trans (congrArg (· + 1) hsz)
    rw [e3, hsz] at hm
    rcases List.mem_cons.mp hm with e | hm
    · exact absurd e (Nat.ne_of_gt (Nat.lt_succ_self _))
    · have := List.mem_singleton.mp hm
      exact absurd this (Nat.ne_of_gt (Nat.lt_succ_of_lt (Nat.lt_succ_self _)))
  · have hy : some u = some y := hy
    exact (Option.some.inj hy).symm
  · have hy : some v = some y := hy
    exact (Option.some.inj hy).symm
end
end HT2

set_option Elab.async false
set_option linter.all false
set_option maxRecDepth 100000
set_option maxHeartbeats 4000000
namespace HT2
open PySem PySem.Spec PyProof.Rows L2 EV My
open PySem.SeqAt PySem.W PySem.Calls
section
variable {prog : Program} {w : World} {A : Around} {E : Value → Shared → Prop} {s : Shared} {a : Addr} {u v : Value} {lt : Bool}
theorem ask2 {κ : SortKind} {Q : Array Nat → Shared → Prop} (h : wpAny (model prog w) A (keyLt' κ v u) (fun b s' => Q (if b = true then #[1, 0] else #[0, 1]) s') (fun _ _ => False) s) : (kas_sort 2).kasWp (kas_ask prog w A κ [u, v]) Q s := by
  have e : (kas_sort 2).kasWp (kas_ask prog w A κ [u, v]) Q s = kas_ask prog w A κ [u, v] 1 0 (fun b s' => Q (if b = true then #[1, 0] else #[0, 1]) s') s := by
    show kas_ask prog w A κ [u, v] 1 0 _ s = _
    congr 1
    funext b s'
    cases b <;> rfl
  rw [e]
  exact h
/-- a list of two, put in order -/
theorem sort_pair {n : Nat} {P : PySem.Fin → Shared → Prop} (ho : s.heap.get? a = some (seqObj "list" #[u, v] n))
    (ask : ∀ h' : Heap, (∀ b o, b ≠ a → s.heap.get? b = some o → h'.get? b = some o) → ∃ κ, (∀ (M : Model) (Q : SortKind → Shared → Prop) (F : Value → Shared → Prop), Q κ { s with heap := h' } → wpAny (model prog w) A (keyKind' #[u, v]) Q F { s with heap := h' }) ∧
      ∀ (Q : Bool → Shared → Prop) (F : Value → Shared → Prop), Q lt { s with heap := h' } → wpAny (model prog w) A (keyLt' κ v u) Q F { s with heap := h' })
    (h : ∀ (h' : Heap) (c : Nat), (∀ b o, b ≠ a → s.heap.get? b = some o → h'.get? b = some o) → h'.get? a = some (seqObj "list" (if lt = true then #[v, u] else #[u, v]) c) → P (.done (.ret .none)) { s with heap := h' }) :
    wpAny (model prog w) A (Builtin.«list.sort» ⟨[.ref a], []⟩) P E s := by
  have hlt : a < s.heap.objs.size := Heap.lt_size ho
  have same1 := Heap.SameBut.update s.heap a (Obj.mapSeq fun _ => (#[] : Array Value))
  obtain ⟨e1, at1⟩ : ∃ e1, (s.heap.update a (Obj.mapSeq fun _ => (#[] : Array Value))).get? a = some (seqObj "list" #[] e1) := ⟨_, get?_update_seq (xs := #[u, v]) ho fun _ => #[]⟩
  have kept1 : ∀ b o, b ≠ a → s.heap.get? b = some o → (((s.heap.update a (Obj.mapSeq fun _ => (#[] : Array Value))).push (seqObj "tuple" #[u, v] 0)).push (seqObj "list" #[] 0)).get? b = some o := fun b o hb e =>
    Heap.get?_push_of_some _ (Heap.get?_push_of_some _ ((same1.2 b hb).trans e))
  obtain ⟨κ, kk, kl⟩ := ask _ kept1
  rw [list_sort_plain]
  refine wpAny_bind (listItems_at ho rfl ?_)
  refine wpAny_bind (listUpdate_at ho rfl ?_ (by show 2 ≤ _; rw [sizeLine_eq]; omega) (Nat.zero_le _))
  refine wpAny_bind (seqEpoch_at at1 rfl ?_)
  refine wpAny_bind (wpAny_newTuple ?_ (by show 2 ≤ _; rw [sizeLine_eq]; omega))
  refine wpAny_bind (wpAny_newList ?_ (Nat.zero_le _))
  refine wpAny_holding ?_
  show wpAny (model prog w) A _ P E { s with heap := ((s.heap.update a (Obj.mapSeq fun _ => (#[] : Array Value))).push (seqObj "tuple" #[u, v] 0)).push (seqObj "list" #[] 0) }
  dsimp only
  have hn2 : ¬ (#[u, v] : Array Value).size < 2 := by show ¬ 2 < 2; omega
  rw [if_neg hn2, if_neg hn2]
  refine wpAny_bind (kk (model prog w) _ _ ?_)
  have goal := kat_run (prog := prog) (w := w) (A := A) (E := E) (s := { s with heap := ((s.heap.update a (Obj.mapSeq fun _ => (#[] : Array Value))).push (seqObj "tuple" #[u, v] 0)).push (seqObj "list" #[] 0) }) (κ := κ) (ks := [u, v]) (vs := [u, v])
    (Q := fun st' s' => s' = { s with heap := ((s.heap.update a (Obj.mapSeq fun _ => (#[] : Array Value))).push (seqObj "tuple" #[u, v] 0)).push (seqObj "list" #[] 0) } ∧ failedOf st' = none ∧ (arrOf st').map (·.2) = if lt = true then #[v, u] else #[u, v])
    (G := fun p s' => s' = { s with heap := ((s.heap.update a (Obj.mapSeq fun _ => (#[] : Array Value))).push (seqObj "tuple" #[u, v] 0)).push (seqObj "list" #[] 0) } ∧ p = if lt = true then #[1, 0] else #[0, 1])
    rfl (Nat.le_refl 2) (by show 2 < 64; decide) (fun p st' s' _ a2 a3 a4 => ⟨a4.1, a3, ?_⟩) (ask2 (kl _ _ ⟨rfl, rfl⟩))
  · refine wpAny_bind (wpAny_mono goal ?_ fun _ _ x => x)
    rintro ⟨⟨⟩, st'⟩ s' ⟨rfl, hf, har⟩
    dsimp only
    have at3 : (((s.heap.update a (Obj.mapSeq fun _ => (#[] : Array Value))).push (seqObj "tuple" #[u, v] 0)).push (seqObj "list" #[] 0)).get? a = some (seqObj "list" #[] e1) := Heap.get?_push_of_some _ (Heap.get?_push_of_some _ at1)
    have hsz : (if lt = true then #[v, u] else #[u, v] : Array Value).size = 2 := by cases lt <;> rfl
    rw [har]
    have same2 := Heap.SameBut.update (((s.heap.update a (Obj.mapSeq fun _ => (#[] : Array Value))).push (seqObj "tuple" #[u, v] 0)).push (seqObj "list" #[] 0)) a (Obj.mapSeq fun _ => if lt = true then #[v, u] else #[u, v])
    refine wpAny_bind (seqEpoch_at at3 rfl ?_)
    refine wpAny_bind (listUpdate_at at3 rfl ?_ (Nat.zero_le _) (Nat.le_trans (Nat.le_of_eq hsz) (by rw [sizeLine_eq]; omega)))
    rw [hf]
    simp only [bne_self_eq_false, Bool.false_eq_true, if_false]
    refine wpAny_pure (h _ _ (fun b o hb e => (same2.2 b hb).trans (kept1 b o hb e)) (get?_update_seq (xs := #[]) at3 fun _ => if lt = true then #[v, u] else #[u, v]))
  · rw [kat_snds (ks := [u, v]) (vs := [u, v]) rfl a2, a4.2]
    cases lt <;> rfl
end
end HT2

set_option Elab.async false
set_option linter.all false
set_option maxRecDepth 100000
set_option maxHeartbeats 4000000
namespace EV
open PySem PySem.Spec PyProof.Rows L2 My HT2
theorem keep_n {h h' : Heap} (k : ∀ b o, h.get? b = some o → h'.get? b = some o) {u : Value} {a b : Int} {as : List Addr} (r : Reads h u (toPy (nD a b)) as) : ∃ as', Reads h' u (toPy (nD a b)) as' := by
  obtain ⟨l, o, n, t1, t2, rfl, h1, h2, h3⟩ := reads_n r
  exact ⟨_, .tuple (k _ _ h1) h2 h3 (.cons (.int a t1) (.cons (.int b t2) .nil))⟩
theorem keep_p {h h' : Heap} (k : ∀ b o, h.get? b = some o → h'.get? b = some o) {u : Value} {p : P4} {as : List Addr} (r : Reads h u (toPy (P4.D p)) as) : ∃ as', Reads h' u (toPy (P4.D p)) as' := by
  obtain ⟨l, o, n, v1, v2, as1, as2, rfl, h1, h2, h3, r1, r2⟩ := reads_p r
  obtain ⟨cs, q1⟩ := keep_n k r1
  obtain ⟨ds, q2⟩ := keep_n k r2
  exact ⟨_, .tuple (k _ _ h1) h2 h3 (.cons q1 (.cons q2 .nil))⟩
section
variable {X : Cx} {e a b : Expr} {δ : Sd} {ds : List D} {pp pos : Pos} {k : Nat} {p q : P4} {d d1 d2 : D}
/-- min(p, q), max(p, q) of two points -/
theorem call_minP (hc : X.calm = true) (hr : Room k X.A) : CallR X (.builtin "min") (fun xs H Q => ∃ x y, xs = [x, y] ∧ Is X.K H (P4.D p) x ∧ Is X.K H (P4.D q) y ∧ Q (if ltp false q p = true then y else x) H) := by
  intro pins s σ H xs us Q I r h
  obtain ⟨x, y, rfl, hx, hy, kq⟩ := h
  obtain ⟨u, v, rfl, rx, ry⟩ := vals2 r
  obtain ⟨as, ra⟩ := Is.reads I (P4.D p) hx rx rfl
  obtain ⟨bs, rb⟩ := Is.reads I (P4.D q) hy ry rfl
  have hu := hr.un
  refine min_two_at (l := ltp false q p) (I.ok.hd hc) (fun s' kp E' Q' hq => ?_) fun h' tk kp => ?_
  · obtain ⟨as', ra'⟩ := keep_p kp ra
    obtain ⟨bs', rb'⟩ := keep_p kp rb
    exact (two_p false (A := X.A.in1) rb' ra' (by show X.A.units + 1 + 65 < cLine; omega)).lt X.prog X.w E' Q' hq
  · refine ⟨if ltp false q p = true then y else x, H, I.kept kp, ?_, kq⟩
    cases ltp false q p
    · exact rx
    · exact ry
theorem call_maxP (hc : X.calm = true) (hr : Room k X.A) : CallR X (.builtin "max") (fun xs H Q => ∃ x y, xs = [x, y] ∧ Is X.K H (P4.D p) x ∧ Is X.K H (P4.D q) y ∧ Q (if ltp true q p = true then y else x) H) := by
  intro pins s σ H xs us Q I r h
  obtain ⟨x, y, rfl, hx, hy, kq⟩ := h
  obtain ⟨u, v, rfl, rx, ry⟩ := vals2 r
  obtain ⟨as, ra⟩ := Is.reads I (P4.D p) hx rx rfl
  obtain ⟨bs, rb⟩ := Is.reads I (P4.D q) hy ry rfl
  have hu := hr.un
  refine max_two_at (l := ltp true q p) (I.ok.hd hc) (fun s' kp E' Q' hq => ?_) fun h' tk kp => ?_
  · obtain ⟨as', ra'⟩ := keep_p kp ra
    obtain ⟨bs', rb'⟩ := keep_p kp rb
    exact (two_p true (A := X.A.in1) rb' ra' (by show X.A.units + 1 + 65 < cLine; omega)).lt X.prog X.w E' Q' hq
  · refine ⟨if ltp true q p = true then y else x, H, I.kept kp, ?_, kq⟩
    cases ltp true q p
    · exact rx
    · exact ry
def mnP (p q : P4) : P4 := if ltp false q p = true then q else p
def mxP (p q : P4) : P4 := if ltp true q p = true then q else p
theorem ev_minP (hc : X.calm = true) (hr : Room k X.A) (hg : Gl X "min") (hm : X.mg "min" = none) (ha : EA X [a, b] δ [P4.D p, P4.D q]) (he : starEach [a, b] X.env = (false, eval a X.env) :: starEach [b] X.env := by exact star_of rfl) (hpl : (backTo pos (starEach [b] X.env)).any (·.1) = false := by exact plain_of rfl) :
    EV X (.Call (.Name "min" pp) [a, b] [] pos) δ (P4.D (mnP p q)) :=
  ev_callB (call_minP (p := p) (q := q) hc hr) hg hm (by rfl) ha (fun vs H Q h k => by
    obtain ⟨v, w, rfl, q1, q2⟩ := isL_two h
    refine ⟨v, w, rfl, q1, q2, k _ H (Same.refl H) ?_⟩
    unfold mnP
    cases ltp false q p
    · exact q1
    · exact q2) (he := he) (hpl := hpl)
theorem ev_maxP (hc : X.calm = true) (hr : Room k X.A) (hg : Gl X "max") (hm : X.mg "max" = none) (ha : EA X [a, b] δ [P4.D p, P4.D q]) (he : starEach [a, b] X.env = (false, eval a X.env) :: starEach [b] X.env := by exact star_of rfl) (hpl : (backTo pos (starEach [b] X.env)).any (·.1) = false := by exact plain_of rfl) :
    EV X (.Call (.Name "max" pp) [a, b] [] pos) δ (P4.D (mxP p q)) :=
  ev_callB (call_maxP (p := p) (q := q) hc hr) hg hm (by rfl) ha (fun vs H Q h k => by
    obtain ⟨v, w, rfl, q1, q2⟩ := isL_two h
    refine ⟨v, w, rfl, q1, q2, k _ H (Same.refl H) ?_⟩
    unfold mxP
    cases ltp true q p
    · exact q1
    · exact q2) (he := he) (hpl := hpl)
/-- x not in a list -/
def inD (d : D) (ds : List D) : Bool := (toPyL ds).any fun y => PyData.eqv y (toPy d)
theorem op_notinD (hr : Room k X.A) : OpR X (compareOp .NotIn) (fun x y H Q => Is X.K H d x ∧ Is X.K H (.lst ds) y ∧ shD d = true ∧ shD (.lst ds) = true ∧ Q (.bl (!inD d ds)) H) := by
  intro pins s σ H x y u v Q I rx ry ⟨h1, h2, c1, c2, kq⟩
  obtain ⟨as, ra⟩ := Is.reads I d h1 rx (SeqAt.canLay_of_shaped c1)
  obtain ⟨bs, rb⟩ := Is.reads I (.lst ds) h2 ry (SeqAt.canLay_of_shaped c2)
  have hu := hr.un
  have cl := SeqAt.canLay_of_shaped c2
  refine SeqAt.notIn_list_reads (xs := toPyL ds) rb ra cl (SeqAt.canLay_of_shaped c1) (room_in_shaped c1 (by omega)) ⟨.bl (!inD d ds), H, I, rfl, kq⟩
theorem et_notin (hr : Room k X.A) (ha : EV X a δ d) (hb : EV X b δ (.lst ds)) (c1 : shD d = true := by rfl) (c2 : shD (.lst ds) = true := by rfl) (hm : behindInMarks .NotIn b = false := by rfl) : ET X (.Compare a [.NotIn] [b] pos) δ (!inD d ds) :=
  ET_imp (pt_cmpR (op_notinD hr) ha.run hb.run hm) fun _ H Q ⟨S, q⟩ => ⟨S, fun v H1 s1 r1 => ⟨S.mono s1, fun w H2 s2 r2 => ⟨Is.mono s2 d r1, r2, c1, c2, _, rfl, q H2 (s1.trans s2)⟩⟩⟩
theorem op_isNT : OpR X (compareOp .Is) (fun x y H Q => Is X.K H (.tup ds) x ∧ y = .non ∧ Q (.bl false) H) := by
  intro pins s σ H x y u v Q I rx ry ⟨h1, h2, kq⟩
  subst h2
  cases ry
  unfold Is at h1
  obtain ⟨l, xs, rfl, z, il⟩ := h1
  cases rx
  exact wpAny_is_plain (by rfl) (fin_bl I kq rfl)
theorem op_isNN : OpR X (compareOp .Is) (fun x y H Q => x = .non ∧ y = .non ∧ Q (.bl true) H) := by
  intro pins s σ H x y u v Q I rx ry ⟨h1, h2, kq⟩
  subst h1
  subst h2
  cases rx
  cases ry
  exact wpAny_is_plain (by rfl) (fin_bl I kq rfl)
theorem et_isNT (ha : EV X a δ (.tup ds)) (hb : EV X b δ .non) : ET X (.Compare a [.Is] [b] pos) δ false :=
  ET_imp (pt_cmpR op_isNT ha.run hb.run (nomark b)) fun _ H Q ⟨S, q⟩ => ⟨S, fun x H1 s1 r1 => ⟨S.mono s1, fun y H2 s2 r2 => ⟨Is.mono s2 _ r1, by unfold Is at r2; exact r2, _, rfl, q H2 (s1.trans s2)⟩⟩⟩
theorem et_isNN (ha : EV X a δ .non) (hb : EV X b δ .non) : ET X (.Compare a [.Is] [b] pos) δ true :=
  ET_imp (pt_cmpR op_isNN ha.run hb.run (nomark b)) fun _ H Q ⟨S, q⟩ => ⟨S, fun x H1 s1 r1 => ⟨S.mono s1, fun y H2 s2 r2 => ⟨by unfold Is at r1; exact r1, by unfold Is at r2; exact r2, _, rfl, q H2 (s1.trans s2)⟩⟩⟩

/-- sorted of two points -/
def srt (p q : P4) : List D := if ltp false q p = true then [P4.D q, P4.D p] else [P4.D p, P4.D q]
theorem lexP_lt {A : Around} {s : Shared} {l b : Addr} {o o2 : Obj} {v1 v2 w1 w2 : Value} {n n2 : Nat} {a1 a2 b1 b2 : List Addr} (hd : o.data = .seq #[v1, v2] n) (hd2 : o2.data = .seq #[w1, w2] n2) (ho : s.heap.get? l = some o) (ho2 : s.heap.get? b = some o2)
    (r1 : Reads s.heap v1 (toPy (nD q.a q.b)) a1) (r2 : Reads s.heap v2 (toPy (nD q.c q.d)) a2) (q1 : Reads s.heap w1 (toPy (nD p.a p.b)) b1) (q2 : Reads s.heap w2 (toPy (nD p.c p.d)) b2) (hu : A.units + 65 < cLine) {prog : Program} {w : World} {Q : Bool → Shared → Prop} {F : Value → Shared → Prop} (hq : Q (ltp false q p) s) :
    wpAny (model prog w) A (keyLt' (tuples' false) (.ref l) (.ref b)) Q F s := by
  have t1 := two_n false (A := A) r1 q1 (by omega)
  have t2 := two_n false (A := A) r2 q2 (by omega)
  refine PySem.W.kat_lt ho hd ho2 hd2 ?_
  have ez : (#[v1, v2] : Array Value).toList.zip (#[w1, w2] : Array Value).toList = [(v1, w1), (v2, w2)] := rfl
  rw [ez]
  unfold ltp at hq
  refine PySem.W.kat_cons (t1.eq prog w _ _ ?_)
  unfold lexB at hq
  cases e1 : eqD (nD q.a q.b) (nD p.a p.b) with
  | true =>
    rw [e1, if_pos rfl] at hq
    refine PySem.W.kat_yes (PySem.W.kat_cons (t2.eq prog w _ _ ?_))
    unfold lexB at hq
    cases e2 : eqD (nD q.c q.d) (nD p.c p.d) with
    | true =>
      rw [e2, if_pos rfl] at hq
      exact PySem.W.kat_yes (PySem.W.kat_nil hq)
    | false =>
      rw [e2, if_neg Bool.false_ne_true] at hq
      refine PySem.W.kat_no (PySem.W.kat_one _ _ (t2.lt prog w _ _ hq))
  | false =>
    rw [e1, if_neg Bool.false_ne_true] at hq
    refine PySem.W.kat_no (PySem.W.kat_one _ _ (t1.lt prog w _ _ hq))

theorem kind_p {M : Model} {A : Around} {s : Shared} {l b : Addr} {o o2 : Obj} {v1 v2 w1 w2 : Value} {n n2 : Nat} {a1 b1 : List Addr} {i1 i2 j1 j2 : Int} (ho : s.heap.get? l = some o) (hc : o.cls = .type "tuple") (hd : o.data = .seq #[v1, v2] n) (ho2 : s.heap.get? b = some o2) (hc2 : o2.cls = .type "tuple") (hd2 : o2.data = .seq #[w1, w2] n2)
    (r1 : Reads s.heap v1 (toPy (nD i1 i2)) a1) (q1 : Reads s.heap w1 (toPy (nD j1 j2)) b1) {Q : SortKind → Shared → Prop} {F : Value → Shared → Prop} (hq : Q (tuples' false) s) : wpAny M A (keyKind' #[.ref l, .ref b]) Q F s := by
  obtain ⟨l1, o1, n1, t1, t2, rfl, h1, h2, h3⟩ := reads_n r1
  obtain ⟨l2, o3, n3, t3, t4, rfl, g1, g2, g3⟩ := reads_n q1
  refine PySem.W.kat_kind (vs := [.ref l, .ref b]) (fs := [.ref l1, .ref l2]) (T := .type "tuple") (.cons ho hc hd rfl (.cons ho2 hc2 hd2 rfl .nil)) (by show 0 < 2; decide) (fun v hv => ?_) (by decide) (by rw [show ((Value.type "tuple" != Value.type "tuple") = false) by decide]; exact hq)
  rcases List.mem_cons.mp hv with rfl | hv
  · have := (show PySem.W.Looks M s.heap (typeOf (.ref l1)) o1.cls from (PySem.W.Looks.ld h1).andThen .now)
    rwa [h2] at this
  · obtain rfl := List.mem_singleton.mp hv
    have := (show PySem.W.Looks M s.heap (typeOf (.ref l2)) o3.cls from (PySem.W.Looks.ld g1).andThen .now)
    rwa [g2] at this

theorem sorted_two {prog : Program} {w : World} {A : Around} {E : Value → Shared → Prop} {s : Shared} {l : Addr} {u v : Value} {as bs : List Addr} {Q : Value → Shared → Prop} (hl : s.heap.IsList l #[u, v]) (ru : Reads s.heap u (toPy (P4.D p)) as) (rv : Reads s.heap v (toPy (P4.D q)) bs) (hu : A.units + 70 < cLine)
    (h : ∀ (h' : Heap) (D : Addr) (c : Nat), s.heap.objs.size ≤ D → (∀ b o, s.heap.get? b = some o → h'.get? b = some o) → h'.get? D = some (seqObj "list" (if ltp false q p = true then #[v, u] else #[u, v]) c) → Q (.ref D) { s with heap := h' }) :
    wpAny (model prog w) A (call (.builtin "sorted") [.ref l]) Q E s := by
  refine Calls.call_function_entry kind_sorted plain_sorted entry_sorted (args_sorted1 _) ?_
  unfold Builtin.«sorted»
  refine wpAny_bind (m := checkCount "sorted" 1 1 _) (wpAny_pure ?_)
  refine wpAny_bind (collect_list (vs := [u, v]) hl ?_ (by show 2 ≤ _; rw [sizeLine_eq]; omega))
  refine wpAny_bind (wpAny_newList ?_ (by show 2 ≤ _; rw [sizeLine_eq]; omega))
  have hsz : ((s.heap.push (seqObj "list" #[] 0)).update s.heap.objs.size (Obj.mapSeq (· ++ [u, v].toArray))).objs.size = s.heap.objs.size + 1 := by rw [Heap.size_update, size_push']
  have hoL : (((s.heap.push (seqObj "list" #[] 0)).update s.heap.objs.size (Obj.mapSeq (· ++ [u, v].toArray))).push (seqObj "list" [u, v].toArray 0)).get? (s.heap.objs.size + 1) = some (seqObj "list" #[u, v] 0) := by
    rw [← hsz]; exact Heap.get?_push_size _ rfl
  have kp : ∀ b o, s.heap.get? b = some o → (((s.heap.push (seqObj "list" #[] 0)).update s.heap.objs.size (Obj.mapSeq (· ++ [u, v].toArray))).push (seqObj "list" [u, v].toArray 0)).get? b = some o := fun b o e => by
    have hlt := Heap.lt_size e
    rw [Heap.get?_push_ne _ _ _ (by rw [hsz]; exact Nat.ne_of_lt (Nat.lt_succ_of_lt hlt)), Heap.get?_update_ne _ _ _ _ (Nat.ne_of_lt hlt), Heap.get?_push_ne _ _ _ (Nat.ne_of_lt hlt)]
    exact e
  show wpAny _ _ _ _ _ { s with heap := ((s.heap.push (seqObj "list" #[] 0)).update s.heap.objs.size (Obj.mapSeq (· ++ [u, v].toArray))).push (seqObj "list" [u, v].toArray 0) }
  rw [hsz]
  refine wpAny_bind (wpAny_holding (wpAny_call_entry slot_list_sort ⟨_, hoL, rfl⟩ entry_list_sort ?body (args_list_sort _)))
  case body =>
    refine sort_pair (lt := ltp false q p) hoL (fun h' k' => ?_) fun h' c k' hD => ⟨_, rfl, wpAny_pure ⟨_, rfl, h h' _ c (Nat.le_succ _) (fun b o e => k' b o (Nat.ne_of_lt (Nat.lt_succ_of_lt (Heap.lt_size e))) (kp b o e)) hD⟩⟩
    have k2 : ∀ b o, s.heap.get? b = some o → h'.get? b = some o := fun b o e => k' b o (Nat.ne_of_lt (Nat.lt_succ_of_lt (Heap.lt_size e))) (kp b o e)
    obtain ⟨as', ru'⟩ := keep_p k2 ru
    obtain ⟨bs', rv'⟩ := keep_p k2 rv
    obtain ⟨l1, o1, n1, v1, v2, a1, a2, rfl, h1, h2, h3, r1, r2⟩ := reads_p ru'
    obtain ⟨l2, o2, n2, w1, w2, b1, b2, rfl, g1, g2, g3, q1, q2⟩ := reads_p rv'
    refine ⟨tuples' false, fun M Q F hq => kind_p (s := { s with heap := h' }) h1 h2 h3 g1 g2 g3 r1 q1 hq, fun Q F hq => lexP_lt (s := { s with heap := h' }) (p := p) (q := q) g3 h3 g1 h1 q1 q2 r1 r2 (by show A.units + 1 + 1 + 65 < cLine; omega) hq⟩
theorem call_sortP (hr : Room k X.A) : CallR X (.builtin "sorted") (fun xs H Q => ∃ l x y, xs = [.ref l] ∧ SqL X.K H l [x, y] ∧ Is X.K H (P4.D p) x ∧ Is X.K H (P4.D q) y ∧ ∀ D, H D = none → Q (.ref D) (upd H D (.lst (if ltp false q p = true then [y, x] else [x, y])))) := by
  intro pins s σ H xs us Q I r h
  obtain ⟨l, x, y, rfl, hq, hx, hy, kq⟩ := h
  obtain ⟨w', rfl, rx⟩ := vals1 r
  cases rx
  obtain ⟨its, rv, pl, hz⟩ := I.list hq
  obtain ⟨u, v, rfl, r1, r2⟩ := vals2 rv
  obtain ⟨as, ra⟩ := Is.reads I (P4.D p) hx r1 rfl
  obtain ⟨bs, rb⟩ := Is.reads I (P4.D q) hy r2 rfl
  have hu := hr.un
  refine sorted_two (p := p) (q := q) pl.isList ra rb (by omega) fun h' D c hD kp hL => ?_
  have hf : H D = none := I.hok.fresh hD
  have old : ∀ b u, H b = some u → upd H D (.lst (if ltp false q p = true then [y, x] else [x, y])) b = some u := fun b u e => by rw [upd_ne (ne_of_none e hf)]; exact e
  have I2 := inv_many (t' := s.toks) (h' := h') (H' := upd H D (.lst (if ltp false q p = true then [y, x] else [x, y]))) I kp old (fun b u' e => by
    by_cases hb : b = D
    · subst hb
      rw [upd_same] at e
      cases e
      refine .inr ⟨hD, ?_⟩
      clear old
      revert hL
      cases ltp false q p <;> intro hL
      rotate_left
      · exact ⟨by show 2 ≤ sizeLine; decide, [v, u], c, .cons r2 (.cons r1 .nil), hL⟩
      · exact ⟨by show 2 ≤ sizeLine; decide, [u, v], c, .cons r1 (.cons r2 .nil), hL⟩
    · rw [upd_ne hb] at e
      exact .inl e)
  exact ⟨.ref D, _, I2, rfl, kq D hf⟩
theorem ev_sortP (hr : Room k X.A) (hg : Gl X "sorted") (hm : X.mg "sorted" = none) (ha : EV X e δ (.lst [P4.D p, P4.D q])) (hst : starEach [e] X.env = [(false, eval e X.env)] := by exact star_of rfl) : EV X (.Call (.Name "sorted" pp) [e] [] pos) δ (.lst (srt p q)) :=
  ev_callB (call_sortP (p := p) (q := q) hr) hg hm (by rfl) (ea_cons ha ea_nil hst) (fun vs H Q h k => by
    obtain ⟨w', rfl, z⟩ := isL_one h
    unfold Is at z
    obtain ⟨l, xs, rfl, z, il⟩ := z
    obtain ⟨x, y, rfl, q1, q2⟩ := isL_two il
    refine ⟨l, x, y, rfl, z, q1, q2, fun D hD => k _ _ (same_new hD _) ?_⟩
    unfold Is srt
    have m1 := Is.mono (same_new hD (.lst (if ltp false q p = true then [y, x] else [x, y]))) _ q1
    have m2 := Is.mono (same_new hD (.lst (if ltp false q p = true then [y, x] else [x, y]))) _ q2
    refine ⟨D, _, rfl, SqL.of upd_same, ?_⟩
    revert m1 m2
    cases ltp false q p <;> intro m1 m2
    rotate_left
    · simp only [if_true] at m1 m2 ⊢
      unfold IsL; refine ⟨_, _, rfl, m2, ?_⟩
      unfold IsL; refine ⟨_, _, rfl, m1, ?_⟩
      unfold IsL; rfl
    · simp only [Bool.false_eq_true, if_false] at m1 m2 ⊢
      unfold IsL; refine ⟨_, _, rfl, m1, ?_⟩
      unfold IsL; refine ⟨_, _, rfl, m2, ?_⟩
      unfold IsL; rfl) (he := hst) (hpl := rfl)
end
end EV

set_option Elab.async false
set_option linter.all false
set_option maxRecDepth 100000
set_option maxHeartbeats 4000000
namespace My
open PySem PySem.Spec PyProof.Rows L2 EV HT2
/-! ### shapes moved (k14) -/
theorem neg_sub (p q : P4) : p.sub q = p.plus q.neg := (plus_neg p q).symm
theorem lin_sub {m t f : Int} {p q : P4} (hm : OkM m) : lin m t f (p.sub q) = (lin m t f p).sub (lin m t f q) := by rw [neg_sub, lin_plus hm, lin_neg hm, ← neg_sub]
theorem mv_sub {m : Int} {x : Mv} {p q : P4} (hm : OkM m) : (x.mv m p).sub (x.mv m q) = lin m x.t x.f (p.sub q) := by
  rw [lin_sub hm]
  apply P4.ext' <;> simp [Mv.mv, P4.sub, P4.plus] <;> omega
theorem cr_lin {m t f : Int} {p q : P4} (hm : OkM m) (hp : p.Z m) (hq : q.Z m) (hf : f = 0 ∨ f = 1) :
    crA m (lin m t f p) (lin m t f q) = (if f = 1 then - crA m p q else crA m p q) ∧ crB m (lin m t f p) (lin m t f q) = (if f = 1 then - crB m p q else crB m p q) := by
  unfold lin
  rcases hf with rfl | rfl
  · exact cr_turn hm hp hq _
  · have h1 := cr_turn hm (P4.mir_Z hm hp) (P4.mir_Z hm hq) (t % m).toNat
    have h2 := cr_mir hm hp hq
    exact ⟨h1.1.trans h2.1, h1.2.trans h2.2⟩
theorem hnd_mv {m : Int} {x : Mv} {p q r : P4} (hm : OkM m) (hx : x.f = 0 ∨ x.f = 1) (hp : p.Z m) (hq : q.Z m) (hr : r.Z m) : hnd m (x.mv m p) (x.mv m q) (x.mv m r) = if x.f = 1 then - hnd m p q r else hnd m p q r := by
  unfold hnd
  rw [mv_sub hm, mv_sub hm, (cr_lin hm (sub_Z hq hp) (sub_Z hr hp) hx).1, (cr_lin hm (sub_Z hq hp) (sub_Z hr hp) hx).2]
  split
  · exact sgn_neg ..
  · rfl
theorem hnd_swap {m : Int} (hm : OkM m) (p q r : P4) : hnd m q p r = - hnd m p q r := by
  have a1 := cr_swap (p := p) (q := q) hm
  have a2 := cr_swap (p := q) (q := r) hm
  have a3 := cr_swap (p := r) (q := p) hm
  rw [hnd_tr hm, hnd_tr hm, ← sgn_neg]
  unfold trA trB
  congr 1 <;> omega
/-! all triples, by sublists -/
theorem pr_mk {m : Int} {p : P4} : ∀ {ps : List P4}, (∀ q r, [q, r].Sublist ps → hnd m p q r = 1) → Pr m p ps
  | [], _ => True.intro
  | q :: qs, h => ⟨fun r hr => h q r ((List.singleton_sublist.mpr hr).cons₂ q), pr_mk fun a b s => h a b (s.cons q)⟩
theorem tri_mk {m : Int} : ∀ {ps : List P4}, (∀ p q r, [p, q, r].Sublist ps → hnd m p q r = 1) → Tri m ps
  | [], _ => True.intro
  | p :: ps, h => ⟨pr_mk fun q r s => h p q r (s.cons₂ p), tri_mk fun a b c s => h a b c (s.cons p)⟩
theorem pr_map {m : Int} {p : P4} (f : P4 → P4) : ∀ {qs : List P4}, Pr m p qs → (∀ b ∈ qs, ∀ c ∈ qs, hnd m (f p) (f b) (f c) = hnd m p b c) → Pr m (f p) (qs.map f)
  | [], _, _ => True.intro
  | q :: qs, h, hf => by
    refine ⟨fun r hr => ?_, pr_map f h.2 fun b hb c hc => hf b (List.mem_cons_of_mem _ hb) c (List.mem_cons_of_mem _ hc)⟩
    obtain ⟨x, hx, rfl⟩ := List.mem_map.mp hr
    rw [hf q List.mem_cons_self x (List.mem_cons_of_mem _ hx)]
    exact h.1 x hx
theorem tri_map {m : Int} : ∀ {ps : List P4} (f : P4 → P4) (_ : Tri m ps) (_ : ∀ a ∈ ps, ∀ b ∈ ps, ∀ c ∈ ps, hnd m (f a) (f b) (f c) = hnd m a b c), Tri m (ps.map f)
  | [], _, _, _ => True.intro
  | p :: _, f, h, hf => ⟨pr_map f h.1 fun b hb c hc => hf p List.mem_cons_self b (List.mem_cons_of_mem _ hb) c (List.mem_cons_of_mem _ hc), tri_map f h.2 fun a ha b hb c hc => hf a (List.mem_cons_of_mem _ ha) b (List.mem_cons_of_mem _ hb) c (List.mem_cons_of_mem _ hc)⟩
theorem tri_back {m : Int} {ps : List P4} (hm : OkM m) (f : P4 → P4) (h : Tri m ps) (hf : ∀ a ∈ ps, ∀ b ∈ ps, ∀ c ∈ ps, hnd m (f a) (f b) (f c) = - hnd m a b c) : Tri m (ps.map f).reverse := tri_mk fun p q r s => by
  have s' : [r, q, p].Sublist (ps.map f) := by simpa using List.reverse_sublist.mpr s
  obtain ⟨l, hl, e⟩ := List.sublist_map_iff.mp s'
  match l, e with
  | [a, b, c], e =>
    simp at e
    obtain ⟨rfl, rfl, rfl⟩ := e
    have e1 := tri_of h hl
    have e2 := hf c (hl.subset (by simp)) b (hl.subset (by simp)) a (hl.subset (by simp))
    rw [e2, hnd_swap hm b c a, ← hnd_rot hm, hnd_rot hm b c a, hnd_rot hm a b c] 
    omega
def mvL (m : Int) (x : Mv) (ps : List P4) : List P4 := if x.f = 1 then (ps.map (x.mv m)).reverse else ps.map (x.mv m)
theorem mvL_len (m : Int) (x : Mv) (ps : List P4) : (mvL m x ps).length = ps.length := by unfold mvL; split <;> simp
theorem mvL_mem {m : Int} {x : Mv} {ps : List P4} {q : P4} : q ∈ mvL m x ps ↔ ∃ p ∈ ps, x.mv m p = q := by unfold mvL; split <;> simp
theorem mvL_tri {m : Int} {x : Mv} {ps : List P4} (hm : OkM m) (hx : x.f = 0 ∨ x.f = 1) (h : Tri m ps) (hz : ∀ p ∈ ps, p.Z m) : Tri m (mvL m x ps) := by
  unfold mvL
  rcases hx with e | e
  · rw [if_neg (by omega)]
    exact tri_map _ h fun a ha b hb c hc => by rw [hnd_mv hm (.inl e) (hz a ha) (hz b hb) (hz c hc), if_neg (by omega)]
  · rw [if_pos e]
    exact tri_back hm _ h fun a ha b hb c hc => by rw [hnd_mv hm (.inr e) (hz a ha) (hz b hb) (hz c hc), if_pos e]

theorem sides_map (f : P4 → P4) (ps : List P4) : sidesP (ps.map f) = (sidesP ps).map fun s => (f s.1, f s.2) := by
  unfold sidesP
  rw [← List.map_drop, ← List.map_take, ← List.map_append, List.zip_map]
  rfl
theorem sides_rev (ps : List P4) (l3 : 3 ≤ ps.length) (l6 : ps.length ≤ 6) (s : P4 × P4) : s ∈ sidesP ps.reverse ↔ (s.2, s.1) ∈ sidesP ps := by
  obtain ⟨x, y⟩ := s
  refine six (P := fun ps => (x, y) ∈ sidesP ps.reverse ↔ (y, x) ∈ sidesP ps) ?_ ?_ ?_ ?_ ps l3 l6
  · intro a b c
    simp only [sidesP, List.reverse_cons, List.reverse_nil, List.nil_append, List.cons_append, List.drop_succ_cons, List.drop_zero, List.take_succ_cons, List.take_zero, List.zip_cons_cons, List.zip_nil_right, List.mem_cons, List.not_mem_nil, or_false, Prod.mk.injEq]
    constructor
    · intro h
      rcases h with ⟨h, k⟩ | ⟨h, k⟩ | ⟨h, k⟩
      · exact .inr (.inl ⟨k, h⟩)
      · exact .inl ⟨k, h⟩
      · exact .inr (.inr ⟨k, h⟩)
    · intro h
      rcases h with ⟨h, k⟩ | ⟨h, k⟩ | ⟨h, k⟩
      · exact .inr (.inl ⟨k, h⟩)
      · exact .inl ⟨k, h⟩
      · exact .inr (.inr ⟨k, h⟩)
  · intro a b c d
    simp only [sidesP, List.reverse_cons, List.reverse_nil, List.nil_append, List.cons_append, List.drop_succ_cons, List.drop_zero, List.take_succ_cons, List.take_zero, List.zip_cons_cons, List.zip_nil_right, List.mem_cons, List.not_mem_nil, or_false, Prod.mk.injEq]
    constructor
    · intro h
      rcases h with ⟨h, k⟩ | ⟨h, k⟩ | ⟨h, k⟩ | ⟨h, k⟩
      · exact .inr (.inr (.inl ⟨k, h⟩))
      · exact .inr (.inl ⟨k, h⟩)
      · exact .inl ⟨k, h⟩
      · exact .inr (.inr (.inr ⟨k, h⟩))
    · intro h
      rcases h with ⟨h, k⟩ | ⟨h, k⟩ | ⟨h, k⟩ | ⟨h, k⟩
      · exact .inr (.inr (.inl ⟨k, h⟩))
      · exact .inr (.inl ⟨k, h⟩)
      · exact .inl ⟨k, h⟩
      · exact .inr (.inr (.inr ⟨k, h⟩))
  · intro a b c d e
    simp only [sidesP, List.reverse_cons, List.reverse_nil, List.nil_append, List.cons_append, List.drop_succ_cons, List.drop_zero, List.take_succ_cons, List.take_zero, List.zip_cons_cons, List.zip_nil_right, List.mem_cons, List.not_mem_nil, or_false, Prod.mk.injEq]
    constructor
    · intro h
      rcases h with ⟨h, k⟩ | ⟨h, k⟩ | ⟨h, k⟩ | ⟨h, k⟩ | ⟨h, k⟩
      · exact .inr (.inr (.inr (.inl ⟨k, h⟩)))
      · exact .inr (.inr (.inl ⟨k, h⟩))
      · exact .inr (.inl ⟨k, h⟩)
      · exact .inl ⟨k, h⟩
      · exact .inr (.inr (.inr (.inr ⟨k, h⟩)))
    · intro h
      rcases h with ⟨h, k⟩ | ⟨h, k⟩ | ⟨h, k⟩ | ⟨h, k⟩ | ⟨h, k⟩
      · exact .inr (.inr (.inr (.inl ⟨k, h⟩)))
      · exact .inr (.inr (.inl ⟨k, h⟩))
      · exact .inr (.inl ⟨k, h⟩)
      · exact .inl ⟨k, h⟩
      · exact .inr (.inr (.inr (.inr ⟨k, h⟩)))
  · intro a b c d e f
    simp only [sidesP, List.reverse_cons, List.reverse_nil, List.nil_append, List.cons_append, List.drop_succ_cons, List.drop_zero, List.take_succ_cons, List.take_zero, List.zip_cons_cons, List.zip_nil_right, List.mem_cons, List.not_mem_nil, or_false, Prod.mk.injEq]
    constructor
    · intro h
      rcases h with ⟨h, k⟩ | ⟨h, k⟩ | ⟨h, k⟩ | ⟨h, k⟩ | ⟨h, k⟩ | ⟨h, k⟩
      · exact .inr (.inr (.inr (.inr (.inl ⟨k, h⟩))))
      · exact .inr (.inr (.inr (.inl ⟨k, h⟩)))
      · exact .inr (.inr (.inl ⟨k, h⟩))
      · exact .inr (.inl ⟨k, h⟩)
      · exact .inl ⟨k, h⟩
      · exact .inr (.inr (.inr (.inr (.inr ⟨k, h⟩))))
    · intro h
      rcases h with ⟨h, k⟩ | ⟨h, k⟩ | ⟨h, k⟩ | ⟨h, k⟩ | ⟨h, k⟩ | ⟨h, k⟩
      · exact .inr (.inr (.inr (.inr (.inl ⟨k, h⟩))))
      · exact .inr (.inr (.inr (.inl ⟨k, h⟩)))
      · exact .inr (.inr (.inl ⟨k, h⟩))
      · exact .inr (.inl ⟨k, h⟩)
      · exact .inl ⟨k, h⟩
      · exact .inr (.inr (.inr (.inr (.inr ⟨k, h⟩))))
def sideMv (m : Int) (x : Mv) (s : P4 × P4) : P4 × P4 := if x.f = 1 then (x.mv m s.2, x.mv m s.1) else (x.mv m s.1, x.mv m s.2)
theorem mem_sides_mv {m : Int} {x : Mv} {ps : List P4} (l3 : 3 ≤ ps.length) (l6 : ps.length ≤ 6) {s' : P4 × P4} : s' ∈ sidesP (mvL m x ps) ↔ ∃ s ∈ sidesP ps, sideMv m x s = s' := by
  unfold mvL sideMv
  split
  · rw [sides_rev _ (by rw [List.length_map]; exact l3) (by rw [List.length_map]; exact l6), sides_map]
    constructor
    · intro h
      obtain ⟨s, hs, e⟩ := List.mem_map.mp h
      exact ⟨s, hs, by simp at e; exact Prod.ext e.2 e.1⟩
    · rintro ⟨s, hs, rfl⟩
      exact List.mem_map.mpr ⟨s, hs, rfl⟩
  · rw [sides_map]
    exact List.mem_map
theorem sides_in {ps : List P4} {s : P4 × P4} (h : s ∈ sidesP ps) : s.1 ∈ ps ∧ s.2 ∈ ps := by
  unfold sidesP at h
  have h2 := List.of_mem_zip (a := s.1) (b := s.2) h
  refine ⟨h2.1, ?_⟩
  rcases List.mem_append.mp h2.2 with q | q
  · exact List.mem_of_mem_drop q
  · exact List.mem_of_mem_take q
/-- the hand at a moved side -/
theorem hnd_side {m : Int} {x : Mv} (hm : OkM m) (hx : x.f = 0 ∨ x.f = 1) {s : P4 × P4} {r : P4} (h1 : s.1.Z m) (h2 : s.2.Z m) (hr : r.Z m) : hnd m (sideMv m x s).1 (sideMv m x s).2 (x.mv m r) = hnd m s.1 s.2 r := by
  unfold sideMv
  rcases hx with e | e
  · rw [if_neg (by omega), hnd_mv hm (.inl e) h1 h2 hr, if_neg (by omega)]
  · rw [if_pos e, hnd_mv hm (.inr e) h2 h1 hr, if_pos e, hnd_swap hm s.1 s.2 r, Int.neg_neg]
theorem wh_mv {m : Int} {x : Mv} {ps : List P4} {p : P4} (hm : OkM m) (hx : x.f = 0 ∨ x.f = 1) (l3 : 3 ≤ ps.length) (l6 : ps.length ≤ 6) (hz : ∀ q ∈ ps, q.Z m) (hp : p.Z m) : whF m (mvL m x ps) (x.mv m p) = whF m ps p := by
  unfold whF
  have ne : sidesP (mvL m x ps) ≠ [] := sides_ne (by intro e; have := congrArg List.length e; rw [mvL_len, List.length_nil] at this; omega)
  refine minI_same (fun z => ?_) (by intro e; exact ne (List.map_eq_nil_iff.mp e))
  rw [List.mem_map, List.mem_map]
  constructor
  · rintro ⟨s', hs', rfl⟩
    obtain ⟨s, hs, rfl⟩ := (mem_sides_mv l3 l6).mp hs'
    exact ⟨s, hs, (hnd_side hm hx (hz _ (sides_in hs).1) (hz _ (sides_in hs).2) hp).symm⟩
  · rintro ⟨s, hs, rfl⟩
    exact ⟨sideMv m x s, (mem_sides_mv l3 l6).mpr ⟨s, hs, rfl⟩, hnd_side hm hx (hz _ (sides_in hs).1) (hz _ (sides_in hs).2) hp⟩
theorem ag_iff {m : Int} {one other : List P4} : agF m one other = true ↔ ∃ s ∈ sidesP one, ∀ r ∈ other, hnd m s.1 s.2 r < 1 := by
  unfold agF below
  rw [List.any_eq_true]
  constructor
  · rintro ⟨s, hs, h⟩
    rw [List.all_eq_true] at h
    exact ⟨s, hs, fun r hr => of_decide_eq_true (h r hr)⟩
  · rintro ⟨s, hs, h⟩
    exact ⟨s, hs, List.all_eq_true.mpr fun r hr => decide_eq_true (h r hr)⟩
theorem ag_mv {m : Int} {x : Mv} {one other : List P4} (hm : OkM m) (hx : x.f = 0 ∨ x.f = 1) (l3 : 3 ≤ one.length) (l6 : one.length ≤ 6) (hz : ∀ q ∈ one, q.Z m) (ho : ∀ q ∈ other, q.Z m) (h : agF m one other = true) : agF m (mvL m x one) (mvL m x other) = true := by
  obtain ⟨s, hs, h⟩ := ag_iff.mp h
  refine ag_iff.mpr ⟨sideMv m x s, (mem_sides_mv l3 l6).mpr ⟨s, hs, rfl⟩, fun r' hr' => ?_⟩
  obtain ⟨r, hr, rfl⟩ := mvL_mem.mp hr'
  rw [hnd_side hm hx (hz _ (sides_in hs).1) (hz _ (sides_in hs).2) (ho r hr)]
  exact h r hr
theorem ap_of {m : Int} {one other : List P4} (h : agF m one other = true) : apF m one other = true := by unfold apF; rw [h]; rfl
/-! twice -/
theorem tw_fold {m : Int} (f g : P4 × P4 → Int × Int) : ∀ (ss : List (P4 × P4)) (a : Int × Int), (∀ s ∈ ss, f s = g s) → ss.foldl (fun a s => (a.1 + (f s).1, a.2 + (f s).2)) a = ss.foldl (fun a s => (a.1 + (g s).1, a.2 + (g s).2)) a
  | [], _, _ => rfl
  | s :: ss, a, h => by
    rw [List.foldl_cons, List.foldl_cons, h s List.mem_cons_self]
    exact tw_fold (m := m) f g ss _ fun z hz => h z (List.mem_cons_of_mem _ hz)
theorem tw_neg {m : Int} (f g : P4 × P4 → Int × Int) : ∀ (ss : List (P4 × P4)) (a : Int × Int), (∀ s ∈ ss, (f s).1 = - (g s).1 ∧ (f s).2 = - (g s).2) →
    (ss.foldl (fun a s => (a.1 + (f s).1, a.2 + (f s).2)) (-a.1, -a.2)).1 = - (ss.foldl (fun a s => (a.1 + (g s).1, a.2 + (g s).2)) a).1 ∧ (ss.foldl (fun a s => (a.1 + (f s).1, a.2 + (f s).2)) (-a.1, -a.2)).2 = - (ss.foldl (fun a s => (a.1 + (g s).1, a.2 + (g s).2)) a).2
  | [], _, _ => ⟨rfl, rfl⟩
  | s :: ss, a, h => by
    rw [List.foldl_cons, List.foldl_cons]
    have h0 := h s List.mem_cons_self
    have := tw_neg (m := m) f g ss (a.1 + (g s).1, a.2 + (g s).2) fun z hz => h z (List.mem_cons_of_mem _ hz)
    have e : ((-a.1 + (f s).1, -a.2 + (f s).2) : Int × Int) = (-(a.1 + (g s).1), -(a.2 + (g s).2)) := by rw [h0.1, h0.2]; exact Prod.ext (by dsimp only; omega) (by dsimp only; omega)
    dsimp only
    rw [e]
    exact this
theorem tw_rev {m : Int} (hm : OkM m) (ps : List P4) (l3 : 3 ≤ ps.length) (l6 : ps.length ≤ 6) : (twF m ps.reverse).1 = - (twF m ps).1 ∧ (twF m ps.reverse).2 = - (twF m ps).2 := by
  have sw : ∀ p q, crA m q p = - crA m p q ∧ crB m q p = - crB m p q := fun p q => cr_swap hm
  refine six (P := fun ps => (twF m ps.reverse).1 = - (twF m ps).1 ∧ (twF m ps.reverse).2 = - (twF m ps).2) ?_ ?_ ?_ ?_ ps l3 l6
  · intro a b c
    have s1 := sw a b; have s2 := sw b c; have s3 := sw c a
    refine ⟨?_, ?_⟩ <;> simp [twF, sidesP, twStep] <;> omega
  · intro a b c d
    have s1 := sw a b; have s2 := sw b c; have s3 := sw c d; have s4 := sw d a
    refine ⟨?_, ?_⟩ <;> simp [twF, sidesP, twStep] <;> omega
  · intro a b c d e
    have s1 := sw a b; have s2 := sw b c; have s3 := sw c d; have s4 := sw d e; have s5 := sw e a
    refine ⟨?_, ?_⟩ <;> simp [twF, sidesP, twStep] <;> omega
  · intro a b c d e f
    have s1 := sw a b; have s2 := sw b c; have s3 := sw c d; have s4 := sw d e; have s5 := sw e f; have s6 := sw f a
    refine ⟨?_, ?_⟩ <;> simp [twF, sidesP, twStep] <;> omega
theorem tw_map {m : Int} (f : P4 → P4) (ps : List P4) : twF m (ps.map f) = (sidesP ps).foldl (fun a s => (a.1 + (crA m (f s.1) (f s.2), crB m (f s.1) (f s.2)).1, a.2 + (crA m (f s.1) (f s.2), crB m (f s.1) (f s.2)).2)) (0, 0) := by
  unfold twF
  rw [sides_map, List.foldl_map]
  rfl
theorem tw_lin {m t f : Int} (hm : OkM m) (hf : f = 0 ∨ f = 1) (ps : List P4) (hz : ∀ q ∈ ps, q.Z m) : (twF m (ps.map (lin m t f))).1 = (if f = 1 then - (twF m ps).1 else (twF m ps).1) ∧ (twF m (ps.map (lin m t f))).2 = (if f = 1 then - (twF m ps).2 else (twF m ps).2) := by
  have key : ∀ s ∈ sidesP ps, _ := fun s hs => cr_lin (t := t) hm (hz _ (sides_in hs).1) (hz _ (sides_in hs).2) hf
  rw [tw_map]
  rcases hf with rfl | rfl
  · rw [tw_fold (m := m) _ (fun s => (crA m s.1 s.2, crB m s.1 s.2)) _ _ fun s hs => Prod.ext (key s hs).1 (key s hs).2]
    exact ⟨rfl, rfl⟩
  · have := tw_neg (m := m) (fun s => (crA m (lin m t 1 s.1) (lin m t 1 s.2), crB m (lin m t 1 s.1) (lin m t 1 s.2))) (fun s => (crA m s.1 s.2, crB m s.1 s.2)) (sidesP ps) (0, 0) fun s hs => key s hs
    exact this
theorem tw_mv {m : Int} {x : Mv} (hm : OkM m) (hx : x.f = 0 ∨ x.f = 1) (ps : List P4) (l3 : 3 ≤ ps.length) (l6 : ps.length ≤ 6) (hz : ∀ q ∈ ps, q.Z m) : twF m (mvL m x ps) = twF m ps := by
  have e : ps.map (x.mv m) = (ps.map (lin m x.t x.f)).map fun p => p.plus x.o := by rw [List.map_map]; rfl
  have h1 := tw_shift hm (ps.map (lin m x.t x.f)) (by rw [List.length_map]; exact l3) (by rw [List.length_map]; exact l6) x.o
  have h2 := tw_lin (t := x.t) hm hx ps hz
  unfold mvL
  rcases hx with f | f
  · rw [if_neg (by omega), e, h1]
    rw [if_neg (by omega), if_neg (by omega)] at h2
    exact Prod.ext h2.1 h2.2
  · have h3 := tw_rev hm (ps.map (x.mv m)) (by rw [List.length_map]; exact l3) (by rw [List.length_map]; exact l6)
    rw [if_pos f]
    rw [if_pos f, if_pos f] at h2
    rw [e, h1] at h3
    rw [e]
    exact Prod.ext (by omega) (by omega)

/-! the order of points as tuples compare -/
theorem eqn (a b c d : Int) : eqD (nD a b) (nD c d) = (a == c && (b == d && true)) := rfl
theorem ltp_iff (p q : P4) : ltp false p q = true ↔ (p.a < q.a ∨ p.a = q.a ∧ (p.b < q.b ∨ p.b = q.b ∧ (p.c < q.c ∨ p.c = q.c ∧ p.d < q.d))) := by
  unfold ltp ltn
  simp only [lexB, cmpI, eqn]
  by_cases h1 : p.a = q.a <;> by_cases h2 : p.b = q.b <;> by_cases h3 : p.c = q.c <;> by_cases h4 : p.d = q.d <;> simp [h1, h2, h3, h4] <;> omega
theorem ltn_gt (a b c d : Int) : ltn true a b c d = ltn false c d a b := by
  unfold ltn
  rw [show (a == c) = (c == a) from BEq.comm, show (b == d) = (d == b) from BEq.comm]
  rfl
theorem eqn_comm (a b c d : Int) : eqD (nD a b) (nD c d) = eqD (nD c d) (nD a b) := by
  rw [eqn, eqn, show (a == c) = (c == a) from BEq.comm, show (b == d) = (d == b) from BEq.comm]
theorem gtp_iff (p q : P4) : ltp true q p = true ↔ ltp false p q = true := by
  unfold ltp
  rw [eqn_comm q.a, eqn_comm q.c, ltn_gt, ltn_gt]
theorem ltp_not {p q : P4} (h : ltp false p q = true) : ltp false q p = false := by
  cases g : ltp false q p with
  | false => rfl
  | true =>
    rw [ltp_iff] at h g
    omega
theorem ltp_tot {p q : P4} (h1 : ltp false p q = false) (h2 : ltp false q p = false) : p = q := by
  have a : ¬ (ltp false p q = true) := by rw [h1]; decide
  have b : ¬ (ltp false q p = true) := by rw [h2]; decide
  rw [ltp_iff] at a b
  clear h1 h2
  have tri : ∀ {x y : Int}, ¬ x < y → ¬ y < x → x = y := fun h k => Int.le_antisymm (Int.not_lt.mp k) (Int.not_lt.mp h)
  have e1 := tri (fun h => a (.inl h)) (fun h => b (.inl h))
  have e2 := tri (fun h => a (.inr ⟨e1, .inl h⟩)) (fun h => b (.inr ⟨e1.symm, .inl h⟩))
  have e3 := tri (fun h => a (.inr ⟨e1, .inr ⟨e2, .inl h⟩⟩)) (fun h => b (.inr ⟨e1.symm, .inr ⟨e2.symm, .inl h⟩⟩))
  have e4 := tri (fun h => a (.inr ⟨e1, .inr ⟨e2, .inr ⟨e3, h⟩⟩⟩)) (fun h => b (.inr ⟨e1.symm, .inr ⟨e2.symm, .inr ⟨e3.symm, h⟩⟩⟩))
  exact P4.ext' e1 e2 e3 e4
theorem srt_comm (p q : P4) : srt p q = srt q p := by
  unfold srt
  cases h1 : ltp false p q with
  | true => rw [ltp_not h1]; rfl
  | false =>
    cases h2 : ltp false q p with
    | true => rfl
    | false => rw [ltp_tot h1 h2]
theorem srt_mm (p q : P4) : [P4.D (mnP p q), P4.D (mxP p q)] = srt p q := by
  unfold srt mnP mxP
  cases h1 : ltp false q p with
  | true =>
    have h2 : ltp true q p = false := by
      cases g : ltp true q p with
      | false => rfl
      | true => rw [gtp_iff] at g; rw [ltp_not g] at h1; cases h1
    rw [h2]
    rfl
  | false =>
    cases h2 : ltp true q p with
    | true => rfl
    | false =>
      have h3 : ltp false p q = false := by
        cases g : ltp false p q with
        | false => rfl
        | true => rw [(gtp_iff p q).mpr g] at h2; cases h2
      rw [ltp_tot h3 h1]
      rfl
/-- the two of a sorted pair -/
theorem srt_two (p q : P4) : ∃ a b, srt p q = [P4.D a, P4.D b] ∧ (a = p ∧ b = q ∨ a = q ∧ b = p) := by
  unfold srt
  split
  · exact ⟨q, p, rfl, .inr ⟨rfl, rfl⟩⟩
  · exact ⟨p, q, rfl, .inl ⟨rfl, rfl⟩⟩
/-! what two shapes have in common -/
def on (m : Int) (ps : List P4) (c : P4) : Bool := eqD (.int (whF m ps c)) (.int 0)
def ends1 (m : Int) (one other : List P4) : List P4 := one.filter (on m other)
def ends2 (m : Int) (one other : List P4) : List P4 := other.filter fun c => !inD (P4.D c) ((ends1 m one other).map P4.D) && on m one c
def endsF (m : Int) (one other : List P4) : List P4 := ends1 m one other ++ ends2 m one other
def sbD : List P4 → D
  | [p, q] => .tup (srt p q)
  | _ => .non
theorem eqp (p q : P4) : PyData.eqv (toPy (P4.D p)) (toPy (P4.D q)) = true ↔ p = q := by
  constructor
  · intro h
    have e : PyData.eqv (toPy (P4.D p)) (toPy (P4.D q)) = (((p.a == q.a) && ((p.b == q.b) && true)) && ((((p.c == q.c) && ((p.d == q.d) && true))) && true)) := rfl
    rw [e] at h
    simp at h
    exact P4.ext' h.1.1 h.1.2 h.2.1 h.2.2
  · rintro rfl
    exact eqD_p p
theorem in_iff (c : P4) : ∀ l : List P4, inD (P4.D c) (l.map P4.D) = true ↔ c ∈ l
  | [] => by simp [inD, toPyL]
  | p :: l => by
    have ih := in_iff c l
    unfold inD at ih ⊢
    rw [List.map_cons, toPyL, List.any_cons, Bool.or_eq_true, eqp, ih, List.mem_cons]
    constructor
    · rintro (h | h)
      · exact .inl h.symm
      · exact .inr h
    · rintro (h | h)
      · exact .inl h.symm
      · exact .inr h
theorem on_iff {m : Int} {ps : List P4} {c : P4} : on m ps c = true ↔ whF m ps c = 0 := by
  unfold on
  show (whF m ps c == 0) = true ↔ _
  exact beq_iff_eq
theorem e2_iff {m : Int} {one other : List P4} {c : P4} : c ∈ ends2 m one other ↔ c ∈ other ∧ c ∉ ends1 m one other ∧ whF m one c = 0 := by
  unfold ends2
  rw [List.mem_filter, Bool.and_eq_true, on_iff, Bool.not_eq_true', ← Bool.not_eq_true, in_iff]
theorem e1_iff {m : Int} {one other : List P4} {c : P4} : c ∈ ends1 m one other ↔ c ∈ one ∧ whF m other c = 0 := by
  unfold ends1
  rw [List.mem_filter, on_iff]
theorem ends_nodup {m : Int} {one other : List P4} (h1 : one.Nodup) (h2 : other.Nodup) : (endsF m one other).Nodup := by
  unfold endsF
  rw [List.nodup_append]
  exact ⟨h1.filter _, h2.filter _, fun a ha b hb e => (e2_iff.mp hb).2.1 (e ▸ ha)⟩
theorem two_le {l : List P4} {a b : P4} (h : l.Nodup) (hm : ∀ c ∈ l, c = a ∨ c = b) : l.length ≤ 2 := by
  match l, h, hm with
  | [], _, _ => simp
  | [_], _, _ => simp
  | [_, _], _, _ => simp
  | x :: y :: z :: r, h, hm =>
    exfalso
    have hx := hm x (by simp)
    have hy := hm y (by simp)
    have hz := hm z (by simp)
    simp at h
    grind
end My

set_option Elab.async false
set_option linter.all false
set_option maxRecDepth 100000
set_option maxHeartbeats 4000000
namespace My
open PySem PySem.Spec PyProof.Rows L2 EV HT2
/-! ### ends moved; the shape beside (k14) -/
theorem mv_inj {m : Int} {x : Mv} {p q : P4} (hm : OkM m) (hx : x.Ok m) (hp : p.Z m) (hq : q.Z m) (h : x.mv m p = x.mv m q) : p = q := by
  rw [← mv_back hm hx hp, h, mv_back hm hx hq]
theorem filter_mvL {m : Int} {x : Mv} {ps : List P4} {P P' : P4 → Bool} (h : ∀ p ∈ ps, P' (x.mv m p) = P p) : (mvL m x ps).filter P' = mvL m x (ps.filter P) := by
  have e : (ps.map (x.mv m)).filter P' = (ps.filter P).map (x.mv m) := by
    rw [List.filter_map]
    congr 1
    exact List.filter_congr fun p hp => h p hp
  unfold mvL
  split
  · rw [List.filter_reverse, e]
  · exact e
theorem ends_mv {m : Int} {x : Mv} {one other : List P4} (hm : OkM m) (hx : x.Ok m) (a3 : 3 ≤ one.length) (a6 : one.length ≤ 6) (b3 : 3 ≤ other.length) (b6 : other.length ≤ 6) (hz : ∀ q ∈ one, q.Z m) (ho : ∀ q ∈ other, q.Z m) :
    endsF m (mvL m x one) (mvL m x other) = mvL m x (ends1 m one other) ++ mvL m x (ends2 m one other) := by
  have e1 : ends1 m (mvL m x one) (mvL m x other) = mvL m x (ends1 m one other) := filter_mvL fun p hp => by
    unfold on
    rw [wh_mv hm hx.f b3 b6 ho (hz p hp)]
  have e2 : ends2 m (mvL m x one) (mvL m x other) = mvL m x (ends2 m one other) := filter_mvL fun p hp => by
    have i : inD (P4.D (x.mv m p)) ((mvL m x (ends1 m one other)).map P4.D) = inD (P4.D p) ((ends1 m one other).map P4.D) := by
      rw [Bool.eq_iff_iff, in_iff, in_iff, mvL_mem]
      constructor
      · rintro ⟨q, hq, e⟩
        rw [← mv_inj hm hx (hz q (e1_iff.mp hq).1) (ho p hp) e]
        exact hq
      · intro hq
        exact ⟨p, hq, rfl⟩
    rw [e1, i]
    unfold on
    rw [wh_mv hm hx.f a3 a6 hz (ho p hp)]
  unfold endsF
  rw [e1, e2]
theorem sb_mv {m : Int} {x : Mv} {l k : List P4} (h : (l ++ k).length ≤ 2) : sbD (mvL m x l ++ mvL m x k) = sbD ((l ++ k).map (x.mv m)) := by
  unfold mvL
  split
  · match l, k, h with
    | [], [], _ => rfl
    | [_], [], _ => rfl
    | [], [_], _ => rfl
    | [p], [q], _ => rfl
    | [p, q], [], _ => show D.tup (srt (x.mv m q) (x.mv m p)) = D.tup (srt (x.mv m p) (x.mv m q)); rw [srt_comm]
    | [], [p, q], _ => show D.tup (srt (x.mv m q) (x.mv m p)) = D.tup (srt (x.mv m p) (x.mv m q)); rw [srt_comm]
    | _ :: _ :: _ :: _, _, h => exact absurd h (by simp only [List.length_append, List.length_cons, List.length_nil]; omega)
    | _ :: _ :: _, _ :: _, h => exact absurd h (by simp only [List.length_append, List.length_cons, List.length_nil]; omega)
    | _ :: _, _ :: _ :: _, h => exact absurd h (by simp only [List.length_append, List.length_cons, List.length_nil]; omega)
    | [], _ :: _ :: _ :: _, h => exact absurd h (by simp only [List.length_append, List.length_cons, List.length_nil]; omega)
  · rw [List.map_append]
/-- the side told, moved -/
def smD (m : Int) (x : Mv) : List P4 → D
  | [p, q] => .tup (srt (x.mv m p) (x.mv m q))
  | _ => .non
theorem smD_eq (m : Int) (x : Mv) (l : List P4) : smD m x l = sbD (l.map (x.mv m)) := by
  match l with
  | [] => rfl
  | [_] => rfl
  | [_, _] => rfl
  | _ :: _ :: _ :: _ => rfl
/-! one beside -/
def bes (a b h : P4) (t : Int) (p : P4) : P4 := ((a.plus b).sub p).plus (h.wid t)
theorem bes_bes (a b h : P4) (t : Int) (p : P4) : bes a b h t (bes a b h t p) = p := by
  apply P4.ext' <;> simp [bes, P4.sub, P4.plus, P4.wid] <;> omega
theorem bes_a (a b h : P4) (t : Int) : bes a b h t a = b.plus (h.wid t) := by apply P4.ext' <;> simp [bes, P4.sub, P4.plus, P4.wid] <;> omega
theorem bes_b (a b h : P4) (t : Int) : bes a b h t b = a.plus (h.wid t) := by apply P4.ext' <;> simp [bes, P4.sub, P4.plus, P4.wid] <;> omega
theorem hnd_bes {m t : Int} (hm : OkM m) (a b h p q r : P4) : hnd m (bes a b h t p) (bes a b h t q) (bes a b h t r) = hnd m p q r := by
  have e : ∀ u v : P4, (bes a b h t u).sub (bes a b h t v) = v.sub u := fun u v => by apply P4.ext' <;> simp [bes, P4.sub, P4.plus, P4.wid] <;> omega
  have a1 := cr_swap (p := p) (q := q) hm
  have a2 := cr_swap (p := p) (q := r) hm
  unfold hnd
  rw [e, e]
  simp only [crA_subL hm, crB_subL hm, crA_subR hm, crB_subR hm, a1.1, a1.2, a2.1, a2.2]
  congr 1 <;> omega
/-- along a side -/
theorem cr_par {m : Int} (hm : OkM m) {a b h : P4} (hh : b.sub a = h.plus h) : crA m a h = crA m b h ∧ crB m a h = crB m b h ∧ crA m h a = crA m h b ∧ crB m h a = crB m h b := by
  have e1 : crA m (b.sub a) h = 0 := by rw [hh, crA_addL hm]; have := cr_self hm h; omega
  have e2 : crB m (b.sub a) h = 0 := by rw [hh, crB_addL hm]; have := cr_self hm h; omega
  rw [crA_subL hm] at e1
  rw [crB_subL hm] at e2
  have a1 := cr_swap (p := a) (q := h) hm
  have a2 := cr_swap (p := b) (q := h) hm
  omega
theorem hnd_at {m t : Int} (hm : OkM m) {a b h : P4} (hh : b.sub a = h.plus h) (p : P4) : hnd m a b (bes a b h t p) = - hnd m a b p := by
  obtain ⟨e1, e2, e3, e4⟩ := cr_par hm hh
  obtain ⟨a1, a2⟩ := cr_swap (p := a) (q := b) hm
  obtain ⟨a3, a4⟩ := cr_self hm a
  obtain ⟨a5, a6⟩ := cr_self hm b
  obtain ⟨a7, a8⟩ := cr_swap (p := h) (q := b) hm
  rw [hnd_tr hm, hnd_tr hm, ← sgn_neg]
  unfold trA trB bes
  simp only [crA_addL hm, crB_addL hm, crA_addR hm, crB_addR hm, crA_subL hm, crB_subL hm, crA_subR hm, crB_subR hm, (cr_widL hm _ _).1, (cr_widL hm _ _).2, (cr_widR hm _ _).1, (cr_widR hm _ _).2, a1, a2, a3, a4, a5, a6, e3, e4, a7, a8]
  congr 1 <;> grind
theorem hnd_from {m t : Int} (hm : OkM m) {a b h : P4} (hh : b.sub a = h.plus h) (c : P4) : hnd m (bes a b h t a) (bes a b h t b) c = - hnd m a b c := by
  have h1 := hnd_bes (t := t) hm a b h a b (bes a b h t c)
  rw [bes_bes] at h1
  rw [h1, hnd_at hm hh]
theorem hnd_far {m t : Int} (hm : OkM m) {a b c h : P4} (hh : b.sub a = h.plus h) (ht : 0 < t) (hc : hnd m a b c = 1) : hnd m b c (bes a b h t a) = -1 := by
  rw [bes_a]
  have s1 := sgn_neg m (trA m a b c) (trB m a b c)
  rw [hnd_tr hm] at hc
  rw [hc] at s1
  have s2 := sgn_k (k := t) (a := -trA m a b c) (b := -trB m a b c) hm (z2_neg (trB_Z hm _ _ _)) ht
  have s3 := sgn_k (k := 2) (a := trA m b c (b.plus (h.wid t))) (b := trB m b c (b.plus (h.wid t))) hm (trB_Z hm _ _ _) (by decide)
  rw [hnd_tr hm, ← s3]
  refine Eq.trans ?_ (s2.trans s1)
  have c1 : crA m (b.sub a) c = 2 * crA m h c := by rw [hh, crA_addL hm]; omega
  have c2 : crB m (b.sub a) c = 2 * crB m h c := by rw [hh, crB_addL hm]; omega
  have d1 : crA m (b.sub a) b = 2 * crA m h b := by rw [hh, crA_addL hm]; omega
  have d2 : crB m (b.sub a) b = 2 * crB m h b := by rw [hh, crB_addL hm]; omega
  rw [crA_subL hm] at c1 d1
  rw [crB_subL hm] at c2 d2
  obtain ⟨a1, a2⟩ := cr_swap (p := b) (q := c) hm
  obtain ⟨a3, a4⟩ := cr_self hm b
  obtain ⟨a5, a6⟩ := cr_swap (p := h) (q := c) hm
  obtain ⟨a7, a8⟩ := cr_swap (p := a) (q := c) hm
  unfold trA trB
  simp only [crA_addL hm, crB_addL hm, crA_addR hm, crB_addR hm, (cr_widL hm _ _).1, (cr_widL hm _ _).2, (cr_widR hm _ _).1, (cr_widR hm _ _).2]
  rw [a1, a2, a3, a4, a5, a6, a7, a8]
  congr 1 <;> grind

theorem hnd_eq {m : Int} (hm : OkM m) (a b : P4) : hnd m a a b = 0 ∧ hnd m a b a = 0 ∧ hnd m b a a = 0 := by
  have h1 := hnd_two hm a b
  have h2 := hnd_two hm b a
  have h3 := hnd_rot hm b a a
  exact ⟨by rw [h3]; exact h2.2, h1.1, h2.2⟩
theorem pr_ne {m : Int} (hm : OkM m) {p : P4} : ∀ {qs : List P4}, Pr m p qs → 2 ≤ qs.length → p ∉ qs
  | [], _, h => absurd h (by decide)
  | [_], _, h => absurd h (by show ¬ 2 ≤ 1; decide)
  | q :: r :: qs, h, _ => fun hp => by
    rcases List.mem_cons.mp hp with e | e
    · have := h.1 r List.mem_cons_self
      rw [e, (hnd_eq hm q r).1] at this
      cases this
    · have := h.1 p e
      rw [(hnd_eq hm p q).2.1] at this
      cases this
theorem pr_nd {m : Int} (hm : OkM m) {p : P4} : ∀ {qs : List P4}, Pr m p qs → qs.Nodup
  | [], _ => List.nodup_nil
  | q :: qs, h => by
    refine List.nodup_cons.mpr ⟨fun hq => ?_, pr_nd hm h.2⟩
    have := h.1 q hq
    rw [(hnd_eq hm q p).2.2] at this
    cases this
theorem tri_nodup {m : Int} (hm : OkM m) (ps : List P4) (h : Tri m ps) (l3 : 3 ≤ ps.length) (l6 : ps.length ≤ 6) : ps.Nodup := by
  match ps, h, l3 with
  | p :: qs, h, l3 => exact List.nodup_cons.mpr ⟨pr_ne hm h.1 (by rw [List.length_cons] at l3; omega), pr_nd hm h.1⟩
theorem next_side (ps : List P4) (hn : ps.Nodup) (l3 : 3 ≤ ps.length) (l6 : ps.length ≤ 6) {a b : P4} (h : (a, b) ∈ sidesP ps) : ∃ c, (b, c) ∈ sidesP ps ∧ c ≠ a ∧ c ≠ b := by
  revert hn h
  refine six (P := fun ps => ps.Nodup → (a, b) ∈ sidesP ps → ∃ c, (b, c) ∈ sidesP ps ∧ c ≠ a ∧ c ≠ b) ?_ ?_ ?_ ?_ ps l3 l6
  · intro p q r hn h
    simp [sidesP] at hn h
    obtain ⟨⟨_, _⟩, _⟩ := hn
    rcases h with ⟨rfl, rfl⟩ | ⟨rfl, rfl⟩ | ⟨rfl, rfl⟩
    · exact ⟨r, (.tail _ (.head _)), (by first | assumption | exact Ne.symm (by assumption)), (by first | assumption | exact Ne.symm (by assumption))⟩
    · exact ⟨p, (.tail _ (.tail _ (.head _))), (by first | assumption | exact Ne.symm (by assumption)), (by first | assumption | exact Ne.symm (by assumption))⟩
    · exact ⟨q, (.head _), (by first | assumption | exact Ne.symm (by assumption)), (by first | assumption | exact Ne.symm (by assumption))⟩
  · intro p q r s hn h
    simp [sidesP] at hn h
    obtain ⟨⟨_, _, _⟩, ⟨_, _⟩, _⟩ := hn
    rcases h with ⟨rfl, rfl⟩ | ⟨rfl, rfl⟩ | ⟨rfl, rfl⟩ | ⟨rfl, rfl⟩
    · exact ⟨r, (.tail _ (.head _)), (by first | assumption | exact Ne.symm (by assumption)), (by first | assumption | exact Ne.symm (by assumption))⟩
    · exact ⟨s, (.tail _ (.tail _ (.head _))), (by first | assumption | exact Ne.symm (by assumption)), (by first | assumption | exact Ne.symm (by assumption))⟩
    · exact ⟨p, (.tail _ (.tail _ (.tail _ (.head _)))), (by first | assumption | exact Ne.symm (by assumption)), (by first | assumption | exact Ne.symm (by assumption))⟩
    · exact ⟨q, (.head _), (by first | assumption | exact Ne.symm (by assumption)), (by first | assumption | exact Ne.symm (by assumption))⟩
  · intro p q r s u hn h
    simp [sidesP] at hn h
    obtain ⟨⟨_, _, _, _⟩, ⟨_, _, _⟩, ⟨_, _⟩, _⟩ := hn
    rcases h with ⟨rfl, rfl⟩ | ⟨rfl, rfl⟩ | ⟨rfl, rfl⟩ | ⟨rfl, rfl⟩ | ⟨rfl, rfl⟩
    · exact ⟨r, (.tail _ (.head _)), (by first | assumption | exact Ne.symm (by assumption)), (by first | assumption | exact Ne.symm (by assumption))⟩
    · exact ⟨s, (.tail _ (.tail _ (.head _))), (by first | assumption | exact Ne.symm (by assumption)), (by first | assumption | exact Ne.symm (by assumption))⟩
    · exact ⟨u, (.tail _ (.tail _ (.tail _ (.head _)))), (by first | assumption | exact Ne.symm (by assumption)), (by first | assumption | exact Ne.symm (by assumption))⟩
    · exact ⟨p, (.tail _ (.tail _ (.tail _ (.tail _ (.head _))))), (by first | assumption | exact Ne.symm (by assumption)), (by first | assumption | exact Ne.symm (by assumption))⟩
    · exact ⟨q, (.head _), (by first | assumption | exact Ne.symm (by assumption)), (by first | assumption | exact Ne.symm (by assumption))⟩
  · intro p q r s u v hn h
    simp [sidesP] at hn h
    obtain ⟨⟨_, _, _, _, _⟩, ⟨_, _, _, _⟩, ⟨_, _, _⟩, ⟨_, _⟩, _⟩ := hn
    rcases h with ⟨rfl, rfl⟩ | ⟨rfl, rfl⟩ | ⟨rfl, rfl⟩ | ⟨rfl, rfl⟩ | ⟨rfl, rfl⟩ | ⟨rfl, rfl⟩
    · exact ⟨r, (.tail _ (.head _)), (by first | assumption | exact Ne.symm (by assumption)), (by first | assumption | exact Ne.symm (by assumption))⟩
    · exact ⟨s, (.tail _ (.tail _ (.head _))), (by first | assumption | exact Ne.symm (by assumption)), (by first | assumption | exact Ne.symm (by assumption))⟩
    · exact ⟨u, (.tail _ (.tail _ (.tail _ (.head _)))), (by first | assumption | exact Ne.symm (by assumption)), (by first | assumption | exact Ne.symm (by assumption))⟩
    · exact ⟨v, (.tail _ (.tail _ (.tail _ (.tail _ (.head _))))), (by first | assumption | exact Ne.symm (by assumption)), (by first | assumption | exact Ne.symm (by assumption))⟩
    · exact ⟨p, (.tail _ (.tail _ (.tail _ (.tail _ (.tail _ (.head _)))))), (by first | assumption | exact Ne.symm (by assumption)), (by first | assumption | exact Ne.symm (by assumption))⟩
    · exact ⟨q, (.head _), (by first | assumption | exact Ne.symm (by assumption)), (by first | assumption | exact Ne.symm (by assumption))⟩

/-- a shape and one beside it: the second one, how they lie -/
structure Bes (m : Int) (ps : List P4) (a b h : P4) (t : Int) : Prop where
  tri : Tri m ps
  l3 : 3 ≤ ps.length
  l6 : ps.length ≤ 6
  side : (a, b) ∈ sidesP ps
  hh : b.sub a = h.plus h
  t0 : 0 ≤ t
theorem bes_tri {m t : Int} {ps : List P4} {a b h : P4} (hm : OkM m) (w : Bes m ps a b h t) : Tri m (ps.map (bes a b h t)) := tri_map _ w.tri fun p _ q _ r _ => hnd_bes hm a b h p q r
theorem bes_ag {m t : Int} {ps : List P4} {a b h : P4} (hm : OkM m) (w : Bes m ps a b h t) : agF m ps (ps.map (bes a b h t)) = true := by
  refine ag_iff.mpr ⟨(a, b), w.side, fun r hr => ?_⟩
  obtain ⟨p, hp, rfl⟩ := List.mem_map.mp hr
  have h0 := sides_nn hm ps w.tri w.l3 w.l6 (a, b) w.side p hp
  show hnd m a b (bes a b h t p) < 1
  rw [hnd_at hm w.hh]
  have h0 : 0 ≤ hnd m a b p := h0
  omega
theorem wh_le {m : Int} {ps : List P4} {c : P4} {s : P4 × P4} (hs : s ∈ sidesP ps) : whF m ps c ≤ hnd m s.1 s.2 c := by
  unfold whF
  exact (minI_ok (by intro e; rw [List.map_eq_nil_iff.mp e] at hs; cases hs)).2 _ (List.mem_map.mpr ⟨s, hs, rfl⟩)
theorem bes_ends {m t : Int} {ps : List P4} {a b h : P4} (hm : OkM m) (w : Bes m ps a b h t) : (endsF m ps (ps.map (bes a b h t))).length ≤ 2 := by
  have nd := tri_nodup hm ps w.tri w.l3 w.l6
  have nd2 : (ps.map (bes a b h t)).Nodup := tri_nodup hm _ (bes_tri hm w) (by rw [List.length_map]; exact w.l3) (by rw [List.length_map]; exact w.l6)
  obtain ⟨c, hc, ca, cb⟩ := next_side ps nd w.l3 w.l6 w.side
  have cases_ := (side_cases hm ps w.tri w.l3 w.l6).1 (a, b) w.side
  have hc1 : hnd m a b c = 1 := by
    rcases cases_ c (sides_in hc).2 with e | e | e
    · exact e
    · exact absurd e ca
    · exact absurd e cb
  have t00 : ∀ p : P4, t = 0 → p.plus (h.wid t) = p := fun p e => by rw [e]; apply P4.ext' <;> simp [P4.plus, P4.wid]
  have lowP : ∀ p ∈ ps, 0 ≤ - hnd m a b p → p = a ∨ p = b := fun p hp e => by
    rcases cases_ p hp with z | z | z
    · have z : hnd m a b p = 1 := z
      omega
    · exact .inl z
    · exact .inr z
  refine two_le (a := b) (b := bes a b h t b) (ends_nodup nd nd2) fun z hz => ?_
  rcases List.mem_append.mp hz with hz | hz
  · obtain ⟨z1, z2⟩ := e1_iff.mp hz
    have g1 := wh_le (m := m) (c := z) (s := (bes a b h t a, bes a b h t b)) (ps := ps.map (bes a b h t)) (by rw [sides_map]; exact List.mem_map.mpr ⟨(a, b), w.side, rfl⟩)
    rw [z2] at g1
    have g1 : 0 ≤ hnd m (bes a b h t a) (bes a b h t b) z := g1
    rw [hnd_from hm w.hh] at g1
    rcases lowP z z1 g1 with rfl | rfl
    · rcases Int.lt_or_eq_of_le w.t0 with ht | ht
      · exfalso
        have g2 := wh_le (m := m) (c := z) (s := (bes z b h t b, bes z b h t c)) (ps := ps.map (bes z b h t)) (by rw [sides_map]; exact List.mem_map.mpr ⟨(b, c), hc, rfl⟩)
        rw [z2] at g2
        have g3 := hnd_far (t := t) hm w.hh ht hc1
        have g4 := hnd_bes (t := t) hm z b h b c (bes z b h t z)
        rw [bes_bes, g3] at g4
        have g2 : 0 ≤ hnd m (bes z b h t b) (bes z b h t c) z := g2
        omega
      · right
        rw [bes_b, t00 z ht.symm]
    · exact .inl rfl
  · obtain ⟨z1, _, z2⟩ := e2_iff.mp hz
    obtain ⟨p, hp, rfl⟩ := List.mem_map.mp z1
    have g1 := wh_le (m := m) (c := bes a b h t p) (s := (a, b)) w.side
    rw [z2] at g1
    have g1 : 0 ≤ hnd m a b (bes a b h t p) := g1
    rw [hnd_at hm w.hh] at g1
    rcases lowP p hp g1 with rfl | rfl
    · rcases Int.lt_or_eq_of_le w.t0 with ht | ht
      · exfalso
        have g2 := wh_le (m := m) (c := bes p b h t p) (s := (b, c)) hc
        rw [z2] at g2
        have g3 := hnd_far (t := t) hm w.hh ht hc1
        have g2 : 0 ≤ hnd m b c (bes p b h t p) := g2
        omega
      · left
        rw [bes_a, t00 b ht.symm]
    · exact .inr rfl
/-! multiplied -/
theorem scal_sub {m e f : Int} (hm : OkM m) (p q : P4) : (p.scal m e f).sub (q.scal m e f) = (p.sub q).scal m e f := by
  obtain ⟨a, b, c, d⟩ := p
  obtain ⟨a', b', c', d'⟩ := q
  rcases hm with rfl | rfl | rfl | rfl | rfl <;> (apply P4.ext' <;> (simp [P4.sub, P4.scal, tA, tB, tX, tY, nA, nB, sqP, sqQ]; try grind))
theorem cr_scal2 {m e f : Int} {p q : P4} (hm : OkM m) (hp : p.Z m) (hq : q.Z m) (hf : Z2 m f) : crA m (p.scal m e f) (q.scal m e f) = tA m (crA m p q) (crB m p q) (tA m e f e f) (tB m e f e f) ∧ crB m (p.scal m e f) (q.scal m e f) = tB m (crA m p q) (crB m p q) (tA m e f e f) (tB m e f e f) := by
  obtain ⟨a, b, c, d⟩ := p
  obtain ⟨a', b', c', d'⟩ := q
  have z1 := hp.b
  have z2 := hp.d
  have z3 := hq.b
  have z4 := hq.d
  rcases hm with rfl | rfl | rfl | rfl | rfl
  · obtain rfl : b = 0 := z1 (by decide)
    obtain rfl : d = 0 := z2 (by decide)
    obtain rfl : b' = 0 := z3 (by decide)
    obtain rfl : d' = 0 := z4 (by decide)
    obtain rfl := hf (by decide)
    refine ⟨?_, ?_⟩ <;> (simp [P4.scal, crA, crB, tA, tB, tX, tY, nA, nB, sqP, sqQ]; try grind)
  · obtain rfl : b = 0 := z1 (by decide)
    obtain rfl : d = 0 := z2 (by decide)
    obtain rfl : b' = 0 := z3 (by decide)
    obtain rfl : d' = 0 := z4 (by decide)
    obtain rfl := hf (by decide)
    refine ⟨?_, ?_⟩ <;> (simp [P4.scal, crA, crB, tA, tB, tX, tY, nA, nB, sqP, sqQ]; try grind)
  all_goals refine ⟨?_, ?_⟩ <;> (simp [P4.scal, crA, crB, tA, tB, tX, tY, nA, nB, sqP, sqQ]; try grind)
theorem hnd_scal {m e f : Int} {p q r : P4} (hm : OkM m) (hp : p.Z m) (hq : q.Z m) (hr : r.Z m) (hf : Z2 m f) (hs : sgn m e f = 1) : hnd m (p.scal m e f) (q.scal m e f) (r.scal m e f) = hnd m p q r := by
  unfold hnd
  rw [scal_sub hm, scal_sub hm, (cr_scal2 hm (sub_Z hq hp) (sub_Z hr hp) hf).1, (cr_scal2 hm (sub_Z hq hp) (sub_Z hr hp) hf).2, sgn_mul hm (crB_Z hm _ _) (tB_z hm), sgn_mul hm hf hf, hs]
  omega
theorem wh_scal {m e f : Int} {ps : List P4} {p : P4} (hm : OkM m) (hz : ∀ q ∈ ps, q.Z m) (hp : p.Z m) (hf : Z2 m f) (hs : sgn m e f = 1) : whF m (ps.map (P4.scal m e f)) (p.scal m e f) = whF m ps p := by
  unfold whF
  rw [sides_map, List.map_map]
  congr 1
  exact List.map_congr_left fun s hs' => hnd_scal hm (hz _ (sides_in hs').1) (hz _ (sides_in hs').2) hp hf hs
theorem t_plus {m a b c d e f : Int} (hm : OkM m) : tA m (a + c) (b + d) e f = tA m a b e f + tA m c d e f ∧ tB m (a + c) (b + d) e f = tB m a b e f + tB m c d e f := by
  rcases hm with rfl | rfl | rfl | rfl | rfl <;> (refine ⟨?_, ?_⟩ <;> (simp [tA, tB, tX, tY, nA, nB, sqP, sqQ]; try grind))
theorem t_zero {m e f : Int} (hm : OkM m) : tA m 0 0 e f = 0 ∧ tB m 0 0 e f = 0 := by
  rcases hm with rfl | rfl | rfl | rfl | rfl <;> (refine ⟨?_, ?_⟩ <;> simp [tA, tB, tX, tY, nA, nB, sqP, sqQ])
theorem tw_scal {m e f : Int} {ps : List P4} (hm : OkM m) (hz : ∀ q ∈ ps, q.Z m) (hf : Z2 m f) : twF m (ps.map (P4.scal m e f)) = (tA m (twF m ps).1 (twF m ps).2 (tA m e f e f) (tB m e f e f), tB m (twF m ps).1 (twF m ps).2 (tA m e f e f) (tB m e f e f)) := by
  have go : ∀ (ss : List (P4 × P4)) (a : Int × Int), (∀ s ∈ ss, s.1.Z m ∧ s.2.Z m) → ss.foldl (fun a s => twStep m a (s.1.scal m e f, s.2.scal m e f)) (tA m a.1 a.2 (tA m e f e f) (tB m e f e f), tB m a.1 a.2 (tA m e f e f) (tB m e f e f)) =
      (tA m (ss.foldl (twStep m) a).1 (ss.foldl (twStep m) a).2 (tA m e f e f) (tB m e f e f), tB m (ss.foldl (twStep m) a).1 (ss.foldl (twStep m) a).2 (tA m e f e f) (tB m e f e f)) := by
    intro ss
    induction ss with
    | nil => intro a _; rfl
    | cons s ss ih =>
      intro a hs
      rw [List.foldl_cons, List.foldl_cons, ← ih _ fun z hz => hs z (List.mem_cons_of_mem _ hz)]
      congr 1
      have h0 := hs s List.mem_cons_self
      have c := cr_scal2 (e := e) (f := f) hm h0.1 h0.2 hf
      unfold twStep
      dsimp only
      rw [c.1, c.2, (t_plus hm).1, (t_plus hm).2]
  have h1 := go (sidesP ps) (0, 0) fun s hs => ⟨hz _ (sides_in hs).1, hz _ (sides_in hs).2⟩
  have z := t_zero (m := m) (e := tA m e f e f) (f := tB m e f e f) hm
  dsimp only at h1
  rw [z.1, z.2] at h1
  unfold twF
  rw [sides_map, List.foldl_map]
  exact h1
end My

set_option Elab.async false
set_option linter.all false
set_option maxRecDepth 100000
set_option maxHeartbeats 4000000
namespace My
open PySem PySem.Spec PyProof.Rows L2 EV HT2
/-! ### how great the triples of a drawn shape are (k13) -/

/-! a triple's cross from 1 to 336 -/
def In3 (m x y : Int) : Prop := 0 ≤ sgn m (x - 1) y ∧ 0 ≤ sgn m (336 - x) (-y)
/-- all triples in order -/
def Gd (m : Int) (p q r : P4) : Prop := In3 m (trA m p q r) (trB m p q r)
def PrG (m : Int) (p : P4) : List P4 → Prop
  | [] => True
  | q :: qs => (∀ r ∈ qs, Gd m p q r) ∧ PrG m p qs
def TriG (m : Int) : List P4 → Prop
  | [] => True
  | p :: ps => PrG m p ps ∧ TriG m ps
theorem prg_sub {m : Int} {p : P4} : ∀ {xs ys : List P4}, xs.Sublist ys → PrG m p ys → PrG m p xs
  | _, _, .slnil, h => h
  | _, _, .cons _ s, h => prg_sub s h.2
  | _, _, .cons₂ _ s, h => ⟨fun r hr => h.1 r (s.subset hr), prg_sub s h.2⟩
theorem trig_sub {m : Int} : ∀ {xs ys : List P4}, xs.Sublist ys → TriG m ys → TriG m xs
  | _, _, .slnil, h => h
  | _, _, .cons _ s, h => trig_sub s h.2
  | _, _, .cons₂ _ s, h => ⟨prg_sub s h.1, trig_sub s h.2⟩
theorem trig_of {m : Int} {ps : List P4} (h : TriG m ps) {p q r : P4} (hs : [p, q, r].Sublist ps) : Gd m p q r := (trig_sub hs h).1.1 r (by simp)
theorem gd_rot {m : Int} {p q r : P4} (h : Gd m p q r) : Gd m q r p := by
  unfold Gd at *
  rwa [(tr_rot m p q r).1, (tr_rot m p q r).2]
end My

set_option Elab.async false
set_option linter.all false
set_option maxRecDepth 100000
set_option maxHeartbeats 4000000
namespace My
open PySem PySem.Spec PyProof.Rows L2 EV HT2
/-! ### put far off along a side (k13) -/
local macro_rules | `(tactic| walk_at "sly") => `(tactic| repeat (first | exact List.Sublist.slnil | exact List.nil_sublist _ | exact List.Sublist.refl _ | refine List.Sublist.cons₂ _ ?_ | refine List.Sublist.cons _ ?_))
local macro_rules | `(tactic| walk_at "sg3") => `(tactic| first | (refine trig_of (by assumption) ?_; walk_at "sly"; done) | (refine gd_rot ?_; refine trig_of (by assumption) ?_; walk_at "sly"; done) | (refine gd_rot (gd_rot ?_); refine trig_of (by assumption) ?_; walk_at "sly"; done))
end My

set_option Elab.async false
set_option linter.all false
set_option maxRecDepth 100000
set_option maxHeartbeats 4000000
namespace My
open PySem PySem.Spec PyProof.Rows L2 EV HT2
/-! ### one beside, as great or κ times as great, put along the side (k13) -/

end My

set_option Elab.async false
set_option linter.all false
set_option maxRecDepth 100000
set_option maxHeartbeats 4000000
namespace EV
open PySem PySem.Spec PyProof.Rows L2 My HT2
section
variable {X : Cx} {a b : Expr} {δ : Sd} {ds : List D} {pos : Pos} {body : List Stmt} {k : Nat}
end
end EV
namespace My
open PySem PySem.Spec PyProof.Rows L2 EV HT2
/-! ### what both borders have, gathered by the law (k13) -/
/-! either way round, begun at another corner -/
/-! which of two is ahead -/
end My

set_option Elab.async false
set_option linter.all false
set_option maxRecDepth 100000
set_option maxHeartbeats 4000000
namespace My
open PySem PySem.Spec PyProof.Rows L2 EV
def top (i : Nat) : Stmt := PySem.Challenge.pw_inflate_k14_whole_moved_alike.main.body.getD i (.Pass ⟨0, 0, 0, 0⟩)
abbrev s_plus : Stmt := top 6
theorem sc_plus : FnScope ["one", "other"] ["one", "other"] (defScope s_plus) := ⟨rfl, rfl, rfl, by decide +kernel, rfl, by decide +kernel, by decide +kernel⟩
abbrev s_minus : Stmt := top 7
theorem sc_minus : FnScope ["one", "other"] ["one", "other"] (defScope s_minus) := ⟨rfl, rfl, rfl, by decide +kernel, rfl, by decide +kernel, by decide +kernel⟩
abbrev s_whole_sign : Stmt := top 8
theorem sc_whole_sign : FnScope ["whole"] ["whole"] (defScope s_whole_sign) := ⟨rfl, rfl, rfl, by decide +kernel, rfl, by decide +kernel, by decide +kernel⟩
abbrev s_is_whole : Stmt := top 9
theorem sc_is_whole : FnScope ["value"] ["value"] (defScope s_is_whole) := ⟨rfl, rfl, rfl, by decide +kernel, rfl, by decide +kernel, by decide +kernel⟩
abbrev s_is_frame_size : Stmt := top 10
theorem sc_is_frame_size : FnScope ["m"] ["m"] (defScope s_is_frame_size) := ⟨rfl, rfl, rfl, by decide +kernel, rfl, by decide +kernel, by decide +kernel⟩
abbrev s_Frame_init : Stmt := inClass (top 11) 0
theorem sc_Frame_init : FnScope ["self", "m"] ["self", "m"] (defScope s_Frame_init) := ⟨rfl, rfl, rfl, by decide +kernel, rfl, by decide +kernel, by decide +kernel⟩
abbrev s_Frame_size : Stmt := inClass (top 11) 1
theorem sc_Frame_size : FnScope ["self"] ["self"] (defScope s_Frame_size) := ⟨rfl, rfl, rfl, by decide +kernel, rfl, by decide +kernel, by decide +kernel⟩
abbrev s_Frame_number : Stmt := inClass (top 11) 2
theorem sc_Frame_number : FnScope ["self", "a", "b"] ["self", "a", "b"] (defScope s_Frame_number) := ⟨rfl, rfl, rfl, by decide +kernel, rfl, by decide +kernel, by decide +kernel⟩
abbrev s_Frame_times : Stmt := inClass (top 11) 3
theorem sc_Frame_times : FnScope ["self", "one", "other", "both", "a", "b"] ["self", "one", "other"] (defScope s_Frame_times) := ⟨rfl, rfl, rfl, by decide +kernel, rfl, by decide +kernel, by decide +kernel⟩
abbrev s_Frame_sign : Stmt := inClass (top 11) 6
theorem sc_Frame_sign : FnScope ["self", "one", "p", "q", "b", "c", "ahead"] ["self", "one"] (defScope s_Frame_sign) := ⟨rfl, rfl, rfl, by decide +kernel, rfl, by decide +kernel, by decide +kernel⟩
abbrev s_added : Stmt := top 15
theorem sc_added : FnScope ["one", "other"] ["one", "other"] (defScope s_added) := ⟨rfl, rfl, rfl, by decide +kernel, rfl, by decide +kernel, by decide +kernel⟩
abbrev s_opposite : Stmt := top 16
theorem sc_opposite : FnScope ["point"] ["point"] (defScope s_opposite) := ⟨rfl, rfl, rfl, by decide +kernel, rfl, by decide +kernel, by decide +kernel⟩
abbrev s_scaled : Stmt := top 17
theorem sc_scaled : FnScope ["frame", "point", "number"] ["frame", "point", "number"] (defScope s_scaled) := ⟨rfl, rfl, rfl, by decide +kernel, rfl, by decide +kernel, by decide +kernel⟩
abbrev s_along_one : Stmt := top 18
theorem sc_along_one : FnScope ["frame", "point"] ["frame", "point"] (defScope s_along_one) := ⟨rfl, rfl, rfl, by decide +kernel, rfl, by decide +kernel, by decide +kernel⟩
abbrev s_turned_once : Stmt := top 19
theorem sc_turned_once : FnScope ["frame", "point"] ["frame", "point"] (defScope s_turned_once) := ⟨rfl, rfl, rfl, by decide +kernel, rfl, by decide +kernel, by decide +kernel⟩
abbrev s_turned : Stmt := top 20
theorem sc_turned : FnScope ["frame", "point", "r", "answer", "step"] ["frame", "point", "r"] (defScope s_turned) := ⟨rfl, rfl, rfl, by decide +kernel, rfl, by decide +kernel, by decide +kernel⟩
abbrev s_mirrored : Stmt := top 21
theorem sc_mirrored : FnScope ["frame", "point"] ["frame", "point"] (defScope s_mirrored) := ⟨rfl, rfl, rfl, by decide +kernel, rfl, by decide +kernel, by decide +kernel⟩
abbrev s_moved : Stmt := top 22
theorem sc_moved : FnScope ["frame", "move", "point", "seen"] ["frame", "move", "point"] (defScope s_moved) := ⟨rfl, rfl, rfl, by decide +kernel, rfl, by decide +kernel, by decide +kernel⟩
abbrev s_joined : Stmt := top 23
theorem sc_joined : FnScope ["frame", "first", "second", "turn", "flip"] ["frame", "first", "second"] (defScope s_joined) := ⟨rfl, rfl, rfl, by decide +kernel, rfl, by decide +kernel, by decide +kernel⟩
abbrev s_back : Stmt := top 24
theorem sc_back : FnScope ["frame", "move", "turn", "off"] ["frame", "move"] (defScope s_back) := ⟨rfl, rfl, rfl, by decide +kernel, rfl, by decide +kernel, by decide +kernel⟩
abbrev s_cross : Stmt := top 25
theorem sc_cross : FnScope ["frame", "one", "other"] ["frame", "one", "other"] (defScope s_cross) := ⟨rfl, rfl, rfl, by decide +kernel, rfl, by decide +kernel, by decide +kernel⟩
abbrev s_sides : Stmt := top 29
theorem sc_sides : FnScope ["shape"] ["shape"] (defScope s_sides) := ⟨rfl, rfl, rfl, by decide +kernel, rfl, by decide +kernel, by decide +kernel⟩
abbrev s_hand : Stmt := top 30
theorem sc_hand : FnScope ["frame", "side", "point", "start"] ["frame", "side", "point"] (defScope s_hand) := ⟨rfl, rfl, rfl, by decide +kernel, rfl, by decide +kernel, by decide +kernel⟩
abbrev s_is_shape : Stmt := top 31
theorem sc_is_shape : FnScope ["frame", "points", "k", "around", "side"] ["frame", "points"] (defScope s_is_shape) := ⟨rfl, rfl, rfl, by decide +kernel, rfl, by decide +kernel, by decide +kernel⟩
abbrev s_twice : Stmt := top 32
theorem sc_twice : FnScope ["frame", "shape", "answer", "side"] ["frame", "shape"] (defScope s_twice) := ⟨rfl, rfl, rfl, by decide +kernel, rfl, by decide +kernel, by decide +kernel⟩
abbrev s_where : Stmt := top 33
theorem sc_where : FnScope ["frame", "shape", "point", "answer", "side"] ["frame", "shape", "point"] (defScope s_where) := ⟨rfl, rfl, rfl, by decide +kernel, rfl, by decide +kernel, by decide +kernel⟩
abbrev s_has_side_against : Stmt := top 34
theorem sc_has_side_against : FnScope ["frame", "one", "other", "side"] ["frame", "one", "other"] (defScope s_has_side_against) := ⟨rfl, rfl, rfl, by decide +kernel, rfl, by decide +kernel, by decide +kernel⟩
abbrev s_are_apart : Stmt := top 35
theorem sc_are_apart : FnScope ["frame", "one", "other"] ["frame", "one", "other"] (defScope s_are_apart) := ⟨rfl, rfl, rfl, by decide +kernel, rfl, by decide +kernel, by decide +kernel⟩
abbrev s_side_between : Stmt := top 36
theorem sc_side_between : FnScope ["frame", "one", "other", "ends"] ["frame", "one", "other"] (defScope s_side_between) := ⟨rfl, rfl, rfl, by decide +kernel, rfl, by decide +kernel, by decide +kernel⟩
abbrev s_cell : Stmt := top 38
theorem sc_cell : FnScope ["_law_script", "_law_k"] ["_law_script", "_law_k"] (defScope s_cell) := ⟨rfl, rfl, rfl, by decide +kernel, rfl, by decide +kernel, by decide +kernel⟩
abbrev s_sum : Stmt := top 39
theorem sc_sum : FnScope ["_law_one", "_law_other"] ["_law_one", "_law_other"] (defScope s_sum) := ⟨rfl, rfl, rfl, by decide +kernel, rfl, by decide +kernel, by decide +kernel⟩
abbrev s_less : Stmt := top 40
theorem sc_less : FnScope ["_law_one", "_law_other"] ["_law_one", "_law_other"] (defScope s_less) := ⟨rfl, rfl, rfl, by decide +kernel, rfl, by decide +kernel, by decide +kernel⟩
abbrev s_by_w : Stmt := top 41
theorem sc_by_w : FnScope ["_law_m", "_law_number", "_law_a", "_law_b"] ["_law_m", "_law_number"] (defScope s_by_w) := ⟨rfl, rfl, rfl, by decide +kernel, rfl, by decide +kernel, by decide +kernel⟩
abbrev s_way : Stmt := top 42
theorem sc_way : FnScope ["_law_m", "_law_turn", "_law_number", "_law_x", "_law_y", "_law_k", "_law_more"] ["_law_m", "_law_turn", "_law_number"] (defScope s_way) := ⟨rfl, rfl, rfl, by decide +kernel, rfl, by decide +kernel, by decide +kernel⟩
abbrev s_round : Stmt := top 43
theorem sc_round : FnScope ["_law_script", "_law_k", "_law_m", "_law_turns", "_law_first", "_law_ways", "_law_j", "_law_cell_here", "_law_at", "_law_rim", "_law_way_here"] ["_law_script", "_law_k", "_law_m"] (defScope s_round) := ⟨rfl, rfl, rfl, by decide +kernel, rfl, by decide +kernel, by decide +kernel⟩
abbrev s_shape : Stmt := top 44
theorem sc_shape : FnScope ["_law_script", "_law_k", "_law_m", "_law_rim", "_law_many"] ["_law_script", "_law_k", "_law_m"] (defScope s_shape) := ⟨rfl, rfl, rfl, by decide +kernel, rfl, by decide +kernel, by decide +kernel⟩
abbrev s_beside : Stmt := top 45
theorem sc_beside : FnScope ["_law_script", "_law_shape_here", "_law_at", "_law_both", "_law_other", "_law_half", "_law_k"] ["_law_script", "_law_shape_here"] (defScope s_beside) := ⟨rfl, rfl, rfl, by decide +kernel, rfl, by decide +kernel, by decide +kernel⟩
abbrev s_free : Stmt := top 46
theorem sc_free : FnScope ["_law_script", "_law_k", "_law_m", "_law_far", "_law_some"] ["_law_script", "_law_k", "_law_m", "_law_far"] (defScope s_free) := ⟨rfl, rfl, rfl, by decide +kernel, rfl, by decide +kernel, by decide +kernel⟩
abbrev s_l_moved : Stmt := top 47
theorem sc_l_moved : FnScope ["_law_frame", "_law_move", "_law_shape_here", "_law_found"] ["_law_frame", "_law_move", "_law_shape_here"] (defScope s_l_moved) := ⟨rfl, rfl, rfl, by decide +kernel, rfl, by decide +kernel, by decide +kernel⟩
abbrev s_side_moved : Stmt := top 48
theorem sc_side_moved : FnScope ["_law_frame", "_law_move", "_law_side", "_law_one", "_law_other"] ["_law_frame", "_law_move", "_law_side"] (defScope s_side_moved) := ⟨rfl, rfl, rfl, by decide +kernel, rfl, by decide +kernel, by decide +kernel⟩
abbrev s_law : Stmt := top 49
theorem sc_law : FnScope ["_law_script", "_law_m", "_law_frame", "_law_one", "_law_other", "_law_point", "_law_cell_here", "_law_move", "_law_first", "_law_second", "_law_spot", "_law_between", "_law_number", "_law_great", "_law_still"] ["_law_script"] (defScope s_law) := ⟨rfl, rfl, rfl, by decide +kernel, rfl, by decide +kernel, by decide +kernel⟩

abbrev C0 := cellF 89 47 62089 7757

theorem one_bd (m : Int) : Bd 1 (if decide (6 < m) = true then 1 else 0) := by
  split
  · exact bd1
  · exact bd0

theorem z2_01 {m : Int} (hm : OkM m) (x : Int) : Z2 m (x * (if decide (6 < m) = true then 1 else 0)) := fun q => by
  rw [if_neg (by simp only [decide_eq_true_eq]; rcases hm with rfl | rfl | rfl | rfl | rfl <;> omega), Int.mul_zero]
inductive R_lsum : List D → D → Prop where
  | mk (p q : P4) : R_lsum [pD p.a p.b p.c p.d, pD q.a q.b q.c q.d] (P4.D (p.plus q))
inductive R_lless : List D → D → Prop where
  | mk (p q : P4) : R_lless [pD p.a p.b p.c p.d, pD q.a q.b q.c q.d] (P4.D (p.sub q))
inductive R_way : List D → D → Prop where
  | mk (m t a b : Int) (h : OkM m) (hb : Z2 m b) (ba : Bd 30 a) (bb : Bd 30 b) : R_way [.int m, .int t, nD a b] (P4.D (wayF m t a b))
def t1F (ns : List Int) (k m : Int) : Int := 1 + C0 ns k % (m / 2 - 1)
def t2F (ns : List Int) (k m : Int) : Int := t1F ns k m + 1 + C0 ns (k + 2) % (m / 2 - 1 - t1F ns k m)
def tB3 (ns : List Int) (k m : Int) : Bool := eqD (.int (C0 ns (k + 1) % 2)) (.int 1) && decide (t1F ns k m < m / 2 - 1)
def turnsF (ns : List Int) (k m : Int) : List Int := if tB3 ns k m = true then [0, t1F ns k m, t2F ns k m] else [0, t1F ns k m]
def wAF (c : Int) : Int := 1 + c % 30
def wBF (m c : Int) : Int := c / 30 % 20 * (if decide (6 < m) = true then 1 else 0)
def wayJ (ns : List Int) (k m : Int) (j : Nat) : P4 := wayF m (C0 ns (k + 3) % m + (turnsF ns k m).getD j 0) (wAF (C0 ns (k + 4 + (j : Int)))) (wBF m (C0 ns (k + 4 + (j : Int))))
def waysF (ns : List Int) (k m : Int) : List P4 := (List.range (turnsF ns k m).length).map (wayJ ns k m)
def atF (ns : List Int) (k m : Int) : P4 := wayF m (C0 ns (k + 7) % m) (C0 ns (k + 8) % 600) 0
def rimF (ns : List Int) (k m : Int) : List P4 := rimP (atF ns k m) (waysF ns k m)
theorem wAF_bd (c : Int) : Bd 10 (wAF c) := ⟨by unfold wAF; have : (2 : Nat) ^ 10 = 1024 := (by decide); omega⟩
theorem wBF_bd (m c : Int) : Bd 10 (wBF m c) := ⟨by unfold wBF; have : (2 : Nat) ^ 10 = 1024 := (by decide); split <;> omega⟩
theorem wBF_Z {m : Int} (hm : OkM m) (c : Int) : Z2 m (wBF m c) := z2_01 hm _
theorem half_ge {m : Int} (hm : OkM m) : 2 ≤ m / 2 ∧ m / 2 ≤ 6 := by rcases hm with rfl | rfl | rfl | rfl | rfl <;> decide
theorem t1_ok {m : Int} (hm : OkM m) (ns : List Int) (k : Int) : 0 < t1F ns k m ∧ t1F ns k m < m / 2 := by
  have h := half_ge hm
  unfold t1F
  have h1 := Int.emod_nonneg (C0 ns k) (show m / 2 - 1 ≠ 0 by omega)
  have h2 := Int.emod_lt_of_pos (C0 ns k) (show 0 < m / 2 - 1 by omega)
  omega
theorem t2_ok {m : Int} (hm : OkM m) (ns : List Int) (k : Int) (h : t1F ns k m < m / 2 - 1) : t1F ns k m < t2F ns k m ∧ t2F ns k m < m / 2 := by
  unfold t2F
  have h1 := Int.emod_nonneg (C0 ns (k + 2)) (show m / 2 - 1 - t1F ns k m ≠ 0 by omega)
  have h2 := Int.emod_lt_of_pos (C0 ns (k + 2)) (show 0 < m / 2 - 1 - t1F ns k m by omega)
  omega
theorem tB3_lt {ns : List Int} {k m : Int} (h : tB3 ns k m = true) : t1F ns k m < m / 2 - 1 := by
  unfold tB3 at h
  rw [Bool.and_eq_true] at h
  exact of_decide_eq_true h.2
theorem turns_len (ns : List Int) (k m : Int) : (turnsF ns k m).length = 2 ∨ (turnsF ns k m).length = 3 := by
  unfold turnsF
  split
  · exact .inr rfl
  · exact .inl rfl
theorem num_up {m : Int} (hm : OkM m) (c : Int) : sgn m (wAF c) (wBF m c) = 1 := by
  have ha : 0 < wAF c := by unfold wAF; omega
  rcases okM_split hm with h | h
  · rw [sgn_small h (wBF_Z hm c)]
    unfold Mt.sg
    rw [if_pos ha]
  · have hb : 0 ≤ wBF m c := by unfold wBF; split <;> omega
    rcases Int.lt_or_eq_of_le hb with hb | hb
    · have e1 : sgn m (wAF c) 0 = 1 := by unfold sgn; rw [Int.mul_zero, Int.add_zero, sn_b0]; unfold Mt.sg; rw [if_pos (by omega)]
      have e2 : sgn m 0 (wBF m c) = 1 := by
        have z : ∀ x : Int, Z2 m x := fun x q => absurd q (by rcases h with rfl | rfl | rfl <;> decide)
        have e3 : sgn m (tA m (wBF m c) 0 0 1) (tB m (wBF m c) 0 0 1) = 1 := by
          rw [sgn_mul hm (z _) (z _)]
          have e4 : sgn m (wBF m c) 0 = 1 := by unfold sgn; rw [Int.mul_zero, Int.add_zero, sn_b0]; unfold Mt.sg; rw [if_pos (by omega)]
          have e5 : sgn m 0 1 = 1 := by rcases h with rfl | rfl | rfl <;> decide
          rw [e4, e5]; rfl
        have e6 : tA m (wBF m c) 0 0 1 = 0 ∧ tB m (wBF m c) 0 0 1 = wBF m c := by rcases h with rfl | rfl | rfl <;> simp [tA, tB, tX, tY, nA, nB]
        rwa [e6.1, e6.2] at e3
      have z : ∀ x : Int, Z2 m x := fun x q => absurd q (by rcases h with rfl | rfl | rfl <;> decide)
      have := sgn_add1 hm (z _) (z _) e1 e2
      rwa [Int.add_zero, Int.zero_add] at this
    · rw [← hb]
      unfold sgn
      rw [Int.mul_zero, Int.add_zero, sn_b0]
      unfold Mt.sg
      rw [if_pos (by omega)]
theorem wayJ_up {ns : List Int} {k m : Int} (hm : OkM m) {i j : Nat} (h0 : 0 ≤ (turnsF ns k m).getD i 0) (h1 : (turnsF ns k m).getD i 0 < (turnsF ns k m).getD j 0) (h2 : (turnsF ns k m).getD j 0 < m / 2) : Up m (wayJ ns k m i) (wayJ ns k m j) :=
  way_up hm (wBF_Z hm _) (wBF_Z hm _) (num_up hm _) (num_up hm _) h0 h1 h2
theorem rimF_tri {m : Int} (hm : OkM m) (ns : List Int) (k : Int) : Tri m (rimF ns k m) ∧ ((rimF ns k m).length = 4 ∨ (rimF ns k m).length = 6) := by
  have a1 := t1_ok hm ns k
  unfold rimF waysF
  cases hb : tB3 ns k m with
  | true =>
    have a2 := t2_ok hm ns k (tB3_lt hb)
    have e : turnsF ns k m = [0, t1F ns k m, t2F ns k m] := by unfold turnsF; rw [if_pos hb]
    have g0 : (turnsF ns k m).getD 0 0 = 0 := by rw [e]; rfl
    have g1 : (turnsF ns k m).getD 1 0 = t1F ns k m := by rw [e]; rfl
    have g2 : (turnsF ns k m).getD 2 0 = t2F ns k m := by rw [e]; rfl
    have el : (List.range (turnsF ns k m).length).map (wayJ ns k m) = [wayJ ns k m 0, wayJ ns k m 1, wayJ ns k m 2] := by rw [e]; rfl
    rw [el]
    exact ⟨rim3 hm (wayJ_up hm (by omega) (by omega) (by omega)) (wayJ_up hm (by omega) (by omega) (by omega)) (wayJ_up hm (by omega) (by omega) (by omega)), .inr rfl⟩
  | false =>
    have e : turnsF ns k m = [0, t1F ns k m] := by unfold turnsF; rw [if_neg (by rw [hb]; decide)]
    have g0 : (turnsF ns k m).getD 0 0 = 0 := by rw [e]; rfl
    have g1 : (turnsF ns k m).getD 1 0 = t1F ns k m := by rw [e]; rfl
    have el : (List.range (turnsF ns k m).length).map (wayJ ns k m) = [wayJ ns k m 0, wayJ ns k m 1] := by rw [e]; rfl
    rw [el]
    exact ⟨rim2 hm (wayJ_up hm (by omega) (by omega) (by omega)), .inl rfl⟩
structure Fine (m : Int) (n : Nat) (p : P4) : Prop where
  z : p.Z m
  b : p.B n
theorem Fine.mono {m : Int} {n k : Nat} {p : P4} (h : Fine m n p) (g : n ≤ k) : Fine m k p := ⟨h.z, h.b.mono g⟩
theorem scan_fine {m : Int} : ∀ {ws : List P4} {p : P4} {n : Nat}, (∀ w ∈ ws, Fine m 18 w) → Fine m n p → 18 ≤ n → ∀ q ∈ scanP p ws, Fine m (n + ws.length) q
  | [], _, _, _, _, _, q, hq => by cases hq
  | w :: r, p, n, hw, hp, hn, q, hq => by
    have hq' : q = p ∨ q ∈ scanP (p.plus w) r := by simpa [scanP] using hq
    rcases hq' with rfl | hq'
    · exact hp.mono (by omega)
    · have w1 := hw w (by simp)
      have h2 : Fine m (n + 1) (p.plus w) := ⟨plus_Z hp.z w1.z, ⟨(hp.b.a.add w1.b.a).mono (by omega), (hp.b.b.add w1.b.b).mono (by omega), (hp.b.c.add w1.b.c).mono (by omega), (hp.b.d.add w1.b.d).mono (by omega)⟩⟩
      exact (scan_fine (fun x hx => hw x (by simp [hx])) h2 (by omega) q hq').mono (by simp; omega)
theorem wayJ_fine {m : Int} (hm : OkM m) (ns : List Int) (k : Int) (j : Nat) : Fine m 18 (wayJ ns k m j) := ⟨way_Z hm (wBF_Z hm _), way_B hm (wBF_Z hm _) (wAF_bd _) (wBF_bd _ _)⟩
theorem rimF_fine {m : Int} (hm : OkM m) (ns : List Int) (k : Int) : ∀ q ∈ rimF ns k m, Fine m 24 q := by
  have hl : (waysF ns k m).length ≤ 3 := by
    unfold waysF
    rw [List.length_map, List.length_range]
    rcases turns_len ns k m with h | h <;> omega
  have hw : ∀ w ∈ waysF ns k m, Fine m 18 w := fun w hw => by
    unfold waysF at hw
    obtain ⟨j, _, rfl⟩ := List.mem_map.mp hw
    exact wayJ_fine hm ns k j
  have hat : Fine m 18 (atF ns k m) := by
    refine ⟨way_Z hm (fun _ => rfl), way_B hm (fun _ => rfl) ⟨?_⟩ (bd0.mono (by decide))⟩
    have : (2 : Nat) ^ 10 = 1024 := by decide
    omega
  have hz : Fine m 18 P4.zero := ⟨zero_Z m, zero_B.mono (by decide)⟩
  intro q hq
  have := scan_fine (ws := waysF ns k m ++ (waysF ns k m).map fun w => P4.zero.sub w) (p := atF ns k m) (n := 18) (fun w h => ?_) hat (by decide) q hq
  · exact this.mono (by rw [List.length_append, List.length_map]; omega)
  · rcases List.mem_append.mp h with h | h
    · exact hw w h
    · obtain ⟨v, hv, rfl⟩ := List.mem_map.mp h
      have f := hw v hv
      refine ⟨sub_Z (zero_Z m) f.z, ⟨?_, ?_, ?_, ?_⟩⟩
      · show Bd 18 (0 - v.a); rw [Int.zero_sub]; exact f.b.a.neg
      · show Bd 18 (0 - v.b); rw [Int.zero_sub]; exact f.b.b.neg
      · show Bd 18 (0 - v.c); rw [Int.zero_sub]; exact f.b.c.neg
      · show Bd 18 (0 - v.d); rw [Int.zero_sub]; exact f.b.d.neg
inductive R_round : List D → List D → Prop where
  | mk (ns : List Int) (k m : Int) (h0 : 0 ≤ k) (h1 : k ≤ 900) (hm : OkM m) : R_round [.lst (ns.map .int), .int k, .int m] ((rimF ns k m).map P4.D)
theorem map_erase {α β : Type} (f : α → β) : ∀ (l : List α) (i : Nat), (l.map f).eraseIdx i = (l.eraseIdx i).map f
  | [], _ => by simp
  | _ :: _, 0 => by simp
  | x :: l, i + 1 => by simp [map_erase f l i]
def manyF (ns : List Int) (k m : Int) : Int := 3 + C0 ns (k + 9) % (((rimF ns k m).length : Int) - 2)
def goF (many : Int) (ps : List P4) : Bool := decide (many < (ps.length : Int))
def nxF (c : Int) (ps : List P4) : List P4 := ps.eraseIdx (c / (ps.length : Int) % (ps.length : Int)).toNat
def shapeF (ns : List Int) (k m : Int) : List P4 := iterF (goF (manyF ns k m)) (nxF (C0 ns (k + 10))) 6 (rimF ns k m)
/-- what a drawn shape is -/
structure ShOk (m : Int) (ps : List P4) : Prop where
  tri : Tri m ps
  l3 : 3 ≤ ps.length
  l6 : ps.length ≤ 6
  fine : ∀ q ∈ ps, Fine m 24 q
theorem rim_sh {m : Int} (hm : OkM m) (ns : List Int) (k : Int) : ShOk m (rimF ns k m) := by
  obtain ⟨h1, h2⟩ := rimF_tri hm ns k
  exact ⟨h1, by omega, by omega, rimF_fine hm ns k⟩
theorem many_ok {m : Int} (hm : OkM m) (ns : List Int) (k : Int) : 3 ≤ manyF ns k m := by
  obtain ⟨h1, h2⟩ := rimF_tri hm ns k
  unfold manyF
  have := Int.emod_nonneg (C0 ns (k + 9)) (show ((rimF ns k m).length : Int) - 2 ≠ 0 by omega)
  omega
theorem nx_sh {m many c : Int} {ps : List P4} (h3 : 3 ≤ many) (h : ShOk m ps) (g : goF many ps = true) : ShOk m (nxF c ps) ∧ (nxF c ps).length < ps.length := by
  have g' := of_decide_eq_true (show decide (many < (ps.length : Int)) = true from g)
  have hl := h.l3
  have e1 := Int.emod_nonneg (c / (ps.length : Int)) (show (ps.length : Int) ≠ 0 by omega)
  have e2 := Int.emod_lt_of_pos (c / (ps.length : Int)) (show (0 : Int) < (ps.length : Int) by omega)
  have e3 : (nxF c ps).length = ps.length - 1 := List.length_eraseIdx_of_lt (by omega)
  have hs : (nxF c ps).Sublist ps := List.eraseIdx_sublist ps _
  exact ⟨⟨h.tri.sub hs, by omega, by have := h.l6; omega, fun q hq => h.fine q (hs.subset hq)⟩, by omega⟩
theorem iter_sh {m many c : Int} (h3 : 3 ≤ many) : ∀ (n : Nat) (ps : List P4), ShOk m ps → ShOk m (iterF (goF many) (nxF c) n ps)
  | 0, ps, h => h
  | n + 1, ps, h => by
    cases hg : goF many ps with
    | true => rw [iterF, if_pos hg]; exact iter_sh h3 n _ (nx_sh h3 h hg).1
    | false => rw [iterF, if_neg (by rw [hg]; decide)]; exact h
theorem shape_sh {m : Int} (hm : OkM m) (ns : List Int) (k : Int) : ShOk m (shapeF ns k m) := iter_sh (many_ok hm ns k) 6 _ (rim_sh hm ns k)
abbrev sD (s : P4 × P4) : D := .tup [P4.D s.1, P4.D s.2]
inductive R_sides : List D → D → Prop where
  | mk (ps : List P4) (h1 : 1 ≤ ps.length) (hl : ps.length ≤ 100) : R_sides [.lst (ps.map P4.D)] (.lst ((sidesP ps).map sD))
inductive R_twice (C : Addr) : List D → D → Prop where
  | mk (m : Int) (ps : List P4) (h : OkM m) (hb : ∀ p ∈ ps, p.B 1000) (h1 : 1 ≤ ps.length) (hl : ps.length ≤ 100) : R_twice C [FrD C m, .lst (ps.map P4.D)] (nD (twF m ps).1 (twF m ps).2)
inductive R_where (C : Addr) : List D → D → Prop where
  | mk (m : Int) (ps : List P4) (p : P4) (h : OkM m) (hb : ∀ p ∈ ps, p.B 1000) (hp : p.B 1000) (h1 : 1 ≤ ps.length) (hl : ps.length ≤ 100) : R_where C [FrD C m, .lst (ps.map P4.D), pD p.a p.b p.c p.d] (.int (whF m ps p))
theorem mem_sides {ps : List P4} {s : P4 × P4} (h : s ∈ sidesP ps) : s.1 ∈ ps ∧ s.2 ∈ ps := by
  unfold sidesP at h
  have h2 := List.of_mem_zip (a := s.1) (b := s.2) h
  refine ⟨h2.1, ?_⟩
  rcases List.mem_append.mp h2.2 with q | q
  · exact List.mem_of_mem_drop q
  · exact List.mem_of_mem_take q
theorem zip_sides (ps : List P4) : zipD (ps.map P4.D) ((ps.map P4.D).drop 1 ++ (ps.map P4.D).take 1) = (sidesP ps).map sD := by
  unfold zipD sidesP
  rw [← List.map_drop, ← List.map_take, ← List.map_append, List.zipWith_map, List.zip, List.map_zipWith]
def hndS (m : Int) (p : P4) (s : P4 × P4) : Int := hnd m s.1 s.2 p
def stepM {α : Type} (h : α → Int) (b : Int) (x : α) : Int := if h x < b then h x else b
def stopM (b : Int) : Bool := eqD (.int b) (.int (-1))
theorem until_ok {α : Type} (h : α → Int) (hh : ∀ x, -1 ≤ h x) : ∀ (xs : List α) (b : Int), (untilF (stepM h) stopM xs b = b ∨ ∃ x ∈ xs, untilF (stepM h) stopM xs b = h x) ∧ untilF (stepM h) stopM xs b ≤ b ∧ ∀ x ∈ xs, untilF (stepM h) stopM xs b ≤ h x
  | [], b => ⟨.inl rfl, Int.le_refl _, fun x hx => by cases hx⟩
  | x :: xs, b => by
    have hs : stepM h b x = b ∨ stepM h b x = h x := by unfold stepM; split; exact .inr rfl; exact .inl rfl
    have hle : stepM h b x ≤ b ∧ stepM h b x ≤ h x := by unfold stepM; split <;> omega
    unfold untilF
    by_cases c : stopM (stepM h b x) = true
    · rw [if_pos c]
      have e : stepM h b x = -1 := by simpa [stopM, eqD, toPy, PyData.eqv] using c
      refine ⟨?_, hle.1, fun y hy => by rw [e]; exact hh y⟩
      rcases hs with q | q
      · exact .inl q
      · exact .inr ⟨x, List.mem_cons_self, q⟩
    · rw [if_neg c]
      obtain ⟨h1, h2, h3⟩ := until_ok h hh xs (stepM h b x)
      refine ⟨?_, Int.le_trans h2 hle.1, fun y hy => ?_⟩
      · rcases h1 with q | ⟨y, hy, q⟩
        · rw [q]
          rcases hs with q | q
          · exact .inl q
          · exact .inr ⟨x, List.mem_cons_self, q⟩
        · exact .inr ⟨y, List.mem_cons_of_mem _ hy, q⟩
      · rcases List.mem_cons.mp hy with rfl | hy
        · exact Int.le_trans h2 hle.2
        · exact h3 y hy
theorem hndS_ge {m : Int} (hm : OkM m) (p : P4) (s : P4 × P4) : -1 ≤ hndS m p s ∧ hndS m p s ≤ 1 := by
  unfold hndS
  rw [hnd_tr hm]
  rcases sgn_cases m (trA m s.1 s.2 p) (trB m s.1 s.2 p) with e | e | e <;> rw [e] <;> decide
theorem wh_until {m : Int} (hm : OkM m) (ps : List P4) (p : P4) (h : 1 ≤ ps.length) : untilF (stepM (hndS m p)) stopM (sidesP ps) 1 = whF m ps p := by
  obtain ⟨h1, h2, h3⟩ := until_ok (hndS m p) (fun s => (hndS_ge hm p s).1) (sidesP ps) 1
  have ne : sidesP ps ≠ [] := sides_ne (by intro e; rw [e] at h; simp at h)
  obtain ⟨s, r, e⟩ := List.exists_cons_of_ne_nil ne
  refine (minI_of ?_ fun z hz => ?_).symm
  · rcases h1 with q | ⟨s, hs, q⟩
    · have hs : s ∈ sidesP ps := by rw [e]; exact List.mem_cons_self
      have a1 := h3 s hs
      have a2 := (hndS_ge hm p s).2
      exact List.mem_map.mpr ⟨s, hs, by show hndS m p s = _; omega⟩
    · exact List.mem_map.mpr ⟨s, hs, q.symm⟩
  · obtain ⟨s, hs, rfl⟩ := List.mem_map.mp hz
    exact h3 s hs
theorem side_mem (ps : List P4) (l3 : 3 ≤ ps.length) (l6 : ps.length ≤ 6) {A : Nat} (hA : A < ps.length) : (pt ps (prv ps.length A), pt ps A) ∈ sidesP ps := by
  revert hA
  refine six (P := fun ps => A < ps.length → (pt ps (prv ps.length A), pt ps A) ∈ sidesP ps) ?_ ?_ ?_ ?_ ps l3 l6 <;> intros <;> rename_i hA
  · match A, hA with
    | 0, _ => exact .tail _ (.tail _ (.head _))
    | 1, _ => exact .head _
    | 2, _ => exact .tail _ (.head _)
    | n + 3, h => exact absurd h (Nat.not_lt.mpr (Nat.le_add_left 3 n))
  · match A, hA with
    | 0, _ => exact .tail _ (.tail _ (.tail _ (.head _)))
    | 1, _ => exact .head _
    | 2, _ => exact .tail _ (.head _)
    | 3, _ => exact .tail _ (.tail _ (.head _))
    | n + 4, h => exact absurd h (Nat.not_lt.mpr (Nat.le_add_left 4 n))
  · match A, hA with
    | 0, _ => exact .tail _ (.tail _ (.tail _ (.tail _ (.head _))))
    | 1, _ => exact .head _
    | 2, _ => exact .tail _ (.head _)
    | 3, _ => exact .tail _ (.tail _ (.head _))
    | 4, _ => exact .tail _ (.tail _ (.tail _ (.head _)))
    | n + 5, h => exact absurd h (Nat.not_lt.mpr (Nat.le_add_left 5 n))
  · match A, hA with
    | 0, _ => exact .tail _ (.tail _ (.tail _ (.tail _ (.tail _ (.head _)))))
    | 1, _ => exact .head _
    | 2, _ => exact .tail _ (.head _)
    | 3, _ => exact .tail _ (.tail _ (.head _))
    | 4, _ => exact .tail _ (.tail _ (.tail _ (.head _)))
    | 5, _ => exact .tail _ (.tail _ (.tail _ (.tail _ (.head _))))
    | n + 6, h => exact absurd h (Nat.not_lt.mpr (Nat.le_add_left 6 n))
theorem shift_eq (ps : List P4) (off : P4) : D.lst (ps.map fun p => P4.D (p.plus off)) = D.lst ((ps.map fun p => p.plus off).map P4.D) := by
  rw [List.map_map]
  rfl
inductive R_ag (C : Addr) : List D → D → Prop where
  | mk (m : Int) (ps os : List P4) (h : OkM m) (hp : ∀ p ∈ ps, p.B 1000) (ho : ∀ p ∈ os, p.B 1000) (h1 : 1 ≤ ps.length) (hl : ps.length ≤ 100) (h2 : 1 ≤ os.length) (hl2 : os.length ≤ 100) : R_ag C [FrD C m, .lst (ps.map P4.D), .lst (os.map P4.D)] (.bl (agF m ps os))
inductive R_ap (C : Addr) : List D → D → Prop where
  | mk (m : Int) (ps os : List P4) (h : OkM m) (hp : ∀ p ∈ ps, p.B 1000) (ho : ∀ p ∈ os, p.B 1000) (h1 : 1 ≤ ps.length) (hl : ps.length ≤ 100) (h2 : 1 ≤ os.length) (hl2 : os.length ≤ 100) : R_ap C [FrD C m, .lst (ps.map P4.D), .lst (os.map P4.D)] (.bl (apF m ps os))
def hndP (m : Int) (s : P4 × P4) (os : List P4) : List Int := os.map (hnd m s.1 s.2)
def hndQ (m : Int) (s : P4 × P4) (r : P4) : D := .int (hnd m s.1 s.2 r)
theorem hndP_eq (m : Int) (s : P4 × P4) (os : List P4) : D.lst (os.map (hndQ m s)) = D.lst ((hndP m s os).map D.int) := by
  unfold hndP
  rw [List.map_map]
  rfl
theorem max_ex : ∀ {ns : List Int}, ns ≠ [] → ∃ M ∈ ns, ∀ z ∈ ns, z ≤ M
  | [], h => absurd rfl h
  | [x], _ => ⟨x, by simp, fun z hz => by simp at hz; omega⟩
  | x :: y :: r, _ => by
    obtain ⟨M, h1, h2⟩ := max_ex (ns := y :: r) (by simp)
    rcases Int.le_total x M with c | c
    · exact ⟨M, List.mem_cons_of_mem _ h1, fun z hz => by rcases List.mem_cons.mp hz with rfl | hz; exact c; exact h2 z hz⟩
    · exact ⟨x, by simp, fun z hz => by rcases List.mem_cons.mp hz with rfl | hz; exact Int.le_refl _; exact Int.le_trans (h2 z hz) c⟩
theorem max_below {m M : Int} {s : P4 × P4} {os : List P4} (h1 : M ∈ hndP m s os) (h2 : ∀ z ∈ hndP m s os, z ≤ M) : decide (M < 1) = below m os s := by
  unfold below
  rw [Bool.eq_iff_iff, decide_eq_true_eq, List.all_eq_true]
  constructor
  · intro h r hr
    have := h2 (hnd m s.1 s.2 r) (List.mem_map.mpr ⟨r, hr, rfl⟩)
    exact decide_eq_true (by omega)
  · intro h
    obtain ⟨r, hr, e⟩ := List.mem_map.mp h1
    have := of_decide_eq_true (h r hr)
    omega
def P4.half (p : P4) : P4 := ⟨p.a / 2, p.b / 2, p.c / 2, p.d / 2⟩
def bothF (ps : List P4) (A : Nat) : P4 := (pt ps (prv ps.length A)).plus (pt ps A)
def halfT (ps : List P4) (A : Nat) : List P4 := ps.map fun p => (bothF ps A).sub p
theorem subs_eq (ps : List P4) (o : P4) : D.lst (ps.map fun p => P4.D (o.sub p)) = D.lst ((ps.map fun p => o.sub p).map P4.D) := by
  rw [List.map_map]
  rfl
def shN (h : P4) (l : List P4) : Nat → List P4
  | 0 => l
  | k + 1 => (shN h l k).map fun p => p.plus h
theorem shN_len (h : P4) (l : List P4) : ∀ k, (shN h l k).length = l.length
  | 0 => rfl
  | k + 1 => by rw [shN, List.length_map, shN_len h l k]
def hvF (ps : List P4) (A : Nat) : P4 := ((pt ps A).sub (pt ps (prv ps.length A))).half
inductive R_moved (C : Addr) : List D → D → Prop where
  | mk (m : Int) (x : Mv) (p : P4) (h : OkM m) (hf : x.f = 0 ∨ x.f = 1) (hp : p.B 30000) : R_moved C [FrD C m, x.D, pD p.a p.b p.c p.d] (P4.D (x.mv m p))
inductive R_joined (C : Addr) : List D → D → Prop where
  | mk (m : Int) (x y : Mv) (h : OkM m) (hy : y.f = 0 ∨ y.f = 1) (hp : x.o.B 30000) : R_joined C [FrD C m, x.D, y.D] (Mv.D (x.join m y))
inductive R_back (C : Addr) : List D → D → Prop where
  | mk (m : Int) (x : Mv) (h : OkM m) (hx : x.Ok m) (hp : x.o.B 30000) : R_back C [FrD C m, x.D] (Mv.D (x.back m))
theorem eq01 {f : Int} (h : f = 0 ∨ f = 1) {α : Type} (a b : α) : (if eqD (.int f) (.int 1) = true then a else b) = if f = 1 then a else b := by
  rcases h with rfl | rfl <;> rfl

inductive R_byw : List D → D → Prop where
  | mk (m a b : Int) (hm : OkM m) (hb : Z2 m b) (ba : Bd 1000 a) (bb : Bd 1000 b) : R_byw [.int m, nD a b] (nD (tA m (nA m 0 1) (nB m 1) a b) (tB m (nA m 0 1) (nB m 1) a b))
def moreT (m : Int) (q : P4) : D := nD (tA m (nA m 0 1) (nB m 1) q.c q.d) (tB m (nA m 0 1) (nB m 1) q.c q.d)
def lastT (m : Int) (p : P4) : Nat → Option D
  | 0 => none
  | k + 1 => some (moreT m (p.turn m k))
theorem once_T (m : Int) (q : P4) : q.once m = ⟨-q.c, -q.d, q.a + tA m (nA m 0 1) (nB m 1) q.c q.d, q.b + tB m (nA m 0 1) (nB m 1) q.c q.d⟩ := by
  apply P4.ext' <;> simp [P4.once, aA, aB]
def dbl (p : P4) : P4 := p.plus p
def shp (ns : List Int) (k m : Int) : List P4 := (shapeF ns k m).map dbl
inductive R_shp : List D → D → Prop where
  | mk (ns : List Int) (k m : Int) (h0 : 0 ≤ k) (h1 : k ≤ 900) (hm : OkM m) : R_shp [.lst (ns.map .int), .int k, .int m] (.lst ((shp ns k m).map P4.D))
theorem dbl_eq (ps : List P4) : D.lst (ps.map fun p => P4.D (p.plus p)) = D.lst ((ps.map dbl).map P4.D) := by
  rw [List.map_map]
  rfl
def tmF (ns : List Int) : Int := C0 ns 13 % 5
inductive R_bes : List D → D → Prop where
  | mk (ns : List Int) (ps : List P4) (A : Nat) (hA : A < ps.length) (hl : ps.length ≤ 100) (eA : C0 ns 12 % (ps.length : Int) = (A : Int)) : R_bes [.lst (ns.map .int), .lst (ps.map P4.D)] (.lst ((shN (hvF ps A) (halfT ps A) (tmF ns).toNat).map P4.D))
def frS (ns : List Int) (k far : Int) (j : Nat) : Int := C0 ns (k + (j : Int)) % (2 * far + 1) - far
def frP (ns : List Int) (k m far : Int) : P4 := ⟨frS ns k far 0, frS ns k far 1 * (if decide (6 < m) = true then 1 else 0), frS ns k far 2, frS ns k far 3 * (if decide (6 < m) = true then 1 else 0)⟩
theorem frS_bd {far : Int} (h0 : 0 < far) (h1 : far ≤ 1000000000) (ns : List Int) (k : Int) (j : Nat) : Bd 40 (frS ns k far j) := ⟨by
  unfold frS
  have : (2 : Nat) ^ 40 = 1099511627776 := (by decide)
  have e1 := Int.emod_nonneg (C0 ns (k + (j : Int))) (show 2 * far + 1 ≠ 0 by omega)
  have e2 := Int.emod_lt_of_pos (C0 ns (k + (j : Int))) (show 0 < 2 * far + 1 by omega)
  omega⟩
theorem frP_ok {m far : Int} (hm : OkM m) (h0 : 0 < far) (h1 : far ≤ 1000000000) (ns : List Int) (k : Int) : Fine m 50 (frP ns k m far) := ⟨⟨z2_01 hm _, z2_01 hm _⟩, ⟨(frS_bd h0 h1 ns k 0).mono (by decide), ((frS_bd h0 h1 ns k 1).mul (one_bd m)).mono (by decide), (frS_bd h0 h1 ns k 2).mono (by decide), ((frS_bd h0 h1 ns k 3).mul (one_bd m)).mono (by decide)⟩⟩
inductive R_free : List D → D → Prop where
  | mk (ns : List Int) (k m far : Int) (h0 : 0 ≤ k) (h1 : k ≤ 900) (f0 : 0 < far) (f1 : far ≤ 1000000000) : R_free [.lst (ns.map .int), .int k, .int m, .int far] (P4.D (frP ns k m far))
def someD (ns : List Int) (k far : Int) : List D := (List.range 4).map fun j => D.int (frS ns k far j)
theorem some0 (ns : List Int) (k far : Int) : atI (someD ns k far) 0 = some (.int (frS ns k far 0)) := rfl
theorem some1 (ns : List Int) (k far : Int) : atI (someD ns k far) 1 = some (.int (frS ns k far 1)) := rfl
theorem some2 (ns : List Int) (k far : Int) : atI (someD ns k far) 2 = some (.int (frS ns k far 2)) := rfl
theorem some3 (ns : List Int) (k far : Int) : atI (someD ns k far) 3 = some (.int (frS ns k far 3)) := rfl
inductive R_lmv (C : Addr) : List D → D → Prop where
  | mk (m : Int) (x : Mv) (ps : List P4) (h : OkM m) (hf : x.f = 0 ∨ x.f = 1) (hb : ∀ p ∈ ps, p.B 30000) (hl : ps.length ≤ 100) : R_lmv C [FrD C m, x.D, .lst (ps.map P4.D)] (.lst ((mvL m x ps).map P4.D))
theorem mvs_eq (m : Int) (x : Mv) (ps : List P4) : D.lst (ps.map fun p => P4.D (x.mv m p)) = D.lst ((ps.map (x.mv m)).map P4.D) := by
  rw [List.map_map]
  rfl
inductive R_smv (C : Addr) : List D → D → Prop where
  | mk (m : Int) (x : Mv) (l : List P4) (h : OkM m) (hf : x.f = 0 ∨ x.f = 1) (hb : ∀ p ∈ l, p.B 30000) : R_smv C [FrD C m, x.D, sbD l] (smD m x l)
inductive R_sb (C : Addr) : List D → D → Prop where
  | mk (m : Int) (one oth : List P4) (h : OkM m) (ha : ∀ p ∈ one, p.B 1000) (hb : ∀ p ∈ oth, p.B 1000) (a3 : 3 ≤ one.length) (a6 : one.length ≤ 6) (b3 : 3 ≤ oth.length) (b6 : oth.length ≤ 6) (h2 : (endsF m one oth).length ≤ 2) : R_sb C [FrD C m, .lst (one.map P4.D), .lst (oth.map P4.D)] (sbD (endsF m one oth))

theorem e0_up {m e : Int} (he : 0 < e) : sgn m e 0 = 1 := by unfold sgn; rw [Int.mul_zero, Int.add_zero, sn_b0]; unfold Mt.sg; rw [if_pos (by omega)]
theorem pos_up {m e f : Int} (hm : OkM m) (he : 0 < e) (h0 : 0 ≤ f) (h4 : f ≤ 4) (hz : Z2 m f) : sgn m e f = 1 := by
  rcases okM_split hm with h | h
  · rw [sgn_small h hz]
    unfold Mt.sg
    rw [if_pos he]
  · have z : ∀ x : Int, Z2 m x := fun x q => absurd q (by rcases h with rfl | rfl | rfl <;> decide)
    have hf : f = 0 ∨ f = 1 ∨ f = 2 ∨ f = 3 ∨ f = 4 := by omega
    have e1 := e0_up (m := m) he
    rcases hf with rfl | hf
    · exact e1
    · have e2 : sgn m 0 f = 1 := by rcases hf with rfl | rfl | rfl | rfl <;> rcases h with rfl | rfl | rfl <;> decide
      have := sgn_add1 hm (z _) (z _) e1 e2
      rwa [Int.add_zero, Int.zero_add] at this
theorem tw_bd2 {m : Int} : ∀ (ss : List (P4 × P4)) (a : Int × Int) (k : Nat), Bd k a.1 → Bd k a.2 → 500 ≤ k → (∀ s ∈ ss, s.1.B 200 ∧ s.2.B 200) → Bd (k + ss.length) (ss.foldl (twStep m) a).1 ∧ Bd (k + ss.length) (ss.foldl (twStep m) a).2
  | [], _, _, h1, h2, _, _ => ⟨h1, h2⟩
  | s :: ss, a, k, h1, h2, hk, hs => by
    have h0 := hs s List.mem_cons_self
    have cA := (crA_bd (m := m) h0.1 h0.2).mono (show 200 + 200 + 6 ≤ k by omega)
    have cB := (crB_bd (m := m) h0.1 h0.2).mono (show 200 + 200 + 6 ≤ k by omega)
    have ih := tw_bd2 (m := m) ss (twStep m a s) (k + 1) ((h1.add cA).mono (by omega)) ((h2.add cB).mono (by omega)) (by omega) fun z hz => hs z (List.mem_cons_of_mem _ hz)
    have e : k + 1 + ss.length = k + (s :: ss).length := by rw [List.length_cons]; omega
    rw [e] at ih
    exact ih
theorem tw_bd3 {m : Int} {ps : List P4} (l6 : ps.length ≤ 6) (h : ∀ p ∈ ps, p.B 200) : Bd 600 (twF m ps).1 ∧ Bd 600 (twF m ps).2 := by
  have := tw_bd2 (m := m) (sidesP ps) (0, 0) 500 (bd0.mono (by decide)) (bd0.mono (by decide)) (by decide) fun s hs => ⟨h _ (mem_sides hs).1, h _ (mem_sides hs).2⟩
  have hl : (sidesP ps).length ≤ 6 := by unfold sidesP; rw [List.length_zip]; omega
  exact ⟨this.1.mono (by omega), this.2.mono (by omega)⟩
theorem pt_map (qs : List P4) {A : Nat} (h : A < qs.length) : pt (qs.map dbl) A = dbl (pt qs A) := by
  unfold pt
  rw [List.getD, List.getD, List.getElem?_map, List.getElem?_eq_getElem h]
  rfl
theorem half_dbl (p q : P4) : (dbl p).sub (dbl q) = (((dbl p).sub (dbl q)).half).plus (((dbl p).sub (dbl q)).half) := by
  apply P4.ext' <;> simp [dbl, P4.sub, P4.plus, P4.half] <;> omega
theorem shN_bes (ps : List P4) (A : Nat) : ∀ k : Nat, shN (hvF ps A) (halfT ps A) k = ps.map (bes (pt ps (prv ps.length A)) (pt ps A) (hvF ps A) (k : Int))
  | 0 => by
    unfold shN halfT bothF
    refine List.map_congr_left fun p _ => ?_
    apply P4.ext' <;> simp [bes, P4.plus, P4.wid]
  | k + 1 => by
    rw [shN, shN_bes ps A k, List.map_map]
    refine List.map_congr_left fun p _ => ?_
    apply P4.ext' <;> simp [bes, P4.plus, P4.sub, P4.wid, Int.add_mul] <;> omega
theorem shp_ok {m : Int} (hm : OkM m) (ns : List Int) {A : Nat} {ps : List P4} (e : shp ns 1 m = ps) (hA : A < ps.length) : Bes m ps (pt ps (prv ps.length A)) (pt ps A) (hvF ps A) (tmF ns) ∧ ∀ p ∈ ps, Fine m 50 p := by
  have hsh := shape_sh hm ns 1
  have el : ps.length = (shapeF ns 1 m).length := by rw [← e]; exact List.length_map ..
  have l3 := hsh.l3
  have l6 := hsh.l6
  have ed : ∀ p : P4, dbl p = p.wid 2 := fun p => by apply P4.ext' <;> simp [dbl, P4.plus, P4.wid] <;> omega
  have em : ps = (shapeF ns 1 m).map (P4.wid 2) := by rw [← e]; exact List.map_congr_left fun p _ => ed p
  refine ⟨⟨by rw [em]; exact Tri_wid hm (by decide) hsh.tri, by omega, by omega, side_mem ps (by omega) (by omega) hA, ?_, by unfold tmF; omega⟩, fun p hp => ?_⟩
  · have h1 : pt ps A = dbl (pt (shapeF ns 1 m) A) := by rw [← e]; exact pt_map _ (by omega)
    have h2 : pt ps (prv ps.length A) = dbl (pt (shapeF ns 1 m) (prv ps.length A)) := by rw [← e]; exact pt_map _ (by have := prv_lt (n := ps.length) (k := A) (by omega) hA; rw [e]; omega)
    unfold hvF
    rw [h1, h2]
    exact half_dbl _ _
  · rw [← e] at hp
    obtain ⟨q, hq, rfl⟩ := List.mem_map.mp hp
    have f := hsh.fine q hq
    exact ⟨plus_Z f.z f.z, (P4.plus_B f.b f.b).mono (by decide)⟩
theorem shD_sm (m : Int) (x : Mv) (l : List P4) : shD (smD m x l) = true := by
  match l with
  | [] => rfl
  | [_] => rfl
  | _ :: _ :: _ :: _ => rfl
  | [p, q] =>
    show shD (.tup (srt (x.mv m p) (x.mv m q))) = true
    unfold srt
    split <;> rfl
theorem bes_Z {m t : Int} {a b h p : P4} (ha : a.Z m) (hb : b.Z m) (hh : h.Z m) (hp : p.Z m) : (bes a b h t p).Z m := by
  refine plus_Z (sub_Z (plus_Z ha hb) hp) ⟨fun e => ?_, fun e => ?_⟩
  · show t * h.b = 0; rw [hh.b e, Int.mul_zero]
  · show t * h.d = 0; rw [hh.d e, Int.mul_zero]
theorem na_half {a : Int} {n : Nat} (h : Bd n a) : Bd n (a / 2) := ⟨by have := h.lt; omega⟩
theorem hv_fine {m : Int} {ps : List P4} {A : Nat} (hA : A < ps.length) (hf : ∀ p ∈ ps, Fine m 50 p) : Fine m 51 (hvF ps A) := by
  have f1 := hf _ (pt_mem hA)
  have f2 := hf _ (pt_mem (prv_lt (by omega) hA))
  have z := sub_Z f1.z f2.z
  have b := sub_B f1.b f2.b
  refine ⟨⟨fun e => ?_, fun e => ?_⟩, ⟨na_half b.a, na_half b.b, na_half b.c, na_half b.d⟩⟩
  · show ((pt ps A).sub (pt ps (prv ps.length A))).b / 2 = 0; rw [z.b e]; rfl
  · show ((pt ps A).sub (pt ps (prv ps.length A))).d / 2 = 0; rw [z.d e]; rfl
theorem bes_fine {m t : Int} {ps : List P4} {A : Nat} (hA : A < ps.length) (hf : ∀ p ∈ ps, Fine m 50 p) (ht : Bd 3 t) : ∀ q ∈ ps.map (bes (pt ps (prv ps.length A)) (pt ps A) (hvF ps A) t), Fine m 170 q := fun q hq => by
  obtain ⟨p, hp, rfl⟩ := List.mem_map.mp hq
  have f1 := hf _ (pt_mem hA)
  have f2 := hf _ (pt_mem (prv_lt (by omega) hA))
  have f3 := hf p hp
  have f4 := hv_fine hA hf
  have w : ((hvF ps A).wid t).B 60 := ⟨(ht.mul f4.b.a).mono (by decide), (ht.mul f4.b.b).mono (by decide), (ht.mul f4.b.c).mono (by decide), (ht.mul f4.b.d).mono (by decide)⟩
  exact ⟨bes_Z f2.z f1.z f4.z f3.z, (P4.plus_B (sub_B (n := 101) (P4.plus_B f2.b f1.b) (f3.b.mono (by decide))) w).mono (by decide)⟩


local macro_rules | `(tactic| walk_at "ix") => `(tactic| first | rfl | exact ix5 (by omega) (by omega) | (refine ix_ints ?_ ?_ <;> first | assumption | omega))
local macro_rules | `(tactic| walk_at "Bd") => `(tactic| first | assumption | exact bd0 | exact bd1 | exact bdm1 | exact bd2 | exact bd3 | exact bd4 | exact sqP_bd _ | exact sqQ_bd _ | exact wholeF_bd _ | exact sgn_bd _ _ _ | exact P4.B.a (by assumption) | exact P4.B.b (by assumption) | exact P4.B.c (by assumption) | exact P4.B.d (by assumption) | exact crA_bd (by assumption) (by assumption) | exact crB_bd (by assumption) (by assumption) | exact aA_bd (by walk_at "Bd") (by walk_at "Bd") (by walk_at "Bd") | exact aB_bd (by walk_at "Bd") (by walk_at "Bd") (by walk_at "Bd") | exact (w_bd _).1 | exact (w_bd _).2 | exact one_bd _ | exact tA_bd (by walk_at "Bd") (by walk_at "Bd") (by walk_at "Bd") (by walk_at "Bd") | exact tB_bd (by walk_at "Bd") (by walk_at "Bd") (by walk_at "Bd") (by walk_at "Bd") | exact lX_bd (by walk_at "Bd") (by walk_at "Bd") (by walk_at "Bd") (by walk_at "Bd") | exact lY_bd (by walk_at "Bd") (by walk_at "Bd") (by walk_at "Bd") (by walk_at "Bd") | exact nA_bd (by walk_at "Bd") (by walk_at "Bd") | exact nB_bd (by walk_at "Bd") | exact Bd.mul (by walk_at "Bd") (by walk_at "Bd") | exact Bd.add (by walk_at "Bd") (by walk_at "Bd") | exact Bd.sub (by walk_at "Bd") (by walk_at "Bd") | exact Bd.neg (by walk_at "Bd") | exact Bd.ite (by walk_at "Bd") (by walk_at "Bd"))
local macro_rules | `(tactic| walk_at "bd") => `(tactic| first | exact IntMulOk.of_right (by decide) | exact IntMulOk.of_left (by decide) | exact IntMulOk.of_right (intBits_le_64 (by omega) (by omega)) | exact mulOk (by walk_at "Bd") (by walk_at "Bd") (by decide))
local macro_rules | `(tactic| walk_at "pos") => `(tactic| first | decide | omega)
local macro_rules | `(tactic| walk_at "div") => `(tactic| first | decide | omega)
local macro_rules | `(tactic| walk_at "pow") => `(tactic| first | decide | omega)
local macro_rules | `(tactic| walk_at "norm") => `(tactic| (try dsimp only [List.set]))
local macro_rules | `(tactic| walk_at "kit") => `(tactic| first | rfl)
local macro_rules | `(tactic| walk_at "PB") => `(tactic| first | exact P4.B.mono (by assumption) (by decide) | exact P4.B.mono (P4.turn_B (by assumption) _) (by omega) | exact P4.B.mono (P4.mir_B (by assumption)) (by decide) | exact P4.B.mono (P4.plus_B (by assumption) (by assumption)) (by decide) | exact P4.B.mono (P4.scal_B (by assumption) (by assumption) (by assumption)) (by decide))
local macro_rules | `(tactic| walk_at "R") => `(tactic| (constructor <;> first | assumption | exact okM5 _ | walk_at "PB" | omega | exact tB_z (by assumption) | (exact z2_sub (by assumption) (by assumption)) | exact Bd.mono (by walk_at "Bd") (by decide)))

section
variable {P : Program} {w : World} {K : PySem.W.Frag} {mg : Str → Option Value} {base : Heap} {f C : Addr} {fd : FuncData} {ents : List (Int × Tok × Value)}
theorem ok_plus (F : Fun K "plus" "plus" s_plus f fd)  : FnOk P w K mg base CX0 1 f fd ["one", "other"] (spD K 2 (R_plus)) := by
  refine def_ok F sc_plus fun cdv A outer s H E ds d hr hl h => ?_
  cases h with
  | mk a b c d =>
  refine SS.conv (ss_ret (st_ret (ev_tup (ea_cons (ev_add (ev_ixT (ev_var 0 rfl) ev_int (by walk_at "ix")) (ev_ixT (ev_var 1 rfl) ev_int (by walk_at "ix"))) (ea_cons (ev_add (ev_ixT (ev_var 0 rfl) ev_int (by walk_at "ix")) (ev_ixT (ev_var 1 rfl) ev_int (by walk_at "ix"))) ea_nil))))) ?eq
  rfl
theorem ok_minus (F : Fun K "minus" "minus" s_minus f fd)  : FnOk P w K mg base CX0 1 f fd ["one", "other"] (spD K 2 (R_minus)) := by
  refine def_ok F sc_minus fun cdv A outer s H E ds d hr hl h => ?_
  cases h with
  | mk a b c d =>
  refine SS.conv (ss_ret (st_ret (ev_tup (ea_cons (ev_sub (ev_ixT (ev_var 0 rfl) ev_int (by walk_at "ix")) (ev_ixT (ev_var 1 rfl) ev_int (by walk_at "ix"))) (ea_cons (ev_sub (ev_ixT (ev_var 0 rfl) ev_int (by walk_at "ix")) (ev_ixT (ev_var 1 rfl) ev_int (by walk_at "ix"))) ea_nil))))) ?eq
  rfl
theorem ok_whole_sign (F : Fun K "whole_sign" "whole_sign" s_whole_sign f fd)  : FnOk P w K mg base CX0 1 f fd ["whole"] (spD K 1 (R_ws)) := by
  refine def_ok F sc_whole_sign fun cdv A outer s H E ds d hr hl h => ?_
  cases h with
  | mk x =>
  refine SS.conv (ss_ifR (et_gt (ev_var 0 rfl) ev_int) (fun _ => (ss_ret (st_ret ev_int))) (fun _ => 
    (ss_ifR (et_lt (ev_var 0 rfl) ev_int) (fun _ => (ss_ret (st_ret (ev_neg ev_int)))) (fun _ => 
    (ss_ret (st_ret ev_int)))))) ?eq
  show O.rt (if decide (0 < x) = true then D.int 1 else if decide (x < 0) = true then D.int (-1) else D.int 0) = _
  unfold Mt.sg
  simp only [decide_eq_true_eq]
  split
  · rfl
  · split <;> rfl
theorem ok_is_whole (F : Fun K "is_whole" "is_whole" s_is_whole f fd) (m_isinstance : mg "isinstance" = none) (m_int : mg "int" = none) (m_bool : mg "bool" = none) : FnOk P w K mg base CX0 1 f fd ["value"] (spD K 1 (R_isw)) := by
  refine def_ok F sc_is_whole fun cdv A outer s H E ds d hr hl h => ?_
  cases h with
  | mk x =>
  refine SS.conv (ss_ret (st_ret (ev_and (ev_isinst rfl m_isinstance (ev_var 0 rfl) rfl m_int (by rfl) rfl (by walk_at "kit")) (fun _ => (ev_and1 (ev_not (ev_isinst rfl m_isinstance (ev_var 0 rfl) rfl m_bool (by rfl) rfl (by walk_at "kit")))))))) ?eq
  rfl
theorem ok_is_frame_size (F : Fun K "is_frame_size" "is_frame_size" s_is_frame_size f fd) (G_is_whole : DefD P w K mg base 1 "is_whole" ["value"] (R_isw)) (S : Sq K mg ents) : FnOk P w K mg base CX0 2 f fd ["m"] (spD K 1 (R_okm)) := by
  refine def_ok F sc_is_frame_size fun cdv A outer s H E ds d hr hl h => ?_
  cases h with
  | mk m hm =>
  have e := sq_some S hm
  exact ss_ret (st_ret (EV.conv (d := .bl (true && (valueAt (ents.map pairI) m).isSome)) (ev_and (p := true) (ev_call G_is_whole (hr.mono (by decide)) rfl (ea_cons (ev_var 0 rfl) ea_nil) rfl (R_isw.mk m)) (fun _ => (ev_and1 (ev_inKD S.kd rfl (ev_var 0 rfl))))) (by rw [e]; rfl)))
  
theorem ok_Frame_init (F : Fun K "__init__" "Frame.__init__" s_Frame_init f fd) (T : Cl K C) (S : Sq K mg ents) (G_is_frame_size : DefD P w K mg base 2 "is_frame_size" ["m"] (R_okm)) : FnOk P w K mg base CX0 3 f fd ["self", "m"] (spI K C 2 ["m", "square"] R_frame) := by
  refine F.ok sc_Frame_init (fun vs H Q E h => ?_) (fun cdv A outer s H vs Q E hr h => ?_)
  · obtain ⟨b, dx, rest, ds, fs, rfl, _, hl, r, _⟩ := h
    rw [List.length_cons, ← r.len, hl]
    rfl
  · obtain ⟨b, dx, rest, ds, fs, rfl, hb, hl, r, hR, k⟩ := h
    cases hR with
    | mk m hm =>
    obtain ⟨v, rfl, q⟩ := isL_one r
    unfold EV.Is at q
    subst q
    obtain ⟨bq, hv, ht⟩ := S.at_ m hm
    refine ⟨_, pss_cons (ps_if (ET.run (et_not (et_val (ev_call (δ := [none, some (.int m)]) G_is_frame_size (hr.mono (by decide)) rfl (ea_cons (ev_var 1 rfl) ea_nil) rfl (R_okm.mk m hm))))) pss_never pss_nil)
      (pss_cons (ps_fld (pv 0) (pv 1) rfl) (pss_one (ps_fld (pv 0) (pe_getKD (v := .ref bq) S.kd rfl (pv 1) hv rfl) rfl))), ?_⟩
    refine ⟨⟨rfl, fun i d e => ?_⟩, fun H1 s1 => iteF ?_⟩
    · match i, e with
      | 1, e => cases e; exact ⟨_, rfl, by unfold EV.Is; rfl⟩
    refine ⟨_, rfl, _, rfl, b, C, dx, [], rfl, s1 _ _ hb, T.cl, T.n_m, by decide, rfl, _, rfl, b, C, dx, _, rfl, upd_same, T.cl, T.n_square, (by show 1 < 1000; decide), ?_⟩
    refine k _ (fun z o e hz => ?_) ⟨[.int m, .ref bq], ?_, ?_⟩
    · rw [upd_ne hz, upd_ne hz]
      exact s1 _ _ e
    · rw [upd_same, flds_eq]
    · unfold EV.IsL
      refine ⟨_, _, rfl, by unfold EV.Is; rfl, ?_⟩
      unfold EV.IsL
      refine ⟨_, _, rfl, ?_, by unfold EV.IsL; rfl⟩
      unfold EV.Is
      refine ⟨bq, _, rfl, ht _, ?_⟩
      unfold EV.IsL
      refine ⟨_, _, rfl, by unfold EV.Is; rfl, ?_⟩
      unfold EV.IsL
      exact ⟨_, _, rfl, by unfold EV.Is; rfl, by unfold EV.IsL; rfl⟩
theorem ok_Frame_size (F : Fun K "size" "Frame.size" s_Frame_size f fd) (T : Cl K C) : FnOk P w K mg base CX0 1 f fd ["self"] (spD K 1 (R_size C)) := by
  refine def_ok F sc_Frame_size fun cdv A outer s H E ds d hr hl h => ?_
  cases h with
  | mk m hm =>
  refine SS.conv (ss_ret (st_ret (ev_fld (ev_var 0 rfl) T.cl T.n_m rfl))) ?eq
  rfl
theorem ok_Frame_number (F : Fun K "number" "Frame.number" s_Frame_number f fd) (T : Cl K C) : FnOk P w K mg base CX0 1 f fd ["self", "a", "b"] (spD K 3 (R_number C)) := by
  refine def_ok F sc_Frame_number fun cdv A outer s H E ds d hr hl h => ?_
  cases h with
  | mk m a b hm =>
  refine SS.conv (ss_ifR (et_eq hr (ev_fld (ev_var 0 rfl) T.cl T.n_m rfl) ev_int) (fun _ => (ss_ret (st_ret (ev_tup (ea_cons (ev_var 1 rfl) (ea_cons ev_int ea_nil)))))) (fun _ => 
    (ss_ifR (et_eq hr (ev_fld (ev_var 0 rfl) T.cl T.n_m rfl) ev_int) (fun _ => (ss_ret (st_ret (ev_tup (ea_cons (ev_add (ev_var 1 rfl) (ev_var 2 rfl)) (ea_cons ev_int ea_nil)))))) (fun _ => 
    (ss_ret (st_ret (ev_tup (ea_cons (ev_var 1 rfl) (ea_cons (ev_var 2 rfl) ea_nil))))))))) ?eq
  rcases hm with rfl | rfl | rfl | rfl | rfl <;> rfl
theorem ok_Frame_times (F : Fun K "times" "Frame.times" s_Frame_times f fd) (T : Cl K C) (G_Frame_number : MethD P w K mg base 1 C "number" ["self", "a", "b"] (R_number C)) : FnOk P w K mg base CX0 2 f fd ["self", "one", "other"] (spD K 3 (R_times C)) := by
  refine def_ok F sc_Frame_times fun cdv A outer s H E ds d hr hl h => ?_
  cases h with
  | mk m a b c d hm ha hb hc hd =>
  refine SS.conv (ss_cons (st_set 3 (ev_mul (ev_ixT (ev_var 1 rfl) ev_int (by walk_at "ix")) (ev_ixT (ev_var 2 rfl) ev_int (by walk_at "ix")) (by walk_at "bd")) sc_Frame_times.nd)
    (ss_cons (st_set 4 (ev_add (ev_mul (ev_ixT (ev_var 1 rfl) ev_int (by walk_at "ix")) (ev_ixT (ev_var 2 rfl) ev_int (by walk_at "ix")) (by walk_at "bd")) (ev_mul (ev_var 3 rfl) (ev_ixT (ev_fld (ev_var 0 rfl) T.cl T.n_square rfl) ev_int (by walk_at "ix")) (by walk_at "bd"))) sc_Frame_times.nd)
    (ss_cons (st_set 5 (ev_add (ev_add (ev_mul (ev_ixT (ev_var 1 rfl) ev_int (by walk_at "ix")) (ev_ixT (ev_var 2 rfl) ev_int (by walk_at "ix")) (by walk_at "bd")) (ev_mul (ev_ixT (ev_var 1 rfl) ev_int (by walk_at "ix")) (ev_ixT (ev_var 2 rfl) ev_int (by walk_at "ix")) (by walk_at "bd"))) (ev_mul (ev_var 3 rfl) (ev_ixT (ev_fld (ev_var 0 rfl) T.cl T.n_square rfl) ev_int (by walk_at "ix")) (by walk_at "bd"))) sc_Frame_times.nd)
    (ss_ret (st_ret (ev_meth G_Frame_number (hr.mono (by decide)) (ev_var 0 rfl) (ea_cons (ev_var 4 rfl) (ea_cons (ev_var 5 rfl) ea_nil)) (by decide +kernel) rfl (by walk_at "R"))))))) ?eq
  rfl
theorem ok_Frame_sign (F : Fun K "sign" "Frame.sign" s_Frame_sign f fd) (T : Cl K C) (G_whole_sign : DefD P w K mg base 1 "whole_sign" ["whole"] (R_ws)) : FnOk P w K mg base CX0 2 f fd ["self", "one"] (spD K 2 (R_sign C)) := by
  refine def_ok F sc_Frame_sign fun cdv A outer s H E ds d hr hl h => ?_
  cases h with
  | mk m a b hm ha hb =>
  refine SS.conv (ss_cons (st_set 2 (ev_ixT (ev_fld (ev_var 0 rfl) T.cl T.n_square rfl) ev_int (by walk_at "ix")) sc_Frame_sign.nd)
    (ss_cons (st_set 3 (ev_ixT (ev_fld (ev_var 0 rfl) T.cl T.n_square rfl) ev_int (by walk_at "ix")) sc_Frame_sign.nd)
    (ss_cons (st_set 4 (ev_ixT (ev_var 1 rfl) ev_int (by walk_at "ix")) sc_Frame_sign.nd)
    (ss_cons (st_set 5 (ev_add (ev_mul ev_int (ev_ixT (ev_var 1 rfl) ev_int (by walk_at "ix")) (by walk_at "bd")) (ev_mul (ev_var 3 rfl) (ev_var 4 rfl) (by walk_at "bd"))) sc_Frame_sign.nd)
    (ss_cons (st_set 6 (ev_sub (ev_mul (ev_var 5 rfl) (ev_var 5 rfl) (by walk_at "bd")) (ev_mul (ev_mul (ev_add (ev_mul (ev_var 3 rfl) (ev_var 3 rfl) (by walk_at "bd")) (ev_mul ev_int (ev_var 2 rfl) (by walk_at "bd"))) (ev_var 4 rfl) (by walk_at "bd")) (ev_var 4 rfl) (by walk_at "bd"))) sc_Frame_sign.nd)
    (ss_ifR (et_gt (ev_var 6 rfl) ev_int) (fun _ => (ss_ret (st_ret (ev_call G_whole_sign (hr.mono (by decide)) rfl (ea_cons (ev_var 5 rfl) ea_nil) rfl (by walk_at "R"))))) (fun _ => 
    (ss_ifR (et_lt (ev_var 6 rfl) ev_int) (fun _ => (ss_ret (st_ret (ev_call G_whole_sign (hr.mono (by decide)) rfl (ea_cons (ev_var 4 rfl) ea_nil) rfl (by walk_at "R"))))) (fun _ => 
    (ss_ret (st_ret ev_int))))))))))) ?eq
  show O.rt (if decide (0 < Mt.nm (sqQ m * sqQ m + 4 * sqP m) (2 * a + sqQ m * b) b) = true then D.int (Mt.sg (2 * a + sqQ m * b)) else if decide (Mt.nm (sqQ m * sqQ m + 4 * sqP m) (2 * a + sqQ m * b) b < 0) = true then D.int (Mt.sg b) else D.int 0) = _
  unfold sgn Mt.sn
  simp only [decide_eq_true_eq]
  split
  · rfl
  · split <;> rfl
theorem ok_added (F : Fun K "added" "added" s_added f fd) (G_plus : DefD P w K mg base 1 "plus" ["one", "other"] (R_plus)) : FnOk P w K mg base CX0 2 f fd ["one", "other"] (spD K 2 (R_added)) := by
  refine def_ok F sc_added fun cdv A outer s H E ds d hr hl h => ?_
  cases h with
  | mk p q =>
  refine SS.conv (ss_ret (st_ret (ev_tup (ea_cons (ev_call G_plus (hr.mono (by decide)) rfl (ea_cons (ev_ixT (ev_var 0 rfl) ev_int (by walk_at "ix")) (ea_cons (ev_ixT (ev_var 1 rfl) ev_int (by walk_at "ix")) ea_nil)) rfl (by walk_at "R")) (ea_cons (ev_call G_plus (hr.mono (by decide)) rfl (ea_cons (ev_ixT (ev_var 0 rfl) ev_int (by walk_at "ix")) (ea_cons (ev_ixT (ev_var 1 rfl) ev_int (by walk_at "ix")) ea_nil)) rfl (by walk_at "R")) ea_nil))))) ?eq
  rfl
theorem ok_opposite (F : Fun K "opposite" "opposite" s_opposite f fd) (G_minus : DefD P w K mg base 1 "minus" ["one", "other"] (R_minus)) (Z : GT K mg "ZERO" 0 0) : FnOk P w K mg base CX0 2 f fd ["point"] (spD K 1 (R_opp)) := by
  refine def_ok F sc_opposite fun cdv A outer s H E ds d hr hl h => ?_
  cases h with
  | mk p =>
  refine SS.conv (ss_ret (st_ret (ev_tup (ea_cons (ev_call G_minus (hr.mono (by decide)) rfl (ea_cons (ev_globT Z rfl) (ea_cons (ev_ixT (ev_var 0 rfl) ev_int (by walk_at "ix")) ea_nil)) rfl (by walk_at "R")) (ea_cons (ev_call G_minus (hr.mono (by decide)) rfl (ea_cons (ev_globT Z rfl) (ea_cons (ev_ixT (ev_var 0 rfl) ev_int (by walk_at "ix")) ea_nil)) rfl (by walk_at "R")) ea_nil))))) ?eq
  show O.rt (pD (0 - p.a) (0 - p.b) (0 - p.c) (0 - p.d)) = O.rt (pD (-p.a) (-p.b) (-p.c) (-p.d))
  rw [Int.zero_sub, Int.zero_sub, Int.zero_sub, Int.zero_sub]
theorem ok_scaled (F : Fun K "scaled" "scaled" s_scaled f fd) (G_Frame_times : MethD P w K mg base 2 C "times" ["self", "one", "other"] (R_times C)) : FnOk P w K mg base CX0 3 f fd ["frame", "point", "number"] (spD K 3 (R_scaled C)) := by
  refine def_ok F sc_scaled fun cdv A outer s H E ds d hr hl h => ?_
  cases h with
  | mk m e f p hm hp he hf =>
  refine SS.conv (ss_ret (st_ret (ev_tup (ea_cons (ev_meth G_Frame_times (hr.mono (by decide)) (ev_var 0 rfl) (ea_cons (ev_ixT (ev_var 1 rfl) ev_int (by walk_at "ix")) (ea_cons (ev_var 2 rfl) ea_nil)) (by decide +kernel) rfl (by walk_at "R")) (ea_cons (ev_meth G_Frame_times (hr.mono (by decide)) (ev_var 0 rfl) (ea_cons (ev_ixT (ev_var 1 rfl) ev_int (by walk_at "ix")) (ea_cons (ev_var 2 rfl) ea_nil)) (by decide +kernel) rfl (by walk_at "R")) ea_nil))))) ?eq
  rfl
theorem ok_along_one (F : Fun K "along_one" "along_one" s_along_one f fd) (G_Frame_number : MethD P w K mg base 1 C "number" ["self", "a", "b"] (R_number C)) (G_Frame_times : MethD P w K mg base 2 C "times" ["self", "one", "other"] (R_times C)) (G_plus : DefD P w K mg base 1 "plus" ["one", "other"] (R_plus)) : FnOk P w K mg base CX0 3 f fd ["frame", "point"] (spD K 2 (R_along C)) := by
  refine def_ok F sc_along_one fun cdv A outer s H E ds d hr hl h => ?_
  cases h with
  | mk m a b c d hm ha hb hc hd =>
  refine SS.conv (ss_ret (st_ret (ev_call G_plus (hr.mono (by decide)) rfl (ea_cons (ev_ixT (ev_var 1 rfl) ev_int (by walk_at "ix")) (ea_cons (ev_meth G_Frame_times (hr.mono (by decide)) (ev_var 0 rfl) (ea_cons (ev_meth G_Frame_number (hr.mono (by decide)) (ev_var 0 rfl) (ea_cons ev_int (ea_cons ev_int ea_nil)) (by decide +kernel) rfl (by walk_at "R")) (ea_cons (ev_ixT (ev_var 1 rfl) ev_int (by walk_at "ix")) ea_nil)) (by decide +kernel) rfl (by walk_at "R")) ea_nil)) rfl (by walk_at "R")))) ?eq
  rfl
theorem ok_turned_once (F : Fun K "turned_once" "turned_once" s_turned_once f fd) (G_along_one : DefD P w K mg base 3 "along_one" ["frame", "point"] (R_along C)) (G_minus : DefD P w K mg base 1 "minus" ["one", "other"] (R_minus)) (Z : GT K mg "ZERO" 0 0) : FnOk P w K mg base CX0 4 f fd ["frame", "point"] (spD K 2 (R_once C)) := by
  refine def_ok F sc_turned_once fun cdv A outer s H E ds d hr hl h => ?_
  cases h with
  | mk m a b c d hm ha hb hc hd =>
  refine SS.conv (ss_ret (st_ret (ev_tup (ea_cons (ev_call G_minus (hr.mono (by decide)) rfl (ea_cons (ev_globT Z rfl) (ea_cons (ev_ixT (ev_var 1 rfl) ev_int (by walk_at "ix")) ea_nil)) rfl (by walk_at "R")) (ea_cons (ev_call G_along_one (hr.mono (by decide)) rfl (ea_cons (ev_var 0 rfl) (ea_cons (ev_var 1 rfl) ea_nil)) rfl (by walk_at "R")) ea_nil))))) ?eq
  rfl
theorem ok_turned (F : Fun K "turned" "turned" s_turned f fd) (G_turned_once : DefD P w K mg base 4 "turned_once" ["frame", "point"] (R_once C)) (G_Frame_size : MethD P w K mg base 1 C "size" ["self"] (R_size C)) (m_range : mg "range" = none) : FnOk P w K mg base CX0 5 f fd ["frame", "point", "r"] (spD K 3 (R_turned C)) := by
  refine def_ok F sc_turned fun cdv A outer s H E ds d hr hl h => ?_
  cases h with
  | mk m r p hm hp =>
  show SS _ _ [some (FrD C m), some (pD p.a p.b p.c p.d), some (.int r), none, none] _
  refine ss_cons (st_set 3 (ev_var 1 rfl) sc_turned.nd) ?_
  let g : Nat → Sd := fun k => [some (FrD C m), some (pD p.a p.b p.c p.d), some (.int r), some (P4.D (p.turn m k)), lastI k]
  have hmp := okM_pos hm
  have h1 := Int.emod_nonneg r (Int.ne_of_gt hmp.1)
  have h2 := Int.emod_lt_of_pos r hmp.1
  refine ss_cons (δ1 := g (r % m).toNat) (st_forR 4 PassesOwn.never rfl sc_turned.nd rfl m_range (ev_mod (ev_var 2 rfl) (ev_meth0 G_Frame_size (hr.mono (by decide)) (ev_var 0 rfl) (by decide +kernel) rfl (R_size.mk m hm)) hmp.1) (by omega) (forR_fold g (r % m).toNat fun k hk => ?_)) ?_
  · show SS _ _ [some (FrD C m), some (pD p.a p.b p.c p.d), some (.int r), some (P4.D (p.turn m k)), some (.int (k : Int))] (.nx [some (FrD C m), some (pD p.a p.b p.c p.d), some (.int r), some (P4.D (p.turn m (k + 1))), some (.int (k : Int))])
    have hB := P4.turn_B (m := m) hp k
    have hk : 40000 + 8 * k ≤ 50000 := by omega
    exact ss_cons (st_set 3 (ev_call G_turned_once (hr.mono (by decide)) rfl (ea_cons (ev_var 0 rfl) (ea_cons (ev_var 3 rfl) ea_nil)) rfl (R_once.mk m _ _ _ _ hm (hB.a.mono hk) (hB.b.mono hk) (hB.c.mono hk) (hB.d.mono hk))) sc_turned.nd) ss_nil
  · exact ss_ret (st_ret (ev_var 3 rfl))
theorem ok_mirrored (F : Fun K "mirrored" "mirrored" s_mirrored f fd) (G_along_one : DefD P w K mg base 3 "along_one" ["frame", "point"] (R_along C)) (G_minus : DefD P w K mg base 1 "minus" ["one", "other"] (R_minus)) (Z : GT K mg "ZERO" 0 0) : FnOk P w K mg base CX0 4 f fd ["frame", "point"] (spD K 2 (R_mirrored C)) := by
  refine def_ok F sc_mirrored fun cdv A outer s H E ds d hr hl h => ?_
  cases h with
  | mk m p hm hp =>
  refine SS.conv (ss_ret (st_ret (ev_tup (ea_cons (ev_call G_along_one (hr.mono (by decide)) rfl (ea_cons (ev_var 0 rfl) (ea_cons (ev_var 1 rfl) ea_nil)) rfl (by walk_at "R")) (ea_cons (ev_call G_minus (hr.mono (by decide)) rfl (ea_cons (ev_globT Z rfl) (ea_cons (ev_ixT (ev_var 1 rfl) ev_int (by walk_at "ix")) ea_nil)) rfl (by walk_at "R")) ea_nil))))) ?eq
  rfl
theorem ok_moved (F : Fun K "moved" "moved" s_moved f fd) (G_added : DefD P w K mg base 2 "added" ["one", "other"] (R_added)) (G_turned : DefD P w K mg base 5 "turned" ["frame", "point", "r"] (R_turned C)) (G_mirrored : DefD P w K mg base 4 "mirrored" ["frame", "point"] (R_mirrored C)) : FnOk P w K mg base CX0 6 f fd ["frame", "move", "point"] (spD K 3 (R_moved C)) := by
  refine def_ok F sc_moved fun cdv A outer s H E ds d hr hl h => ?_
  cases h with
  | mk m x p hm hf hp =>
  obtain ⟨t, f, o⟩ := x
  change f = 0 ∨ f = 1 at hf
  rcases hf with rfl | rfl
  · show SS _ _ [some (FrD C m), some (Mv.D ⟨t, 0, o⟩), some (P4.D p), none] _
    exact SS.conv (ss_cons (st_set 3 (EV.conv (d := if eqD (.int 0) (.int 1) = true then P4.D (p.mir m) else P4.D p) (ev_ifE (et_eq hr (ev_ixT (ev_var 1 rfl) ev_int (by walk_at "ix")) ev_int) (fun _ => ev_call G_mirrored (hr.mono (by decide)) rfl (ea_cons (ev_var 0 rfl) (ea_cons (ev_var 2 rfl) ea_nil)) rfl (R_mirrored.mk m p hm (hp.mono (by decide)))) (fun _ => ev_var 2 rfl)) (show _ = P4.D p from rfl)) sc_moved.nd) (ss_ret (st_ret (ev_call G_added (hr.mono (by decide)) rfl (ea_cons (ev_call G_turned (hr.mono (by decide)) rfl (ea_cons (ev_var 0 rfl) (ea_cons (ev_var 3 rfl) (ea_cons (ev_ixT (ev_var 1 rfl) ev_int (by walk_at "ix")) ea_nil))) rfl (R_turned.mk m t p hm (hp.mono (by decide)))) (ea_cons (ev_ixT (ev_var 1 rfl) ev_int (by walk_at "ix")) ea_nil)) rfl (R_added.mk (P4.turn m p (t % m).toNat) o))))) rfl
  · show SS _ _ [some (FrD C m), some (Mv.D ⟨t, 1, o⟩), some (P4.D p), none] _
    exact SS.conv (ss_cons (st_set 3 (EV.conv (d := if eqD (.int 1) (.int 1) = true then P4.D (p.mir m) else P4.D p) (ev_ifE (et_eq hr (ev_ixT (ev_var 1 rfl) ev_int (by walk_at "ix")) ev_int) (fun _ => ev_call G_mirrored (hr.mono (by decide)) rfl (ea_cons (ev_var 0 rfl) (ea_cons (ev_var 2 rfl) ea_nil)) rfl (R_mirrored.mk m p hm (hp.mono (by decide)))) (fun _ => ev_var 2 rfl)) (show _ = P4.D (p.mir m) from rfl)) sc_moved.nd) (ss_ret (st_ret (ev_call G_added (hr.mono (by decide)) rfl (ea_cons (ev_call G_turned (hr.mono (by decide)) rfl (ea_cons (ev_var 0 rfl) (ea_cons (ev_var 3 rfl) (ea_cons (ev_ixT (ev_var 1 rfl) ev_int (by walk_at "ix")) ea_nil))) rfl (R_turned.mk m t (p.mir m) hm ((P4.mir_B hp).mono (by decide)))) (ea_cons (ev_ixT (ev_var 1 rfl) ev_int (by walk_at "ix")) ea_nil)) rfl (R_added.mk (P4.turn m (p.mir m) (t % m).toNat) o))))) rfl
theorem ok_joined (F : Fun K "joined" "joined" s_joined f fd) (G_Frame_size : MethD P w K mg base 1 C "size" ["self"] (R_size C)) (G_moved : DefD P w K mg base 6 "moved" ["frame", "move", "point"] (R_moved C)) : FnOk P w K mg base CX0 7 f fd ["frame", "first", "second"] (spD K 3 (R_joined C)) := by
  refine def_ok F sc_joined fun cdv A outer s H E ds d hr hl h => ?_
  cases h with
  | mk m x y hm hy hp =>
  show SS _ _ [some (FrD C m), some (x.D), some (y.D), none, none] _
  refine ss_cons (st_set 3 (ev_ifE (et_eq hr (ev_ixT (ev_var 2 rfl) ev_int (by walk_at "ix")) ev_int) (fun _ => (ev_sub (ev_ixT (ev_var 2 rfl) ev_int (by walk_at "ix")) (ev_ixT (ev_var 1 rfl) ev_int (by walk_at "ix")))) (fun _ => (ev_add (ev_ixT (ev_var 2 rfl) ev_int (by walk_at "ix")) (ev_ixT (ev_var 1 rfl) ev_int (by walk_at "ix"))))) sc_joined.nd) ?_
  walk_at "norm"
  rw [eq01 hy]
  rw [show (if y.f = 1 then D.int (y.t - x.t) else D.int (y.t + x.t)) = D.int (if y.f = 1 then y.t - x.t else y.t + x.t) from (by split <;> rfl)]
  have hmp := okM_pos hm
  refine ss_cons (st_set 4 (ev_mod (ev_add (ev_ixT (ev_var 1 rfl) ev_int (by walk_at "ix")) (ev_ixT (ev_var 2 rfl) ev_int (by walk_at "ix"))) ev_int (by walk_at "pos")) sc_joined.nd) ?_
  walk_at "norm"
  refine ss_ret (st_ret (EV.conv (ev_tup (ea_cons (ev_mod (ev_var 3 rfl) (ev_meth0 G_Frame_size (hr.mono (by decide)) (ev_var 0 rfl) (by decide +kernel) rfl (by walk_at "R")) (by walk_at "pos")) (ea_cons (ev_var 4 rfl) (ea_cons (ev_call G_moved (hr.mono (by decide)) rfl (ea_cons (ev_var 0 rfl) (ea_cons (ev_var 2 rfl) (ea_cons (ev_ixT (ev_var 1 rfl) ev_int (by walk_at "ix")) ea_nil))) rfl (by walk_at "R")) ea_nil)))) ?ret))
  case ret => rfl
  
theorem ok_back (F : Fun K "back" "back" s_back f fd) (G_Frame_size : MethD P w K mg base 1 C "size" ["self"] (R_size C)) (G_moved : DefD P w K mg base 6 "moved" ["frame", "move", "point"] (R_moved C)) (G_opposite : DefD P w K mg base 2 "opposite" ["point"] (R_opp)) (O : GP K mg "ORIGIN") : FnOk P w K mg base CX0 7 f fd ["frame", "move"] (spD K 2 (R_back C)) := by
  refine def_ok F sc_back fun cdv A outer s H E ds d hr hl h => ?_
  cases h with
  | mk m x hm hx hp =>
  have hmp := okM_pos hm
  show SS _ _ [some (FrD C m), some (x.D), none, none] _
  refine ss_cons (st_set 2 (ev_ifE (et_eq hr (ev_ixT (ev_var 1 rfl) ev_int (by walk_at "ix")) ev_int) (fun _ => (ev_ixT (ev_var 1 rfl) ev_int (by walk_at "ix"))) (fun _ => (ev_mod (ev_neg (ev_ixT (ev_var 1 rfl) ev_int (by walk_at "ix"))) (ev_meth0 G_Frame_size (hr.mono (by decide)) (ev_var 0 rfl) (by decide +kernel) rfl (by walk_at "R")) (by walk_at "pos")))) sc_back.nd) ?_
  walk_at "norm"
  rw [eq01 hx.f]
  rw [show (if x.f = 1 then D.int x.t else D.int (-x.t % m)) = D.int (x.bt m) from (by unfold Mv.bt; split <;> rfl)]
  have fx := hx.f
  refine ss_cons (st_set 3 (ev_call G_opposite (hr.mono (by decide)) rfl (ea_cons (ev_call G_moved (hr.mono (by decide)) rfl (ea_cons (ev_var 0 rfl) (ea_cons (ev_tup (ea_cons (ev_var 2 rfl) (ea_cons (ev_ixT (ev_var 1 rfl) ev_int (by walk_at "ix")) (ea_cons (ev_globP O rfl) ea_nil)))) (ea_cons (ev_ixT (ev_var 1 rfl) ev_int (by walk_at "ix")) ea_nil))) rfl (R_moved.mk m ⟨x.bt m, x.f, P4.zero⟩ x.o hm fx hp)) ea_nil) rfl (R_opp.mk (Mv.mv m ⟨x.bt m, x.f, P4.zero⟩ x.o))) sc_back.nd) ?_
  walk_at "norm"
  refine ss_ret (st_ret (EV.conv (ev_tup (ea_cons (ev_var 2 rfl) (ea_cons (ev_ixT (ev_var 1 rfl) ev_int (by walk_at "ix")) (ea_cons (ev_var 3 rfl) ea_nil)))) ?ret))
  case ret => rfl
  
theorem ok_cross (F : Fun K "cross" "cross" s_cross f fd) (G_Frame_times : MethD P w K mg base 2 C "times" ["self", "one", "other"] (R_times C)) (G_minus : DefD P w K mg base 1 "minus" ["one", "other"] (R_minus)) : FnOk P w K mg base CX0 3 f fd ["frame", "one", "other"] (spD K 3 (R_cross C)) := by
  refine def_ok F sc_cross fun cdv A outer s H E ds d hr hl h => ?_
  cases h with
  | mk m p q hm hp hq =>
  refine SS.conv (ss_ret (st_ret (ev_call G_minus (hr.mono (by decide)) rfl (ea_cons (ev_meth G_Frame_times (hr.mono (by decide)) (ev_var 0 rfl) (ea_cons (ev_ixT (ev_var 1 rfl) ev_int (by walk_at "ix")) (ea_cons (ev_ixT (ev_var 2 rfl) ev_int (by walk_at "ix")) ea_nil)) (by decide +kernel) rfl (by walk_at "R")) (ea_cons (ev_meth G_Frame_times (hr.mono (by decide)) (ev_var 0 rfl) (ea_cons (ev_ixT (ev_var 1 rfl) ev_int (by walk_at "ix")) (ea_cons (ev_ixT (ev_var 2 rfl) ev_int (by walk_at "ix")) ea_nil)) (by decide +kernel) rfl (by walk_at "R")) ea_nil)) rfl (by walk_at "R")))) ?eq
  rfl
theorem ok_sides (F : Fun K "sides" "sides" s_sides f fd) (m_list : mg "list" = none) (m_zip : mg "zip" = none) : FnOk P w K mg base CX0 1 f fd ["shape"] (spD K 1 (R_sides)) := by
  refine def_ok F sc_sides fun cdv A outer s H E ds d hr hl h => ?_
  cases h with
  | mk ps h1 hlen =>
  exact ss_ret (st_ret (EV.conv (ev_listzip rfl rfl m_list rfl m_zip (ev_var 0 rfl) (ev_catL (ds := (ps.map P4.D).drop 1) (es := (ps.map P4.D).take 1) (EV.conv (ev_slL (ev_var 0 rfl) (.some ev_int) .none) (congrArg D.lst (cut_lo (k := 1) (by rw [List.length_map]; omega)))) (EV.conv (ev_slL (ev_var 0 rfl) .none (.some ev_int)) (congrArg D.lst (cut_hi (k := 1) (by rw [List.length_map]; omega)))) (by rw [List.length_drop, List.length_take, List.length_map]; omega)) (by rw [List.length_append, List.length_drop, List.length_take, List.length_map]; omega) (by rw [List.length_map]; omega)) (congrArg D.lst (zip_sides ps))))
  
theorem ok_hand (F : Fun K "hand" "hand" s_hand f fd) (G_opposite : DefD P w K mg base 2 "opposite" ["point"] (R_opp)) (G_added : DefD P w K mg base 2 "added" ["one", "other"] (R_added)) (G_cross : DefD P w K mg base 3 "cross" ["frame", "one", "other"] (R_cross C)) (G_Frame_sign : MethD P w K mg base 2 C "sign" ["self", "one"] (R_sign C)) : FnOk P w K mg base CX0 4 f fd ["frame", "side", "point"] (spD K 3 (R_hand C)) := by
  refine def_ok F sc_hand fun cdv A outer s H E ds d hr hl h => ?_
  cases h with
  | mk m p q r hm hp hq hr' =>
  have c1 := P4.plus_B hq (neg_B hp)
  have c2 := P4.plus_B hr' (neg_B hp)
  have b1 := crA_bd (m := m) c1 c2
  have b2 := crB_bd (m := m) c1 c2
  show SS _ _ [some (FrD C m), some (.tup [P4.D p, P4.D q]), some (P4.D r), none] _
  refine ss_cons (st_set 3 (ev_call G_opposite (hr.mono (by decide)) rfl (ea_cons (ev_ixT (ev_var 1 rfl) ev_int rfl) ea_nil) rfl (R_opp.mk p)) sc_hand.nd) ?_
  walk_at "norm"
  exact SS.conv (ss_ret (st_ret (ev_meth G_Frame_sign (hr.mono (by decide)) (ev_var 0 rfl) (ea_cons (ev_call G_cross (hr.mono (by decide)) rfl (ea_cons (ev_var 0 rfl) (ea_cons (ev_call G_added (hr.mono (by decide)) rfl (ea_cons (ev_ixT (ev_var 1 rfl) ev_int rfl) (ea_cons (ev_var 3 rfl) ea_nil)) rfl (R_added.mk q p.neg)) (ea_cons (ev_call G_added (hr.mono (by decide)) rfl (ea_cons (ev_var 2 rfl) (ea_cons (ev_var 3 rfl) ea_nil)) rfl (R_added.mk r p.neg)) ea_nil))) rfl (R_cross.mk m (q.plus p.neg) (r.plus p.neg) hm (c1.mono (by decide)) (c2.mono (by decide)))) ea_nil) (by decide +kernel) rfl (R_sign.mk m _ _ hm (b1.mono (by decide)) (b2.mono (by decide)))))) (by rw [plus_neg, plus_neg]; rfl)
theorem ok_is_shape (F : Fun K "is_shape" "is_shape" s_is_shape f fd) (G_hand : DefD P w K mg base 4 "hand" ["frame", "side", "point"] (R_hand C)) (m_len : mg "len" = none) (m_range : mg "range" = none) (m_min : mg "min" = none) (I_FEWEST_CORNERS : GI mg "FEWEST_CORNERS" 3) (I_MOST_CORNERS : GI mg "MOST_CORNERS" 6) : FnOk P w K mg base CX0 5 f fd ["frame", "points"] (spD K 2 (R_iss C)) := by
  refine def_ok F sc_is_shape fun cdv A outer s H E ds d hr hl h => ?_
  cases h with
  | mk m ps hm hb hlen =>
  have elen : ((ps.map P4.D).length : Int) = (ps.length : Int) := by rw [List.length_map]
  show SS _ _ [some (FrD C m), some (.lst (ps.map P4.D)), none, none, none] _
  by_cases h3 : 3 ≤ ps.length
  · by_cases h6 : ps.length ≤ 6
    · refine ss_skip (EW.et (ew_or (et_lt (ev_lenL rfl m_len (ev_var 1 rfl)) (ev_globI I_FEWEST_CORNERS rfl)) (fun _ => ew_or1 (et_gt (ev_lenL rfl m_len (ev_var 1 rfl)) (ev_globI I_MOST_CORNERS rfl))))) (by rw [elen, decide_eq_false (by omega), decide_eq_false (by omega)]; rfl) ?_
      let g : Nat → Sd := fun k => [some (FrD C m), some (.lst (ps.map P4.D)), lastI k, arO ps k, siO ps k]
      have body : ∀ k < ps.length, ∃ a b c r, rotP k ps = a :: b :: c :: r ∧ (a.B 1000 ∧ b.B 1000 ∧ (∀ x ∈ c :: r, x.B 1000) ∧ r.length ≤ 6) := fun k hk => by
        obtain ⟨a, b, c, r, e⟩ := rot_cons h3 hk
        have hl' : (rotP k ps).length = ps.length := by unfold rotP; rw [List.length_append, List.length_drop, List.length_take]; omega
        have hm' : ∀ x ∈ rotP k ps, x.B 1000 := fun x hx => hb x (rot_mem hx)
        rw [e] at hl' hm'
        exact ⟨a, b, c, r, e, hm' a (by simp), hm' b (by simp), fun x hx => hm' x (by rcases List.mem_cons.mp hx with rfl | hx <;> simp_all), by simp at hl'; omega⟩
      have first := fun (X : Cx) (bd : List Stmt) (hno : ∀ k < ps.length, (!headOk m (rotP k ps)) = false → SS X bd ((g k).set 2 (some (.int (k : Int)))) (.nx (g (k + 1)))) (hyes : ∀ k < ps.length, (!headOk m (rotP k ps)) = true → SS X bd ((g k).set 2 (some (.int (k : Int)))) (.rt (.bl false))) => forR_first (X := X) (body := bd) (k := 2) g (.bl false) (fun k => !headOk m (rotP k ps)) ps.length hno hyes
      have hF : isF m ps = (List.range ps.length).all (fun k => !(!headOk m (rotP k ps))) := by
        unfold isF
        rw [decide_eq_true h3, decide_eq_true h6]
        simp
      cases hall : (List.range ps.length).all (fun k => !(!headOk m (rotP k ps))) with
      | true =>
        refine ss_cons (δ1 := g ps.length) (st_forR 2 PassesOwn.never rfl sc_is_shape.nd rfl m_range (n := (ps.length : Int)) (EV.conv (ev_lenL rfl m_len (ev_var 1 rfl)) (congrArg D.int elen)) (by omega) ((first _ _ (fun k hk hp => ?no) (fun k hk hp => ?yes)).1 hall)) ?fin10
        case fin10 => exact ss_ret (st_ret (EV.conv ev_bl (by rw [hF, hall])))
        case yes =>
          rw [List.all_eq_true] at hall
          have := hall k (List.mem_range.mpr hk)
          rw [hp] at this
          cases this
        case no =>
          obtain ⟨a, b, c, r, e, ha, hb', hall, hr6⟩ := body k hk
          show SS _ _ [some (FrD C m), some (.lst (ps.map P4.D)), some (.int (k : Int)), arO ps k, siO ps k] _
          refine ss_cons (st_set 3 (EV.conv (ev_catL (ev_slL (ev_var 1 rfl) (.some (ev_var 2 rfl)) .none) (ev_slL (ev_var 1 rfl) .none (.some (ev_var 2 rfl))) (by rw [cut_lo (by rw [List.length_map]; omega), cut_hi (by rw [List.length_map]; omega), List.length_drop, List.length_take, List.length_map]; omega)) (congrArg D.lst (rot_cut (by omega)))) sc_is_shape.nd) ?_
          walk_at "norm"
          obtain ⟨M, hM, hle⟩ := min_ex (ns := (c :: r).map (hnd m a b)) (by simp)
          have hmh := min_head hM hle
          rw [← e] at hmh
          have eg : g (k + 1) = [some (FrD C m), some (.lst (ps.map P4.D)), some (.int (k : Int)), some (.lst ((rotP k ps).map P4.D)), siL (rotP k ps)] := rfl
          rw [eg]
          rw [e]
          refine ss_cons (st_set 4 (ev_tup (ea_cons (ev_ixL (ev_var 3 rfl) ev_int ix0) (ea_cons (ev_ixL (ev_var 3 rfl) ev_int ix1) ea_nil))) sc_is_shape.nd) ?_
          walk_at "norm"
          exact ss_skip (et_lt (ev_minL (ns := (c :: r).map (hnd m a b)) rfl rfl m_min (EV.conv (ev_comp0 (xs := c :: r) (f := P4.D) (x := "point") (Nr := ["frame", "points", "k", "around", "side"]) (fun x => .int (hnd m a b x)) rfl (by kernel_rfl) (ei_list (EV.conv (ev_slL (ev_var 3 rfl) (.some ev_int) .none) (congrArg D.lst cut2))) (fun cl C' s₀ H₀ ex x hx => ev_call G_hand (hr.mono (by decide)) rfl (ea_cons (ev_var 1 rfl) (ea_cons (ev_var 5 rfl) (ea_cons (ev_var 0 rfl) ea_nil))) rfl (R_hand.mk m a b x hm ha hb' (hall x hx))) (by simp only [List.length_cons]; omega)) (by rw [List.map_map]; rfl)) hM hle) ev_int) (by rw [hmh]; exact hp) ss_nil
      | false =>
        refine SS.conv (ss_ret (st_forR 2 PassesOwn.never rfl sc_is_shape.nd rfl m_range (n := (ps.length : Int)) (EV.conv (ev_lenL rfl m_len (ev_var 1 rfl)) (congrArg D.int elen)) (by omega) ((first _ _ (fun k hk hp => ?no) (fun k hk hp => ?yes)).2 hall))) (by rw [hF, hall])
        case no =>
          obtain ⟨a, b, c, r, e, ha, hb', hall, hr6⟩ := body k hk
          show SS _ _ [some (FrD C m), some (.lst (ps.map P4.D)), some (.int (k : Int)), arO ps k, siO ps k] _
          refine ss_cons (st_set 3 (EV.conv (ev_catL (ev_slL (ev_var 1 rfl) (.some (ev_var 2 rfl)) .none) (ev_slL (ev_var 1 rfl) .none (.some (ev_var 2 rfl))) (by rw [cut_lo (by rw [List.length_map]; omega), cut_hi (by rw [List.length_map]; omega), List.length_drop, List.length_take, List.length_map]; omega)) (congrArg D.lst (rot_cut (by omega)))) sc_is_shape.nd) ?_
          walk_at "norm"
          obtain ⟨M, hM, hle⟩ := min_ex (ns := (c :: r).map (hnd m a b)) (by simp)
          have hmh := min_head hM hle
          rw [← e] at hmh
          have eg : g (k + 1) = [some (FrD C m), some (.lst (ps.map P4.D)), some (.int (k : Int)), some (.lst ((rotP k ps).map P4.D)), siL (rotP k ps)] := rfl
          rw [eg]
          rw [e]
          refine ss_cons (st_set 4 (ev_tup (ea_cons (ev_ixL (ev_var 3 rfl) ev_int ix0) (ea_cons (ev_ixL (ev_var 3 rfl) ev_int ix1) ea_nil))) sc_is_shape.nd) ?_
          walk_at "norm"
          exact ss_skip (et_lt (ev_minL (ns := (c :: r).map (hnd m a b)) rfl rfl m_min (EV.conv (ev_comp0 (xs := c :: r) (f := P4.D) (x := "point") (Nr := ["frame", "points", "k", "around", "side"]) (fun x => .int (hnd m a b x)) rfl (by kernel_rfl) (ei_list (EV.conv (ev_slL (ev_var 3 rfl) (.some ev_int) .none) (congrArg D.lst cut2))) (fun cl C' s₀ H₀ ex x hx => ev_call G_hand (hr.mono (by decide)) rfl (ea_cons (ev_var 1 rfl) (ea_cons (ev_var 5 rfl) (ea_cons (ev_var 0 rfl) ea_nil))) rfl (R_hand.mk m a b x hm ha hb' (hall x hx))) (by simp only [List.length_cons]; omega)) (by rw [List.map_map]; rfl)) hM hle) ev_int) (by rw [hmh]; exact hp) ss_nil
        case yes =>
          obtain ⟨a, b, c, r, e, ha, hb', hall, hr6⟩ := body k hk
          show SS _ _ [some (FrD C m), some (.lst (ps.map P4.D)), some (.int (k : Int)), arO ps k, siO ps k] _
          refine ss_cons (st_set 3 (EV.conv (ev_catL (ev_slL (ev_var 1 rfl) (.some (ev_var 2 rfl)) .none) (ev_slL (ev_var 1 rfl) .none (.some (ev_var 2 rfl))) (by rw [cut_lo (by rw [List.length_map]; omega), cut_hi (by rw [List.length_map]; omega), List.length_drop, List.length_take, List.length_map]; omega)) (congrArg D.lst (rot_cut (by omega)))) sc_is_shape.nd) ?_
          walk_at "norm"
          obtain ⟨M, hM, hle⟩ := min_ex (ns := (c :: r).map (hnd m a b)) (by simp)
          have hmh := min_head hM hle
          rw [← e] at hmh
          rw [e]
          refine ss_cons (st_set 4 (ev_tup (ea_cons (ev_ixL (ev_var 3 rfl) ev_int ix0) (ea_cons (ev_ixL (ev_var 3 rfl) ev_int ix1) ea_nil))) sc_is_shape.nd) ?_
          walk_at "norm"
          exact ss_ret (st_ifT (et_lt (ev_minL (ns := (c :: r).map (hnd m a b)) rfl rfl m_min (EV.conv (ev_comp0 (xs := c :: r) (f := P4.D) (x := "point") (Nr := ["frame", "points", "k", "around", "side"]) (fun x => .int (hnd m a b x)) rfl (by kernel_rfl) (ei_list (EV.conv (ev_slL (ev_var 3 rfl) (.some ev_int) .none) (congrArg D.lst cut2))) (fun cl C' s₀ H₀ ex x hx => ev_call G_hand (hr.mono (by decide)) rfl (ea_cons (ev_var 1 rfl) (ea_cons (ev_var 5 rfl) (ea_cons (ev_var 0 rfl) ea_nil))) rfl (R_hand.mk m a b x hm ha hb' (hall x hx))) (by simp only [List.length_cons]; omega)) (by rw [List.map_map]; rfl)) hM hle) ev_int) (by rw [hmh]; exact hp) (ss_ret (st_ret ev_bl)))
    · refine ss_ret (st_ifT (EW.et (ew_or (et_lt (ev_lenL rfl m_len (ev_var 1 rfl)) (ev_globI I_FEWEST_CORNERS rfl)) (fun _ => ew_or1 (et_gt (ev_lenL rfl m_len (ev_var 1 rfl)) (ev_globI I_MOST_CORNERS rfl))))) (by rw [elen, decide_eq_true (show (6 : Int) < (ps.length : Int) by omega), Bool.or_true]) (ss_ret (st_ret (EV.conv ev_bl ?_))))
      unfold isF
      rw [decide_eq_false h6]
      simp
  · refine ss_ret (st_ifT (EW.et (ew_or (et_lt (ev_lenL rfl m_len (ev_var 1 rfl)) (ev_globI I_FEWEST_CORNERS rfl)) (fun _ => ew_or1 (et_gt (ev_lenL rfl m_len (ev_var 1 rfl)) (ev_globI I_MOST_CORNERS rfl))))) (by rw [elen, decide_eq_true (show (ps.length : Int) < 3 by omega), Bool.true_or]) (ss_ret (st_ret (EV.conv ev_bl ?_))))
    unfold isF
    rw [decide_eq_false h3]
    simp
theorem ok_twice (F : Fun K "twice" "twice" s_twice f fd) (G_sides : DefD P w K mg base 1 "sides" ["shape"] (R_sides)) (G_cross : DefD P w K mg base 3 "cross" ["frame", "one", "other"] (R_cross C)) (G_plus : DefD P w K mg base 1 "plus" ["one", "other"] (R_plus)) (Z : GT K mg "ZERO" 0 0) : FnOk P w K mg base CX0 4 f fd ["frame", "shape"] (spD K 2 (R_twice C)) := by
  refine def_ok F sc_twice fun cdv A outer s H E ds d hr hl h => ?_
  cases h with
  | mk m ps hm hb h1 hlen =>
  show SS _ _ [some (FrD C m), some (.lst (ps.map P4.D)), none, none] _
  refine ss_cons (st_set 2 (ev_globT Z rfl) sc_twice.nd) ?_
  walk_at "norm"
  let G : Int × Int → Option D → Sd := fun a l => [some (FrD C m), some (.lst (ps.map P4.D)), some (nD a.1 a.2), l]
  refine ss_cons (st_forL 3 PassesOwn.never rfl sc_twice.nd (ev_call G_sides (hr.mono (by decide)) rfl (ea_cons (ev_var 1 rfl) ea_nil) rfl (R_sides.mk ps h1 hlen)) (forL_acc G (twStep m) (sidesP ps) (0, 0) none fun a l s hs => ?_)) ?_
  · have hms := mem_sides hs
    show SS _ _ [some (FrD C m), some (.lst (ps.map P4.D)), some (nD a.1 a.2), some (.tup [P4.D s.1, P4.D s.2])] (.nx [some (FrD C m), some (.lst (ps.map P4.D)), some (nD (a.1 + crA m s.1 s.2) (a.2 + crB m s.1 s.2)), some (.tup [P4.D s.1, P4.D s.2])])
    exact ss_cons (st_set 2 (ev_call G_plus (hr.mono (by decide)) rfl (ea_cons (ev_var 2 rfl) (ea_cons (ev_call G_cross (hr.mono (by decide)) rfl (ea_cons (ev_var 0 rfl) (ea_cons (ev_ixT (ev_var 3 rfl) ev_int rfl) (ea_cons (ev_ixT (ev_var 3 rfl) ev_int rfl) ea_nil))) rfl (R_cross.mk m s.1 s.2 hm ((hb _ hms.1).mono (by decide)) ((hb _ hms.2).mono (by decide)))) ea_nil)) rfl (R_plus.mk _ _ _ _)) sc_twice.nd) ss_nil
  · exact ss_ret (st_ret (ev_var 2 rfl))
  
theorem ok_where (F : Fun K "where" "where" s_where f fd) (G_sides : DefD P w K mg base 1 "sides" ["shape"] (R_sides)) (G_hand : DefD P w K mg base 4 "hand" ["frame", "side", "point"] (R_hand C)) (m_min : mg "min" = none) : FnOk P w K mg base CX0 5 f fd ["frame", "shape", "point"] (spD K 3 (R_where C)) := by
  refine def_ok F sc_where fun cdv A outer s H E ds d hr hl h => ?_
  cases h with
  | mk m ps p hm hb hp h1 hlen =>
  rw [← wh_until hm ps p h1]
  show SS _ _ [some (FrD C m), some (.lst (ps.map P4.D)), some (P4.D p), none, none] _
  have hit := R_sides.mk ps h1 hlen
  have hms := fun s (hs : s ∈ sidesP ps) => R_hand.mk (C := C) m s.1 s.2 p hm (hb _ (mem_sides hs).1) (hb _ (mem_sides hs).2) hp
  generalize sidesP ps = ss at hit hms ⊢
  refine ss_cons (st_set 3 ev_int sc_where.nd) ?_
  walk_at "norm"
  let G : Int → Option D → Sd := fun b l => [some (FrD C m), some (.lst (ps.map P4.D)), some (P4.D p), some (.int b), l]
  refine ss_forL_until (f := sD) (k := 4) G (stepM (hndS m p)) stopM D.int (b := 1) (l := none) PassesOwn.never rfl sc_where.nd (ev_call G_sides (hr.mono (by decide)) rfl (ea_cons (ev_var 1 rfl) ea_nil) rfl hit) (fun b l s hs hp => ?no) (fun b l s hs hp => ?yes) (fun b l => ss_ret (st_ret (ev_var 3 rfl)))
  case no =>
    show SS _ _ [some (FrD C m), some (.lst (ps.map P4.D)), some (P4.D p), some (.int b), some (sD s)] _
    refine ss_cons (st_set 3 (ev_min2 rfl rfl m_min (ea_cons (ev_var 3 rfl) (ea_cons (ev_call G_hand (hr.mono (by decide)) rfl (ea_cons (ev_var 0 rfl) (ea_cons (ev_var 4 rfl) (ea_cons (ev_var 2 rfl) ea_nil))) rfl (hms s hs)) ea_nil))) sc_where.nd) ?_
    walk_at "norm"
    exact ss_skip (et_eq hr (ev_var 3 rfl) (ev_neg ev_int)) hp ss_nil
  case yes =>
    show SS _ _ [some (FrD C m), some (.lst (ps.map P4.D)), some (P4.D p), some (.int b), some (sD s)] _
    refine ss_cons (st_set 3 (ev_min2 rfl rfl m_min (ea_cons (ev_var 3 rfl) (ea_cons (ev_call G_hand (hr.mono (by decide)) rfl (ea_cons (ev_var 0 rfl) (ea_cons (ev_var 4 rfl) (ea_cons (ev_var 2 rfl) ea_nil))) rfl (hms s hs)) ea_nil))) sc_where.nd) ?_
    walk_at "norm"
    exact ss_ret (st_ifT (et_eq hr (ev_var 3 rfl) (ev_neg ev_int)) hp (ss_ret (st_ret (ev_var 3 rfl))))
  
theorem ok_has_side_against (F : Fun K "has_side_against" "has_side_against" s_has_side_against f fd) (G_sides : DefD P w K mg base 1 "sides" ["shape"] (R_sides)) (G_hand : DefD P w K mg base 4 "hand" ["frame", "side", "point"] (R_hand C)) (m_max : mg "max" = none) : FnOk P w K mg base CX0 5 f fd ["frame", "one", "other"] (spD K 3 (R_ag C)) := by
  refine def_ok F sc_has_side_against fun cdv A0 outer s H E ds d hr hl h => ?_
  cases h with
  | mk m ps os hm hp ho h1 hlen h2 hlen2 =>
  show SS _ _ [some (FrD C m), some (.lst (ps.map P4.D)), some (.lst (os.map P4.D)), none] _
  have hit := R_sides.mk ps h1 hlen
  have hms := fun s (hs : s ∈ sidesP ps) r (hr : r ∈ os) => R_hand.mk (C := C) m s.1 s.2 r hm (hp _ (mem_sides hs).1) (hp _ (mem_sides hs).2) (ho r hr)
  unfold agF
  generalize sidesP ps = ss at hit hms ⊢
  have hne : ∀ s, hndP m s os ≠ [] := fun s e => by
    unfold hndP at e
    rw [List.map_eq_nil_iff.mp e] at h2
    simp at h2
  let G : Option D → Sd := fun l => [some (FrD C m), some (.lst (ps.map P4.D)), some (.lst (os.map P4.D)), l]
  refine SS.conv (ss_forL_first (f := sD) (k := 3) G (.bl true) (.bl false) (below m os) (xs := ss) (l := none) PassesOwn.never rfl sc_has_side_against.nd (ev_call G_sides (hr.mono (by decide)) rfl (ea_cons (ev_var 1 rfl) ea_nil) rfl hit) (fun l s hs hp => ?no) (fun l s hs hp => ?yes) (fun l => ss_ret (st_ret ev_bl))) ?eq
  case no =>
    obtain ⟨M, hM, hle⟩ := max_ex (hne s)
    rw [← max_below hM hle] at hp
    show SS _ _ [some (FrD C m), some (.lst (ps.map P4.D)), some (.lst (os.map P4.D)), some (sD s)] _
    exact ss_skip (et_lt (ev_maxL (ns := hndP m s os) rfl rfl m_max (EV.conv (ev_comp0 (xs := os) (f := P4.D) (x := "corner") (Nr := ["frame", "one", "other", "side"]) (hndQ m s) rfl (by kernel_rfl) (ei_list (ev_var 2 rfl)) (fun cl C' s₀ H₀ ex r hr' => ev_call G_hand (hr.mono (by decide)) rfl (ea_cons (ev_var 1 rfl) (ea_cons (ev_var 4 rfl) (ea_cons (ev_var 0 rfl) ea_nil))) rfl (hms s hs r hr')) (by omega)) (hndP_eq m s os)) hM hle) ev_int) hp ss_nil
  case yes =>
    obtain ⟨M, hM, hle⟩ := max_ex (hne s)
    rw [← max_below hM hle] at hp
    show SS _ _ [some (FrD C m), some (.lst (ps.map P4.D)), some (.lst (os.map P4.D)), some (sD s)] _
    exact ss_ret (st_ifT (et_lt (ev_maxL (ns := hndP m s os) rfl rfl m_max (EV.conv (ev_comp0 (xs := os) (f := P4.D) (x := "corner") (Nr := ["frame", "one", "other", "side"]) (hndQ m s) rfl (by kernel_rfl) (ei_list (ev_var 2 rfl)) (fun cl C' s₀ H₀ ex r hr' => ev_call G_hand (hr.mono (by decide)) rfl (ea_cons (ev_var 1 rfl) (ea_cons (ev_var 4 rfl) (ea_cons (ev_var 0 rfl) ea_nil))) rfl (hms s hs r hr')) (by omega)) (hndP_eq m s os)) hM hle) ev_int) hp (ss_ret (st_ret ev_bl)))
  case eq =>
    cases ss.any (below m os) <;> rfl
theorem ok_are_apart (F : Fun K "are_apart" "are_apart" s_are_apart f fd) (G_has_side_against : DefD P w K mg base 5 "has_side_against" ["frame", "one", "other"] (R_ag C)) : FnOk P w K mg base CX0 6 f fd ["frame", "one", "other"] (spD K 3 (R_ap C)) := by
  refine def_ok F sc_are_apart fun cdv A0 outer s H E ds d hr hl h => ?_
  cases h with
  | mk m ps os hm hp ho h1 hlen h2 hlen2 =>
  show SS _ _ [some (FrD C m), some (.lst (ps.map P4.D)), some (.lst (os.map P4.D))] _
  exact ss_ret (st_ret (ev_or (p := agF m ps os) (q := agF m os ps) (ev_call G_has_side_against (hr.mono (by decide)) rfl (ea_cons (ev_var 0 rfl) (ea_cons (ev_var 1 rfl) (ea_cons (ev_var 2 rfl) ea_nil))) rfl (R_ag.mk m ps os hm hp ho h1 hlen h2 hlen2)) (fun _ => ev_and1 (ev_call G_has_side_against (hr.mono (by decide)) rfl (ea_cons (ev_var 0 rfl) (ea_cons (ev_var 2 rfl) (ea_cons (ev_var 1 rfl) ea_nil))) rfl (R_ag.mk m os ps hm ho hp h2 hlen2 h1 hlen)))))
theorem ok_side_between (F : Fun K "side_between" "side_between" s_side_between f fd) (G_where : DefD P w K mg base 5 "where" ["frame", "shape", "point"] (R_where C)) (m_len : mg "len" = none) (m_tuple : mg "tuple" = none) (m_sorted : mg "sorted" = none) : FnOk P w K mg base CX0 6 f fd ["frame", "one", "other"] (spD K 3 (R_sb C)) := by
  refine def_ok F sc_side_between fun cdv A0 outer s H E ds d hr hl h => ?_
  cases h with
  | mk m one oth hm ha hb a3 a6 b3 b6 h2 =>
  show SS _ _ [some (FrD C m), some (.lst (one.map P4.D)), some (.lst (oth.map P4.D)), none] _
  have le1 : (ends1 m one oth).length ≤ 6 := Nat.le_trans (List.length_filter_le _ _) a6
  have le2 : (ends2 m one oth).length ≤ 6 := Nat.le_trans (List.length_filter_le _ _) b6
  refine ss_cons (δ1 := [some (FrD C m), some (.lst (one.map P4.D)), some (.lst (oth.map P4.D)), some (.lst ((ends1 m one oth).map P4.D))]) (st_set 3 (ev_comp1 (xs := one) (f := P4.D) (x := "corner") (Nr := ["frame", "one", "other", "ends"]) (on m oth) P4.D rfl (by kernel_rfl) (ei_list (ev_var 1 rfl)) (fun cl C' s₀ H₀ ex c hc => .one (et_eq hr (ev_call G_where (hr.mono (by decide)) rfl (ea_cons (ev_var 1 rfl) (ea_cons (ev_var 3 rfl) (ea_cons (ev_var 0 rfl) ea_nil))) rfl (R_where.mk m oth c hm hb (ha c hc) (by omega) (by omega))) ev_int)) (fun cl C' s₀ H₀ ex c hc _ => ev_var 0 rfl) (by omega)) sc_side_between.nd (hs := by rfl)) ?_
  refine ss_cons (δ1 := [some (FrD C m), some (.lst (one.map P4.D)), some (.lst (oth.map P4.D)), some (.lst ((endsF m one oth).map P4.D))]) (ST.conv (st_set 3 (ev_catL (ev_var 3 rfl) (ev_comp1 (xs := oth) (f := P4.D) (x := "corner") (Nr := ["frame", "one", "other", "ends"]) (fun c => !inD (P4.D c) ((ends1 m one oth).map P4.D) && on m one c) P4.D rfl (by kernel_rfl) (ei_list (ev_var 2 rfl)) (fun cl C' s₀ H₀ ex c hc => .one (EW.et (ew_and (et_notin hr (ev_var 0 rfl) (ev_var 4 rfl) rfl (shD_pts _)) (fun _ => ew_and1 (et_eq hr (ev_call G_where (hr.mono (by decide)) rfl (ea_cons (ev_var 1 rfl) (ea_cons (ev_var 2 rfl) (ea_cons (ev_var 0 rfl) ea_nil))) rfl (R_where.mk m one c hm ha (hb c hc) (by omega) (by omega))) ev_int))))) (fun cl C' s₀ H₀ ex c hc _ => ev_var 0 rfl) (by omega)) (by rw [List.length_map]; have := le2; unfold ends2 at this; rw [List.length_map]; omega)) sc_side_between.nd) (by unfold endsF; rw [List.map_append]; rfl)) ?_
  have elen : (((endsF m one oth).map P4.D).length : Int) = ((endsF m one oth).length : Int) := by rw [List.length_map]
  generalize endsF m one oth = l at h2 elen ⊢
  match l, h2, elen with
  | [], _, _ => exact ss_ret (st_ifT (et_lt (ev_lenL rfl m_len (ev_var 3 rfl)) ev_int) rfl (ss_ret (st_ret ev_non)))
  | [_], _, _ => exact ss_ret (st_ifT (et_lt (ev_lenL rfl m_len (ev_var 3 rfl)) ev_int) rfl (ss_ret (st_ret ev_non)))
  | [p, q], _, _ =>
    refine ss_skip (et_lt (ev_lenL rfl m_len (ev_var 3 rfl)) ev_int) rfl ?_
    exact ss_ret (st_ret (ev_tupOfL rfl m_tuple (ev_sortP (p := p) (q := q) hr rfl m_sorted (ev_var 3 rfl))))
  | _ :: _ :: _ :: _, h2, _ => exact absurd h2 (by simp only [List.length_cons]; omega)
theorem ok_cell (F : Fun K "_law_cell" "_law_cell" s_cell f fd) (m_len : mg "len" = none) : FnOk P w K mg base CX0 1 f fd ["_law_script", "_law_k"] (spD K 2 (R_cell 89 47 62089 7757)) := by
  refine def_ok F sc_cell fun cdv A outer s H E ds d hr hl h => ?_
  cases h with
  | mk ns k h0 h1 =>
  refine SS.conv (ss_ifR (et_lt (ev_var 1 rfl) (ev_lenL rfl m_len (ev_var 0 rfl))) (fun c1 => (ss_ret (st_ret (ev_ixL (ev_var 0 rfl) (ev_var 1 rfl) (ix_ints h0 (by simpa using c1)))))) (fun c1 => 
    (ss_ifR (et_eq hr (ev_lenL rfl m_len (ev_var 0 rfl)) ev_int) (fun _ => (ss_ret (st_ret (ev_add (ev_mul (ev_mul (ev_var 1 rfl) (ev_var 1 rfl) (by walk_at "bd")) ev_int (by walk_at "bd")) ev_int)))) (fun c2 => 
    (ss_ret (st_ret (ev_add (ev_mul (ev_mod (ev_ixL (ev_var 0 rfl) (ev_mod (ev_mul (ev_var 1 rfl) ev_int (by walk_at "bd")) (ev_lenL rfl m_len (ev_var 0 rfl)) (len_pos c2)) (len_ix c2)) ev_int (by walk_at "pos")) ev_int (by walk_at "bd")) (ev_mul (ev_mul (ev_var 1 rfl) (ev_var 1 rfl) (by walk_at "bd")) ev_int (by walk_at "bd"))))))))) ?eq
  simp only [List.length_map]
  unfold cellF
  split
  · rfl
  · split <;> rfl
theorem ok_sum (F : Fun K "_law_sum" "_law_sum" s_sum f fd)  : FnOk P w K mg base CX0 1 f fd ["_law_one", "_law_other"] (spD K 2 (R_lsum)) := by
  refine def_ok F sc_sum fun cdv A outer s H E ds d hr hl h => ?_
  cases h with
  | mk p q =>
  refine SS.conv (ss_ret (st_ret (ev_tup (ea_cons (ev_tup (ea_cons (ev_add (ev_ixT (ev_ixT (ev_var 0 rfl) ev_int (by walk_at "ix")) ev_int (by walk_at "ix")) (ev_ixT (ev_ixT (ev_var 1 rfl) ev_int (by walk_at "ix")) ev_int (by walk_at "ix"))) (ea_cons (ev_add (ev_ixT (ev_ixT (ev_var 0 rfl) ev_int (by walk_at "ix")) ev_int (by walk_at "ix")) (ev_ixT (ev_ixT (ev_var 1 rfl) ev_int (by walk_at "ix")) ev_int (by walk_at "ix"))) ea_nil))) (ea_cons (ev_tup (ea_cons (ev_add (ev_ixT (ev_ixT (ev_var 0 rfl) ev_int (by walk_at "ix")) ev_int (by walk_at "ix")) (ev_ixT (ev_ixT (ev_var 1 rfl) ev_int (by walk_at "ix")) ev_int (by walk_at "ix"))) (ea_cons (ev_add (ev_ixT (ev_ixT (ev_var 0 rfl) ev_int (by walk_at "ix")) ev_int (by walk_at "ix")) (ev_ixT (ev_ixT (ev_var 1 rfl) ev_int (by walk_at "ix")) ev_int (by walk_at "ix"))) ea_nil))) ea_nil))))) ?eq
  rfl
theorem ok_less (F : Fun K "_law_less" "_law_less" s_less f fd)  : FnOk P w K mg base CX0 1 f fd ["_law_one", "_law_other"] (spD K 2 (R_lless)) := by
  refine def_ok F sc_less fun cdv A outer s H E ds d hr hl h => ?_
  cases h with
  | mk p q =>
  refine SS.conv (ss_ret (st_ret (ev_tup (ea_cons (ev_tup (ea_cons (ev_sub (ev_ixT (ev_ixT (ev_var 0 rfl) ev_int (by walk_at "ix")) ev_int (by walk_at "ix")) (ev_ixT (ev_ixT (ev_var 1 rfl) ev_int (by walk_at "ix")) ev_int (by walk_at "ix"))) (ea_cons (ev_sub (ev_ixT (ev_ixT (ev_var 0 rfl) ev_int (by walk_at "ix")) ev_int (by walk_at "ix")) (ev_ixT (ev_ixT (ev_var 1 rfl) ev_int (by walk_at "ix")) ev_int (by walk_at "ix"))) ea_nil))) (ea_cons (ev_tup (ea_cons (ev_sub (ev_ixT (ev_ixT (ev_var 0 rfl) ev_int (by walk_at "ix")) ev_int (by walk_at "ix")) (ev_ixT (ev_ixT (ev_var 1 rfl) ev_int (by walk_at "ix")) ev_int (by walk_at "ix"))) (ea_cons (ev_sub (ev_ixT (ev_ixT (ev_var 0 rfl) ev_int (by walk_at "ix")) ev_int (by walk_at "ix")) (ev_ixT (ev_ixT (ev_var 1 rfl) ev_int (by walk_at "ix")) ev_int (by walk_at "ix"))) ea_nil))) ea_nil))))) ?eq
  rfl
theorem ok_by_w (F : Fun K "_law_by_w" "_law_by_w" s_by_w f fd)  : FnOk P w K mg base CX0 1 f fd ["_law_m", "_law_number"] (spD K 2 (R_byw)) := by
  refine def_ok F sc_by_w fun cdv A outer s H E ds d hr hl h => ?_
  cases h with
  | mk m a b hm hb ba bb =>
  show SS _ _ [some (.int m), some (nD a b), none, none] _
  refine ss_cons (st_unpack 2 3 rfl sc_by_w.nd (ev_var 1 rfl)) ?_
  walk_at "norm"
  rcases hm with rfl | rfl | rfl | rfl | rfl
  · have z := hb (by decide)
    exact SS.conv (ss_ret (st_ifT (et_eq hr (ev_var 0 rfl) ev_int) rfl (ss_ret (st_ret (ev_tup (ea_cons ev_int (ea_cons ev_int ea_nil))))))) (by
      show O.rt (nD _ _) = O.rt (nD _ _)
      have e : ∀ {p q r s : Int}, p = r → q = s → O.rt (nD p q) = O.rt (nD r s) := fun h1 h2 => by rw [h1, h2]
      refine e ?_ ?_ <;> simp [tA, tB, tX, tY, nA, nB, sqP, sqQ] <;> omega)
  · have z := hb (by decide)
    exact SS.conv (ss_skip (et_eq hr (ev_var 0 rfl) ev_int) rfl (ss_ret (st_ifT (et_eq hr (ev_var 0 rfl) ev_int) rfl (ss_ret (st_ret (ev_tup (ea_cons (ev_var 2 rfl) (ea_cons ev_int ea_nil)))))))) (by
      show O.rt (nD _ _) = O.rt (nD _ _)
      have e : ∀ {p q r s : Int}, p = r → q = s → O.rt (nD p q) = O.rt (nD r s) := fun h1 h2 => by rw [h1, h2]
      refine e ?_ ?_ <;> simp [tA, tB, tX, tY, nA, nB, sqP, sqQ] <;> omega)
  · exact SS.conv (ss_skip (et_eq hr (ev_var 0 rfl) ev_int) rfl (ss_skip (et_eq hr (ev_var 0 rfl) ev_int) rfl (ss_ret (st_ifT (et_eq hr (ev_var 0 rfl) ev_int) rfl (ss_ret (st_ret (ev_tup (ea_cons (ev_mul ev_int (ev_var 3 rfl) (mulOk (n := 10) (m := 1000) ⟨by decide⟩ bb (by decide))) (ea_cons (ev_var 2 rfl) ea_nil))))))))) (by
      show O.rt (nD _ _) = O.rt (nD _ _)
      have e : ∀ {p q r s : Int}, p = r → q = s → O.rt (nD p q) = O.rt (nD r s) := fun h1 h2 => by rw [h1, h2]
      refine e ?_ ?_ <;> simp [tA, tB, tX, tY, nA, nB, sqP, sqQ] <;> omega)
  · exact SS.conv (ss_skip (et_eq hr (ev_var 0 rfl) ev_int) rfl (ss_skip (et_eq hr (ev_var 0 rfl) ev_int) rfl (ss_skip (et_eq hr (ev_var 0 rfl) ev_int) rfl (ss_ret (st_ifT (et_eq hr (ev_var 0 rfl) ev_int) rfl (ss_ret (st_ret (ev_tup (ea_cons (ev_var 3 rfl) (ea_cons (ev_add (ev_var 2 rfl) (ev_var 3 rfl)) ea_nil)))))))))) (by
      show O.rt (nD _ _) = O.rt (nD _ _)
      have e : ∀ {p q r s : Int}, p = r → q = s → O.rt (nD p q) = O.rt (nD r s) := fun h1 h2 => by rw [h1, h2]
      refine e ?_ ?_ <;> simp [tA, tB, tX, tY, nA, nB, sqP, sqQ] <;> omega)
  · exact SS.conv (ss_skip (et_eq hr (ev_var 0 rfl) ev_int) rfl (ss_skip (et_eq hr (ev_var 0 rfl) ev_int) rfl (ss_skip (et_eq hr (ev_var 0 rfl) ev_int) rfl (ss_skip (et_eq hr (ev_var 0 rfl) ev_int) rfl (ss_ret (st_ret (ev_tup (ea_cons (ev_mul ev_int (ev_var 3 rfl) (mulOk (n := 10) (m := 1000) ⟨by decide⟩ bb (by decide))) (ea_cons (ev_var 2 rfl) ea_nil))))))))) (by
      show O.rt (nD _ _) = O.rt (nD _ _)
      have e : ∀ {p q r s : Int}, p = r → q = s → O.rt (nD p q) = O.rt (nD r s) := fun h1 h2 => by rw [h1, h2]
      refine e ?_ ?_ <;> simp [tA, tB, tX, tY, nA, nB, sqP, sqQ] <;> omega)
theorem ok_way (F : Fun K "_law_way" "_law_way" s_way f fd) (G_by_w : DefD P w K mg base 1 "_law_by_w" ["_law_m", "_law_number"] (R_byw)) (m_range : mg "range" = none) : FnOk P w K mg base CX0 2 f fd ["_law_m", "_law_turn", "_law_number"] (spD K 3 (R_way)) := by
  refine def_ok F sc_way fun cdv A outer s H E ds d hr hl h => ?_
  cases h with
  | mk m t a b hm hb ba bb =>
  show SS _ _ [some (.int m), some (.int t), some (nD a b), none, none, none, none] _
  refine ss_cons (st_set 3 (ev_var 2 rfl) sc_way.nd) ?_
  walk_at "norm"
  refine ss_cons (st_set 4 (ev_tup (ea_cons ev_int (ea_cons ev_int ea_nil))) sc_way.nd) ?_
  walk_at "norm"
  have hmp := okM_pos hm
  have h1 := Int.emod_nonneg t (Int.ne_of_gt hmp.1)
  have h2 := Int.emod_lt_of_pos t hmp.1
  let p0 : P4 := ⟨a, b, 0, 0⟩
  have pZ : p0.Z m := ⟨hb, fun _ => rfl⟩
  have pB : p0.B 30 := ⟨ba, bb, bd0.mono (by decide), bd0.mono (by decide)⟩
  let g : Nat → Sd := fun k => [some (.int m), some (.int t), some (nD a b), some (nD (p0.turn m k).a (p0.turn m k).b), some (nD (p0.turn m k).c (p0.turn m k).d), lastI k, lastT m p0 k]
  refine ss_cons (δ1 := g (t % m).toNat) (st_forR 5 PassesOwn.never rfl sc_way.nd rfl m_range (ev_mod (ev_var 1 rfl) (ev_var 0 rfl) hmp.1) (by omega) (forR_fold g (t % m).toNat fun k hk => ?_)) ?_
  · have hB := P4.turn_B (m := m) pB k
    have hZ := P4.turn_Z hm pZ k
    have hk' : 30 + 8 * k ≤ 200 := by omega
    show SS _ _ [some (.int m), some (.int t), some (nD a b), some (nD (p0.turn m k).a (p0.turn m k).b), some (nD (p0.turn m k).c (p0.turn m k).d), some (.int (k : Int)), lastT m p0 k] (.nx [some (.int m), some (.int t), some (nD a b), some (nD ((p0.turn m k).once m).a ((p0.turn m k).once m).b), some (nD ((p0.turn m k).once m).c ((p0.turn m k).once m).d), some (.int (k : Int)), some (moreT m (p0.turn m k))])
    generalize p0.turn m k = q at hB hZ ⊢
    rw [once_T]
    exact ss_cons (st_set 6 (ev_call G_by_w (hr.mono (by decide)) rfl (ea_cons (ev_var 0 rfl) (ea_cons (ev_var 4 rfl) ea_nil)) rfl (R_byw.mk m q.c q.d hm hZ.d (hB.c.mono (by omega)) (hB.d.mono (by omega)))) sc_way.nd)
      (ss_cons (st_par 3 4 (by decide) rfl sc_way.nd (ea_cons (ev_tup (ea_cons (ev_neg (ev_ixT (ev_var 4 rfl) ev_int rfl)) (ea_cons (ev_neg (ev_ixT (ev_var 4 rfl) ev_int rfl)) ea_nil))) (ea_cons (ev_tup (ea_cons (ev_add (ev_ixT (ev_var 3 rfl) ev_int rfl) (ev_ixT (ev_var 6 rfl) ev_int rfl)) (ea_cons (ev_add (ev_ixT (ev_var 3 rfl) ev_int rfl) (ev_ixT (ev_var 6 rfl) ev_int rfl)) ea_nil))) ea_nil))) ss_nil)
  · exact SS.conv (ss_ret (st_ret (ev_tup (ea_cons (ev_var 3 rfl) (ea_cons (ev_var 4 rfl) ea_nil))))) rfl

def lastC (ns : List Int) (k : Int) : Nat → Option D
  | 0 => none
  | j + 1 => some (.int (C0 ns (k + 4 + (j : Int))))

theorem ok_round (F : Fun K "_law_round" "_law_round" s_round f fd) (G_cell : DefD P w K mg base 1 "_law_cell" ["_law_script", "_law_k"] (R_cell 89 47 62089 7757)) (G_way : DefD P w K mg base 2 "_law_way" ["_law_m", "_law_turn", "_law_number"] (R_way)) (G_less : DefD P w K mg base 1 "_law_less" ["_law_one", "_law_other"] (R_lless)) (G_sum : DefD P w K mg base 1 "_law_sum" ["_law_one", "_law_other"] (R_lsum)) (m_int : mg "int" = none) (m_len : mg "len" = none) (m_range : mg "range" = none) : FnOk P w K mg base CX0 3 f fd ["_law_script", "_law_k", "_law_m"] (spF K 3 (R_round)) := by
  refine def_okF F sc_round fun cdv A outer s H E ds es hr hl h => ?_
  cases h with
  | mk ns k m h0 h1 hm =>
  have hmp := okM_pos hm
  have hh := half_ge hm
  have a1 := t1_ok hm ns k
  show SS _ _ [some (.lst (ns.map .int)), some (.int k), some (.int m), none, none, none, none, none, none, none, none] _
  refine so_ss ?_
  refine so_new 3 (ds := [.int 0, .int (t1F ns k m)]) (en_lst (ea_cons ev_int (ea_cons (ev_add ev_int (ev_mod (ev_call G_cell (hr.mono (by decide)) rfl (ea_cons (ev_var 0 rfl) (ea_cons (ev_var 1 rfl) ea_nil)) rfl (R_cell.mk ns _ (by omega) (by omega))) (ev_sub (ev_fdiv (ev_var 2 rfl) ev_int (by decide)) ev_int) (by omega))) ea_nil))) sc_round.nd (fun a => ?_)
  walk_at "norm"
  refine so_ifP (p := tB3 ns k m) (tf_readE (δ' := [some (.lst (ns.map .int)), some (.int k), some (.int m), some (.lst [.int 0, .int (t1F ns k m)]), none, none, none, none, none, none, none]) (by simp [thS, thD, lk0]) (EW.et (ew_and (et_eq hr (ev_mod (ev_call G_cell (hr.mono (by decide)) rfl (ea_cons (ev_var 0 rfl) (ea_cons (ev_add (ev_var 1 rfl) ev_int) ea_nil)) rfl (R_cell.mk ns _ (by omega) (by omega))) ev_int (by decide)) ev_int) (fun _ => ew_and1 (et_lt (ev_ixL (ev_var 3 rfl) ev_int rfl) (ev_sub (ev_fdiv (ev_var 2 rfl) ev_int (by decide)) ev_int))))))
    (fun δ' O' => δ' = [some (.lst (ns.map .int)), some (.int k), some (.int m), some (.adr a), none, none, none, none, none, none, none] ∧ O' = [(a, (turnsF ns k m).map D.int)]) (fun hp => ?yes) (fun hp => ⟨rfl, by unfold turnsF; rw [if_neg (by rw [hp]; decide)]; rfl⟩) (fun δ' O' hQ => ?_)
  case yes =>
    have hlt := tB3_lt hp
    exact ⟨_, _, ⟨rfl, by unfold turnsF; rw [if_pos hp]; rfl⟩, so_cons (sto_append1 3 rfl (ef_readE (δ' := [some (.lst (ns.map .int)), some (.int k), some (.int m), some (.lst [.int 0, .int (t1F ns k m)]), none, none, none, none, none, none, none]) (by simp [thS, thD, lk0]) (ev_add (ev_add (ev_ixL (ev_var 3 rfl) ev_int rfl) ev_int) (ev_mod (ev_call G_cell (hr.mono (by decide)) rfl (ea_cons (ev_var 0 rfl) (ea_cons (ev_add (ev_var 1 rfl) ev_int) ea_nil)) rfl (R_cell.mk ns _ (by omega) (by omega))) (ev_sub (ev_sub (ev_fdiv (ev_var 2 rfl) ev_int (by decide)) ev_int) (ev_ixL (ev_var 3 rfl) ev_int rfl)) (by omega))) rfl) (by show 2 < 1000; decide)) so_nil⟩
  obtain ⟨rfl, rfl⟩ := hQ
  refine so_cons (sto_frame (st_set 4 (ev_mod (ev_call G_cell (hr.mono (by decide)) rfl (ea_cons (ev_var 0 rfl) (ea_cons (ev_add (ev_var 1 rfl) ev_int) ea_nil)) rfl (R_cell.mk ns _ (by omega) (by omega))) (ev_var 2 rfl) hmp.1) sc_round.nd)) ?_
  walk_at "norm"
  refine so_give 3 rfl ?_
  walk_at "norm"
  refine so_new 5 (ds := []) (en_lst ea_nil) sc_round.nd (fun b => ?_)
  walk_at "norm"
  have hlen := turns_len ns k m
  have hlen' : ((turnsF ns k m).map D.int).length = (turnsF ns k m).length := List.length_map ..
  let g : Nat → Sd := fun j => [some (.lst (ns.map .int)), some (.int k), some (.int m), some (.lst ((turnsF ns k m).map .int)), some (.int (C0 ns (k + 3) % m)), some (.adr b), lastI j, lastC ns k j, none, none, none]
  let wv : Nat → Own := fun j => [(b, ((List.range j).map (wayJ ns k m)).map P4.D)]
  refine so_cons (δ1 := g ((turnsF ns k m).map D.int).length) (O1 := wv ((turnsF ns k m).map D.int).length) (sto_for 6 PassesOwn.never rfl sc_round.nd (ei_range (n := (((turnsF ns k m).map D.int).length : Nat)) rfl m_range (ev_lenL rfl m_len (ev_var 3 rfl)) (by omega)) (forO_fold g wv ((turnsF ns k m).map D.int).length (fun j hj => ?_))) ?_
  · show SO _ _ [some (.lst (ns.map .int)), some (.int k), some (.int m), some (.lst ((turnsF ns k m).map .int)), some (.int (C0 ns (k + 3) % m)), some (.adr b), some (.int (j : Int)), lastC ns k j, none, none, none] [(b, ((List.range j).map (wayJ ns k m)).map P4.D)] (.nx [some (.lst (ns.map .int)), some (.int k), some (.int m), some (.lst ((turnsF ns k m).map .int)), some (.int (C0 ns (k + 3) % m)), some (.adr b), some (.int (j : Int)), some (.int (C0 ns (k + 4 + (j : Int)))), none, none, none] [(b, ((List.range (j + 1)).map (wayJ ns k m)).map P4.D)])
    refine so_cons (sto_frame (st_set 7 (ev_call G_cell (hr.mono (by decide)) rfl (ea_cons (ev_var 0 rfl) (ea_cons (ev_add (ev_add (ev_var 1 rfl) ev_int) (ev_var 6 rfl)) ea_nil)) rfl (R_cell.mk ns _ (by omega) (by omega))) sc_round.nd)) ?_
    walk_at "norm"
    have eR : ((List.range (j + 1)).map (wayJ ns k m)).map P4.D = ((List.range j).map (wayJ ns k m)).map P4.D ++ [P4.D (wayJ ns k m j)] := by rw [List.range_succ, List.map_append, List.map_append]; rfl
    rw [eR]
    exact so_cons (sto_append1 5 rfl (ef_frame (ev_call G_way (hr.mono (by decide)) rfl (ea_cons (ev_var 2 rfl) (ea_cons (ev_add (ev_var 4 rfl) (ev_ixL (ev_var 3 rfl) (ev_var 6 rfl) (ix_ints (by omega) (by omega)))) (ea_cons (ev_tup (ea_cons (ev_add ev_int (ev_mod (ev_var 7 rfl) ev_int (by decide))) (ea_cons (ev_mul (ev_mod (ev_fdiv (ev_var 7 rfl) ev_int (by decide)) ev_int (by decide)) (ev_intB rfl m_int (ev_gt (ev_var 2 rfl) ev_int)) (mulOk (n := 11) (m := 1) ⟨by have : (2 : Nat) ^ 11 = 2048 := (by decide); omega⟩ (one_bd m) (by decide))) ea_nil))) ea_nil))) rfl (R_way.mk m _ _ _ hm (wBF_Z hm _) ((wAF_bd _).mono (by decide)) ((wBF_bd m _).mono (by decide))))) (by rw [List.length_map, List.length_map, List.length_range]; omega)) so_nil
  have ew : ((List.range ((turnsF ns k m).map D.int).length).map (wayJ ns k m)).map P4.D = (waysF ns k m).map P4.D := by unfold waysF; rw [List.length_map]
  have hw3 : (waysF ns k m).length ≤ 3 := by unfold waysF; rw [List.length_map, List.length_range]; omega
  show SO _ _ [some (.lst (ns.map .int)), some (.int k), some (.int m), some (.lst ((turnsF ns k m).map .int)), some (.int (C0 ns (k + 3) % m)), some (.adr b), lastI ((turnsF ns k m).map D.int).length, lastC ns k ((turnsF ns k m).map D.int).length, none, none, none] [(b, ((List.range ((turnsF ns k m).map D.int).length).map (wayJ ns k m)).map P4.D)] _
  rw [ew]
  generalize lastI ((turnsF ns k m).map D.int).length = l6
  generalize lastC ns k ((turnsF ns k m).map D.int).length = l7
  refine so_give 5 rfl ?_
  walk_at "norm"
  refine so_cons (sto_frame (st_set 8 (ev_call G_way (hr.mono (by decide)) rfl (ea_cons (ev_var 2 rfl) (ea_cons (ev_mod (ev_call G_cell (hr.mono (by decide)) rfl (ea_cons (ev_var 0 rfl) (ea_cons (ev_add (ev_var 1 rfl) ev_int) ea_nil)) rfl (R_cell.mk ns _ (by omega) (by omega))) (ev_var 2 rfl) hmp.1) (ea_cons (ev_tup (ea_cons (ev_mod (ev_call G_cell (hr.mono (by decide)) rfl (ea_cons (ev_var 0 rfl) (ea_cons (ev_add (ev_var 1 rfl) ev_int) ea_nil)) rfl (R_cell.mk ns _ (by omega) (by omega))) ev_int (by decide)) (ea_cons ev_int ea_nil))) ea_nil))) rfl (R_way.mk m _ _ _ hm (fun _ => rfl) ⟨by have : (2 : Nat) ^ 30 = 1073741824 := (by decide); omega⟩ (bd0.mono (by decide)))) sc_round.nd)) ?_
  walk_at "norm"
  refine so_new 9 (ds := []) (en_lst ea_nil) sc_round.nd (fun c => ?_)
  walk_at "norm"
  let G : P4 → Option D → Sd := fun p l => [some (.lst (ns.map .int)), some (.int k), some (.int m), some (.lst ((turnsF ns k m).map .int)), some (.int (C0 ns (k + 3) % m)), some (.lst ((waysF ns k m).map P4.D)), l6, l7, some (P4.D p), some (.adr c), l]
  have ecat : (waysF ns k m).map P4.D ++ (waysF ns k m).map (fun w => P4.D (P4.zero.sub w)) = (waysF ns k m ++ (waysF ns k m).map fun w => P4.zero.sub w).map P4.D := by rw [List.map_append, List.map_map]; rfl
  refine so_cons (δ1 := G (endP (atF ns k m) (waysF ns k m ++ (waysF ns k m).map fun w => P4.zero.sub w)) (lastP none (waysF ns k m ++ (waysF ns k m).map fun w => P4.zero.sub w))) (O1 := [(c, [] ++ (scanP (atF ns k m) (waysF ns k m ++ (waysF ns k m).map fun w => P4.zero.sub w)).map P4.D)])
    (sto_for 10 PassesOwn.never rfl sc_round.nd (ei_list (ds := (waysF ns k m ++ (waysF ns k m).map fun w => P4.zero.sub w).map P4.D) (EV.conv (ev_catL (ev_var 5 rfl) (ev_comp0 (xs := waysF ns k m) (f := P4.D) (x := "_law_way_here") (Nr := ["_law_script", "_law_k", "_law_m", "_law_turns", "_law_first", "_law_ways", "_law_j", "_law_cell_here", "_law_at", "_law_rim", ""]) (fun w => P4.D (P4.zero.sub w)) rfl (by kernel_rfl) (ei_list (ev_var 5 rfl)) (fun cl C s₀ H₀ ex w hw => ev_call G_less (hr.mono (by decide)) rfl (ea_cons (ev_tup (ea_cons (ev_tup (ea_cons ev_int (ea_cons ev_int ea_nil))) (ea_cons (ev_tup (ea_cons ev_int (ea_cons ev_int ea_nil))) ea_nil))) (ea_cons (ev_var 0 rfl) ea_nil)) rfl (R_lless.mk P4.zero w)) (by omega)) (by rw [List.length_map, List.length_map]; omega)) (congrArg D.lst ecat)))
      (forO_scan G c (fun p l w acc hacc => ?_) (waysF ns k m ++ (waysF ns k m).map fun w => P4.zero.sub w) (atF ns k m) [] none (by rw [List.length_append, List.length_map, List.length_nil]; omega))) ?_
  · show SO _ _ [some (.lst (ns.map .int)), some (.int k), some (.int m), some (.lst ((turnsF ns k m).map .int)), some (.int (C0 ns (k + 3) % m)), some (.lst ((waysF ns k m).map P4.D)), l6, l7, some (P4.D p), some (.adr c), some (P4.D w)] [(c, acc)] (.nx [some (.lst (ns.map .int)), some (.int k), some (.int m), some (.lst ((turnsF ns k m).map .int)), some (.int (C0 ns (k + 3) % m)), some (.lst ((waysF ns k m).map P4.D)), l6, l7, some (P4.D (p.plus w)), some (.adr c), some (P4.D w)] [(c, acc ++ [P4.D p])])
    exact so_cons (sto_append1 9 rfl (ef_frame (ev_var 8 rfl)) (by omega)) (so_cons (sto_frame (st_set 8 (ev_call G_sum (hr.mono (by decide)) rfl (ea_cons (ev_var 8 rfl) (ea_cons (ev_var 10 rfl) ea_nil)) rfl (R_lsum.mk p w)) sc_round.nd)) so_nil)
  · exact so_retO 9 rfl
theorem ok_shape (F : Fun K "_law_shape" "_law_shape" s_shape f fd) (G_cell : DefD P w K mg base 1 "_law_cell" ["_law_script", "_law_k"] (R_cell 89 47 62089 7757)) (G_round : DefF P w K mg base 3 "_law_round" ["_law_script", "_law_k", "_law_m"] (R_round)) (G_sum : DefD P w K mg base 1 "_law_sum" ["_law_one", "_law_other"] (R_lsum)) (m_len : mg "len" = none) : FnOk P w K mg base CX0 4 f fd ["_law_script", "_law_k", "_law_m"] (spD K 3 (R_shp)) := by
  refine def_ok F sc_shape fun cdv A outer s H E ds d hr hl h => ?_
  cases h with
  | mk ns k m h0 h1 hm =>
  have hmp := okM_pos hm
  have hsh := rim_sh hm ns k
  have l3 := hsh.l3
  have elen : ((rimF ns k m).map P4.D).length = (rimF ns k m).length := List.length_map ..
  show SS _ _ [some (.lst (ns.map .int)), some (.int k), some (.int m), none, none] _
  refine so_ss ?_
  refine so_new 3 (en_call G_round (hr.mono (by decide)) rfl (ea_cons (ev_var 0 rfl) (ea_cons (ev_var 1 rfl) (ea_cons (ev_var 2 rfl) ea_nil))) rfl (R_round.mk ns k m h0 h1 hm)) sc_shape.nd (fun a => ?_)
  walk_at "norm"
  refine so_cons (δ1 := [some (.lst (ns.map .int)), some (.int k), some (.int m), some (.adr a), some (.int (manyF ns k m))]) (O1 := [(a, (rimF ns k m).map P4.D)]) (STo.conv (sto_set 4 (ef_readE (δ' := [some (.lst (ns.map .int)), some (.int k), some (.int m), some (.lst ((rimF ns k m).map P4.D)), none]) (by simp [thS, thD, lk0]) (ev_add ev_int (ev_mod (ev_call G_cell (hr.mono (by decide)) rfl (ea_cons (ev_var 0 rfl) (ea_cons (ev_add (ev_var 1 rfl) ev_int) ea_nil)) rfl (R_cell.mk ns _ (by omega) (by omega))) (ev_sub (ev_lenL rfl m_len (ev_var 3 rfl)) ev_int) (by omega))) rfl) sc_shape.nd) (by rw [elen]; rfl)) ?_
  refine so_cons (δ1 := [some (.lst (ns.map .int)), some (.int k), some (.int m), some (.adr a), some (.int (manyF ns k m))]) (O1 := [(a, (shapeF ns k m).map P4.D)]) (sto_while PassesOwn.never (whileO_by (fun ps => ps.map P4.D) (goF (manyF ns k m)) (nxF (C0 ns (k + 10))) (ShOk m) List.length (fun ps hps => ?_) (fun ps hps hg => ?_) 6 (rimF ns k m) hsh hsh.l6).2.2) ?_
  · exact tf_readE (δ' := [some (.lst (ns.map .int)), some (.int k), some (.int m), some (.lst (ps.map P4.D)), some (.int (manyF ns k m))]) (by simp [thS, thD, lk0]) (ET.conv (et_gt (ev_lenL rfl m_len (ev_var 3 rfl)) (ev_var 4 rfl)) (by unfold goF; rw [List.length_map]))
  · have p3 := hps.l3
    have p6 := hps.l6
    have el : ((ps.map P4.D).length : Int) = (ps.length : Int) := by rw [List.length_map]
    have e1 := Int.emod_nonneg (C0 ns (k + 10) / (ps.length : Int)) (show (ps.length : Int) ≠ 0 by omega)
    have e2 := Int.emod_lt_of_pos (C0 ns (k + 10) / (ps.length : Int)) (show (0 : Int) < (ps.length : Int) by omega)
    refine ⟨SO.conv (so_cons (sto_pop1 3 (i := C0 ns (k + 10) / ((ps.map P4.D).length : Int) % ((ps.map P4.D).length : Int)) rfl (ef_readE (δ' := [some (.lst (ns.map .int)), some (.int k), some (.int m), some (.lst (ps.map P4.D)), some (.int (manyF ns k m))]) (by simp [thS, thD, lk0]) (ev_mod (ev_fdiv (ev_call G_cell (hr.mono (by decide)) rfl (ea_cons (ev_var 0 rfl) (ea_cons (ev_add (ev_var 1 rfl) ev_int) ea_nil)) rfl (R_cell.mk ns _ (by omega) (by omega))) (ev_lenL rfl m_len (ev_var 3 rfl)) (by omega)) (ev_lenL rfl m_len (ev_var 3 rfl)) (by omega)) rfl) (by rw [el]; exact e1) (by rw [el]; exact e2) (by rw [List.length_map]; omega)) so_nil) ?_, nx_sh (many_ok hm ns k) hps hg⟩
    rw [el]
    unfold nxF
    rw [map_erase]
  · refine so_give 3 rfl ?_
    walk_at "norm"
    have h6 := (shape_sh hm ns k).l6
    exact so_of_ss (ss_ret (st_ret (EV.conv (ev_comp0 (xs := shapeF ns k m) (f := P4.D) (x := "_law_point") (Nr := ["_law_script", "_law_k", "_law_m", "_law_rim", "_law_many"]) (fun p => P4.D (p.plus p)) rfl (by kernel_rfl) (ei_list (ev_var 3 rfl)) (fun cl C' s₀ H₀ ex p hp => ev_call G_sum (hr.mono (by decide)) rfl (ea_cons (ev_var 0 rfl) (ea_cons (ev_var 0 rfl) ea_nil)) rfl (R_lsum.mk p p)) (by omega)) (dbl_eq _))))
theorem ok_beside (F : Fun K "_law_beside" "_law_beside" s_beside f fd) (G_cell : DefD P w K mg base 1 "_law_cell" ["_law_script", "_law_k"] (R_cell 89 47 62089 7757)) (G_sum : DefD P w K mg base 1 "_law_sum" ["_law_one", "_law_other"] (R_lsum)) (G_less : DefD P w K mg base 1 "_law_less" ["_law_one", "_law_other"] (R_lless)) (m_len : mg "len" = none) (m_range : mg "range" = none) (m_tuple : mg "tuple" = none) : FnOk P w K mg base CX0 2 f fd ["_law_script", "_law_shape_here"] (spD K 2 (R_bes)) := by
  refine def_ok F sc_beside fun cdv A0 outer s H E ds d hr hl h => ?_
  cases h with
  | mk ns ps A hA hlen eA =>
  have elen : ((ps.map P4.D).length : Int) = (ps.length : Int) := by rw [List.length_map]
  show SS _ _ [some (.lst (ns.map .int)), some (.lst (ps.map P4.D)), none, none, none, none, none] _
  refine ss_cons (δ1 := [some (.lst (ns.map .int)), some (.lst (ps.map P4.D)), some (.int (A : Int)), none, none, none, none]) (ST.conv (st_set 2 (ev_mod (ev_call G_cell (hr.mono (by decide)) rfl (ea_cons (ev_var 0 rfl) (ea_cons ev_int ea_nil)) rfl (R_cell.mk ns _ (by decide) (by decide))) (EV.conv (ev_lenL rfl m_len (ev_var 1 rfl)) (congrArg D.int elen)) (by omega)) sc_beside.nd) (by rw [eA]; rfl)) ?_
  refine ss_cons (δ1 := [some (.lst (ns.map .int)), some (.lst (ps.map P4.D)), some (.int (A : Int)), some (P4.D (bothF ps A)), none, none, none]) (st_set 3 (ev_call G_sum (hr.mono (by decide)) rfl (ea_cons (ev_ixL (ev_var 1 rfl) (ev_sub (ev_var 2 rfl) ev_int) (at_prv hA)) (ea_cons (ev_ixL (ev_var 1 rfl) (ev_var 2 rfl) (at_pt hA)) ea_nil)) rfl (R_lsum.mk _ _)) sc_beside.nd) ?_
  refine ss_cons (δ1 := [some (.lst (ns.map .int)), some (.lst (ps.map P4.D)), some (.int (A : Int)), some (P4.D (bothF ps A)), some (.lst ((halfT ps A).map P4.D)), none, none]) (ST.conv (st_comp0 (xs := ps) (f := P4.D) (x := "_law_point") (Nr := ["_law_script", "_law_shape_here", "_law_at", "_law_both", "_law_other", "_law_half", "_law_k"]) 4 (fun p => P4.D ((bothF ps A).sub p)) rfl (by kernel_rfl) (ei_list (ev_var 1 rfl)) (fun cl C' s₀ H₀ ex p hp => ev_call G_less (hr.mono (by decide)) rfl (ea_cons (ev_var 4 rfl) (ea_cons (ev_var 0 rfl) ea_nil)) rfl (R_lless.mk (bothF ps A) p)) sc_beside.nd (by omega)) (by rw [subs_eq]; rfl)) ?_
  refine ss_cons (st_set 5 (ev_call G_less (hr.mono (by decide)) rfl (ea_cons (ev_ixL (ev_var 1 rfl) (ev_var 2 rfl) (at_pt hA)) (ea_cons (ev_ixL (ev_var 1 rfl) (ev_sub (ev_var 2 rfl) ev_int) (at_prv hA)) ea_nil)) rfl (R_lless.mk _ _)) sc_beside.nd) ?_
  walk_at "norm"
  have hhv : hvF ps A = ((pt ps A).sub (pt ps (prv ps.length A))).half := rfl
  generalize (pt ps A).sub (pt ps (prv ps.length A)) = h0 at hhv ⊢
  refine ss_cons (δ1 := [some (.lst (ns.map .int)), some (.lst (ps.map P4.D)), some (.int (A : Int)), some (P4.D (bothF ps A)), some (.lst ((halfT ps A).map P4.D)), some (P4.D (hvF ps A)), none]) (ST.conv (st_set 5 (ev_tupOfL rfl m_tuple (ev_comp0 (xs := [(h0.a, h0.b), (h0.c, h0.d)]) (f := fun x : Int × Int => nD x.1 x.2) (x := "_law_number") (Nr := ["_law_script", "_law_shape_here", "_law_at", "_law_both", "_law_other", "_law_half", "_law_k"]) (fun x => nD (x.1 / 2) (x.2 / 2)) rfl (by kernel_rfl) (ei_tup (ev_var 5 rfl)) (fun cl C' s₀ H₀ ex x hx => ev_tup (ea_cons (ev_fdiv (ev_ixT (ev_var 0 rfl) ev_int rfl) ev_int (by decide)) (ea_cons (ev_fdiv (ev_ixT (ev_var 0 rfl) ev_int rfl) ev_int (by decide)) ea_nil))))) sc_beside.nd) (by rw [hhv]; rfl)) ?_
  have hab : tmF ns ≤ 5 ∧ 0 ≤ tmF ns := by unfold tmF; omega
  let g : Nat → Sd := fun k => [some (.lst (ns.map .int)), some (.lst (ps.map P4.D)), some (.int (A : Int)), some (P4.D (bothF ps A)), some (.lst ((shN (hvF ps A) (halfT ps A) k).map P4.D)), some (P4.D (hvF ps A)), lastI k]
  refine ss_cons (δ1 := g (tmF ns).toNat) (st_forR 6 PassesOwn.never rfl sc_beside.nd rfl m_range (n := tmF ns) (ev_mod (ev_call G_cell (hr.mono (by decide)) rfl (ea_cons (ev_var 0 rfl) (ea_cons ev_int ea_nil)) rfl (R_cell.mk ns _ (by decide) (by decide))) ev_int (by decide)) (by omega) (forR_fold g (tmF ns).toNat fun k hk => ?_)) ?_
  · have hlk := shN_len (hvF ps A) (halfT ps A) k
    have hlh : (halfT ps A).length = ps.length := List.length_map ..
    show SS _ _ [some (.lst (ns.map .int)), some (.lst (ps.map P4.D)), some (.int (A : Int)), some (P4.D (bothF ps A)), some (.lst ((shN (hvF ps A) (halfT ps A) k).map P4.D)), some (P4.D (hvF ps A)), some (.int (k : Int))] (.nx [some (.lst (ns.map .int)), some (.lst (ps.map P4.D)), some (.int (A : Int)), some (P4.D (bothF ps A)), some (.lst (((shN (hvF ps A) (halfT ps A) k).map fun p => p.plus (hvF ps A)).map P4.D)), some (P4.D (hvF ps A)), some (.int (k : Int))])
    rw [← shift_eq]
    exact ss_cons (st_comp0 (xs := shN (hvF ps A) (halfT ps A) k) (f := P4.D) (x := "_law_point") (Nr := ["_law_script", "_law_shape_here", "_law_at", "_law_both", "_law_other", "_law_half", "_law_k"]) 4 (fun p => P4.D (p.plus (hvF ps A))) rfl (by kernel_rfl) (ei_list (ev_var 4 rfl)) (fun cl C' s₀ H₀ ex p hp => ev_call G_sum (hr.mono (by decide)) rfl (ea_cons (ev_var 0 rfl) (ea_cons (ev_var 6 rfl) ea_nil)) rfl (R_lsum.mk p (hvF ps A))) sc_beside.nd (by omega)) ss_nil
  · exact ss_ret (st_ret (ev_var 4 rfl))
theorem ok_free (F : Fun K "_law_free" "_law_free" s_free f fd) (G_cell : DefD P w K mg base 1 "_law_cell" ["_law_script", "_law_k"] (R_cell 89 47 62089 7757)) (m_range : mg "range" = none) (m_int : mg "int" = none) : FnOk P w K mg base CX0 2 f fd ["_law_script", "_law_k", "_law_m", "_law_far"] (spD K 4 (R_free)) := by
  refine def_ok F sc_free fun cdv A0 outer s H E ds d hr hl h => ?_
  cases h with
  | mk ns k m far h0 h1 f0 f1 =>
  show SS _ _ [some (.lst (ns.map .int)), some (.int k), some (.int m), some (.int far), none] _
  have bf : Bd 40 far := ⟨by have : (2 : Nat) ^ 40 = 1099511627776 := (by decide); omega⟩
  refine ss_cons (δ1 := [some (.lst (ns.map .int)), some (.int k), some (.int m), some (.int far), some (.lst (someD ns k far))]) (st_comp0 (xs := List.range 4) (f := fun (j : Nat) => D.int (j : Int)) (x := "_law_j") (Nr := ["_law_script", "_law_k", "_law_m", "_law_far", "_law_some"]) 4 (fun j => .int (frS ns k far j)) rfl (by kernel_rfl) (ei_range (n := 4) rfl m_range ev_int (by decide)) (fun cl C s₀ H₀ ex j hj => ?elt) sc_free.nd) ?_
  case elt =>
    have hj4 := List.mem_range.mp hj
    exact ev_sub (ev_mod (ev_call G_cell (hr.mono (by decide)) rfl (ea_cons (ev_var 1 rfl) (ea_cons (ev_add (ev_var 2 rfl) (ev_var 0 rfl)) ea_nil)) rfl (R_cell.mk ns _ (by omega) (by omega))) (ev_add (ev_mul ev_int (ev_var 4 rfl) (mulOk (n := 10) (m := 40) ⟨by decide⟩ bf (by decide))) ev_int) (by omega)) (ev_var 4 rfl)
  exact ss_ret (st_ret (ev_tup (ea_cons (ev_tup (ea_cons (ev_ixL (ev_var 4 rfl) ev_int (some0 ns k far)) (ea_cons (ev_mul (ev_ixL (ev_var 4 rfl) ev_int (some1 ns k far)) (ev_intB rfl m_int (ev_gt (ev_var 2 rfl) ev_int)) (mulOk (frS_bd f0 f1 ns k 1) (one_bd m) (by decide))) ea_nil))) (ea_cons (ev_tup (ea_cons (ev_ixL (ev_var 4 rfl) ev_int (some2 ns k far)) (ea_cons (ev_mul (ev_ixL (ev_var 4 rfl) ev_int (some3 ns k far)) (ev_intB rfl m_int (ev_gt (ev_var 2 rfl) ev_int)) (mulOk (frS_bd f0 f1 ns k 3) (one_bd m) (by decide))) ea_nil))) ea_nil))))
theorem ok_l_moved (F : Fun K "_law_moved" "_law_moved" s_l_moved f fd) (G_moved : DefD P w K mg base 6 "moved" ["frame", "move", "point"] (R_moved C)) : FnOk P w K mg base CX0 7 f fd ["_law_frame", "_law_move", "_law_shape_here"] (spD K 3 (R_lmv C)) := by
  refine def_ok F sc_l_moved fun cdv A0 outer s H E ds d hr hl h => ?_
  cases h with
  | mk m x ps hm hf hb hlen =>
  show SS _ _ [some (FrD C m), some (Mv.D x), some (.lst (ps.map P4.D)), none] _
  refine ss_cons (δ1 := [some (FrD C m), some (Mv.D x), some (.lst (ps.map P4.D)), some (.lst ((ps.map (x.mv m)).map P4.D))]) (ST.conv (st_comp0 (xs := ps) (f := P4.D) (x := "_law_point") (Nr := ["_law_frame", "_law_move", "_law_shape_here", "_law_found"]) 3 (fun p => P4.D (x.mv m p)) rfl (by kernel_rfl) (ei_list (ev_var 2 rfl)) (fun cl C' s₀ H₀ ex p hp => ev_call G_moved (hr.mono (by decide)) rfl (ea_cons (ev_var 1 rfl) (ea_cons (ev_var 2 rfl) (ea_cons (ev_var 0 rfl) ea_nil))) rfl (R_moved.mk m x p hm hf (hb p hp))) sc_l_moved.nd (by omega)) (by rw [mvs_eq]; rfl)) ?_
  unfold mvL
  rcases hf with e | e
  · rw [if_neg (by omega)]
    exact ss_skip (et_eq hr (ev_ixT (ev_var 1 rfl) ev_int rfl) ev_int) (by rw [e]; rfl) (ss_ret (st_ret (ev_var 3 rfl)))
  · rw [if_pos e, List.map_reverse]
    exact ss_ret (st_ifT (et_eq hr (ev_ixT (ev_var 1 rfl) ev_int rfl) ev_int) (by rw [e]; rfl) (ss_ret (st_ret (EN.ev (en_revL (ev_var 3 rfl) (ev_neg ev_int))))))
theorem ok_side_moved (F : Fun K "_law_side_moved" "_law_side_moved" s_side_moved f fd) (G_moved : DefD P w K mg base 6 "moved" ["frame", "move", "point"] (R_moved C)) (m_min : mg "min" = none) (m_max : mg "max" = none) : FnOk P w K mg base CX0 7 f fd ["_law_frame", "_law_move", "_law_side"] (spD K 3 (R_smv C)) := by
  refine def_ok F sc_side_moved fun cdv A0 outer s H E ds d hr hl h => ?_
  cases h with
  | mk m x l hm hf hb =>
  match l, hb with
  | [], _ =>
    show SS _ _ [some (FrD C m), some (Mv.D x), some .non, none, none] (.rt .non)
    exact ss_ret (st_ifT (et_isNN (ev_var 2 rfl) ev_non) rfl (ss_ret (st_ret ev_non)))
  | [_], _ =>
    show SS _ _ [some (FrD C m), some (Mv.D x), some .non, none, none] (.rt .non)
    exact ss_ret (st_ifT (et_isNN (ev_var 2 rfl) ev_non) rfl (ss_ret (st_ret ev_non)))
  | _ :: _ :: _ :: _, _ =>
    show SS _ _ [some (FrD C m), some (Mv.D x), some .non, none, none] (.rt .non)
    exact ss_ret (st_ifT (et_isNN (ev_var 2 rfl) ev_non) rfl (ss_ret (st_ret ev_non)))
  | [p, q], hb =>
    have hp := hb p (by simp)
    have hq := hb q (by simp)
    obtain ⟨a, b, e, hab⟩ := srt_two p q
    show SS _ _ [some (FrD C m), some (Mv.D x), some (.tup (srt p q)), none, none] (.rt (.tup (srt (x.mv m p) (x.mv m q))))
    rw [e]
    have e2 : srt (x.mv m p) (x.mv m q) = [P4.D (mnP (x.mv m a) (x.mv m b)), P4.D (mxP (x.mv m a) (x.mv m b))] := by
      rw [srt_mm]
      rcases hab with ⟨rfl, rfl⟩ | ⟨rfl, rfl⟩
      · rfl
      · exact srt_comm _ _
    have ha : a.B 30000 := by rcases hab with ⟨rfl, _⟩ | ⟨rfl, _⟩ <;> assumption
    have hb' : b.B 30000 := by rcases hab with ⟨_, rfl⟩ | ⟨_, rfl⟩ <;> assumption
    rw [e2]
    refine ss_skip (et_isNT (ev_var 2 rfl) ev_non) rfl ?_
    refine ss_cons (st_set 3 (ev_call G_moved (hr.mono (by decide)) rfl (ea_cons (ev_var 0 rfl) (ea_cons (ev_var 1 rfl) (ea_cons (ev_ixT (ev_var 2 rfl) ev_int rfl) ea_nil))) rfl (R_moved.mk m x a hm hf ha)) sc_side_moved.nd) ?_
    walk_at "norm"
    refine ss_cons (st_set 4 (ev_call G_moved (hr.mono (by decide)) rfl (ea_cons (ev_var 0 rfl) (ea_cons (ev_var 1 rfl) (ea_cons (ev_ixT (ev_var 2 rfl) ev_int rfl) ea_nil))) rfl (R_moved.mk m x b hm hf hb')) sc_side_moved.nd) ?_
    walk_at "norm"
    exact ss_ret (st_ret (ev_tup (ea_cons (ev_minP rfl hr rfl m_min (ea_cons (ev_var 3 rfl) (ea_cons (ev_var 4 rfl) ea_nil))) (ea_cons (ev_maxP rfl hr rfl m_max (ea_cons (ev_var 3 rfl) (ea_cons (ev_var 4 rfl) ea_nil))) ea_nil))))
theorem ok_law (F : Fun K "law" "law" s_law f fd) (G_cell : DefD P w K mg base 1 "_law_cell" ["_law_script", "_law_k"] (R_cell 89 47 62089 7757)) (G_Frame : MakeD P w K mg base 3 "Frame" C ["self", "m"] ["m", "square"] R_frame) (G_shape : DefD P w K mg base 4 "_law_shape" ["_law_script", "_law_k", "_law_m"] (R_shp)) (G_beside : DefD P w K mg base 2 "_law_beside" ["_law_script", "_law_shape_here"] (R_bes)) (G_free : DefD P w K mg base 2 "_law_free" ["_law_script", "_law_k", "_law_m", "_law_far"] (R_free)) (G_l_moved : DefD P w K mg base 7 "_law_moved" ["_law_frame", "_law_move", "_law_shape_here"] (R_lmv C)) (G_is_shape : DefD P w K mg base 5 "is_shape" ["frame", "points"] (R_iss C)) (G_moved : DefD P w K mg base 6 "moved" ["frame", "move", "point"] (R_moved C)) (G_twice : DefD P w K mg base 4 "twice" ["frame", "shape"] (R_twice C)) (G_where : DefD P w K mg base 5 "where" ["frame", "shape", "point"] (R_where C)) (G_are_apart : DefD P w K mg base 6 "are_apart" ["frame", "one", "other"] (R_ap C)) (G_side_between : DefD P w K mg base 6 "side_between" ["frame", "one", "other"] (R_sb C)) (G_side_moved : DefD P w K mg base 7 "_law_side_moved" ["_law_frame", "_law_move", "_law_side"] (R_smv C)) (G_scaled : DefD P w K mg base 3 "scaled" ["frame", "point", "number"] (R_scaled C)) (G_Frame_times : MethD P w K mg base 2 C "times" ["self", "one", "other"] (R_times C)) (G_joined : DefD P w K mg base 7 "joined" ["frame", "first", "second"] (R_joined C)) (G_back : DefD P w K mg base 7 "back" ["frame", "move"] (R_back C)) (m_len : mg "len" = none) (m_int : mg "int" = none) : FnOk P w K mg base CX0 8 f fd ["_law_script"] (spD K 1 (R_law)) := by
  refine def_ok F sc_law fun cdv A0 outer s H E ds d hr hl h => ?_
  cases h with
  | mk ns hns =>
  show SS _ _ [some (.lst (ns.map .int)), none, none, none, none, none, none, none, none, none, none, none, none, none, none] _
  refine ss_cons (st_set 1 (ev_ixL (ev_lst (ea_cons ev_int (ea_cons ev_int (ea_cons ev_int (ea_cons ev_int (ea_cons ev_int ea_nil)))))) (ev_mod (ev_call G_cell (hr.mono (by decide)) rfl (ea_cons (ev_var 0 rfl) (ea_cons ev_int ea_nil)) rfl (R_cell.mk ns _ (by decide) (by decide))) ev_int (by walk_at "pos")) (by walk_at "ix")) sc_law.nd) ?_
  walk_at "norm"
  have hm := okM5 (C0 ns 0 % 5)
  generalize m5 (C0 ns 0 % 5) = m at hm ⊢
  have hmp := okM_pos hm
  refine ss_cons (st_set 2 (ev_make G_Frame (hr.mono (by decide)) rfl (ea_cons (ev_var 1 rfl) ea_nil) rfl rfl (R_frame.mk m hm)) sc_law.nd) ?_
  walk_at "norm"
  refine ss_cons (st_set 3 (ev_call G_shape (hr.mono (by decide)) rfl (ea_cons (ev_var 0 rfl) (ea_cons ev_int (ea_cons (ev_var 1 rfl) ea_nil))) rfl (R_shp.mk ns 1 m (by decide) (by decide) hm)) sc_law.nd) ?_
  walk_at "norm"
  have hsh := shape_sh hm ns 1
  have z3 := hsh.l3
  have e0 : (shp ns 1 m).length = (shapeF ns 1 m).length := List.length_map ..
  obtain ⟨A, hA, eA⟩ := emod_nat (c := C0 ns 12) (n := (shp ns 1 m).length) (by omega)
  have hok := shp_ok hm ns rfl hA
  generalize shp ns 1 m = ps at hA eA hok ⊢
  obtain ⟨hB, hf⟩ := hok
  have l3 := hB.l3
  have l6 := hB.l6
  have el : ((ps.map P4.D).length : Int) = (ps.length : Int) := by rw [List.length_map]
  refine ss_cons (st_set 4 (ev_call G_beside (hr.mono (by decide)) rfl (ea_cons (ev_var 0 rfl) (ea_cons (ev_var 3 rfl) ea_nil)) rfl (R_bes.mk ns ps A hA (by omega) eA)) sc_law.nd) ?_
  walk_at "norm"
  have ht0 : 0 ≤ tmF ns ∧ tmF ns < 5 := by unfold tmF; omega
  have htb : Bd 3 (tmF ns) := ⟨by have : (2 : Nat) ^ 3 = 8 := (by decide); omega⟩
  have hofi := bes_fine hA hf htb
  have hoT := bes_tri hm hB
  have hag := bes_ag hm hB
  have hen := bes_ends hm hB
  rw [shN_bes, show (((tmF ns).toNat : Nat) : Int) = tmF ns by omega]
  have ol : (ps.map (bes (pt ps (prv ps.length A)) (pt ps A) (hvF ps A) (tmF ns))).length = ps.length := List.length_map ..
  generalize ps.map (bes (pt ps (prv ps.length A)) (pt ps A) (hvF ps A) (tmF ns)) = oth at hofi hoT hag hen ol ⊢
  have hps : ∀ p ∈ ps, p.B 1000 := fun p hp => (hf p hp).b.mono (by decide)
  have hos : ∀ p ∈ oth, p.B 1000 := fun p hp => (hofi p hp).b.mono (by decide)
  have hpz : ∀ p ∈ ps, p.Z m := fun p hp => (hf p hp).z
  have hoz : ∀ p ∈ oth, p.Z m := fun p hp => (hofi p hp).z
  refine ss_cons (st_set 5 (ev_call G_free (hr.mono (by decide)) rfl (ea_cons (ev_var 0 rfl) (ea_cons ev_int (ea_cons (ev_var 1 rfl) (ea_cons ev_int ea_nil)))) rfl (R_free.mk ns 14 m 60 (by decide) (by decide) (by decide) (by decide))) sc_law.nd) ?_
  walk_at "norm"
  have hfr := frP_ok hm (show (0 : Int) < 60 by decide) (by decide) ns 14
  generalize frP ns 14 m 60 = fr at hfr ⊢
  obtain ⟨B, hBi, eB⟩ := emod_nat (c := C0 ns 18 / 2) (n := ps.length) (by omega)
  obtain ⟨pp, epp⟩ : ∃ pp, pp = if eqD (.int (C0 ns 18 % 2)) (.int 1) = true then pt ps B else fr := ⟨_, rfl⟩
  have hpp : Fine m 50 pp := by
    rw [epp]
    split
    · exact (hf _ (pt_mem hBi)).mono (by decide)
    · exact hfr
  refine ss_cons (δ1 := [some (.lst (ns.map .int)), some (.int m), some (FrD C m), some (.lst (ps.map P4.D)), some (.lst (oth.map P4.D)), some (P4.D pp), none, none, none, none, none, none, none, none, none]) (ST.conv (st_ifS 5 (d1 := P4.D (pt ps B)) (d2 := P4.D fr) rfl (et_eq hr (ev_mod (ev_call G_cell (hr.mono (by decide)) rfl (ea_cons (ev_var 0 rfl) (ea_cons ev_int ea_nil)) rfl (R_cell.mk ns _ (by decide) (by decide))) ev_int (by decide)) ev_int) (fun _ => ss_cons (st_set 5 (ev_ixL (ev_var 3 rfl) (EV.conv (ev_mod (ev_fdiv (ev_call G_cell (hr.mono (by decide)) rfl (ea_cons (ev_var 0 rfl) (ea_cons ev_int ea_nil)) rfl (R_cell.mk ns _ (by decide) (by decide))) ev_int (by decide)) (EV.conv (ev_lenL rfl m_len (ev_var 3 rfl)) (congrArg D.int el)) (by omega)) (congrArg D.int eB)) (at_pt hBi)) sc_law.nd) ss_nil)) (by rw [epp]; cases eqD (.int (C0 ns 18 % 2)) (.int 1) <;> rfl)) ?_
  clear epp
  refine ss_cons (st_set 6 (ev_call G_cell (hr.mono (by decide)) rfl (ea_cons (ev_var 0 rfl) (ea_cons ev_int ea_nil)) rfl (R_cell.mk ns _ (by decide) (by decide))) sc_law.nd) ?_
  walk_at "norm"
  obtain ⟨x, ex⟩ : ∃ x : Mv, x = ⟨C0 ns 19 % m, C0 ns 19 / m % 2, frP ns 20 m (10 ^ (9 : Int).toNat)⟩ := ⟨_, rfl⟩
  have hx9 := frP_ok hm (show (0 : Int) < 10 ^ (9 : Int).toNat by decide) (by decide) ns 20
  have hx : x.Ok m := by
    rw [ex]
    refine ⟨Int.emod_nonneg _ (Int.ne_of_gt hmp.1), Int.emod_lt_of_pos _ hmp.1, ?_, hx9.z⟩
    show C0 ns 19 / m % 2 = 0 ∨ C0 ns 19 / m % 2 = 1
    omega
  have hxo : x.o.B 50 := by rw [ex]; exact hx9.b
  refine ss_cons (δ1 := [some (.lst (ns.map .int)), some (.int m), some (FrD C m), some (.lst (ps.map P4.D)), some (.lst (oth.map P4.D)), some (P4.D pp), some (.int (C0 ns 19)), some (Mv.D x), none, none, none, none, none, none, none]) (ST.conv (st_set 7 (ev_tup (ea_cons (ev_mod (ev_var 6 rfl) (ev_var 1 rfl) hmp.1) (ea_cons (ev_mod (ev_fdiv (ev_var 6 rfl) (ev_var 1 rfl) (by omega)) ev_int (by decide)) (ea_cons (ev_call G_free (hr.mono (by decide)) rfl (ea_cons (ev_var 0 rfl) (ea_cons ev_int (ea_cons (ev_var 1 rfl) (ea_cons (ev_pow ev_int ev_int (by decide)) ea_nil)))) rfl (R_free.mk ns 20 m (10 ^ (9 : Int).toNat) (by decide) (by decide) (by decide) (by decide))) ea_nil)))) sc_law.nd) (by rw [ex]; rfl)) ?_
  clear ex
  have hxf := hx.f
  have mB : ∀ {p : P4} {n : Nat}, p.B n → (x.mv m p).B (n + 50 + 105) := fun hp => mv_B hm hp hxo
  have gB : ∀ p ∈ mvL m x ps, p.B 300 := fun p hp => by obtain ⟨q, hq, rfl⟩ := mvL_mem.mp hp; exact (mB (hf q hq).b).mono (by decide)
  have gO : ∀ p ∈ mvL m x oth, p.B 1000 := fun p hp => by obtain ⟨q, hq, rfl⟩ := mvL_mem.mp hp; exact (mB (hofi q hq).b).mono (by decide)
  have gB' : ∀ p ∈ mvL m x ps, p.B 1000 := fun p hp => (gB p hp).mono (by decide)
  refine ss_cons (st_set 8 (ev_call G_l_moved (hr.mono (by decide)) rfl (ea_cons (ev_var 2 rfl) (ea_cons (ev_var 7 rfl) (ea_cons (ev_var 3 rfl) ea_nil))) rfl (R_lmv.mk m x ps hm hxf (fun p hp => (hps p hp).mono (by decide)) (by first | omega | (simp only [mvL_len, List.length_map]; omega)))) sc_law.nd) ?_
  walk_at "norm"
  refine ss_cons (st_set 9 (ev_call G_l_moved (hr.mono (by decide)) rfl (ea_cons (ev_var 2 rfl) (ea_cons (ev_var 7 rfl) (ea_cons (ev_var 4 rfl) ea_nil))) rfl (R_lmv.mk m x oth hm hxf (fun p hp => (hos p hp).mono (by decide)) (by first | omega | (simp only [mvL_len, List.length_map]; omega)))) sc_law.nd) ?_
  walk_at "norm"
  have i1 := tri_is hm (mvL_tri (x := x) hm hxf hB.tri hpz) (by rw [mvL_len]; omega) (by rw [mvL_len]; omega)
  have i2 := tri_is hm (mvL_tri (x := x) hm hxf hoT hoz) (by rw [mvL_len]; omega) (by rw [mvL_len]; omega)
  refine ss_skip (EW.et (ew_or (et_isnB (ev_call G_is_shape (hr.mono (by decide)) rfl (ea_cons (ev_var 2 rfl) (ea_cons (ev_var 8 rfl) ea_nil)) rfl (R_iss.mk m (mvL m x ps) hm gB' (by first | omega | (simp only [mvL_len, List.length_map]; omega)))) ev_bl) (fun _ => ew_or1 (et_isnB (ev_call G_is_shape (hr.mono (by decide)) rfl (ea_cons (ev_var 2 rfl) (ea_cons (ev_var 9 rfl) ea_nil)) rfl (R_iss.mk m (mvL m x oth) hm gO (by first | omega | (simp only [mvL_len, List.length_map]; omega)))) ev_bl)))) (by rw [i1, i2]; rfl) ?_
  refine ss_cons (st_set 10 (ev_call G_moved (hr.mono (by decide)) rfl (ea_cons (ev_var 2 rfl) (ea_cons (ev_var 7 rfl) (ea_cons (ev_var 5 rfl) ea_nil))) rfl (R_moved.mk m x pp hm hxf (hpp.b.mono (by decide)))) sc_law.nd) ?_
  walk_at "norm"
  refine ss_skip (EW.et (ew_or (et_ne hr (ev_call G_twice (hr.mono (by decide)) rfl (ea_cons (ev_var 2 rfl) (ea_cons (ev_var 8 rfl) ea_nil)) rfl (R_twice.mk m (mvL m x ps) hm gB' (by first | omega | (simp only [mvL_len, List.length_map]; omega)) (by first | omega | (simp only [mvL_len, List.length_map]; omega)))) (ev_call G_twice (hr.mono (by decide)) rfl (ea_cons (ev_var 2 rfl) (ea_cons (ev_var 3 rfl) ea_nil)) rfl (R_twice.mk m ps hm hps (by first | omega | (simp only [mvL_len, List.length_map]; omega)) (by first | omega | (simp only [mvL_len, List.length_map]; omega))))) (fun _ => ew_or1 (et_ne hr (ev_call G_where (hr.mono (by decide)) rfl (ea_cons (ev_var 2 rfl) (ea_cons (ev_var 8 rfl) (ea_cons (ev_var 10 rfl) ea_nil))) rfl (R_where.mk m (mvL m x ps) (x.mv m pp) hm gB' ((mB hpp.b).mono (by decide)) (by first | omega | (simp only [mvL_len, List.length_map]; omega)) (by first | omega | (simp only [mvL_len, List.length_map]; omega)))) (ev_call G_where (hr.mono (by decide)) rfl (ea_cons (ev_var 2 rfl) (ea_cons (ev_var 3 rfl) (ea_cons (ev_var 5 rfl) ea_nil))) rfl (R_where.mk m ps pp hm hps (hpp.b.mono (by decide)) (by first | omega | (simp only [mvL_len, List.length_map]; omega)) (by first | omega | (simp only [mvL_len, List.length_map]; omega)))))))) (by rw [tw_mv hm hxf ps l3 l6 hpz, wh_mv hm hxf l3 l6 hpz hpp.z, eqD_refl rfl, eqD_refl rfl]; rfl) ?_
  have ap1 := ap_of hag
  have ap2 := ap_of (ag_mv (x := x) hm hxf l3 l6 hpz hoz hag)
  refine ss_skip (EW.et (ew_or (et_isnB (ev_call G_are_apart (hr.mono (by decide)) rfl (ea_cons (ev_var 2 rfl) (ea_cons (ev_var 3 rfl) (ea_cons (ev_var 4 rfl) ea_nil))) rfl (R_ap.mk m ps oth hm hps hos (by first | omega | (simp only [mvL_len, List.length_map]; omega)) (by first | omega | (simp only [mvL_len, List.length_map]; omega)) (by first | omega | (simp only [mvL_len, List.length_map]; omega)) (by first | omega | (simp only [mvL_len, List.length_map]; omega)))) ev_bl) (fun _ => ew_or1 (et_isnB (ev_call G_are_apart (hr.mono (by decide)) rfl (ea_cons (ev_var 2 rfl) (ea_cons (ev_var 8 rfl) (ea_cons (ev_var 9 rfl) ea_nil))) rfl (R_ap.mk m (mvL m x ps) (mvL m x oth) hm gB' gO (by first | omega | (simp only [mvL_len, List.length_map]; omega)) (by first | omega | (simp only [mvL_len, List.length_map]; omega)) (by first | omega | (simp only [mvL_len, List.length_map]; omega)) (by first | omega | (simp only [mvL_len, List.length_map]; omega)))) ev_bl)))) (by rw [ap1, ap2]; rfl) ?_
  have em := ends_mv (x := x) hm hx l3 l6 (by omega) (by omega) hpz hoz
  have esb : sbD (endsF m (mvL m x ps) (mvL m x oth)) = smD m x (endsF m ps oth) := by rw [em, sb_mv hen, smD_eq]; rfl
  have hen2 : (endsF m (mvL m x ps) (mvL m x oth)).length ≤ 2 := by rw [em, List.length_append, mvL_len, mvL_len, ← List.length_append]; exact hen
  have hee : ∀ p ∈ endsF m ps oth, p.B 30000 := fun p hp => by
    rcases List.mem_append.mp hp with h | h
    · exact (hps p (e1_iff.mp h).1).mono (by decide)
    · exact (hos p (e2_iff.mp h).1).mono (by decide)
  refine ss_cons (st_set 11 (ev_call G_side_between (hr.mono (by decide)) rfl (ea_cons (ev_var 2 rfl) (ea_cons (ev_var 3 rfl) (ea_cons (ev_var 4 rfl) ea_nil))) rfl (R_sb.mk m ps oth hm hps hos (by first | omega | (simp only [mvL_len, List.length_map]; omega)) (by first | omega | (simp only [mvL_len, List.length_map]; omega)) (by first | omega | (simp only [mvL_len, List.length_map]; omega)) (by first | omega | (simp only [mvL_len, List.length_map]; omega)) hen)) sc_law.nd) ?_
  walk_at "norm"
  refine ss_skip (et_ne hr (EV.conv (ev_call G_side_between (hr.mono (by decide)) rfl (ea_cons (ev_var 2 rfl) (ea_cons (ev_var 8 rfl) (ea_cons (ev_var 9 rfl) ea_nil))) rfl (R_sb.mk m (mvL m x ps) (mvL m x oth) hm gB' gO (by first | omega | (simp only [mvL_len, List.length_map]; omega)) (by first | omega | (simp only [mvL_len, List.length_map]; omega)) (by first | omega | (simp only [mvL_len, List.length_map]; omega)) (by first | omega | (simp only [mvL_len, List.length_map]; omega)) hen2)) esb) (ev_call G_side_moved (hr.mono (by decide)) rfl (ea_cons (ev_var 2 rfl) (ea_cons (ev_var 7 rfl) (ea_cons (ev_var 11 rfl) ea_nil))) rfl (R_smv.mk m x (endsF m ps oth) hm hxf hee)) (shD_sm m x _) (shD_sm m x _)) (by rw [eqD_refl (shD_sm m x _)]; rfl) ?_
  have he0 : 0 < 1 + C0 ns 24 % 9 ∧ 1 + C0 ns 24 % 9 ≤ 9 := by omega
  have hf0 : 0 ≤ C0 ns 25 % 5 * (if decide (6 < m) = true then 1 else 0) ∧ C0 ns 25 % 5 * (if decide (6 < m) = true then 1 else 0) ≤ 4 := by split <;> omega
  have hfz := z2_01 hm (C0 ns 25 % 5)
  have b5 : Bd 10 (C0 ns 25 % 5) := ⟨by have : (2 : Nat) ^ 10 = 1024 := (by decide); omega⟩
  refine ss_cons (st_set 12 (ev_tup (ea_cons (ev_add ev_int (ev_mod (ev_call G_cell (hr.mono (by decide)) rfl (ea_cons (ev_var 0 rfl) (ea_cons ev_int ea_nil)) rfl (R_cell.mk ns _ (by decide) (by decide))) ev_int (by decide))) (ea_cons (ev_mul (ev_mod (ev_call G_cell (hr.mono (by decide)) rfl (ea_cons (ev_var 0 rfl) (ea_cons ev_int ea_nil)) rfl (R_cell.mk ns _ (by decide) (by decide))) ev_int (by decide)) (ev_intB rfl m_int (ev_gt (ev_var 1 rfl) ev_int)) (mulOk b5 (one_bd m) (by decide))) ea_nil))) sc_law.nd) ?_
  walk_at "norm"
  generalize 1 + C0 ns 24 % 9 = e at he0 ⊢
  generalize C0 ns 25 % 5 * (if decide (6 < m) = true then 1 else 0) = f at hf0 hfz ⊢
  have hs := pos_up hm he0.1 hf0.1 hf0.2 hfz
  have be : Bd 10 e := ⟨by have : (2 : Nat) ^ 10 = 1024 := (by decide); omega⟩
  have bf : Bd 10 f := ⟨by have : (2 : Nat) ^ 10 = 1024 := (by decide); omega⟩
  have sB : ∀ p ∈ ps.map (P4.scal m e f), p.B 1000 := fun p hp => by obtain ⟨q, hq, rfl⟩ := List.mem_map.mp hp; exact (P4.scal_B (hf q hq).b be bf).mono (by decide)
  refine ss_cons (st_comp0 (xs := ps) (f := P4.D) (x := "_law_corner") (Nr := ["_law_script", "_law_m", "_law_frame", "_law_one", "_law_other", "_law_point", "_law_cell_here", "_law_move", "_law_first", "_law_second", "_law_spot", "_law_between", "_law_number", "_law_great", "_law_still"]) 13 (fun p => P4.D (p.scal m e f)) rfl (by kernel_rfl) (ei_list (ev_var 3 rfl)) (fun cl C' s₀ H₀ ex p hp => ev_call G_scaled (hr.mono (by decide)) rfl (ea_cons (ev_var 3 rfl) (ea_cons (ev_var 0 rfl) (ea_cons (ev_var 13 rfl) ea_nil))) rfl (R_scaled.mk m e f p hm ((hps p hp).mono (by decide)) (be.mono (by decide)) (bf.mono (by decide)))) sc_law.nd (by omega)) ?_
  walk_at "norm"
  rw [show (ps.map fun p => P4.D (p.scal m e f)) = (ps.map (P4.scal m e f)).map P4.D by rw [List.map_map]; rfl]
  have tb := tw_bd3 (m := m) l6 fun p hp => (hf p hp).b.mono (by decide)
  refine ss_skip (et_ne hr (ev_call G_twice (hr.mono (by decide)) rfl (ea_cons (ev_var 2 rfl) (ea_cons (ev_var 13 rfl) ea_nil)) rfl (R_twice.mk m (ps.map (P4.scal m e f)) hm sB (by first | omega | (simp only [mvL_len, List.length_map]; omega)) (by first | omega | (simp only [mvL_len, List.length_map]; omega)))) (ev_meth G_Frame_times (hr.mono (by decide)) (ev_var 2 rfl) (ea_cons (ev_call G_twice (hr.mono (by decide)) rfl (ea_cons (ev_var 2 rfl) (ea_cons (ev_var 3 rfl) ea_nil)) rfl (R_twice.mk m ps hm hps (by first | omega | (simp only [mvL_len, List.length_map]; omega)) (by first | omega | (simp only [mvL_len, List.length_map]; omega)))) (ea_cons (ev_meth G_Frame_times (hr.mono (by decide)) (ev_var 2 rfl) (ea_cons (ev_var 12 rfl) (ea_cons (ev_var 12 rfl) ea_nil)) (by decide +kernel) rfl (R_times.mk m e f e f hm (be.mono (by decide)) (bf.mono (by decide)) (be.mono (by decide)) (bf.mono (by decide)))) ea_nil)) (by decide +kernel) rfl (R_times.mk m _ _ _ _ hm (tb.1.mono (by decide)) (tb.2.mono (by decide)) ((tA_bd be bf be bf).mono (by decide)) ((tB_bd be bf be bf).mono (by decide))))) (by rw [tw_scal hm hpz hfz, eqD_refl rfl]; rfl) ?_
  refine ss_skip (et_ne hr (ev_call G_where (hr.mono (by decide)) rfl (ea_cons (ev_var 2 rfl) (ea_cons (ev_var 13 rfl) (ea_cons (ev_call G_scaled (hr.mono (by decide)) rfl (ea_cons (ev_var 2 rfl) (ea_cons (ev_var 5 rfl) (ea_cons (ev_var 12 rfl) ea_nil))) rfl (R_scaled.mk m e f pp hm (hpp.b.mono (by decide)) (be.mono (by decide)) (bf.mono (by decide)))) ea_nil))) rfl (R_where.mk m (ps.map (P4.scal m e f)) (pp.scal m e f) hm sB ((P4.scal_B hpp.b be bf).mono (by decide)) (by first | omega | (simp only [mvL_len, List.length_map]; omega)) (by first | omega | (simp only [mvL_len, List.length_map]; omega)))) (ev_call G_where (hr.mono (by decide)) rfl (ea_cons (ev_var 2 rfl) (ea_cons (ev_var 3 rfl) (ea_cons (ev_var 5 rfl) ea_nil))) rfl (R_where.mk m ps pp hm hps (hpp.b.mono (by decide)) (by first | omega | (simp only [mvL_len, List.length_map]; omega)) (by first | omega | (simp only [mvL_len, List.length_map]; omega))))) (by rw [wh_scal hm hpz hpp.z hfz hs, eqD_refl rfl]; rfl) ?_
  have hbk := back_Ok hm hx
  refine ss_cons (st_set 14 (EV.conv (d' := Mv.D Mv.still) (ev_call G_joined (hr.mono (by decide)) rfl (ea_cons (ev_var 2 rfl) (ea_cons (ev_var 7 rfl) (ea_cons (ev_call G_back (hr.mono (by decide)) rfl (ea_cons (ev_var 2 rfl) (ea_cons (ev_var 7 rfl) ea_nil)) rfl (R_back.mk m x hm hx (hxo.mono (by decide)))) ea_nil))) rfl (R_joined.mk m x (x.back m) hm hbk.f (hxo.mono (by decide)))) (by rw [join_back hm hx])) sc_law.nd) ?_
  walk_at "norm"
  have r1 : mvL m Mv.still ps = ps := by
    unfold mvL
    rw [if_neg (by show ¬ (0 : Int) = 1; decide)]
    rw [show ps.map (Mv.still.mv m) = ps.map id from List.map_congr_left fun p _ => by show (lin m 0 0 p).plus P4.zero = p; rw [lin_id hm, plus_zero']]
    exact List.map_id ps
  have rb : ((ps.map (x.mv m)).map ((x.back m).mv m)) = ps := by
    rw [List.map_map]
    rw [show ps.map ((x.back m).mv m ∘ x.mv m) = ps.map id from List.map_congr_left fun p hp => mv_back hm hx (hpz p hp)]
    exact List.map_id ps
  have r2 : mvL m (x.back m) (mvL m x ps) = ps := by
    have ef : (x.back m).f = x.f := rfl
    unfold mvL
    rw [ef]
    split
    · rw [List.map_reverse, List.reverse_reverse, rb]
    · exact rb
  exact ss_ret (st_ret (EV.conv (d := .bl (eqD (.lst (ps.map P4.D)) (.lst (ps.map P4.D)) && eqD (.lst (ps.map P4.D)) (.lst (ps.map P4.D)))) (ev_and (p := eqD (.lst (ps.map P4.D)) (.lst (ps.map P4.D))) (q := eqD (.lst (ps.map P4.D)) (.lst (ps.map P4.D))) (ev_eq hr (EV.conv (ev_call G_l_moved (hr.mono (by decide)) rfl (ea_cons (ev_var 2 rfl) (ea_cons (ev_var 14 rfl) (ea_cons (ev_var 3 rfl) ea_nil))) rfl (R_lmv.mk m Mv.still ps hm (.inl rfl) (fun p hp => (hps p hp).mono (by decide)) (by first | omega | (simp only [mvL_len, List.length_map]; omega)))) (by rw [r1])) (ev_var 3 rfl) (shD_pts ps) (shD_pts ps)) (fun _ => ev_and1 (ev_eq hr (EV.conv (ev_call G_l_moved (hr.mono (by decide)) rfl (ea_cons (ev_var 2 rfl) (ea_cons (ev_call G_back (hr.mono (by decide)) rfl (ea_cons (ev_var 2 rfl) (ea_cons (ev_var 7 rfl) ea_nil)) rfl (R_back.mk m x hm hx (hxo.mono (by decide)))) (ea_cons (ev_var 8 rfl) ea_nil))) rfl (R_lmv.mk m (x.back m) (mvL m x ps) hm hbk.f (fun p hp => (gB' p hp).mono (by decide)) (by first | omega | (simp only [mvL_len, List.length_map]; omega)))) (by rw [r2])) (ev_var 3 rfl) (shD_pts ps) (shD_pts ps)))) (by rw [eqD_refl (shD_pts ps)]; rfl)))
end
theorem us_of1 {Q : List Value → Prop} (h : ∀ a0, Q [a0]) : ∀ us : List Value, us.length = 1 → Q us
  | [a0], _ => h a0
theorem us_of2 {Q : List Value → Prop} (h : ∀ a0 a1, Q [a0, a1]) : ∀ us : List Value, us.length = 2 → Q us
  | [a0, a1], _ => h a0 a1
theorem us_of3 {Q : List Value → Prop} (h : ∀ a0 a1 a2, Q [a0, a1, a2]) : ∀ us : List Value, us.length = 3 → Q us
  | [a0, a1, a2], _ => h a0 a1 a2
theorem us_of4 {Q : List Value → Prop} (h : ∀ a0 a1 a2 a3, Q [a0, a1, a2, a3]) : ∀ us : List Value, us.length = 4 → Q us
  | [a0, a1, a2, a3], _ => h a0 a1 a2 a3
theorem all_mk {l : PySem.W.OpenLaw} {w : World} {K : PySem.W.Frag} {h : Heap} {mg : Str → Option Value} {fa C S zz oo b4 b6 b8 b10 b12 f1 f2 f3 f4 f5 f6 f7 f8 f9 f10 f11 f12 f13 f14 f15 f16 f17 f18 f19 f20 f21 f22 f23 f24 f25 f26 f27 f28 f29 f30 f31 f32 f33 f34 f35 f36 f37 f38 f39 f40 f41 : Addr} (X : K.In h) (G : h.Ns mainGlobals mg) (hfa : mg "law" = some (.ref fa))
    {od1 an1 od2 an2 od3 an3 od4 an4 od5 an5 od6 an6 od7 an7 od8 an8 od9 an9 od10 an10 od11 an11 od12 an12 od13 an13 od14 an14 od15 an15 od16 an16 od17 an17 od18 an18 od19 an19 od20 an20 od21 an21 od22 an22 od23 an23 od24 an24 od25 an25 od26 an26 od27 an27 od28 an28 od29 an29 od30 an30 od31 an31 od32 an32 od33 an33 od34 an34 od35 an35 od36 an36 od37 an37 od38 an38 od39 an39 od40 an40 od41 an41 : Option Addr} {sl1 sl2 sl3 sl4 sl5 sl6 sl7 sl8 sl9 sl10 sl11 sl12 sl13 sl14 sl15 sl16 sl17 sl18 sl19 sl20 sl21 sl22 sl23 sl24 sl25 sl26 sl27 sl28 sl29 sl30 sl31 sl32 sl33 sl34 sl35 sl36 sl37 sl38 sl39 sl40 sl41 : Array (Option Value)} {oc1 kV1 dc1 pm1 cd1 ct1 oc2 kV2 dc2 pm2 cd2 ct2 oc3 kV3 dc3 pm3 cd3 ct3 oc4 kV4 dc4 pm4 cd4 ct4 oc5 kV5 dc5 pm5 cd5 ct5 oc6 kV6 dc6 pm6 cd6 ct6 oc7 kV7 dc7 pm7 cd7 ct7 oc8 kV8 dc8 pm8 cd8 ct8 oc9 kV9 dc9 pm9 cd9 ct9 oc10 kV10 dc10 pm10 cd10 ct10 oc11 kV11 dc11 pm11 cd11 ct11 oc12 kV12 dc12 pm12 cd12 ct12 oc13 kV13 dc13 pm13 cd13 ct13 oc14 kV14 dc14 pm14 cd14 ct14 oc15 kV15 dc15 pm15 cd15 ct15 oc16 kV16 dc16 pm16 cd16 ct16 oc17 kV17 dc17 pm17 cd17 ct17 oc18 kV18 dc18 pm18 cd18 ct18 oc19 kV19 dc19 pm19 cd19 ct19 oc20 kV20 dc20 pm20 cd20 ct20 oc21 kV21 dc21 pm21 cd21 ct21 oc22 kV22 dc22 pm22 cd22 ct22 oc23 kV23 dc23 pm23 cd23 ct23 oc24 kV24 dc24 pm24 cd24 ct24 oc25 kV25 dc25 pm25 cd25 ct25 oc26 kV26 dc26 pm26 cd26 ct26 oc27 kV27 dc27 pm27 cd27 ct27 oc28 kV28 dc28 pm28 cd28 ct28 oc29 kV29 dc29 pm29 cd29 ct29 oc30 kV30 dc30 pm30 cd30 ct30 oc31 kV31 dc31 pm31 cd31 ct31 oc32 kV32 dc32 pm32 cd32 ct32 oc33 kV33 dc33 pm33 cd33 ct33 oc34 kV34 dc34 pm34 cd34 ct34 oc35 kV35 dc35 pm35 cd35 ct35 oc36 kV36 dc36 pm36 cd36 ct36 oc37 kV37 dc37 pm37 cd37 ct37 oc38 kV38 dc38 pm38 cd38 ct38 oc39 kV39 dc39 pm39 cd39 ct39 oc40 kV40 dc40 pm40 cd40 ct40 oc41 kV41 dc41 pm41 cd41 ct41 : Value}
    {t4 t6 t8 t10 t12 u4 u6 u8 u10 u12 v4 v6 v8 v10 v12 : Tok} {epS nn4 nn6 nn8 nn10 nn12 : Nat} {dd4 dd6 dd8 dd10 dd12 : Option Addr} {ss4 ss6 ss8 ss10 ss12 : Array (Option Value)}
    {uZ vZ : Tok} {nnZ : Nat} {ddZ : Option Addr} {ssZ : Array (Option Value)}
    {tI_FEWEST_CORNERS : Tok}
    {tI_MOST_CORNERS : Tok}
    {nnO : Nat} {ddO : Option Addr} {ssO : Array (Option Value)}
    (aC : PySem.W.nsIn K mainGlobals "Frame" = some (some (.ref C)))
    (a1 : PySem.W.nsIn K mainGlobals "plus" = some (some (.ref f1)))
    (l1 : K.lookup f1 = some ⟨oc1, od1, .func (PySem.W.fnOf "plus" "plus" (defArgs s_plus) (defBody s_plus) (defScope s_plus) .none kV1 dc1 pm1 an1 cd1 ct1), sl1⟩) (c1 : PySem.W.codeIn K cd1 "plus" = true) (k1 : PySem.W.keepIn K (.ref f1) = true)
    (a2 : PySem.W.nsIn K mainGlobals "minus" = some (some (.ref f2)))
    (l2 : K.lookup f2 = some ⟨oc2, od2, .func (PySem.W.fnOf "minus" "minus" (defArgs s_minus) (defBody s_minus) (defScope s_minus) .none kV2 dc2 pm2 an2 cd2 ct2), sl2⟩) (c2 : PySem.W.codeIn K cd2 "minus" = true) (k2 : PySem.W.keepIn K (.ref f2) = true)
    (a3 : PySem.W.nsIn K mainGlobals "whole_sign" = some (some (.ref f3)))
    (l3 : K.lookup f3 = some ⟨oc3, od3, .func (PySem.W.fnOf "whole_sign" "whole_sign" (defArgs s_whole_sign) (defBody s_whole_sign) (defScope s_whole_sign) .none kV3 dc3 pm3 an3 cd3 ct3), sl3⟩) (c3 : PySem.W.codeIn K cd3 "whole_sign" = true) (k3 : PySem.W.keepIn K (.ref f3) = true)
    (a4 : PySem.W.nsIn K mainGlobals "is_whole" = some (some (.ref f4)))
    (l4 : K.lookup f4 = some ⟨oc4, od4, .func (PySem.W.fnOf "is_whole" "is_whole" (defArgs s_is_whole) (defBody s_is_whole) (defScope s_is_whole) .none kV4 dc4 pm4 an4 cd4 ct4), sl4⟩) (c4 : PySem.W.codeIn K cd4 "is_whole" = true) (k4 : PySem.W.keepIn K (.ref f4) = true)
    (a5 : PySem.W.nsIn K mainGlobals "is_frame_size" = some (some (.ref f5)))
    (l5 : K.lookup f5 = some ⟨oc5, od5, .func (PySem.W.fnOf "is_frame_size" "is_frame_size" (defArgs s_is_frame_size) (defBody s_is_frame_size) (defScope s_is_frame_size) .none kV5 dc5 pm5 an5 cd5 ct5), sl5⟩) (c5 : PySem.W.codeIn K cd5 "is_frame_size" = true) (k5 : PySem.W.keepIn K (.ref f5) = true)
    (a6 : PySem.W.findIn K (.ref C) "__init__" = some (some (.ref f6))) (i6 : PySem.W.isFn K (.ref f6) = true)
    (l6 : K.lookup f6 = some ⟨oc6, od6, .func (PySem.W.fnOf "__init__" "Frame.__init__" (defArgs s_Frame_init) (defBody s_Frame_init) (defScope s_Frame_init) .none kV6 dc6 pm6 an6 cd6 ct6), sl6⟩) (c6 : PySem.W.codeIn K cd6 "Frame.__init__" = true) (k6 : PySem.W.keepIn K (.ref f6) = true)
    (a7 : PySem.W.findIn K (.ref C) "size" = some (some (.ref f7))) (i7 : PySem.W.isFn K (.ref f7) = true)
    (l7 : K.lookup f7 = some ⟨oc7, od7, .func (PySem.W.fnOf "size" "Frame.size" (defArgs s_Frame_size) (defBody s_Frame_size) (defScope s_Frame_size) .none kV7 dc7 pm7 an7 cd7 ct7), sl7⟩) (c7 : PySem.W.codeIn K cd7 "Frame.size" = true) (k7 : PySem.W.keepIn K (.ref f7) = true)
    (a8 : PySem.W.findIn K (.ref C) "number" = some (some (.ref f8))) (i8 : PySem.W.isFn K (.ref f8) = true)
    (l8 : K.lookup f8 = some ⟨oc8, od8, .func (PySem.W.fnOf "number" "Frame.number" (defArgs s_Frame_number) (defBody s_Frame_number) (defScope s_Frame_number) .none kV8 dc8 pm8 an8 cd8 ct8), sl8⟩) (c8 : PySem.W.codeIn K cd8 "Frame.number" = true) (k8 : PySem.W.keepIn K (.ref f8) = true)
    (a9 : PySem.W.findIn K (.ref C) "times" = some (some (.ref f9))) (i9 : PySem.W.isFn K (.ref f9) = true)
    (l9 : K.lookup f9 = some ⟨oc9, od9, .func (PySem.W.fnOf "times" "Frame.times" (defArgs s_Frame_times) (defBody s_Frame_times) (defScope s_Frame_times) .none kV9 dc9 pm9 an9 cd9 ct9), sl9⟩) (c9 : PySem.W.codeIn K cd9 "Frame.times" = true) (k9 : PySem.W.keepIn K (.ref f9) = true)
    (a10 : PySem.W.findIn K (.ref C) "sign" = some (some (.ref f10))) (i10 : PySem.W.isFn K (.ref f10) = true)
    (l10 : K.lookup f10 = some ⟨oc10, od10, .func (PySem.W.fnOf "sign" "Frame.sign" (defArgs s_Frame_sign) (defBody s_Frame_sign) (defScope s_Frame_sign) .none kV10 dc10 pm10 an10 cd10 ct10), sl10⟩) (c10 : PySem.W.codeIn K cd10 "Frame.sign" = true) (k10 : PySem.W.keepIn K (.ref f10) = true)
    (a11 : PySem.W.nsIn K mainGlobals "added" = some (some (.ref f11)))
    (l11 : K.lookup f11 = some ⟨oc11, od11, .func (PySem.W.fnOf "added" "added" (defArgs s_added) (defBody s_added) (defScope s_added) .none kV11 dc11 pm11 an11 cd11 ct11), sl11⟩) (c11 : PySem.W.codeIn K cd11 "added" = true) (k11 : PySem.W.keepIn K (.ref f11) = true)
    (a12 : PySem.W.nsIn K mainGlobals "opposite" = some (some (.ref f12)))
    (l12 : K.lookup f12 = some ⟨oc12, od12, .func (PySem.W.fnOf "opposite" "opposite" (defArgs s_opposite) (defBody s_opposite) (defScope s_opposite) .none kV12 dc12 pm12 an12 cd12 ct12), sl12⟩) (c12 : PySem.W.codeIn K cd12 "opposite" = true) (k12 : PySem.W.keepIn K (.ref f12) = true)
    (a13 : PySem.W.nsIn K mainGlobals "scaled" = some (some (.ref f13)))
    (l13 : K.lookup f13 = some ⟨oc13, od13, .func (PySem.W.fnOf "scaled" "scaled" (defArgs s_scaled) (defBody s_scaled) (defScope s_scaled) .none kV13 dc13 pm13 an13 cd13 ct13), sl13⟩) (c13 : PySem.W.codeIn K cd13 "scaled" = true) (k13 : PySem.W.keepIn K (.ref f13) = true)
    (a14 : PySem.W.nsIn K mainGlobals "along_one" = some (some (.ref f14)))
    (l14 : K.lookup f14 = some ⟨oc14, od14, .func (PySem.W.fnOf "along_one" "along_one" (defArgs s_along_one) (defBody s_along_one) (defScope s_along_one) .none kV14 dc14 pm14 an14 cd14 ct14), sl14⟩) (c14 : PySem.W.codeIn K cd14 "along_one" = true) (k14 : PySem.W.keepIn K (.ref f14) = true)
    (a15 : PySem.W.nsIn K mainGlobals "turned_once" = some (some (.ref f15)))
    (l15 : K.lookup f15 = some ⟨oc15, od15, .func (PySem.W.fnOf "turned_once" "turned_once" (defArgs s_turned_once) (defBody s_turned_once) (defScope s_turned_once) .none kV15 dc15 pm15 an15 cd15 ct15), sl15⟩) (c15 : PySem.W.codeIn K cd15 "turned_once" = true) (k15 : PySem.W.keepIn K (.ref f15) = true)
    (a16 : PySem.W.nsIn K mainGlobals "turned" = some (some (.ref f16)))
    (l16 : K.lookup f16 = some ⟨oc16, od16, .func (PySem.W.fnOf "turned" "turned" (defArgs s_turned) (defBody s_turned) (defScope s_turned) .none kV16 dc16 pm16 an16 cd16 ct16), sl16⟩) (c16 : PySem.W.codeIn K cd16 "turned" = true) (k16 : PySem.W.keepIn K (.ref f16) = true)
    (a17 : PySem.W.nsIn K mainGlobals "mirrored" = some (some (.ref f17)))
    (l17 : K.lookup f17 = some ⟨oc17, od17, .func (PySem.W.fnOf "mirrored" "mirrored" (defArgs s_mirrored) (defBody s_mirrored) (defScope s_mirrored) .none kV17 dc17 pm17 an17 cd17 ct17), sl17⟩) (c17 : PySem.W.codeIn K cd17 "mirrored" = true) (k17 : PySem.W.keepIn K (.ref f17) = true)
    (a18 : PySem.W.nsIn K mainGlobals "moved" = some (some (.ref f18)))
    (l18 : K.lookup f18 = some ⟨oc18, od18, .func (PySem.W.fnOf "moved" "moved" (defArgs s_moved) (defBody s_moved) (defScope s_moved) .none kV18 dc18 pm18 an18 cd18 ct18), sl18⟩) (c18 : PySem.W.codeIn K cd18 "moved" = true) (k18 : PySem.W.keepIn K (.ref f18) = true)
    (a19 : PySem.W.nsIn K mainGlobals "joined" = some (some (.ref f19)))
    (l19 : K.lookup f19 = some ⟨oc19, od19, .func (PySem.W.fnOf "joined" "joined" (defArgs s_joined) (defBody s_joined) (defScope s_joined) .none kV19 dc19 pm19 an19 cd19 ct19), sl19⟩) (c19 : PySem.W.codeIn K cd19 "joined" = true) (k19 : PySem.W.keepIn K (.ref f19) = true)
    (a20 : PySem.W.nsIn K mainGlobals "back" = some (some (.ref f20)))
    (l20 : K.lookup f20 = some ⟨oc20, od20, .func (PySem.W.fnOf "back" "back" (defArgs s_back) (defBody s_back) (defScope s_back) .none kV20 dc20 pm20 an20 cd20 ct20), sl20⟩) (c20 : PySem.W.codeIn K cd20 "back" = true) (k20 : PySem.W.keepIn K (.ref f20) = true)
    (a21 : PySem.W.nsIn K mainGlobals "cross" = some (some (.ref f21)))
    (l21 : K.lookup f21 = some ⟨oc21, od21, .func (PySem.W.fnOf "cross" "cross" (defArgs s_cross) (defBody s_cross) (defScope s_cross) .none kV21 dc21 pm21 an21 cd21 ct21), sl21⟩) (c21 : PySem.W.codeIn K cd21 "cross" = true) (k21 : PySem.W.keepIn K (.ref f21) = true)
    (a22 : PySem.W.nsIn K mainGlobals "sides" = some (some (.ref f22)))
    (l22 : K.lookup f22 = some ⟨oc22, od22, .func (PySem.W.fnOf "sides" "sides" (defArgs s_sides) (defBody s_sides) (defScope s_sides) .none kV22 dc22 pm22 an22 cd22 ct22), sl22⟩) (c22 : PySem.W.codeIn K cd22 "sides" = true) (k22 : PySem.W.keepIn K (.ref f22) = true)
    (a23 : PySem.W.nsIn K mainGlobals "hand" = some (some (.ref f23)))
    (l23 : K.lookup f23 = some ⟨oc23, od23, .func (PySem.W.fnOf "hand" "hand" (defArgs s_hand) (defBody s_hand) (defScope s_hand) .none kV23 dc23 pm23 an23 cd23 ct23), sl23⟩) (c23 : PySem.W.codeIn K cd23 "hand" = true) (k23 : PySem.W.keepIn K (.ref f23) = true)
    (a24 : PySem.W.nsIn K mainGlobals "is_shape" = some (some (.ref f24)))
    (l24 : K.lookup f24 = some ⟨oc24, od24, .func (PySem.W.fnOf "is_shape" "is_shape" (defArgs s_is_shape) (defBody s_is_shape) (defScope s_is_shape) .none kV24 dc24 pm24 an24 cd24 ct24), sl24⟩) (c24 : PySem.W.codeIn K cd24 "is_shape" = true) (k24 : PySem.W.keepIn K (.ref f24) = true)
    (a25 : PySem.W.nsIn K mainGlobals "twice" = some (some (.ref f25)))
    (l25 : K.lookup f25 = some ⟨oc25, od25, .func (PySem.W.fnOf "twice" "twice" (defArgs s_twice) (defBody s_twice) (defScope s_twice) .none kV25 dc25 pm25 an25 cd25 ct25), sl25⟩) (c25 : PySem.W.codeIn K cd25 "twice" = true) (k25 : PySem.W.keepIn K (.ref f25) = true)
    (a26 : PySem.W.nsIn K mainGlobals "where" = some (some (.ref f26)))
    (l26 : K.lookup f26 = some ⟨oc26, od26, .func (PySem.W.fnOf "where" "where" (defArgs s_where) (defBody s_where) (defScope s_where) .none kV26 dc26 pm26 an26 cd26 ct26), sl26⟩) (c26 : PySem.W.codeIn K cd26 "where" = true) (k26 : PySem.W.keepIn K (.ref f26) = true)
    (a27 : PySem.W.nsIn K mainGlobals "has_side_against" = some (some (.ref f27)))
    (l27 : K.lookup f27 = some ⟨oc27, od27, .func (PySem.W.fnOf "has_side_against" "has_side_against" (defArgs s_has_side_against) (defBody s_has_side_against) (defScope s_has_side_against) .none kV27 dc27 pm27 an27 cd27 ct27), sl27⟩) (c27 : PySem.W.codeIn K cd27 "has_side_against" = true) (k27 : PySem.W.keepIn K (.ref f27) = true)
    (a28 : PySem.W.nsIn K mainGlobals "are_apart" = some (some (.ref f28)))
    (l28 : K.lookup f28 = some ⟨oc28, od28, .func (PySem.W.fnOf "are_apart" "are_apart" (defArgs s_are_apart) (defBody s_are_apart) (defScope s_are_apart) .none kV28 dc28 pm28 an28 cd28 ct28), sl28⟩) (c28 : PySem.W.codeIn K cd28 "are_apart" = true) (k28 : PySem.W.keepIn K (.ref f28) = true)
    (a29 : PySem.W.nsIn K mainGlobals "side_between" = some (some (.ref f29)))
    (l29 : K.lookup f29 = some ⟨oc29, od29, .func (PySem.W.fnOf "side_between" "side_between" (defArgs s_side_between) (defBody s_side_between) (defScope s_side_between) .none kV29 dc29 pm29 an29 cd29 ct29), sl29⟩) (c29 : PySem.W.codeIn K cd29 "side_between" = true) (k29 : PySem.W.keepIn K (.ref f29) = true)
    (a30 : PySem.W.nsIn K mainGlobals "_law_cell" = some (some (.ref f30)))
    (l30 : K.lookup f30 = some ⟨oc30, od30, .func (PySem.W.fnOf "_law_cell" "_law_cell" (defArgs s_cell) (defBody s_cell) (defScope s_cell) .none kV30 dc30 pm30 an30 cd30 ct30), sl30⟩) (c30 : PySem.W.codeIn K cd30 "_law_cell" = true) (k30 : PySem.W.keepIn K (.ref f30) = true)
    (a31 : PySem.W.nsIn K mainGlobals "_law_sum" = some (some (.ref f31)))
    (l31 : K.lookup f31 = some ⟨oc31, od31, .func (PySem.W.fnOf "_law_sum" "_law_sum" (defArgs s_sum) (defBody s_sum) (defScope s_sum) .none kV31 dc31 pm31 an31 cd31 ct31), sl31⟩) (c31 : PySem.W.codeIn K cd31 "_law_sum" = true) (k31 : PySem.W.keepIn K (.ref f31) = true)
    (a32 : PySem.W.nsIn K mainGlobals "_law_less" = some (some (.ref f32)))
    (l32 : K.lookup f32 = some ⟨oc32, od32, .func (PySem.W.fnOf "_law_less" "_law_less" (defArgs s_less) (defBody s_less) (defScope s_less) .none kV32 dc32 pm32 an32 cd32 ct32), sl32⟩) (c32 : PySem.W.codeIn K cd32 "_law_less" = true) (k32 : PySem.W.keepIn K (.ref f32) = true)
    (a33 : PySem.W.nsIn K mainGlobals "_law_by_w" = some (some (.ref f33)))
    (l33 : K.lookup f33 = some ⟨oc33, od33, .func (PySem.W.fnOf "_law_by_w" "_law_by_w" (defArgs s_by_w) (defBody s_by_w) (defScope s_by_w) .none kV33 dc33 pm33 an33 cd33 ct33), sl33⟩) (c33 : PySem.W.codeIn K cd33 "_law_by_w" = true) (k33 : PySem.W.keepIn K (.ref f33) = true)
    (a34 : PySem.W.nsIn K mainGlobals "_law_way" = some (some (.ref f34)))
    (l34 : K.lookup f34 = some ⟨oc34, od34, .func (PySem.W.fnOf "_law_way" "_law_way" (defArgs s_way) (defBody s_way) (defScope s_way) .none kV34 dc34 pm34 an34 cd34 ct34), sl34⟩) (c34 : PySem.W.codeIn K cd34 "_law_way" = true) (k34 : PySem.W.keepIn K (.ref f34) = true)
    (a35 : PySem.W.nsIn K mainGlobals "_law_round" = some (some (.ref f35)))
    (l35 : K.lookup f35 = some ⟨oc35, od35, .func (PySem.W.fnOf "_law_round" "_law_round" (defArgs s_round) (defBody s_round) (defScope s_round) .none kV35 dc35 pm35 an35 cd35 ct35), sl35⟩) (c35 : PySem.W.codeIn K cd35 "_law_round" = true) (k35 : PySem.W.keepIn K (.ref f35) = true)
    (a36 : PySem.W.nsIn K mainGlobals "_law_shape" = some (some (.ref f36)))
    (l36 : K.lookup f36 = some ⟨oc36, od36, .func (PySem.W.fnOf "_law_shape" "_law_shape" (defArgs s_shape) (defBody s_shape) (defScope s_shape) .none kV36 dc36 pm36 an36 cd36 ct36), sl36⟩) (c36 : PySem.W.codeIn K cd36 "_law_shape" = true) (k36 : PySem.W.keepIn K (.ref f36) = true)
    (a37 : PySem.W.nsIn K mainGlobals "_law_beside" = some (some (.ref f37)))
    (l37 : K.lookup f37 = some ⟨oc37, od37, .func (PySem.W.fnOf "_law_beside" "_law_beside" (defArgs s_beside) (defBody s_beside) (defScope s_beside) .none kV37 dc37 pm37 an37 cd37 ct37), sl37⟩) (c37 : PySem.W.codeIn K cd37 "_law_beside" = true) (k37 : PySem.W.keepIn K (.ref f37) = true)
    (a38 : PySem.W.nsIn K mainGlobals "_law_free" = some (some (.ref f38)))
    (l38 : K.lookup f38 = some ⟨oc38, od38, .func (PySem.W.fnOf "_law_free" "_law_free" (defArgs s_free) (defBody s_free) (defScope s_free) .none kV38 dc38 pm38 an38 cd38 ct38), sl38⟩) (c38 : PySem.W.codeIn K cd38 "_law_free" = true) (k38 : PySem.W.keepIn K (.ref f38) = true)
    (a39 : PySem.W.nsIn K mainGlobals "_law_moved" = some (some (.ref f39)))
    (l39 : K.lookup f39 = some ⟨oc39, od39, .func (PySem.W.fnOf "_law_moved" "_law_moved" (defArgs s_l_moved) (defBody s_l_moved) (defScope s_l_moved) .none kV39 dc39 pm39 an39 cd39 ct39), sl39⟩) (c39 : PySem.W.codeIn K cd39 "_law_moved" = true) (k39 : PySem.W.keepIn K (.ref f39) = true)
    (a40 : PySem.W.nsIn K mainGlobals "_law_side_moved" = some (some (.ref f40)))
    (l40 : K.lookup f40 = some ⟨oc40, od40, .func (PySem.W.fnOf "_law_side_moved" "_law_side_moved" (defArgs s_side_moved) (defBody s_side_moved) (defScope s_side_moved) .none kV40 dc40 pm40 an40 cd40 ct40), sl40⟩) (c40 : PySem.W.codeIn K cd40 "_law_side_moved" = true) (k40 : PySem.W.keepIn K (.ref f40) = true)
    (a41 : PySem.W.nsIn K mainGlobals "law" = some (some (.ref f41)))
    (l41 : K.lookup f41 = some ⟨oc41, od41, .func (PySem.W.fnOf "law" "law" (defArgs s_law) (defBody s_law) (defScope s_law) .none kV41 dc41 pm41 an41 cd41 ct41), sl41⟩) (c41 : PySem.W.codeIn K cd41 "law" = true) (k41 : PySem.W.keepIn K (.ref f41) = true)
    (pg : PySem.W.plainGet K C Str.empty = true) (hd : PySem.W.hasDictIn K C = true) (po : PySem.W.plainOver K C = true) (sa : PySem.W.findIn K (.ref C) "__setattr__" = some (some (.builtin "object.__setattr__"))) (mk : PySem.W.makesIn K C = true) (kc : PySem.W.keepIn K (.ref C) = true)
    (n_m : PySem.W.findIn K (.ref C) "m" = some none)
    (n_square : PySem.W.findIn K (.ref C) "square" = some none)
    (z_bool : PySem.W.nsIn K mainGlobals "bool" = some none)
    (z_int : PySem.W.nsIn K mainGlobals "int" = some none)
    (z_isinstance : PySem.W.nsIn K mainGlobals "isinstance" = some none)
    (z_len : PySem.W.nsIn K mainGlobals "len" = some none)
    (z_list : PySem.W.nsIn K mainGlobals "list" = some none)
    (z_max : PySem.W.nsIn K mainGlobals "max" = some none)
    (z_min : PySem.W.nsIn K mainGlobals "min" = some none)
    (z_range : PySem.W.nsIn K mainGlobals "range" = some none)
    (z_sorted : PySem.W.nsIn K mainGlobals "sorted" = some none)
    (z_tuple : PySem.W.nsIn K mainGlobals "tuple" = some none)
    (z_zip : PySem.W.nsIn K mainGlobals "zip" = some none)
    (aS : PySem.W.nsIn K mainGlobals "SQUARES" = some (some (.ref S)))
    (lS : K.lookup S = some ⟨.type "dict", none, .dict #[⟨4, .int 4 t4, .ref b4⟩, ⟨6, .int 6 t6, .ref b6⟩, ⟨8, .int 8 t8, .ref b8⟩, ⟨10, .int 10 t10, .ref b10⟩, ⟨12, .int 12 t12, .ref b12⟩] epS, #[]⟩)
    (q4 : K.lookup b4 = some ⟨.type "tuple", dd4, .seq #[.int 0 u4, .int 0 v4] nn4, ss4⟩)
    (q6 : K.lookup b6 = some ⟨.type "tuple", dd6, .seq #[.int 1 u6, .int 0 v6] nn6, ss6⟩)
    (q8 : K.lookup b8 = some ⟨.type "tuple", dd8, .seq #[.int 2 u8, .int 0 v8] nn8, ss8⟩)
    (q10 : K.lookup b10 = some ⟨.type "tuple", dd10, .seq #[.int 1 u10, .int 1 v10] nn10, ss10⟩)
    (q12 : K.lookup b12 = some ⟨.type "tuple", dd12, .seq #[.int 3 u12, .int 0 v12] nn12, ss12⟩)
    (aZ : PySem.W.nsIn K mainGlobals "ZERO" = some (some (.ref zz)))
    (qZ : K.lookup zz = some ⟨.type "tuple", ddZ, .seq #[.int 0 uZ, .int 0 vZ] nnZ, ssZ⟩)
    (aO : PySem.W.nsIn K mainGlobals "ORIGIN" = some (some (.ref oo)))
    (qO : K.lookup oo = some ⟨.type "tuple", ddO, .seq #[.ref zz, .ref zz] nnO, ssO⟩)
    (aI_FEWEST_CORNERS : PySem.W.nsIn K mainGlobals "FEWEST_CORNERS" = some (some (.int 3 tI_FEWEST_CORNERS)))
    (aI_MOST_CORNERS : PySem.W.nsIn K mainGlobals "MOST_CORNERS" = some (some (.int 6 tI_MOST_CORNERS)))
    (hsS : (S == sysModules) = false)
    : ∃ fd : FuncData, (∀ (s : Shared) (v : Value), BindsTo s fd ⟨[v], []⟩ [("_law_script", v)]) ∧ ∀ base : Heap, K.In base → base.Ns mainGlobals mg → FnOk l.prog w K mg base CX0 8 fa fd ["_law_script"] (spD K 1 R_law) := by
  have e := hfa.symm.trans (PySem.W.mg_of X G a41)
  cases e
  have T : Cl K C := ⟨⟨pg, hd, po, sa⟩, n_m, n_square⟩
  have M := PySem.W.mg_of X G aC
  have m_bool := PySem.W.mg_none_of X G z_bool
  have m_int := PySem.W.mg_none_of X G z_int
  have m_isinstance := PySem.W.mg_none_of X G z_isinstance
  have m_len := PySem.W.mg_none_of X G z_len
  have m_list := PySem.W.mg_none_of X G z_list
  have m_max := PySem.W.mg_none_of X G z_max
  have m_min := PySem.W.mg_none_of X G z_min
  have m_range := PySem.W.mg_none_of X G z_range
  have m_sorted := PySem.W.mg_none_of X G z_sorted
  have m_tuple := PySem.W.mg_none_of X G z_tuple
  have m_zip := PySem.W.mg_none_of X G z_zip
  have hS := sq_mk (PySem.W.mg_of X G aS) hsS lS (tupK (oc := .none) q4) (tupK (oc := .none) q6) (tupK (oc := .none) q8) (tupK (oc := .none) q10) (tupK (oc := .none) q12)
  have hZ : GT K mg "ZERO" 0 0 := ⟨zz, PySem.W.mg_of X G aZ, tupK (oc := .none) qZ⟩
  have I_FEWEST_CORNERS : GI mg "FEWEST_CORNERS" 3 := ⟨_, PySem.W.mg_of X G aI_FEWEST_CORNERS⟩
  have I_MOST_CORNERS : GI mg "MOST_CORNERS" 6 := ⟨_, PySem.W.mg_of X G aI_MOST_CORNERS⟩
  have hO : GP K mg "ORIGIN" := ⟨oo, zz, PySem.W.mg_of X G aO, refK qO, tupK (oc := .none) qZ⟩
  have F1 := fun_mk (st := s_plus) l1 c1 k1
  have B1 := F1.binds (ps := ["one", "other"]) fun _ _ _ _ _ _ => us_of2 fun _ _ => rfl
  have F2 := fun_mk (st := s_minus) l2 c2 k2
  have B2 := F2.binds (ps := ["one", "other"]) fun _ _ _ _ _ _ => us_of2 fun _ _ => rfl
  have F3 := fun_mk (st := s_whole_sign) l3 c3 k3
  have B3 := F3.binds (ps := ["whole"]) fun _ _ _ _ _ _ => us_of1 fun _ => rfl
  have F4 := fun_mk (st := s_is_whole) l4 c4 k4
  have B4 := F4.binds (ps := ["value"]) fun _ _ _ _ _ _ => us_of1 fun _ => rfl
  have F5 := fun_mk (st := s_is_frame_size) l5 c5 k5
  have B5 := F5.binds (ps := ["m"]) fun _ _ _ _ _ _ => us_of1 fun _ => rfl
  have F6 := fun_mk (st := s_Frame_init) l6 c6 k6
  have B6 := F6.binds (ps := ["self", "m"]) fun _ _ _ _ _ _ => us_of2 fun _ _ => rfl
  have F7 := fun_mk (st := s_Frame_size) l7 c7 k7
  have B7 := F7.binds (ps := ["self"]) fun _ _ _ _ _ _ => us_of1 fun _ => rfl
  have F8 := fun_mk (st := s_Frame_number) l8 c8 k8
  have B8 := F8.binds (ps := ["self", "a", "b"]) fun _ _ _ _ _ _ => us_of3 fun _ _ _ => rfl
  have F9 := fun_mk (st := s_Frame_times) l9 c9 k9
  have B9 := F9.binds (ps := ["self", "one", "other"]) fun _ _ _ _ _ _ => us_of3 fun _ _ _ => rfl
  have F10 := fun_mk (st := s_Frame_sign) l10 c10 k10
  have B10 := F10.binds (ps := ["self", "one"]) fun _ _ _ _ _ _ => us_of2 fun _ _ => rfl
  have F11 := fun_mk (st := s_added) l11 c11 k11
  have B11 := F11.binds (ps := ["one", "other"]) fun _ _ _ _ _ _ => us_of2 fun _ _ => rfl
  have F12 := fun_mk (st := s_opposite) l12 c12 k12
  have B12 := F12.binds (ps := ["point"]) fun _ _ _ _ _ _ => us_of1 fun _ => rfl
  have F13 := fun_mk (st := s_scaled) l13 c13 k13
  have B13 := F13.binds (ps := ["frame", "point", "number"]) fun _ _ _ _ _ _ => us_of3 fun _ _ _ => rfl
  have F14 := fun_mk (st := s_along_one) l14 c14 k14
  have B14 := F14.binds (ps := ["frame", "point"]) fun _ _ _ _ _ _ => us_of2 fun _ _ => rfl
  have F15 := fun_mk (st := s_turned_once) l15 c15 k15
  have B15 := F15.binds (ps := ["frame", "point"]) fun _ _ _ _ _ _ => us_of2 fun _ _ => rfl
  have F16 := fun_mk (st := s_turned) l16 c16 k16
  have B16 := F16.binds (ps := ["frame", "point", "r"]) fun _ _ _ _ _ _ => us_of3 fun _ _ _ => rfl
  have F17 := fun_mk (st := s_mirrored) l17 c17 k17
  have B17 := F17.binds (ps := ["frame", "point"]) fun _ _ _ _ _ _ => us_of2 fun _ _ => rfl
  have F18 := fun_mk (st := s_moved) l18 c18 k18
  have B18 := F18.binds (ps := ["frame", "move", "point"]) fun _ _ _ _ _ _ => us_of3 fun _ _ _ => rfl
  have F19 := fun_mk (st := s_joined) l19 c19 k19
  have B19 := F19.binds (ps := ["frame", "first", "second"]) fun _ _ _ _ _ _ => us_of3 fun _ _ _ => rfl
  have F20 := fun_mk (st := s_back) l20 c20 k20
  have B20 := F20.binds (ps := ["frame", "move"]) fun _ _ _ _ _ _ => us_of2 fun _ _ => rfl
  have F21 := fun_mk (st := s_cross) l21 c21 k21
  have B21 := F21.binds (ps := ["frame", "one", "other"]) fun _ _ _ _ _ _ => us_of3 fun _ _ _ => rfl
  have F22 := fun_mk (st := s_sides) l22 c22 k22
  have B22 := F22.binds (ps := ["shape"]) fun _ _ _ _ _ _ => us_of1 fun _ => rfl
  have F23 := fun_mk (st := s_hand) l23 c23 k23
  have B23 := F23.binds (ps := ["frame", "side", "point"]) fun _ _ _ _ _ _ => us_of3 fun _ _ _ => rfl
  have F24 := fun_mk (st := s_is_shape) l24 c24 k24
  have B24 := F24.binds (ps := ["frame", "points"]) fun _ _ _ _ _ _ => us_of2 fun _ _ => rfl
  have F25 := fun_mk (st := s_twice) l25 c25 k25
  have B25 := F25.binds (ps := ["frame", "shape"]) fun _ _ _ _ _ _ => us_of2 fun _ _ => rfl
  have F26 := fun_mk (st := s_where) l26 c26 k26
  have B26 := F26.binds (ps := ["frame", "shape", "point"]) fun _ _ _ _ _ _ => us_of3 fun _ _ _ => rfl
  have F27 := fun_mk (st := s_has_side_against) l27 c27 k27
  have B27 := F27.binds (ps := ["frame", "one", "other"]) fun _ _ _ _ _ _ => us_of3 fun _ _ _ => rfl
  have F28 := fun_mk (st := s_are_apart) l28 c28 k28
  have B28 := F28.binds (ps := ["frame", "one", "other"]) fun _ _ _ _ _ _ => us_of3 fun _ _ _ => rfl
  have F29 := fun_mk (st := s_side_between) l29 c29 k29
  have B29 := F29.binds (ps := ["frame", "one", "other"]) fun _ _ _ _ _ _ => us_of3 fun _ _ _ => rfl
  have F30 := fun_mk (st := s_cell) l30 c30 k30
  have B30 := F30.binds (ps := ["_law_script", "_law_k"]) fun _ _ _ _ _ _ => us_of2 fun _ _ => rfl
  have F31 := fun_mk (st := s_sum) l31 c31 k31
  have B31 := F31.binds (ps := ["_law_one", "_law_other"]) fun _ _ _ _ _ _ => us_of2 fun _ _ => rfl
  have F32 := fun_mk (st := s_less) l32 c32 k32
  have B32 := F32.binds (ps := ["_law_one", "_law_other"]) fun _ _ _ _ _ _ => us_of2 fun _ _ => rfl
  have F33 := fun_mk (st := s_by_w) l33 c33 k33
  have B33 := F33.binds (ps := ["_law_m", "_law_number"]) fun _ _ _ _ _ _ => us_of2 fun _ _ => rfl
  have F34 := fun_mk (st := s_way) l34 c34 k34
  have B34 := F34.binds (ps := ["_law_m", "_law_turn", "_law_number"]) fun _ _ _ _ _ _ => us_of3 fun _ _ _ => rfl
  have F35 := fun_mk (st := s_round) l35 c35 k35
  have B35 := F35.binds (ps := ["_law_script", "_law_k", "_law_m"]) fun _ _ _ _ _ _ => us_of3 fun _ _ _ => rfl
  have F36 := fun_mk (st := s_shape) l36 c36 k36
  have B36 := F36.binds (ps := ["_law_script", "_law_k", "_law_m"]) fun _ _ _ _ _ _ => us_of3 fun _ _ _ => rfl
  have F37 := fun_mk (st := s_beside) l37 c37 k37
  have B37 := F37.binds (ps := ["_law_script", "_law_shape_here"]) fun _ _ _ _ _ _ => us_of2 fun _ _ => rfl
  have F38 := fun_mk (st := s_free) l38 c38 k38
  have B38 := F38.binds (ps := ["_law_script", "_law_k", "_law_m", "_law_far"]) fun _ _ _ _ _ _ => us_of4 fun _ _ _ _ => rfl
  have F39 := fun_mk (st := s_l_moved) l39 c39 k39
  have B39 := F39.binds (ps := ["_law_frame", "_law_move", "_law_shape_here"]) fun _ _ _ _ _ _ => us_of3 fun _ _ _ => rfl
  have F40 := fun_mk (st := s_side_moved) l40 c40 k40
  have B40 := F40.binds (ps := ["_law_frame", "_law_move", "_law_side"]) fun _ _ _ _ _ _ => us_of3 fun _ _ _ => rfl
  have F41 := fun_mk (st := s_law) l41 c41 k41
  refine ⟨PySem.W.fnOf "law" "law" (defArgs s_law) (defBody s_law) (defScope s_law) .none kV41 dc41 pm41 an41 cd41 ct41, fun s v => .of_eq rfl, fun base _ _ => ?_⟩
  have G_plus : DefD l.prog w K mg base 1 "plus" ["one", "other"] (R_plus) := ⟨⟨f1, _, ok_plus (P := l.prog) (w := w) (base := base) F1 , PySem.W.mg_of X G a1, k1, B1⟩⟩
  have G_minus : DefD l.prog w K mg base 1 "minus" ["one", "other"] (R_minus) := ⟨⟨f2, _, ok_minus (P := l.prog) (w := w) (base := base) F2 , PySem.W.mg_of X G a2, k2, B2⟩⟩
  have G_whole_sign : DefD l.prog w K mg base 1 "whole_sign" ["whole"] (R_ws) := ⟨⟨f3, _, ok_whole_sign (P := l.prog) (w := w) (base := base) F3 , PySem.W.mg_of X G a3, k3, B3⟩⟩
  have G_is_whole : DefD l.prog w K mg base 1 "is_whole" ["value"] (R_isw) := ⟨⟨f4, _, ok_is_whole (P := l.prog) (w := w) (base := base) F4 m_isinstance m_int m_bool, PySem.W.mg_of X G a4, k4, B4⟩⟩
  have G_is_frame_size : DefD l.prog w K mg base 2 "is_frame_size" ["m"] (R_okm) := ⟨⟨f5, _, ok_is_frame_size (P := l.prog) (w := w) (base := base) F5 G_is_whole hS, PySem.W.mg_of X G a5, k5, B5⟩⟩
  have G_Frame : MakeD l.prog w K mg base 3 "Frame" C ["self", "m"] ["m", "square"] R_frame := ⟨⟨f6, _, ok_Frame_init (P := l.prog) (w := w) (base := base) F6 T hS G_is_frame_size, ⟨mk, a6, i6, kc⟩, M, B6⟩⟩
  have G_Frame_size : MethD l.prog w K mg base 1 C "size" ["self"] (R_size C) := ⟨T.cl, ⟨f7, _, ok_Frame_size (P := l.prog) (w := w) (base := base) F7 T, ⟨a7, i7, k7⟩, B7⟩⟩
  have G_Frame_number : MethD l.prog w K mg base 1 C "number" ["self", "a", "b"] (R_number C) := ⟨T.cl, ⟨f8, _, ok_Frame_number (P := l.prog) (w := w) (base := base) F8 T, ⟨a8, i8, k8⟩, B8⟩⟩
  have G_Frame_times : MethD l.prog w K mg base 2 C "times" ["self", "one", "other"] (R_times C) := ⟨T.cl, ⟨f9, _, ok_Frame_times (P := l.prog) (w := w) (base := base) F9 T G_Frame_number, ⟨a9, i9, k9⟩, B9⟩⟩
  have G_Frame_sign : MethD l.prog w K mg base 2 C "sign" ["self", "one"] (R_sign C) := ⟨T.cl, ⟨f10, _, ok_Frame_sign (P := l.prog) (w := w) (base := base) F10 T G_whole_sign, ⟨a10, i10, k10⟩, B10⟩⟩
  have G_added : DefD l.prog w K mg base 2 "added" ["one", "other"] (R_added) := ⟨⟨f11, _, ok_added (P := l.prog) (w := w) (base := base) F11 G_plus, PySem.W.mg_of X G a11, k11, B11⟩⟩
  have G_opposite : DefD l.prog w K mg base 2 "opposite" ["point"] (R_opp) := ⟨⟨f12, _, ok_opposite (P := l.prog) (w := w) (base := base) F12 G_minus hZ, PySem.W.mg_of X G a12, k12, B12⟩⟩
  have G_scaled : DefD l.prog w K mg base 3 "scaled" ["frame", "point", "number"] (R_scaled C) := ⟨⟨f13, _, ok_scaled (P := l.prog) (w := w) (base := base) F13 G_Frame_times, PySem.W.mg_of X G a13, k13, B13⟩⟩
  have G_along_one : DefD l.prog w K mg base 3 "along_one" ["frame", "point"] (R_along C) := ⟨⟨f14, _, ok_along_one (P := l.prog) (w := w) (base := base) F14 G_Frame_number G_Frame_times G_plus, PySem.W.mg_of X G a14, k14, B14⟩⟩
  have G_turned_once : DefD l.prog w K mg base 4 "turned_once" ["frame", "point"] (R_once C) := ⟨⟨f15, _, ok_turned_once (P := l.prog) (w := w) (base := base) F15 G_along_one G_minus hZ, PySem.W.mg_of X G a15, k15, B15⟩⟩
  have G_turned : DefD l.prog w K mg base 5 "turned" ["frame", "point", "r"] (R_turned C) := ⟨⟨f16, _, ok_turned (P := l.prog) (w := w) (base := base) F16 G_turned_once G_Frame_size m_range, PySem.W.mg_of X G a16, k16, B16⟩⟩
  have G_mirrored : DefD l.prog w K mg base 4 "mirrored" ["frame", "point"] (R_mirrored C) := ⟨⟨f17, _, ok_mirrored (P := l.prog) (w := w) (base := base) F17 G_along_one G_minus hZ, PySem.W.mg_of X G a17, k17, B17⟩⟩
  have G_moved : DefD l.prog w K mg base 6 "moved" ["frame", "move", "point"] (R_moved C) := ⟨⟨f18, _, ok_moved (P := l.prog) (w := w) (base := base) F18 G_added G_turned G_mirrored, PySem.W.mg_of X G a18, k18, B18⟩⟩
  have G_joined : DefD l.prog w K mg base 7 "joined" ["frame", "first", "second"] (R_joined C) := ⟨⟨f19, _, ok_joined (P := l.prog) (w := w) (base := base) F19 G_Frame_size G_moved, PySem.W.mg_of X G a19, k19, B19⟩⟩
  have G_back : DefD l.prog w K mg base 7 "back" ["frame", "move"] (R_back C) := ⟨⟨f20, _, ok_back (P := l.prog) (w := w) (base := base) F20 G_Frame_size G_moved G_opposite hO, PySem.W.mg_of X G a20, k20, B20⟩⟩
  have G_cross : DefD l.prog w K mg base 3 "cross" ["frame", "one", "other"] (R_cross C) := ⟨⟨f21, _, ok_cross (P := l.prog) (w := w) (base := base) F21 G_Frame_times G_minus, PySem.W.mg_of X G a21, k21, B21⟩⟩
  have G_sides : DefD l.prog w K mg base 1 "sides" ["shape"] (R_sides) := ⟨⟨f22, _, ok_sides (P := l.prog) (w := w) (base := base) F22 m_list m_zip, PySem.W.mg_of X G a22, k22, B22⟩⟩
  have G_hand : DefD l.prog w K mg base 4 "hand" ["frame", "side", "point"] (R_hand C) := ⟨⟨f23, _, ok_hand (P := l.prog) (w := w) (base := base) F23 G_opposite G_added G_cross G_Frame_sign, PySem.W.mg_of X G a23, k23, B23⟩⟩
  have G_is_shape : DefD l.prog w K mg base 5 "is_shape" ["frame", "points"] (R_iss C) := ⟨⟨f24, _, ok_is_shape (P := l.prog) (w := w) (base := base) F24 G_hand m_len m_range m_min I_FEWEST_CORNERS I_MOST_CORNERS, PySem.W.mg_of X G a24, k24, B24⟩⟩
  have G_twice : DefD l.prog w K mg base 4 "twice" ["frame", "shape"] (R_twice C) := ⟨⟨f25, _, ok_twice (P := l.prog) (w := w) (base := base) F25 G_sides G_cross G_plus hZ, PySem.W.mg_of X G a25, k25, B25⟩⟩
  have G_where : DefD l.prog w K mg base 5 "where" ["frame", "shape", "point"] (R_where C) := ⟨⟨f26, _, ok_where (P := l.prog) (w := w) (base := base) F26 G_sides G_hand m_min, PySem.W.mg_of X G a26, k26, B26⟩⟩
  have G_has_side_against : DefD l.prog w K mg base 5 "has_side_against" ["frame", "one", "other"] (R_ag C) := ⟨⟨f27, _, ok_has_side_against (P := l.prog) (w := w) (base := base) F27 G_sides G_hand m_max, PySem.W.mg_of X G a27, k27, B27⟩⟩
  have G_are_apart : DefD l.prog w K mg base 6 "are_apart" ["frame", "one", "other"] (R_ap C) := ⟨⟨f28, _, ok_are_apart (P := l.prog) (w := w) (base := base) F28 G_has_side_against, PySem.W.mg_of X G a28, k28, B28⟩⟩
  have G_side_between : DefD l.prog w K mg base 6 "side_between" ["frame", "one", "other"] (R_sb C) := ⟨⟨f29, _, ok_side_between (P := l.prog) (w := w) (base := base) F29 G_where m_len m_tuple m_sorted, PySem.W.mg_of X G a29, k29, B29⟩⟩
  have G_cell : DefD l.prog w K mg base 1 "_law_cell" ["_law_script", "_law_k"] (R_cell 89 47 62089 7757) := ⟨⟨f30, _, ok_cell (P := l.prog) (w := w) (base := base) F30 m_len, PySem.W.mg_of X G a30, k30, B30⟩⟩
  have G_sum : DefD l.prog w K mg base 1 "_law_sum" ["_law_one", "_law_other"] (R_lsum) := ⟨⟨f31, _, ok_sum (P := l.prog) (w := w) (base := base) F31 , PySem.W.mg_of X G a31, k31, B31⟩⟩
  have G_less : DefD l.prog w K mg base 1 "_law_less" ["_law_one", "_law_other"] (R_lless) := ⟨⟨f32, _, ok_less (P := l.prog) (w := w) (base := base) F32 , PySem.W.mg_of X G a32, k32, B32⟩⟩
  have G_by_w : DefD l.prog w K mg base 1 "_law_by_w" ["_law_m", "_law_number"] (R_byw) := ⟨⟨f33, _, ok_by_w (P := l.prog) (w := w) (base := base) F33 , PySem.W.mg_of X G a33, k33, B33⟩⟩
  have G_way : DefD l.prog w K mg base 2 "_law_way" ["_law_m", "_law_turn", "_law_number"] (R_way) := ⟨⟨f34, _, ok_way (P := l.prog) (w := w) (base := base) F34 G_by_w m_range, PySem.W.mg_of X G a34, k34, B34⟩⟩
  have G_round : DefF l.prog w K mg base 3 "_law_round" ["_law_script", "_law_k", "_law_m"] (R_round) := ⟨⟨f35, _, ok_round (P := l.prog) (w := w) (base := base) F35 G_cell G_way G_less G_sum m_int m_len m_range, PySem.W.mg_of X G a35, k35, B35⟩⟩
  have G_shape : DefD l.prog w K mg base 4 "_law_shape" ["_law_script", "_law_k", "_law_m"] (R_shp) := ⟨⟨f36, _, ok_shape (P := l.prog) (w := w) (base := base) F36 G_cell G_round G_sum m_len, PySem.W.mg_of X G a36, k36, B36⟩⟩
  have G_beside : DefD l.prog w K mg base 2 "_law_beside" ["_law_script", "_law_shape_here"] (R_bes) := ⟨⟨f37, _, ok_beside (P := l.prog) (w := w) (base := base) F37 G_cell G_sum G_less m_len m_range m_tuple, PySem.W.mg_of X G a37, k37, B37⟩⟩
  have G_free : DefD l.prog w K mg base 2 "_law_free" ["_law_script", "_law_k", "_law_m", "_law_far"] (R_free) := ⟨⟨f38, _, ok_free (P := l.prog) (w := w) (base := base) F38 G_cell m_range m_int, PySem.W.mg_of X G a38, k38, B38⟩⟩
  have G_l_moved : DefD l.prog w K mg base 7 "_law_moved" ["_law_frame", "_law_move", "_law_shape_here"] (R_lmv C) := ⟨⟨f39, _, ok_l_moved (P := l.prog) (w := w) (base := base) F39 G_moved, PySem.W.mg_of X G a39, k39, B39⟩⟩
  have G_side_moved : DefD l.prog w K mg base 7 "_law_side_moved" ["_law_frame", "_law_move", "_law_side"] (R_smv C) := ⟨⟨f40, _, ok_side_moved (P := l.prog) (w := w) (base := base) F40 G_moved m_min m_max, PySem.W.mg_of X G a40, k40, B40⟩⟩
  exact ok_law F41 G_cell G_Frame G_shape G_beside G_free G_l_moved G_is_shape G_moved G_twice G_where G_are_apart G_side_between G_side_moved G_scaled G_Frame_times G_joined G_back m_len m_int
theorem walk {l : PySem.W.OpenLaw} {q : Program} {loose : List Str} {XP : (Str → Option Value) → Heap → Prop} {YP : World → Heap → Prop} {d : DefRec} {K : Params → PySem.W.Frag} (hn : l.most = some 63) (hdf : d.params.defaults = [])
    (hY : ∀ (w : World) (h : Heap), YP w h → (K w.params).In h)
    (F : ∀ (w : World) (mg : Str → Option Value) (fa : Addr) (h : Heap), (K w.params).In h → h.Ns mainGlobals mg → mg d.name = some (.ref fa) →
      ∃ fd : FuncData, (∀ (s : Shared) (u : Value), BindsTo s fd ⟨[u], []⟩ [("_law_script", u)]) ∧ ∀ base : Heap, (K w.params).In base → base.Ns mainGlobals mg → FnOk l.prog w (K w.params) mg base CX0 8 fa fd ["_law_script"] (spD (K w.params) 1 R_law)) :
    PySem.W.WalkO q loose XP YP l.row.toRowW d [] (fun f vs => PySem.call f vs) :=
  L2.walk_of (n := 63) (k := 8) (x := "_law_script") (CX := fun _ => CX0) (sp := fun w => spD (K w.params) 1 R_law) hn (by decide) hdf ⟨rfl, by decide, by decide⟩ hY F
    (fun _ _ a ns hl _ hS => ⟨[.lst (ns.map .int)], .bl true, rfl, by unfold EV.IsL; exact ⟨_, _, rfl, by unfold EV.Is; exact ⟨a, _, rfl, hS, EV.IsL.ints ns⟩, by unfold EV.IsL; rfl⟩, .mk ns hl, fun v H' _ r => by unfold EV.Is at r; exact r⟩) fun _ _ _ _ _ z => z
end My
open PySem PySem.W PyProof.Rows
def PySem.W.Fast.tw3169203253033880607 : Unit := ()
def PySem.W.Fast.tw7134223026087572209 : Unit := ()
def PySem.W.Fast.tw2902676226172697116 : Unit := ()
def PySem.W.Fast.tw7489620305408916236 : Unit := ()
def PySem.W.Fast.tw2065394594679713741 : Unit := ()
def PySem.W.Fast.tw15156933995209789504 : Unit := ()
def PySem.W.Fast.tw10057688168459708879 : Unit := ()
def PySem.W.Fast.tw12422175225683019265 : Unit := ()
def PySem.W.Fast.tw3335302025305881901 : Unit := ()
set_option maxRecDepth 100000 in
set_option maxHeartbeats 0 in
theorem PySem.Challenge.cw_inflate_k14_whole_moved_alike_holds : PySem.Challenge.rw_inflate_k14_whole_moved_alike.Holds := by
  w_on; o_law; k_head; (case hw => w_witness2)
  k_fill
  refine My.walk (l := PySem.Challenge.rw_inflate_k14_whole_moved_alike) rfl rfl (fun w h Y => PySem.W.kIn_of Y) ?F
  case F =>
    intro w mg fa h KX G hmg
    refine' My.all_mk KX G hmg ?aC ?a1 ?l1 ?c1 ?k1 ?a2 ?l2 ?c2 ?k2 ?a3 ?l3 ?c3 ?k3 ?a4 ?l4 ?c4 ?k4 ?a5 ?l5 ?c5 ?k5 ?a6 ?i6 ?l6 ?c6 ?k6 ?a7 ?i7 ?l7 ?c7 ?k7 ?a8 ?i8 ?l8 ?c8 ?k8 ?a9 ?i9 ?l9 ?c9 ?k9 ?a10 ?i10 ?l10 ?c10 ?k10 ?a11 ?l11 ?c11 ?k11 ?a12 ?l12 ?c12 ?k12 ?a13 ?l13 ?c13 ?k13 ?a14 ?l14 ?c14 ?k14 ?a15 ?l15 ?c15 ?k15 ?a16 ?l16 ?c16 ?k16 ?a17 ?l17 ?c17 ?k17 ?a18 ?l18 ?c18 ?k18 ?a19 ?l19 ?c19 ?k19 ?a20 ?l20 ?c20 ?k20 ?a21 ?l21 ?c21 ?k21 ?a22 ?l22 ?c22 ?k22 ?a23 ?l23 ?c23 ?k23 ?a24 ?l24 ?c24 ?k24 ?a25 ?l25 ?c25 ?k25 ?a26 ?l26 ?c26 ?k26 ?a27 ?l27 ?c27 ?k27 ?a28 ?l28 ?c28 ?k28 ?a29 ?l29 ?c29 ?k29 ?a30 ?l30 ?c30 ?k30 ?a31 ?l31 ?c31 ?k31 ?a32 ?l32 ?c32 ?k32 ?a33 ?l33 ?c33 ?k33 ?a34 ?l34 ?c34 ?k34 ?a35 ?l35 ?c35 ?k35 ?a36 ?l36 ?c36 ?k36 ?a37 ?l37 ?c37 ?k37 ?a38 ?l38 ?c38 ?k38 ?a39 ?l39 ?c39 ?k39 ?a40 ?l40 ?c40 ?k40 ?a41 ?l41 ?c41 ?k41 ?pg ?hd ?po ?sa ?mk ?kc ?n_m ?n_square ?z_bool ?z_int ?z_isinstance ?z_len ?z_list ?z_max ?z_min ?z_range ?z_sorted ?z_tuple ?z_zip ?aS ?lS ?q4 ?q6 ?q8 ?q10 ?q12 ?aZ ?qZ ?aO ?qO ?aI_FEWEST_CORNERS ?aI_MOST_CORNERS ?hsS
    (case aC => k_is)
    (case a1 => k_is)
    (case l1 => k_is)
    (case c1 => k_is)
    (case k1 => k_is)
    (case a2 => k_is)
    (case l2 => k_is)
    (case c2 => k_is)
    (case k2 => k_is)
    (case a3 => k_is)
    (case l3 => k_is)
    (case c3 => k_is)
    (case k3 => k_is)
    (case a4 => k_is)
    (case l4 => k_is)
    (case c4 => k_is)
    (case k4 => k_is)
    (case a5 => k_is)
    (case l5 => k_is)
    (case c5 => k_is)
    (case k5 => k_is)
    (case a6 => k_is)
    (case i6 => k_is)
    (case l6 => k_is)
    (case c6 => k_is)
    (case k6 => k_is)
    (case a7 => k_is)
    (case i7 => k_is)
    (case l7 => k_is)
    (case c7 => k_is)
    (case k7 => k_is)
    (case a8 => k_is)
    (case i8 => k_is)
    (case l8 => k_is)
    (case c8 => k_is)
    (case k8 => k_is)
    (case a9 => k_is)
    (case i9 => k_is)
    (case l9 => k_is)
    (case c9 => k_is)
    (case k9 => k_is)
    (case a10 => k_is)
    (case i10 => k_is)
    (case l10 => k_is)
    (case c10 => k_is)
    (case k10 => k_is)
    (case a11 => k_is)
    (case l11 => k_is)
    (case c11 => k_is)
    (case k11 => k_is)
    (case a12 => k_is)
    (case l12 => k_is)
    (case c12 => k_is)
    (case k12 => k_is)
    (case a13 => k_is)
    (case l13 => k_is)
    (case c13 => k_is)
    (case k13 => k_is)
    (case a14 => k_is)
    (case l14 => k_is)
    (case c14 => k_is)
    (case k14 => k_is)
    (case a15 => k_is)
    (case l15 => k_is)
    (case c15 => k_is)
    (case k15 => k_is)
    (case a16 => k_is)
    (case l16 => k_is)
    (case c16 => k_is)
    (case k16 => k_is)
    (case a17 => k_is)
    (case l17 => k_is)
    (case c17 => k_is)
    (case k17 => k_is)
    (case a18 => k_is)
    (case l18 => k_is)
    (case c18 => k_is)
    (case k18 => k_is)
    (case a19 => k_is)
    (case l19 => k_is)
    (case c19 => k_is)
    (case k19 => k_is)
    (case a20 => k_is)
    (case l20 => k_is)
    (case c20 => k_is)
    (case k20 => k_is)
    (case a21 => k_is)
    (case l21 => k_is)
    (case c21 => k_is)
    (case k21 => k_is)
    (case a22 => k_is)
    (case l22 => k_is)
    (case c22 => k_is)
    (case k22 => k_is)
    (case a23 => k_is)
    (case l23 => k_is)
    (case c23 => k_is)
    (case k23 => k_is)
    (case a24 => k_is)
    (case l24 => k_is)
    (case c24 => k_is)
    (case k24 => k_is)
    (case a25 => k_is)
    (case l25 => k_is)
    (case c25 => k_is)
    (case k25 => k_is)
    (case a26 => k_is)
    (case l26 => k_is)
    (case c26 => k_is)
    (case k26 => k_is)
    (case a27 => k_is)
    (case l27 => k_is)
    (case c27 => k_is)
    (case k27 => k_is)
    (case a28 => k_is)
    (case l28 => k_is)
    (case c28 => k_is)
    (case k28 => k_is)
    (case a29 => k_is)
    (case l29 => k_is)
    (case c29 => k_is)
    (case k29 => k_is)
    (case a30 => k_is)
    (case l30 => k_is)
    (case c30 => k_is)
    (case k30 => k_is)
    (case a31 => k_is)
    (case l31 => k_is)
    (case c31 => k_is)
    (case k31 => k_is)
    (case a32 => k_is)
    (case l32 => k_is)
    (case c32 => k_is)
    (case k32 => k_is)
    (case a33 => k_is)
    (case l33 => k_is)
    (case c33 => k_is)
    (case k33 => k_is)
    (case a34 => k_is)
    (case l34 => k_is)
    (case c34 => k_is)
    (case k34 => k_is)
    (case a35 => k_is)
    (case l35 => k_is)
    (case c35 => k_is)
    (case k35 => k_is)
    (case a36 => k_is)
    (case l36 => k_is)
    (case c36 => k_is)
    (case k36 => k_is)
    (case a37 => k_is)
    (case l37 => k_is)
    (case c37 => k_is)
    (case k37 => k_is)
    (case a38 => k_is)
    (case l38 => k_is)
    (case c38 => k_is)
    (case k38 => k_is)
    (case a39 => k_is)
    (case l39 => k_is)
    (case c39 => k_is)
    (case k39 => k_is)
    (case a40 => k_is)
    (case l40 => k_is)
    (case c40 => k_is)
    (case k40 => k_is)
    (case a41 => k_is)
    (case l41 => k_is)
    (case c41 => k_is)
    (case k41 => k_is)
    (case pg => k_is)
    (case hd => k_is)
    (case po => k_is)
    (case sa => k_is)
    (case mk => k_is)
    (case kc => k_is)
    (case n_m => k_is)
    (case n_square => k_is)
    (case z_bool => k_is)
    (case z_int => k_is)
    (case z_isinstance => k_is)
    (case z_len => k_is)
    (case z_list => k_is)
    (case z_max => k_is)
    (case z_min => k_is)
    (case z_range => k_is)
    (case z_sorted => k_is)
    (case z_tuple => k_is)
    (case z_zip => k_is)
    (case aS => k_is)
    (case lS => k_is)
    (case q4 => k_is)
    (case q6 => k_is)
    (case q8 => k_is)
    (case q10 => k_is)
    (case q12 => k_is)
    (case aZ => k_is)
    (case qZ => k_is)
    (case aO => k_is)
    (case qO => k_is)
    (case aI_FEWEST_CORNERS => k_is)
    (case aI_MOST_CORNERS => k_is)
    (case hsS => decide)


