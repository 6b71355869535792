import PyProof.Rows.All
import Wide.All
import OpenK.AllK
import Wide.FinOn
import Lean
import PyProof.EqAt
import PyProof.EqKinds
import PyProof.TupleCall
import PySem.Challenge.RW_inflate_k06_numbers_in_order
set_option Elab.async false
set_option linter.all false
set_option maxRecDepth 100000
/-! THE HAND LAYER, for ints, bools, texts, own classes, LISTS and tuples (index, slices, in, append, pop ..), calls, loops. Paste it whole ahead of your own text; what your proof does not reach may be deleted. -/
namespace L2
open PySem PySem.Spec PyProof.Rows

/-- a key: an int or a str -/
abbrev Key := Sum Int Str
def keyIs : Key → Value → Bool
  | .inl k, v => Value.isInt k v
  | .inr x, v => Value.isStrOf x v
def keyH (w : World) : Key → Int
  | .inl k => hashInt k
  | .inr x => hashStr w x
theorem keyIs_shape : ∀ {k : Key} {v : Value}, keyIs k v = true → (∃ i t, k = Sum.inl i ∧ v = Value.int i t) ∨ (∃ x t, k = Sum.inr x ∧ v = Value.str x t)
  | .inl i, v, h => by
    obtain ⟨t, e⟩ := Value.isInt_shape (k := i) (v := v) h
    exact .inl ⟨i, t, rfl, e⟩
  | .inr x, v, h => by
    obtain ⟨t, e⟩ := Value.isStrOf_shape (x := x) (v := v) h
    exact .inr ⟨x, t, rfl, e⟩
theorem keyIs_int (i : Int) (t : Tok) : keyIs (.inl i) (.int i t) = true := by simp [keyIs, Value.isInt]
theorem keyIs_str (x : Str) (t : Tok) : keyIs (.inr x) (.str x t) = true := by simp [keyIs, Value.isStrOf]
theorem key_ll (a b : Int) : decide ((Sum.inl a : Key) = Sum.inl b) = (a == b) := by
  by_cases e : a = b
  · subst e; simp
  · have h : ¬ (Sum.inl a : Key) = Sum.inl b := fun q => e (Sum.inl.inj q)
    rw [decide_eq_false h]
    exact (beq_eq_false_iff_ne.mpr e).symm
theorem key_rr (a b : Str) : decide ((Sum.inr a : Key) = Sum.inr b) = decide (a = b) := by
  by_cases e : a = b
  · subst e; simp
  · have h : ¬ (Sum.inr a : Key) = Sum.inr b := fun q => e (Sum.inr.inj q)
    rw [decide_eq_false h, decide_eq_false e]
theorem key_lr (a : Int) (b : Str) : decide ((Sum.inl a : Key) = Sum.inr b) = false := decide_eq_false (fun q => nomatch q)
theorem key_rl (a : Str) (b : Int) : decide ((Sum.inr a : Key) = Sum.inl b) = false := decide_eq_false (fun q => nomatch q)

def mixKind (prog : Program) (w : World) : PySem.KeyKind prog w Key where
  is := keyIs
  hash := keyH w
  inj := fun v a b ha hb => by
    rcases keyIs_shape ha with ⟨i, t, rfl, rfl⟩ | ⟨x, t, rfl, rfl⟩
    · rcases keyIs_shape hb with ⟨j, u, rfl, e⟩ | ⟨y, u, rfl, e⟩
      · injection e with e1 _; rw [e1]
      · exact nomatch e
    · rcases keyIs_shape hb with ⟨j, u, rfl, e⟩ | ⟨y, u, rfl, e⟩
      · exact nomatch e
      · injection e with e1 _; rw [e1]
  byValue := fun k v h => by
    rcases keyIs_shape h with ⟨i, t, rfl, rfl⟩ | ⟨x, t, rfl, rfl⟩ <;> rfl
  pyHash := fun hv h => by
    rcases keyIs_shape hv with ⟨i, t, rfl, rfl⟩ | ⟨x, t, rfl, rfl⟩
    · exact wpAny_pyHash_int h
    · exact wpAny_pyHash_str h
  eqBool := fun hu hv h => by
    rcases keyIs_shape hu with ⟨i, t, rfl, rfl⟩ | ⟨x, t, rfl, rfl⟩
    · rcases keyIs_shape hv with ⟨j, u, rfl, rfl⟩ | ⟨y, u, rfl, rfl⟩
      · rw [key_ll] at h; exact wpAny_eqBool_int h
      · rw [key_lr] at h; exact SeqAt.EqAt.int_str i t y u _ _ _ _ h
    · rcases keyIs_shape hv with ⟨j, u, rfl, rfl⟩ | ⟨y, u, rfl, rfl⟩
      · rw [key_rl] at h; exact SeqAt.EqAt.str_int x t j u _ _ _ _ h
      · rw [key_rr] at h; exact wpAny_eqBool_str h
  «strs» := fun k x t v h => by
    rcases keyIs_shape h with ⟨i, u, rfl, e⟩ | ⟨y, u, rfl, e⟩
    · exact nomatch e
    · injection e with e1 _
      subst e1
      cases v <;> rfl

theorem mixKind_is (prog : Program) (w : World) (k : Key) (v : Value) : (mixKind prog w).is k v = keyIs k v := rfl
theorem mixKind_int (prog : Program) (w : World) (i : Int) (t : Tok) : (mixKind prog w).is (.inl i) (.int i t) = true := keyIs_int i t
theorem mixKind_str (prog : Program) (w : World) (x : Str) (t : Tok) : (mixKind prog w).is (.inr x) (.str x t) = true := keyIs_str x t
end L2

namespace L2
open PySem PySem.Spec PyProof.Rows

/-- a value, without the heap -/
inductive V where
  | non | bl (b : Bool) | int (i : Int) | str (x : Str) | byt (b : Array UInt8) | flt (b : UInt64) | ref (a : Addr) | ty (n : String)
  deriving DecidableEq

def RelV : V → Value → Prop
  | .non, u => u = Value.none
  | .bl b, u => u = Value.bool b
  | .int i, u => ∃ t, u = Value.int i t
  | .str x, u => ∃ t, u = Value.str x t
  | .byt b, u => ∃ t, u = Value.bytes b t
  | .flt b, u => ∃ t, u = Value.float b t
  | .ref a, u => u = Value.ref a
  | .ty n, u => u = Value.type n

abbrev Vals : List V → List Value → Prop := Paired RelV
theorem Vals.length {xs : List V} {us : List Value} (r : Vals xs us) : xs.length = us.length := Paired.length r
theorem Vals.get : ∀ {xs : List V} {us : List Value} {i : Nat} {x : V}, Vals xs us → xs[i]? = some x → ∃ u, us[i]? = some u ∧ RelV x u
  | _, _, _, _, .nil, e => by simp at e
  | _, _, 0, _, .cons r _, e => by simp at e; subst e; exact ⟨_, rfl, r⟩
  | _, _, i + 1, x, .cons _ t, e => by
    obtain ⟨u, h1, h2⟩ := Vals.get (i := i) (x := x) t (by simpa using e)
    exact ⟨u, by simpa using h1, h2⟩
theorem Vals.set {x : V} {u : Value} (r : RelV x u) : ∀ {xs : List V} {us : List Value} (i : Nat), Vals xs us → Vals (xs.set i x) (us.set i u)
  | _, _, _, .nil => .nil
  | _, _, 0, .cons _ t => .cons r t
  | _, _, i + 1, .cons q t => .cons q (Vals.set r i t)
theorem Vals.append : ∀ {xs ys : List V} {us ws : List Value}, Vals xs us → Vals ys ws → Vals (xs ++ ys) (us ++ ws)
  | _, _, _, _, .nil, s => s
  | _, _, _, _, .cons r t, s => .cons r (Vals.append t s)
theorem Vals.take : ∀ {xs : List V} {us : List Value} (n : Nat), Vals xs us → Vals (xs.take n) (us.take n)
  | _, _, 0, _ => .nil
  | _, _, _ + 1, .nil => .nil
  | _, _, n + 1, .cons r t => .cons r (Vals.take n t)
theorem Vals.drop : ∀ {xs : List V} {us : List Value} (n : Nat), Vals xs us → Vals (xs.drop n) (us.drop n)
  | _, _, 0, r => r
  | _, _, _ + 1, .nil => .nil
  | _, _, n + 1, .cons _ t => Vals.drop n t
theorem Vals.none_of : ∀ {xs : List V} {us : List Value} {i : Nat}, Vals xs us → xs[i]? = none → us[i]? = none := fun {xs us i} r e => by
  have h1 := r.length
  have h2 : xs.length ≤ i := List.getElem?_eq_none_iff.mp e
  exact List.getElem?_eq_none_iff.mpr (by omega)

def RelO : Option V → Option Value → Prop
  | some v, some u => RelV v u
  | none, none => True
  | _, _ => False
def KV {κ : Type} : List (κ × V) → List (κ × Value) → Prop := Paired fun (p : κ × V) (q : κ × Value) => p.1 = q.1 ∧ RelV p.2 q.2

/-- a key of a dict (00_mix): an int or a text -/
def kV : Key → V
  | .inl i => .int i
  | .inr x => .str x

/-- what stands at a tracked address -/
inductive HO where
  /-- a list -/
  | lst (xs : List V)
  /-- a tuple (never changes) -/
  | tup (xs : List V)
  /-- a dict whose keys are ints and texts; one whose keys are tuples of ints and texts (the empty one is both) -/
  | dK (kvs : List (Key × V)) | dT (kvs : List (List Key × V))
  /-- a set of ints: its members, its size -/
  | set (S : Int → Bool) (n : Nat)
  /-- an instance of the class at C, its dict at dx, its attributes -/
  | ins (C dx : Addr) (fs : List (Str × V))
  /-- the dict of the instance at x -/
  | own (x : Addr)
  /-- the dict of an exception -/
  | xd (fs : List (Str × V))
  /-- a bound method, f of x -/
  | met (f x : Addr)
  /-- a range object lo, lo + 1, .. below hi -/
  | rng (lo hi : Int)
  /-- a thing that is known to the object (the script; a dict while a loop walks it): read, never written while it is so -/
  | frz (o : Obj) (u : HO)
  /-- a code object's table -/
  | tbl (ps : Array Value)
  /-- any other thing, by what is true of its one object (a def of one's own: SetO a S n := HO.ext fun h => ..) -/
  | ext (φ : Heap → Prop)

abbrev Hp := Addr → Option HO
def upd (H : Hp) (a : Addr) (o : HO) : Hp := fun b => if b = a then some o else H b
theorem upd_same {H : Hp} {a : Addr} {o : HO} : upd H a o a = some o := by unfold upd; rw [if_pos rfl]
theorem upd_ne {H : Hp} {a b : Addr} {o : HO} (h : b ≠ a) : upd H a o b = H b := by unfold upd; rw [if_neg h]
theorem upd_upd {H : Hp} {a : Addr} {o u : HO} : upd (upd H a o) a u = upd H a u := by
  funext b; unfold upd; split <;> rfl
/-- two objects of different content stand apart -/
theorem ne_of {H : Hp} {a b : Addr} {o u : HO} (h : H a = some o) (h' : H b = some u) (d : o ≠ u) : a ≠ b := by
  intro e; subst e; rw [h] at h'; exact d (Option.some.inj h')
theorem ne_of_none {H : Hp} {a b : Addr} {o : HO} (h : H a = some o) (h' : H b = none) : a ≠ b := by
  intro e; subst e; rw [h] at h'; cases h'

section
variable (P : Program) (w : World)
def ObjOk (H : Hp) (h : Heap) (a : Addr) : HO → Prop
  | .lst xs => xs.length ≤ sizeLine ∧ ∃ (its : List Value) (n : Nat), Vals xs its ∧ h.get? a = some { cls := .type "list", data := .seq its.toArray n }
  | .tup xs => xs.length ≤ sizeLine ∧ ∃ its : List Value, Vals xs its ∧ IsTup h a its.toArray
  | .dK kvs => kvs.length ≤ sizeLine ∧ (a == sysModules) = false ∧ ∃ vs, KV kvs vs ∧ h.DictOf (mixKind P w) a vs
  | .dT kvs => kvs.length ≤ sizeLine ∧ (a == sysModules) = false ∧ ∃ xs : List (List Key × Addr × Value),
      Paired (fun (p : List Key × V) (q : List Key × Addr × Value) => p.1 = q.1 ∧ H q.2.1 = some (.tup (p.1.map kV)) ∧ RelV p.2 q.2.2) kvs xs ∧
      ∃ o es ep, h.get? a = some o ∧ o.ExactDict ∧ o.data = .dict es ep ∧ es.toList = xs.map (entryOfKey (tupleKind (mixKind P w))) ∧ (xs.map (·.1)).Nodup
  | .set S n => h.SetOf (intKind P w) a S n
  | .ins C dx fs => H dx = some (.own a) ∧ fs.length ≤ 1000 ∧ dx ≠ a ∧ h.get? a = some (PySem.W.instObj C dx) ∧
      ∃ mA, h.Ns1 dx mA ∧ (∀ f, RelO (fs.lookup f) (mA f)) ∧ PySem.Within mA (fs.map (·.1))
  | .own _ => ∃ o, h.get? a = some o
  | .xd fs => ∃ mA, h.Ns1 a mA ∧ ∀ f, RelO (fs.lookup f) (mA f)
  | .rng lo hi => ∃ t u v, h.get? a = some { cls := .type "range", data := .fields #[.int lo t, .int hi u, .int 1 v] }
  | .frz o u => h.get? a = some o ∧ ObjOk H h a u
  | .tbl ps => h.get? a = some { cls := .none, data := .fields ps }
  | .met f x => h.get? a = some (PySem.W.methodObj (.ref f) (.ref x))
  | .ext φ => φ h ∧ (∃ o, h.get? a = some o) ∧ ∀ h1 h2 : Heap, φ h1 → (∀ o, h1.get? a = some o → h2.get? a = some o) → φ h2
/-- the abstract heap is held -/
def HOk (H : Hp) (h : Heap) : Prop := ∀ a o, H a = some o → ObjOk P w H h a o
end

section
variable {P : Program} {w : World} {H H' : Hp} {h h' : Heap} {a : Addr} {o : HO}
theorem ObjOk.lt (x : ObjOk P w H h a o) : a < h.objs.size := by
  cases o with
  | lst xs => obtain ⟨_, _, _, _, e⟩ := x; exact Heap.lt_size e
  | tup xs => obtain ⟨_, _, _, p⟩ := x; exact p.lt
  | dK kvs => obtain ⟨_, _, _, _, o, _, _, e, _⟩ := x; exact Heap.lt_size e
  | dT kvs => obtain ⟨_, _, _, _, o, _, _, e, _⟩ := x; exact Heap.lt_size e
  | set S n => obtain ⟨o, _, _, _, e, _⟩ := x; exact Heap.lt_size e
  | ins C dx fs => obtain ⟨_, _, _, e, _⟩ := x; exact Heap.lt_size e
  | own y => obtain ⟨_, e⟩ := x; exact Heap.lt_size e
  | xd fs => obtain ⟨_, ⟨_, _, _, e, _⟩, _⟩ := x; exact Heap.lt_size e
  | rng lo hi => obtain ⟨_, _, _, e⟩ := x; exact Heap.lt_size e
  | frz ob u => obtain ⟨e, _⟩ := x; exact Heap.lt_size e
  | tbl ps => exact Heap.lt_size (show h.get? a = some _ from x)
  | met f y => exact Heap.lt_size (show h.get? a = some _ from x)
  | ext φ => obtain ⟨_, ⟨_, e⟩, _⟩ := x; exact Heap.lt_size e
theorem Paired.mapP {α β : Type} {F G : α → β → Prop} : ∀ {l₁ : List α} {l₂ : List β}, Paired F l₁ l₂ → (∀ a b, F a b → G a b) → Paired G l₁ l₂
  | _, _, .nil, _ => .nil
  | _, _, .cons r t, f => .cons (f _ _ r) (Paired.mapP t f)
theorem Paired.imp' {α β : Type} {F G : α → β → Prop} (f : ∀ a b, F a b → G a b) {l₁ : List α} {l₂ : List β} (r : Paired F l₁ l₂) : Paired G l₁ l₂ := Paired.mapP r f
/-- what an object's description leans on: its own object, its own dict, the tuples -/
theorem ObjOk.stay (x : ObjOk P w H h a o) (k : ∀ b u, (b = a ∨ H b = some (.own a)) → h.get? b = some u → h'.get? b = some u)
    (ho : ∀ b, H b = some (.own a) → H' b = some (.own a)) (ht : ∀ b xs, H b = some (.tup xs) → H' b = some (.tup xs)) : ObjOk P w H' h' a o := by
  induction o with
  | lst xs => obtain ⟨z, its, n, r, e⟩ := x; exact ⟨z, its, n, r, k _ _ (.inl rfl) e⟩
  | tup xs => obtain ⟨z, its, r, ob, e, c⟩ := x; exact ⟨z, its, r, ob, k _ _ (.inl rfl) e, c⟩
  | dK kvs => obtain ⟨z, y, vs, r, ob, es, ep, e, c⟩ := x; exact ⟨z, y, vs, r, ob, es, ep, k _ _ (.inl rfl) e, c⟩
  | dT kvs =>
    obtain ⟨z, y, xs, r, ob, es, ep, e, c⟩ := x
    exact ⟨z, y, xs, Paired.mapP r fun p q z => ⟨z.1, ht _ _ z.2.1, z.2.2⟩, ob, es, ep, k _ _ (.inl rfl) e, c⟩
  | set S n => obtain ⟨ob, es, ep, t, e, c⟩ := x; exact ⟨ob, es, ep, t, k _ _ (.inl rfl) e, c⟩
  | ins C dx fs =>
    obtain ⟨d, z, ne, e, mA, ⟨od, es, ep, e2, c⟩, r⟩ := x
    exact ⟨ho _ d, z, ne, k _ _ (.inl rfl) e, mA, ⟨od, es, ep, k _ _ (.inr d) e2, c⟩, r⟩
  | own y => obtain ⟨ob, e⟩ := x; exact ⟨ob, k _ _ (.inl rfl) e⟩
  | xd fs => obtain ⟨mA, ⟨od, es, ep, e, c⟩, r⟩ := x; exact ⟨mA, ⟨od, es, ep, k _ _ (.inl rfl) e, c⟩, r⟩
  | rng lo hi => obtain ⟨t, u, v, e⟩ := x; exact ⟨t, u, v, k _ _ (.inl rfl) e⟩
  | frz ob u ih => obtain ⟨e, q⟩ := x; exact ⟨k _ _ (.inl rfl) e, ih q⟩
  | tbl ps =>
    have e : h.get? a = some { cls := .none, data := .fields ps } := x
    show h'.get? a = some { cls := .none, data := .fields ps }
    exact k a _ (.inl rfl) e
  | met f y =>
    have e : h.get? a = some (PySem.W.methodObj (.ref f) (.ref y)) := x
    show h'.get? a = some (PySem.W.methodObj (.ref f) (.ref y))
    exact k a _ (.inl rfl) e
  | ext φ => obtain ⟨p, ⟨o, e⟩, st⟩ := x; exact ⟨st _ _ p fun o q => k _ _ (.inl rfl) q, ⟨o, k _ _ (.inl rfl) e⟩, st⟩
theorem HOk.lt (x : HOk P w H h) (e : H a = some o) : a < h.objs.size := (x a o e).lt
theorem HOk.fresh (x : HOk P w H h) (e : h.objs.size ≤ a) : H a = none := by
  cases q : H a with
  | none => rfl
  | some u => exact absurd (Nat.lt_of_lt_of_le (x.lt q) e) (Nat.lt_irrefl _)
/-- every object of the heap is kept -/
theorem HOk.kept (x : HOk P w H h) (k : ∀ b u, h.get? b = some u → h'.get? b = some u) : HOk P w H h' := fun a o e =>
  (x a o e).stay (fun b u _ q => k b u q) (fun _ q => q) fun _ _ q => q
/-- a new object is laid and tracked -/
theorem HOk.laid (x : HOk P w H h) (k : ∀ b u, h.get? b = some u → h'.get? b = some u) (hp : h.objs.size ≤ a) (new : ObjOk P w (upd H a o) h' a o) : HOk P w (upd H a o) h' := fun b u e => by
  have hn := x.fresh hp
  by_cases hb : b = a
  · subst hb; rw [upd_same] at e; cases e; exact new
  · rw [upd_ne hb] at e
    exact (x b u e).stay (fun c v _ q => k c v q) (fun c q => by rw [upd_ne (ne_of_none q hn)]; exact q) fun c xs q => by rw [upd_ne (ne_of_none q hn)]; exact q
end

/-- what may be read as u: it is u, or a known u -/
def Rd (H : Hp) (a : Addr) (u : HO) : Prop := H a = some u ∨ ∃ o, H a = some (.frz o u)
theorem Rd.of {H : Hp} {a : Addr} {u : HO} (h : H a = some u) : Rd H a u := .inl h
theorem Rd.ok {P : Program} {w : World} {H : Hp} {h : Heap} {a : Addr} {u : HO} (r : Rd H a u) (x : HOk P w H h) : ObjOk P w H h a u := by
  rcases r with r | ⟨o, r⟩
  · exact x a u r
  · obtain ⟨_, q⟩ := x a _ r
    exact q
/-- what may be written -/
def Mut : Option HO → Prop
  | some (.lst _) => True
  | some (.dK _) => True
  | some (.dT _) => True
  | some (.set _ _) => True
  | some (.ins _ _ _) => True
  | some (.ext _) => True
  | _ => False
section
variable {P : Program} {w : World} {H : Hp} {h h' : Heap} {x e : Addr} {o' : HO}
/-- the object at e is changed: x itself, or the dict of the instance x -/
theorem HOk.write (ok : HOk P w H h) (mu : Mut (H x)) (he : e = x ∨ H e = some (.own x)) (k : ∀ b u, b ≠ e → h.get? b = some u → h'.get? b = some u) (heo : ∃ u, h'.get? e = some u)
    (new : ObjOk P w (upd H x o') h' x o') : HOk P w (upd H x o') h' := fun b u q => by
  have nown : ∀ c y, H c = some (.own y) → c ≠ x := fun c y r z => by subst z; rw [r] at mu; exact mu
  have ntup : ∀ c xs, H c = some (.tup xs) → c ≠ x := fun c xs r z => by subst z; rw [r] at mu; exact mu
  by_cases hb : b = x
  · subst hb; rw [upd_same] at q; cases q; exact new
  · rw [upd_ne hb] at q
    by_cases hbe : b = e
    · have q' : H b = some (.own x) := by
        rcases he with z | z
        · exact absurd (hbe.trans z) hb
        · rw [hbe]; exact z
      rw [q] at q'; cases q'
      obtain ⟨v, hv⟩ := heo
      exact ⟨v, by rw [hbe]; exact hv⟩
    · refine (ok b u q).stay (fun c v hc r => k c v ?_ r) (fun c r => by rw [upd_ne (nown c b r)]; exact r) fun c xs r => by rw [upd_ne (ntup c xs r)]; exact r
      rcases hc with rfl | hc
      · exact hbe
      · rintro rfl
        rcases he with z | z
        · exact nown c b hc z
        · rw [hc] at z; cases z; exact hb rfl
end

/-! ### kept unless tracked; of the frames at fs (the callers') the slots may change (an exception that passes writes there); of the records at ex (iterators) nothing is said -/
structure Un (fs ex : List Addr) (H H' : Hp) (h h' : Heap) : Prop where
  keep : ∀ b o, h.get? b = some o → H b = none → b ∉ fs → b ∉ ex → h'.get? b = some o
  slot : ∀ b o, h.get? b = some o → H b = none → b ∈ fs → b ∉ ex → ∃ sl, h'.get? b = some { o with slots := sl }
  free : ∀ b o, h.get? b = some o → H b = none → b ∉ ex → H' b = none
  there : ∀ b o, h.get? b = some o → b ∉ ex → ∃ o', h'.get? b = some o'
  tups : ∀ b xs, H b = some (.tup xs) → H' b = some (.tup xs)
  frzs : ∀ b o u, H b = some (.frz o u) → H' b = some (.frz o u)
  tbls : ∀ b ps, H b = some (.tbl ps) → ∃ more, H' b = some (.tbl (ps ++ more))
section
variable {fs fs' ex ex' : List Addr} {H H1 H2 : Hp} {h h1 h2 h' : Heap} {a x e : Addr} {o : HO}
theorem Un.any (u : Un fs ex H H1 h h1) {b : Addr} {ob : Obj} (q : h.get? b = some ob) (n : H b = none) (hx : b ∉ ex) : ∃ sl, h1.get? b = some { ob with slots := sl } := by
  by_cases hb : b ∈ fs
  · exact u.slot b ob q n hb hx
  · exact ⟨ob.slots, u.keep b ob q n hb hx⟩
theorem Un.trans (a : Un fs ex H H1 h h1) (b : Un fs ex H1 H2 h1 h2) : Un fs ex H H2 h h2 where
  keep := fun c ob q n hc hx => b.keep c ob (a.keep c ob q n hc hx) (a.free c ob q n hx) hc hx
  slot := fun c ob q n hc hx => by
    obtain ⟨sl, e1⟩ := a.slot c ob q n hc hx
    obtain ⟨sl', e2⟩ := b.slot c _ e1 (a.free c ob q n hx) hc hx
    exact ⟨sl', e2⟩
  free := fun c ob q n hx => by
    obtain ⟨o', e1⟩ := a.there c ob q hx
    exact b.free c o' e1 (a.free c ob q n hx) hx
  there := fun c ob q hx => by
    obtain ⟨o', e1⟩ := a.there c ob q hx
    exact b.there c o' e1 hx
  tups := fun c xs q => b.tups c xs (a.tups c xs q)
  frzs := fun c ob xs q => b.frzs c ob xs (a.frzs c ob xs q)
  tbls := fun c ps q => by
    obtain ⟨m1, e1⟩ := a.tbls c ps q
    obtain ⟨m2, e2⟩ := b.tbls c _ e1
    exact ⟨m1 ++ m2, by rw [e2, Array.append_assoc]⟩
theorem Un.kept (k : ∀ b u, h.get? b = some u → h'.get? b = some u) : Un fs ex H H h h' :=
  ⟨fun b ob q _ _ _ => k b ob q, fun b ob q _ _ _ => ⟨ob.slots, k b ob q⟩, fun _ _ _ n _ => n, fun b ob q _ => ⟨ob, k b ob q⟩, fun _ _ q => q, fun _ _ _ q => q, fun _ ps q => ⟨#[], by rw [q]; simp⟩⟩
theorem Un.refl : Un fs ex H H h h := Un.kept fun _ _ q => q
theorem Un.laid (k : ∀ b u, h.get? b = some u → h'.get? b = some u) (hp : h.objs.size ≤ a) (hn : H a = none) : Un fs ex H (upd H a o) h h' where
  keep := fun b u q _ _ _ => k b u q
  slot := fun b u q _ _ _ => ⟨u.slots, k b u q⟩
  free := fun b u q n _ => by rw [upd_ne (Nat.ne_of_lt (Nat.lt_of_lt_of_le (Heap.lt_size q) hp))]; exact n
  there := fun b u q _ => ⟨u, k b u q⟩
  tups := fun b xs q => by rw [upd_ne (ne_of_none q hn)]; exact q
  frzs := fun b u xs q => by rw [upd_ne (ne_of_none q hn)]; exact q
  tbls := fun b ps q => ⟨#[], by rw [upd_ne (ne_of_none q hn), q]; simp⟩
theorem Un.write (mu : Mut (H x)) (he : e = x ∨ H e = some (.own x)) (k : ∀ b u, b ≠ e → h.get? b = some u → h'.get? b = some u) (heo : ∃ u, h'.get? e = some u) : Un fs ex H (upd H x o) h h' := by
  have hx : ∀ b, H b = none → b ≠ x := fun b n z => by subst z; rw [n] at mu; exact mu
  have hb : ∀ b, H b = none → b ≠ e := fun b n z => by
    subst z
    rcases he with r | r
    · exact hx b n r
    · rw [n] at r; cases r
  have hm : ∀ b u, H b = some u → ¬ Mut (some u) → b ≠ x := fun b u q nm z => by subst z; rw [q] at mu; exact nm mu
  refine ⟨fun b u q n _ _ => k b u (hb b n) q, fun b u q n _ _ => ⟨u.slots, k b u (hb b n) q⟩, fun b u q n _ => by rw [upd_ne (hx b n)]; exact n, fun b u q _ => ?_,
    fun b xs q => by rw [upd_ne (hm b _ q fun z => z)]; exact q, fun b u xs q => by rw [upd_ne (hm b _ q fun z => z)]; exact q, fun b ps q => ⟨#[], by rw [upd_ne (hm b _ q fun z => z), q]; simp⟩⟩
  by_cases hbe : b = e
  · subst hbe; exact heo
  · exact ⟨u, k b u hbe q⟩
theorem Un.mono (u : Un fs ex H H1 h h1) (hs : ∀ b ∈ fs, b ∈ fs') (hx : ∀ b ∈ ex, b ∈ ex') : Un fs' ex' H H1 h h1 :=
  ⟨fun b ob q n hb he => u.keep b ob q n (fun z => hb (hs b z)) fun z => he (hx b z), fun _ _ q n _ he => u.any q n fun z => he (hx _ z), fun b ob q n he => u.free b ob q n fun z => he (hx b z), fun b ob q he => u.there b ob q fun z => he (hx b z), u.tups, u.frzs, u.tbls⟩
end

/-! ### the heap without what is tracked -/
def trk (h : Heap) (H : Hp) : List Addr := (List.range h.objs.size).filter fun a => (H a).isSome
def hidT (h : Heap) (H : Hp) : Heap := PySem.W.hideAll h (trk h H)
theorem hidT_size (h : Heap) (H : Hp) : (hidT h H).objs.size = h.objs.size := PySem.W.hideAll_size _ _
theorem hidT_get {h : Heap} {H : Hp} {b : Addr} {o : Obj} (e : h.get? b = some o) (n : H b = none) : (hidT h H).get? b = some o :=
  PySem.W.hideAll_get _ e fun hm => by
    have q : (H b).isSome = true := (List.mem_filter.mp hm).2
    rw [n] at q; simp at q
theorem of_hidT {h : Heap} {H : Hp} {b : Addr} {o : Obj} (e : (hidT h H).get? b = some o) : h.get? b = some o ∧ H b = none := by
  have e' : h.get? b = some o := PySem.W.of_hideAll (trk h H) e
  refine ⟨e', ?_⟩
  cases q : H b with
  | none => rfl
  | some x =>
    have hm : b ∈ trk h H := List.mem_filter.mpr ⟨List.mem_range.mpr (Heap.lt_size e'), by simp [q]⟩
    have z : (hidT h H).get? b = none := PySem.W.hideAll_none (trk h H) hm
    rw [z] at e; cases e

/-! ### OpenK's ledger, filled with every new object but one -/
def allNews (g h : Heap) (L : Addr) : List (Addr × Obj) := (List.range h.objs.size).filterMap fun a => if a = L ∨ (g.get? a).isSome = true then none else (h.get? a).map fun o => (a, o)
theorem mem_allNews {g h : Heap} {L a : Addr} {o : Obj} (h1 : a ≠ L) (h2 : g.get? a = none) (h3 : h.get? a = some o) : (a, o) ∈ allNews g h L :=
  List.mem_filterMap.mpr ⟨a, List.mem_range.mpr (Heap.lt_size h3), by simp [h1, h2, h3]⟩
theorem of_mem_allNews {g h : Heap} {L : Addr} {p : Addr × Obj} (hp : p ∈ allNews g h L) : p.1 ≠ L ∧ g.get? p.1 = none ∧ h.get? p.1 = some p.2 := by
  obtain ⟨b, _, e⟩ := List.mem_filterMap.mp hp
  split at e
  · cases e
  · rename_i hn
    cases q : h.get? b with
    | none => rw [q] at e; simp at e
    | some u =>
      rw [q] at e
      simp only [Option.map_some, Option.some.injEq] at e
      subst e
      refine ⟨fun z => hn (.inl z), ?_, q⟩
      show g.get? b = none
      cases r : g.get? b with
      | none => rfl
      | some v => exact (hn (.inr (by simp [r]))).elim
def rest (g h : Heap) (L d : Addr) : List (Addr × Obj) := (allNews g h L).filter fun p => decide (p.1 ≠ d)
theorem rest_ne {g h : Heap} {L d : Addr} : ∀ p ∈ rest g h L d, p.1 ≠ d := fun p hp => of_decide_eq_true (List.mem_filter.mp hp).2
theorem mem_rest {g h : Heap} {L d a : Addr} {o : Obj} (h1 : a ≠ L) (h2 : g.get? a = none) (h3 : h.get? a = some o) (h4 : a ≠ d) : (a, o) ∈ rest g h L d :=
  List.mem_filter.mpr ⟨mem_allNews h1 h2 h3, decide_eq_true h4⟩
theorem news_all {g h : Heap} {L : Addr} : News g L h (allNews g h L) := fun p hp => let ⟨a, b, c⟩ := of_mem_allNews hp; ⟨c, a, b⟩
theorem news_at {g h : Heap} {L d : Addr} {o : Obj} (h1 : d ≠ L) (h2 : g.get? d = none) (h3 : h.get? d = some o) : News g L h ((d, o) :: rest g h L d) := fun p hp => by
  rcases List.mem_cons.mp hp with rfl | hp
  · exact ⟨h3, h1, h2⟩
  · exact news_all p (List.mem_filter.mp hp).1
/-- behind a rule that changed d alone: all else but the frame is kept -/
theorem kept_of_news {g h h' : Heap} {L d : Addr} {m : Str → Option Value} (k : ∀ b o, g.get? b = some o → h.get? b = some o) (F : Fr g L h' m) (N : News g L h' (rest g h L d)) :
    ∀ b o, b ≠ L → b ≠ d → h.get? b = some o → h'.get? b = some o := fun b o h1 h2 e => by
  cases q : g.get? b with
  | some u =>
    have := k b u q
    rw [e] at this; cases this
    exact F.keep b _ q
  | none => exact (N (b, o) (mem_rest h1 q e h2)).1
end L2

namespace L2
open PySem PySem.Spec PyProof.Rows

/-- the module's facts, over the base: the heap at the law's entry without what is tracked there -/
structure Mod (K : PySem.W.Frag) (mg : Str → Option Value) (base : Heap) : Prop where
  kin : K.In base
  glob : base.Ns mainGlobals mg
  blt : ∃ mb, base.Ns builtinsNs mb ∧ ∀ x : Str, x ≠ "__name__" → mb x = bootBuiltins x
  nolimit : base.NoLimit

/-- the context: a def's body (or a comprehension's block) running. base: fixed through the whole law; s₀, H₀: the entry; outer: the frames whose slots others may change (a def's callers); stack: all frames that run;
   ex: iterators that were made ahead of the entry and are walked here (a comprehension's); fn: the names whose cells were made at the entry (a def: all; a comprehension's block: its own); calm: not within an except suite; pn: pins that every state bears; xe: what is wanted of an exception that leaves the code -/
structure Cx where
  prog : Program
  w : World
  K : PySem.W.Frag
  mg : Str → Option Value
  base : Heap
  A : Around
  N : List Str
  s₀ : Shared
  H₀ : Hp
  env : Env
  outer : List Env
  stack : List Env
  ex : List Addr
  fn : Str → Bool
  calm : Bool
  pn : List (Addr × Obj)
  xe : Value → Shared → Prop
/-- the callers' frames -/
def frs (l : List Env) : List Addr := l.filterMap (·.frame)
abbrev Cx.fs (X : Cx) : List Addr := frs X.outer

def Vis (sc : Scope) (x : Str) : Prop := sc.names.lookup x = some .local ∨ sc.names.lookup x = some .cell ∨ sc.names.lookup x = some .free
def Loc (sc : Scope) (x : Str) : Prop := sc.names.lookup x = some .local ∨ sc.names.lookup x = some .cell
def Look (env : Env) (h : Heap) (m : Str → Option Value) (x : Str) (u : Value) : Prop :=
  (env.kindOf x = some .local ∧ m x = some u) ∨ ((env.kindOf x = some .cell ∨ env.kindOf x = some .free) ∧ ∃ c, env.cells.lookup x = some c ∧ h.IsCell c (some u))

structure Cx.Ok (X : Cx) : Prop where
  mod : Mod X.K X.mg X.base
  kind : X.env.scope.kind = .function
  glob : X.env.globals = mainGlobals
  blt : X.env.builtins = builtinsNs
  above : X.s₀.heap.objs.size ≤ X.env.locals
  inj : ∀ x y c, X.env.cells.lookup x = some c → X.env.cells.lookup y = some c → x = y
  has : ∀ x, (X.env.kindOf x = some .cell ∨ X.env.kindOf x = some .free) → ∃ c, X.env.cells.lookup x = some c
  cab : ∀ x c, X.fn x = true → X.env.cells.lookup x = some c → X.s₀.heap.objs.size ≤ c
  hd : X.calm = true → X.A.handled = none
  frames : X.A.frames = some X.stack
  stk : X.stack = X.outer ∨ (X.stack = X.env :: X.outer ∧ X.env.frame = some X.env.locals)
  exf : ∀ b ∈ X.ex, b ≠ X.env.locals ∧ ∀ x c, X.env.cells.lookup x = some c → c ≠ b
  bs : ∀ b o, X.base.get? b = some o → X.s₀.heap.get? b = some o ∧ X.H₀ b = none
  bsz : X.base.objs.size ≤ X.s₀.heap.objs.size
  noex : ∀ b o, X.base.get? b = some o → b ∉ X.ex
  exfs : ∀ b ∈ X.ex, b ∉ X.fs
  funs : X.s₀.heap.FunFrames X.base X.outer
  frf : ∀ b ∈ X.fs, X.H₀ b = none

structure Inv (X : Cx) (pins : List (Addr × Obj)) (σ : List (Option V)) (H : Hp) (s : Shared) : Prop where
  ok : X.Ok
  os : s.os = X.s₀.os
  bare : AllBare s.gens
  base : Un X.fs X.ex X.H₀ H X.s₀.heap s.heap
  loc : ∃ m, s.heap.Ns X.env.locals m ∧ ∀ (i : Nat) (x : Str) (v : V), X.N[i]? = some x → σ[i]? = some (some v) → Vis X.env.scope x → ∃ u, RelV v u ∧ Look X.env s.heap m x u
  cell : ∀ x c, X.env.cells.lookup x = some c → ∃ v, s.heap.IsCell c v
  free : H X.env.locals = none
  freeC : ∀ x c, X.env.cells.lookup x = some c → H c = none
  pin : ∀ p ∈ X.pn ++ pins, s.heap.get? p.1 = some p.2 ∧ H p.1 = none ∧ p.1 ≠ X.env.locals ∧ p.1 ∉ X.fs ∧ ∀ v, p.2.data ≠ .cell v
  hok : HOk X.prog X.w H s.heap
  len : σ.length = X.N.length

section
variable {X : Cx} {pins : List (Addr × Obj)} {σ : List (Option V)} {H H' : Hp} {s : Shared} {h' : Heap}

theorem Cx.Ok.nofr (ok : X.Ok) {b : Addr} {o : Obj} (e : X.base.get? b = some o) : b ∉ X.fs := fun hb => by
  have := (ok.funs.mem hb).1
  rw [e] at this; cases this
theorem Inv.bs (I : Inv X pins σ H s) : ∀ b o, X.base.get? b = some o → s.heap.get? b = some o ∧ H b = none := fun b o e =>
  ⟨I.base.keep b o (I.ok.bs b o e).1 (I.ok.bs b o e).2 (I.ok.nofr e) (I.ok.noex b o e), I.base.free b o (I.ok.bs b o e).1 (I.ok.bs b o e).2 (I.ok.noex b o e)⟩
theorem Inv.bk (I : Inv X pins σ H s) : ∀ b o, X.base.get? b = some o → s.heap.get? b = some o := fun b o e => (I.bs b o e).1
theorem Inv.mod (I : Inv X pins σ H s) : Mod X.K X.mg X.base := I.ok.mod
theorem Inv.kIn (I : Inv X pins σ H s) : X.K.In s.heap := I.ok.mod.kin.keeps I.bk
theorem Inv.nolimit (I : Inv X pins σ H s) : s.heap.NoLimit := I.ok.mod.nolimit.keeps I.bk
/-- the frame over the base: for OpenK's rules (K.In X.base is I.mod.kin) -/
theorem Inv.fr (I : Inv X pins σ H s) : ∃ m, Fr X.base X.env.locals s.heap m :=
  let ⟨m, hn, _⟩ := I.loc
  ⟨m, hn, I.bk, Nat.le_trans I.ok.bsz I.ok.above⟩
theorem Inv.lt (I : Inv X pins σ H s) : X.env.locals < s.heap.objs.size := let ⟨_, hn, _⟩ := I.loc; hn.lt
theorem Inv.sz (I : Inv X pins σ H s) : X.s₀.heap.objs.size ≤ s.heap.objs.size := Nat.le_trans I.ok.above (Nat.le_of_lt I.lt)
theorem Inv.nofs (I : Inv X pins σ H s) {a : Addr} (h : s.heap.objs.size ≤ a) : a ∉ X.fs := fun hb => by
  obtain ⟨_, o, ho, _⟩ := I.ok.funs.mem hb
  exact absurd (Nat.lt_of_lt_of_le (Heap.lt_size ho) (Nat.le_trans I.sz h)) (Nat.lt_irrefl _)
theorem Inv.cne (I : Inv X pins σ H s) : ∀ x c, X.env.cells.lookup x = some c → c ≠ X.env.locals := fun x c e z => by
  obtain ⟨v, o, ho, hd⟩ := I.cell x c e
  obtain ⟨m, ⟨o', es, ep, ho', hd', _⟩, _⟩ := I.loc
  rw [z, ho'] at ho; cases ho; rw [hd'] at hd; cases hd
theorem Inv.funs (I : Inv X pins σ H s) : s.heap.FunFrames X.base X.outer := by
  have all : ∀ (l : List Env), (∀ b ∈ frs l, b ∈ X.fs) → X.s₀.heap.FunFrames X.base l → s.heap.FunFrames X.base l := by
    intro l
    induction l with
    | nil => intro _ _; trivial
    | cons env r ih =>
      intro hs hl
      obtain ⟨hk, ⟨L, o, hf, hn, ho, hd⟩, hr⟩ := hl
      have hL : L ∈ X.fs := hs L (by unfold frs; rw [List.filterMap_cons, hf]; exact List.mem_cons_self)
      obtain ⟨sl, e⟩ := I.base.slot L o ho (I.ok.frf L hL) hL fun z => I.ok.exfs L z hL
      exact ⟨hk, ⟨L, _, hf, hn, e, hd⟩, ih (fun b hb => hs b (by unfold frs; rw [List.filterMap_cons, hf]; exact List.mem_cons_of_mem _ hb)) hr⟩
  exact all X.outer (fun _ hb => hb) I.ok.funs

/-- the frames that run, for a call -/
theorem Inv.stack (I : Inv X pins σ H s) : s.heap.FunFrames X.base X.stack := by
  rcases I.ok.stk with e | ⟨e, hf⟩
  · rw [e]; exact I.funs
  · rw [e]
    obtain ⟨m, hn, _⟩ := I.loc
    refine .cons (by rw [I.ok.kind]; decide) hf hn ?_ I.funs
    exact Heap.get?_none_of_le (Nat.le_trans I.ok.bsz I.ok.above)
theorem Inv.stkSub (I : Inv X pins σ H s) : ∀ b ∈ frs X.stack, b ∈ X.env.locals :: X.fs := fun b hb => by
  rcases I.ok.stk with e | ⟨e, hf⟩
  · rw [e] at hb; exact List.mem_cons_of_mem _ hb
  · rw [e] at hb
    unfold frs at hb
    rw [List.filterMap_cons, hf] at hb
    exact hb
theorem Inv.stkFree (I : Inv X pins σ H s) : ∀ b ∈ frs X.stack, H b = none := fun b hb => by
  rcases List.mem_cons.mp (I.stkSub b hb) with e | hb
  · rw [e]; exact I.free
  · obtain ⟨_, o, ho, _⟩ := I.ok.funs.mem hb
    exact I.base.free b o ho (I.ok.frf b hb) fun z => I.ok.exfs b z hb

/-- THE STEP: the untracked objects but the frame and the records at ch are kept (the callers' frames up to slots), the frame's map is kept, the new abstract heap is held -/
theorem Inv.step {g' : Array GenState} {t' : Nat} {d' : Drawn} {ch : List Addr} (I : Inv X pins σ H s)
    (hch : ∀ b ∈ ch, (b ∈ X.ex ∨ X.s₀.heap.objs.size ≤ b) ∧ b ≠ X.env.locals ∧ (∀ x c, X.env.cells.lookup x = some c → c ≠ b) ∧ ∀ p ∈ X.pn ++ pins, p.1 ≠ b)
    (keep : ∀ b o, b ≠ X.env.locals → b ∉ X.fs → b ∉ ch → s.heap.get? b = some o → H b = none → h'.get? b = some o)
    (slot : ∀ b o, b ≠ X.env.locals → b ∈ X.fs → b ∉ ch → s.heap.get? b = some o → H b = none → ∃ sl, h'.get? b = some { o with slots := sl }) (free : ∀ b o, b ∉ ch → s.heap.get? b = some o → H b = none → H' b = none)
    (there : ∀ b o, b ∉ ch → s.heap.get? b = some o → ∃ o', h'.get? b = some o')
    (tups : ∀ b xs, H b = some (.tup xs) → H' b = some (.tup xs)) (frzs : ∀ b o u, H b = some (.frz o u) → H' b = some (.frz o u)) (tbls : ∀ b ps, H b = some (.tbl ps) → ∃ more, H' b = some (.tbl (ps ++ more)))
    (ns : ∀ m, s.heap.Ns X.env.locals m → h'.Ns X.env.locals m) (hok : HOk X.prog X.w H' h') (hg : AllBare g') :
    Inv X pins σ H' { s with heap := h', gens := g', drawn := d', toks := t' } := by
  have neL : ∀ b o, X.s₀.heap.get? b = some o → b ≠ X.env.locals := fun b o e => Nat.ne_of_lt (Nat.lt_of_lt_of_le (Heap.lt_size e) I.ok.above)
  have neC : ∀ b o, X.s₀.heap.get? b = some o → b ∉ X.ex → b ∉ ch := fun b o e hx hb => by
    rcases (hch b hb).1 with z | z
    · exact hx z
    · exact absurd (Nat.lt_of_lt_of_le (Heap.lt_size e) z) (Nat.lt_irrefl _)
  have cellK : ∀ x c, X.env.cells.lookup x = some c → ∀ v, s.heap.IsCell c v → h'.IsCell c v := fun x c e v ⟨o, ho, hd⟩ => by
    have nch : c ∉ ch := fun z => (hch c z).2.2.1 x c e rfl
    by_cases hc : c ∈ X.fs
    · obtain ⟨sl, q⟩ := slot c o (I.cne x c e) hc nch ho (I.freeC x c e)
      exact ⟨_, q, hd⟩
    · exact ⟨o, keep c o (I.cne x c e) hc nch ho (I.freeC x c e), hd⟩
  refine ⟨I.ok, I.os, hg, ⟨fun b o e n hb hx => ?_, fun b o e n hb hx => ?_, fun b o e n hx => ?_, fun b o e hx => ?_, fun b xs e => tups b xs (I.base.tups b xs e), fun b o xs e => frzs b o xs (I.base.frzs b o xs e), fun b ps e => ?_⟩, ?_, fun x c e => ?_, ?_, fun x c e => ?_, fun p hp => ?_, hok, I.len⟩
  · exact keep b o (neL b o e) hb (neC b o e hx) (I.base.keep b o e n hb hx) (I.base.free b o e n hx)
  · obtain ⟨sl, e1⟩ := I.base.slot b o e n hb hx
    obtain ⟨sl', e2⟩ := slot b _ (neL b o e) hb (neC b o e hx) e1 (I.base.free b o e n hx)
    exact ⟨sl', e2⟩
  · obtain ⟨o', e1⟩ := I.base.there b o e hx
    exact free b o' (neC b o e hx) e1 (I.base.free b o e n hx)
  · obtain ⟨o', e1⟩ := I.base.there b o e hx
    exact there b o' (neC b o e hx) e1
  · obtain ⟨m1, e1⟩ := I.base.tbls b ps e
    obtain ⟨m2, e2⟩ := tbls b _ e1
    exact ⟨m1 ++ m2, by rw [e2, Array.append_assoc]⟩
  · obtain ⟨m, hn, hl⟩ := I.loc
    refine ⟨m, ns m hn, fun i x v e1 e2 e3 => ?_⟩
    obtain ⟨u, r, l⟩ := hl i x v e1 e2 e3
    refine ⟨u, r, ?_⟩
    rcases l with l | ⟨k, c, e, z⟩
    · exact .inl l
    · exact .inr ⟨k, c, e, cellK x c e _ z⟩
  · obtain ⟨v, z⟩ := I.cell x c e
    exact ⟨v, cellK x c e v z⟩
  · obtain ⟨m, ⟨o, _, _, ho, _⟩, _⟩ := I.loc
    exact free _ o (fun z => (hch _ z).2.1 rfl) ho I.free
  · obtain ⟨v, o, ho, hd⟩ := I.cell x c e
    exact free c o (fun z => (hch c z).2.2.1 x c e rfl) ho (I.freeC x c e)
  · obtain ⟨e, n, ne, nf, d⟩ := I.pin p hp
    have nch : p.1 ∉ ch := fun z => (hch p.1 z).2.2.2 p hp rfl
    exact ⟨keep p.1 p.2 ne nf nch e n, free p.1 p.2 nch e n, ne, nf, d⟩
/-- .. where the frame's own object is kept too -/
theorem Inv.un {t' : Nat} (I : Inv X pins σ H s) (u : Un X.fs [] H H' s.heap h') (hok : HOk X.prog X.w H' h') : Inv X pins σ H' { s with heap := h', toks := t' } := by
  obtain ⟨m, ⟨o, es, ep, ho, r⟩, _⟩ := id I.loc
  obtain ⟨sl, hL⟩ := u.any ho I.free (by simp)
  exact I.step (g' := s.gens) (d' := s.drawn) (ch := []) (fun _ z => nomatch z) (fun b o _ hb _ e n => u.keep b o e n hb (by simp)) (fun b o _ hb _ e n => u.slot b o e n hb (by simp)) (fun b o _ e n => u.free b o e n (by simp)) (fun b o _ e => u.there b o e (by simp)) u.tups u.frzs u.tbls (fun m' hm => by
    obtain ⟨o', es', ep', ho', r'⟩ := hm
    rw [ho] at ho'; cases ho'
    exact ⟨_, es', ep', hL, r'⟩) hok I.bare
/-- behind a call (or a comprehension's block): the slots of this frame may have changed too, the records at ch may have turned -/
theorem Inv.call {g' : Array GenState} {t' : Nat} {d' : Drawn} {ch : List Addr} (I : Inv X pins σ H s) (u : Un (frs X.stack) ch H H' s.heap h') (hok : HOk X.prog X.w H' h') (hg : AllBare g')
    (hch : ∀ b ∈ ch, (b ∈ X.ex ∨ X.s₀.heap.objs.size ≤ b) ∧ b ≠ X.env.locals ∧ (∀ x c, X.env.cells.lookup x = some c → c ≠ b) ∧ ∀ p ∈ X.pn ++ pins, p.1 ≠ b) :
    Inv X pins σ H' { s with heap := h', gens := g', drawn := d', toks := t' } := by
  obtain ⟨m, ⟨o, es, ep, ho, r⟩, _⟩ := id I.loc
  obtain ⟨sl, hL⟩ := u.any ho I.free fun z => (hch _ z).2.1 rfl
  exact I.step (ch := ch) hch (fun b o hL hb hc e n => u.keep b o e n (fun z => (List.mem_cons.mp (I.stkSub b z)).elim hL hb) hc) (fun b o _ _ hc e n => u.any e n hc) (fun b o hc e n => u.free b o e n hc) (fun b o hc e => u.there b o e hc) u.tups u.frzs u.tbls (fun m' hm => by
    obtain ⟨o', es', ep', ho', r'⟩ := hm
    rw [ho] at ho'; cases ho'
    exact ⟨_, es', ep', hL, r'⟩) hok hg
/-- an untracked record of ours (an iterator) has turned -/
theorem Inv.turned {t' : Nat} {it : Addr} (I : Inv X pins σ H s) (k : ∀ b o, b ≠ it → s.heap.get? b = some o → h'.get? b = some o) (hn : H it = none) (hL : it ≠ X.env.locals)
    (h1 : it ∈ X.ex ∨ X.s₀.heap.objs.size ≤ it) (h2 : ∀ x c, X.env.cells.lookup x = some c → c ≠ it) (h3 : ∀ p ∈ X.pn ++ pins, p.1 ≠ it) : Inv X pins σ H { s with heap := h', toks := t' } := by
  have nit : ∀ b u, H b = some u → b ≠ it := fun b u e z => by rw [z, hn] at e; cases e
  refine I.step (g' := s.gens) (d' := s.drawn) (ch := [it]) (fun b hb => ?_) (fun b o _ _ hc e _ => k b o (fun z => hc (by simp [z])) e) (fun b o _ _ hc e _ => ⟨o.slots, k b o (fun z => hc (by simp [z])) e⟩) (fun _ _ _ _ n => n)
    (fun b o hc e => ⟨o, k b o (fun z => hc (by simp [z])) e⟩) (fun _ _ e => e) (fun _ _ _ e => e) (fun b ps e => ⟨#[], by rw [e]; simp⟩) (fun m hm => ?_) (fun b u e => ?_) I.bare
  · have e : b = it := by simpa using hb
    subst e
    exact ⟨h1, hL, h2, h3⟩
  · obtain ⟨o, es, ep, ho, r⟩ := hm
    exact ⟨o, es, ep, k _ o (Ne.symm hL) ho, r⟩
  · refine (I.hok b u e).stay (fun c v hc q => k c v ?_ q) (fun _ q => q) fun _ _ q => q
    rcases hc with z | z
    · rw [z]; exact nit b u e
    · exact nit c _ z
theorem Inv.tok (I : Inv X pins σ H s) (t : Nat) : Inv X pins σ H { s with toks := t } := I.un (h' := s.heap) (t' := t) Un.refl I.hok
/-- all objects kept -/
theorem Inv.kept {t' : Nat} (I : Inv X pins σ H s) (k : ∀ b u, s.heap.get? b = some u → h'.get? b = some u) : Inv X pins σ H { s with heap := h', toks := t' } := I.un (Un.kept k) (I.hok.kept k)
/-- a new object laid and tracked -/
theorem Inv.laid {a : Addr} {o : HO} {t' : Nat} (I : Inv X pins σ H s) (k : ∀ b u, s.heap.get? b = some u → h'.get? b = some u) (hp : s.heap.objs.size ≤ a) (new : ObjOk X.prog X.w (upd H a o) h' a o) :
    Inv X pins σ (upd H a o) { s with heap := h', toks := t' } := I.un (Un.laid k hp (I.hok.fresh hp)) (I.hok.laid k hp new)
/-- an object written -/
theorem Inv.write {x e : Addr} {o : HO} {t' : Nat} (I : Inv X pins σ H s) (mu : Mut (H x)) (he : e = x ∨ H e = some (.own x)) (k : ∀ b u, b ≠ e → s.heap.get? b = some u → h'.get? b = some u) (heo : ∃ u, h'.get? e = some u)
    (new : ObjOk X.prog X.w (upd H x o) h' x o) : Inv X pins σ (upd H x o) { s with heap := h', toks := t' } := I.un (Un.write mu he k heo) (I.hok.write mu he k heo new)
/-- forgetting slots, pins -/
theorem Inv.weak {σ' : List (Option V)} (I : Inv X pins σ H s) (hl : σ'.length = σ.length) (w : ∀ (i : Nat) v, σ'[i]? = some (some v) → σ[i]? = some (some v)) : Inv X pins σ' H s :=
  ⟨I.ok, I.os, I.bare, I.base, let ⟨m, hn, hl'⟩ := I.loc; ⟨m, hn, fun i x v e1 e2 e3 => hl' i x v e1 (w i v e2) e3⟩, I.cell, I.free, I.freeC, I.pin, I.hok, hl.trans I.len⟩
theorem Inv.pins_of {pins' : List (Addr × Obj)} (I : Inv X pins σ H s) (h : ∀ p ∈ pins', s.heap.get? p.1 = some p.2 ∧ H p.1 = none ∧ p.1 ≠ X.env.locals ∧ p.1 ∉ X.fs ∧ ∀ v, p.2.data ≠ .cell v) : Inv X pins' σ H s :=
  ⟨I.ok, I.os, I.bare, I.base, I.loc, I.cell, I.free, I.freeC, fun p hp => (List.mem_append.mp hp).elim (fun z => I.pin p (List.mem_append_left _ z)) (h p), I.hok, I.len⟩

theorem nodup_ix {N : List Str} (hN : N.Nodup) {i j : Nat} {x : Str} (a : N[i]? = some x) (b : N[j]? = some x) : i = j := by
  obtain ⟨h1, e1⟩ := List.getElem?_eq_some_iff.mp a
  obtain ⟨h2, e2⟩ := List.getElem?_eq_some_iff.mp b
  exact (List.getElem_inj hN).mp (e1.trans e2.symm)

/-- a name is stored; what changed -/
theorem store_ok2 {M : Model} {A : Around} {E : Value → Shared → Prop} {i : Nat} {x : Str} {v : V} {u : Value} {Q : Unit → Shared → Prop} (I : Inv X pins σ H s) (hN : X.N.Nodup) (hi : X.N[i]? = some x) (hx : Loc X.env.scope x) (r : RelV v u)
    (h : ∀ s', Inv X pins (σ.set i (some v)) H s' → (∃ a, Heap.SameBut a s.heap s'.heap ∧ (a = X.env.locals ∨ X.env.cells.lookup x = some a)) → Q () s') (hf : X.fn x = true ∨ X.env.scope.names.lookup x = some .local := by first | exact .inl rfl | exact .inr rfl | assumption) : wpAny M A (storeName X.env x u) Q E s := by
  obtain ⟨m, hn, hl⟩ := id I.loc
  have hcls : (X.env.scope.kind == .class || (X.env.scope.kind == .module && X.env.locals != X.env.globals)) = false := by rw [I.ok.kind]; rfl
  have hiσ : i < σ.length := by rw [I.len]; exact (List.getElem?_eq_some_iff.mp hi).1
  have cne := I.cne
  have tracked : ∀ {a : Addr} {h' : Heap}, (∃ o, s.heap.get? a = some o ∧ H a = none) → Heap.SameBut a s.heap h' → HOk X.prog X.w H h' := fun {a h'} ha hs b ob e => by
    obtain ⟨_, _, hfree⟩ := ha
    refine (I.hok b ob e).stay (fun c w' hc q => (hs.2 c ?_).trans q) (fun _ q => q) fun _ _ q => q
    rintro rfl
    rcases hc with rfl | hc
    · rw [hfree] at e; cases e
    · rw [hfree] at hc; cases hc
  rcases hx with hk | hk
  · refine wpAny_storeName_local hk hn (fun h' hn' hs => ?_) hcls
    obtain ⟨oL, _, _, hoL, _⟩ := id hn
    refine h _ ⟨I.ok, I.os, I.bare, ⟨fun b o e n hb hx => ?_, fun b o e n hb hx => ?_, I.base.free, fun b o e hx => ?_, I.base.tups, I.base.frzs, I.base.tbls⟩, ⟨_, hn', fun j y v' e1 e2 e3 => ?_⟩, fun y c e => ?_, I.free, I.freeC, fun p hp => ?_, tracked ⟨oL, hoL, I.free⟩ hs, by simpa using I.len⟩ ⟨_, hs, .inl rfl⟩
    · exact (hs.2 b (Nat.ne_of_lt (Nat.lt_of_lt_of_le (Heap.lt_size e) I.ok.above))).trans (I.base.keep b o e n hb hx)
    · obtain ⟨sl, e1⟩ := I.base.slot b o e n hb hx
      exact ⟨sl, (hs.2 b (Nat.ne_of_lt (Nat.lt_of_lt_of_le (Heap.lt_size e) I.ok.above))).trans e1⟩
    · obtain ⟨o', e1⟩ := I.base.there b o e hx
      exact ⟨o', (hs.2 b (Nat.ne_of_lt (Nat.lt_of_lt_of_le (Heap.lt_size e) I.ok.above))).trans e1⟩
    · by_cases hj : j = i
      · subst hj
        rw [hi] at e1; cases e1
        rw [List.getElem?_set_self hiσ] at e2
        cases e2
        exact ⟨u, r, .inl ⟨hk, by simp⟩⟩
      · rw [List.getElem?_set_ne (Ne.symm hj)] at e2
        obtain ⟨u', r', q⟩ := hl j y v' e1 e2 e3
        refine ⟨u', r', ?_⟩
        rcases q with ⟨k, e⟩ | ⟨k, c, e, z⟩
        · refine .inl ⟨k, ?_⟩
          have : y ≠ x := fun e => hj (nodup_ix hN e1 (e ▸ hi))
          simp [this, e]
        · exact .inr ⟨k, c, e, z.sameBut hs (cne y c e)⟩
    · obtain ⟨w', z⟩ := I.cell y c e
      exact ⟨w', z.sameBut hs (cne y c e)⟩
    · obtain ⟨e, n, ne, nf, d⟩ := I.pin p hp
      exact ⟨(hs.2 p.1 ne).trans e, n, ne, nf, d⟩
  · have hfn : X.fn x = true := by
      rcases hf with z | z
      · exact z
      · rw [z] at hk; cases hk
    obtain ⟨c, hc⟩ := I.ok.has x (.inl hk)
    obtain ⟨w', z⟩ := I.cell x c hc
    refine wpAny_storeName_cell I.ok.kind hk hc z (fun h' hc' hs => ?_)
    obtain ⟨oc, hoc, hocd⟩ := id z
    refine h { s with heap := h' } ⟨I.ok, I.os, I.bare, ⟨fun b o e n hb hx => ?_, fun b o e n hb hx => ?_, I.base.free, fun b o e hx => ?_, I.base.tups, I.base.frzs, I.base.tbls⟩, ⟨m, hn.sameBut hs (Ne.symm (cne x c hc)), fun j y v' e1 e2 e3 => ?_⟩, fun y c' e => ?_, I.free, I.freeC, fun p hp => ?_, tracked ⟨oc, hoc, I.freeC x c hc⟩ hs, by simpa using I.len⟩ ⟨c, hs, .inr hc⟩
    · exact (hs.2 b (Nat.ne_of_lt (Nat.lt_of_lt_of_le (Heap.lt_size e) (I.ok.cab x c hfn hc)))).trans (I.base.keep b o e n hb hx)
    · obtain ⟨sl, e1⟩ := I.base.slot b o e n hb hx
      exact ⟨sl, (hs.2 b (Nat.ne_of_lt (Nat.lt_of_lt_of_le (Heap.lt_size e) (I.ok.cab x c hfn hc)))).trans e1⟩
    · obtain ⟨o', e1⟩ := I.base.there b o e hx
      exact ⟨o', (hs.2 b (Nat.ne_of_lt (Nat.lt_of_lt_of_le (Heap.lt_size e) (I.ok.cab x c hfn hc)))).trans e1⟩
    · by_cases hj : j = i
      · subst hj
        rw [hi] at e1; cases e1
        rw [List.getElem?_set_self hiσ] at e2
        cases e2
        exact ⟨u, r, .inr ⟨.inl hk, c, hc, hc'⟩⟩
      · rw [List.getElem?_set_ne (Ne.symm hj)] at e2
        obtain ⟨u', r', q⟩ := hl j y v' e1 e2 e3
        refine ⟨u', r', ?_⟩
        rcases q with q | ⟨k, c', e, z'⟩
        · exact .inl q
        · refine .inr ⟨k, c', e, z'.sameBut hs ?_⟩
          rintro rfl
          exact hj (nodup_ix hN e1 (I.ok.inj _ _ _ e hc ▸ hi))
    · by_cases hcc : c' = c
      · subst hcc; exact ⟨_, hc'⟩
      · obtain ⟨w2, z2⟩ := I.cell y c' e
        exact ⟨w2, z2.sameBut hs hcc⟩
    · obtain ⟨e, n, ne, nf, d⟩ := I.pin p hp
      refine ⟨(hs.2 p.1 ?_).trans e, n, ne, nf, d⟩
      intro q
      rw [q, hoc] at e
      have q' : oc = p.2 := Option.some.inj e
      exact d w' (by rw [← q']; exact hocd)
theorem store_ok {M : Model} {A : Around} {E : Value → Shared → Prop} {i : Nat} {x : Str} {v : V} {u : Value} {Q : Unit → Shared → Prop} (I : Inv X pins σ H s) (hN : X.N.Nodup) (hi : X.N[i]? = some x) (hx : Loc X.env.scope x) (r : RelV v u)
    (h : ∀ s', Inv X pins (σ.set i (some v)) H s' → Q () s') (hf : X.fn x = true ∨ X.env.scope.names.lookup x = some .local := by first | exact .inl rfl | exact .inr rfl | assumption) : wpAny M A (storeName X.env x u) Q E s :=
  store_ok2 I hN hi hx r (fun s' I' _ => h s' I') hf
/-- behind a call or a block, the state as it is -/
theorem Inv.call' {s' : Shared} {ch : List Addr} (I : Inv X pins σ H s) (ho : s'.os = s.os) (u : Un (frs X.stack) ch H H' s.heap s'.heap) (hok : HOk X.prog X.w H' s'.heap) (hg : AllBare s'.gens)
    (hch : ∀ b ∈ ch, (b ∈ X.ex ∨ X.s₀.heap.objs.size ≤ b) ∧ b ≠ X.env.locals ∧ (∀ x c, X.env.cells.lookup x = some c → c ≠ b) ∧ ∀ p ∈ X.pn ++ pins, p.1 ≠ b) : Inv X pins σ H' s' := by
  obtain ⟨h', g', d', t', o'⟩ := s'
  have e : o' = s.os := ho
  subst e
  exact I.call (g' := g') (t' := t') (d' := d') u hok hg hch
end

/-! ### the judgements -/
/-- an exception: its class, its own dict's address (where it has one), the abstract heap behind it -/
abbrev XK := Value → Option Addr → Hp → Prop
abbrev St := List (Option V)
abbrev VK := V → Hp → Prop
/-- an expression's reading; a test's; an argument list's -/
abbrev TE := St → Hp → VK → Prop
abbrev TT := St → Hp → (Bool → Hp → Prop) → Prop
abbrev TA := St → Hp → (List V → Hp → Prop) → Prop
/-- what is wanted behind a statement -/
structure Ends where
  nx : St → Hp → Prop
  rt : VK
  bk : St → Hp → Prop := fun _ _ => False
  ct : St → Hp → Prop := fun _ _ => False
abbrev TS := Ends → St → Hp → Prop

def EP (X : Cx) (pins : List (Addr × Obj)) (σ : St) (Q : VK) (u : Value) (s' : Shared) : Prop := ∃ v H', Inv X pins σ H' s' ∧ RelV v u ∧ Q v H'
def TP (X : Cx) (pins : List (Addr × Obj)) (σ : St) (Q : Bool → Hp → Prop) (b : Bool) (s' : Shared) : Prop := ∃ H', Inv X pins σ H' s' ∧ Q b H'
def AP (X : Cx) (pins : List (Addr × Obj)) (σ : St) (Q : List V → Hp → Prop) (us : List Value) (s' : Shared) : Prop := ∃ vs H', Inv X pins σ H' s' ∧ Vals vs us ∧ Q vs H'
def SP (X : Cx) (pins : List (Addr × Obj)) (D : Ends) (f : Flow) (s' : Shared) : Prop :=
  match f with
  | .next => ∃ σ' H', Inv X pins σ' H' s' ∧ D.nx σ' H'
  | .brk => ∃ σ' H', Inv X pins σ' H' s' ∧ D.bk σ' H'
  | .cont => ∃ σ' H', Inv X pins σ' H' s' ∧ D.ct σ' H'
  | .ret u => ∃ v σ' H', Inv X pins σ' H' s' ∧ RelV v u ∧ D.rt v H'

def PE (X : Cx) (e : Expr) (t : TE) : Prop :=
  ∀ (pins : List (Addr × Obj)) (s : Shared) (σ : St) (H : Hp) (Q : VK), Inv X pins σ H s → t σ H Q → wpAny (model X.prog X.w) X.A (eval e X.env) (EP X pins σ Q) X.xe s
def PT (X : Cx) (e : Expr) (t : TT) : Prop :=
  ∀ (pins : List (Addr × Obj)) (s : Shared) (σ : St) (H : Hp) (Q : Bool → Hp → Prop), Inv X pins σ H s → t σ H Q → wpAny (model X.prog X.w) X.A (isTrue e X.env (eval e X.env)) (TP X pins σ Q) X.xe s
/-- a test whatever its 'whole' is (and, or) -/
def PW (X : Cx) (e : Expr) (t : TT) : Prop :=
  ∀ (whole : Sem Value) (pins : List (Addr × Obj)) (s : Shared) (σ : St) (H : Hp) (Q : Bool → Hp → Prop), Inv X pins σ H s → t σ H Q → wpAny (model X.prog X.w) X.A (isTrue e X.env whole) (TP X pins σ Q) X.xe s
theorem PW.pt {X : Cx} {e : Expr} {t : TT} (h : PW X e t) : PT X e t := h _
/-- an argument list (no star), from the left -/
def PA (X : Cx) (es : List Expr) (t : TA) : Prop :=
  ∀ (pos : Pos) (pins : List (Addr × Obj)) (s : Shared) (σ : St) (H : Hp) (Q : List V → Hp → Prop), Inv X pins σ H s → t σ H Q → wpAny (model X.prog X.w) X.A (spliced (backTo pos (starEach es X.env))) (AP X pins σ Q) X.xe s
def PS (X : Cx) (st : Stmt) (t : TS) : Prop :=
  ∀ (pins : List (Addr × Obj)) (s : Shared) (σ : St) (H : Hp) (D : Ends), Inv X pins σ H s → t D σ H → wpAny (model X.prog X.w) X.A (exec st X.env) (SP X pins D) X.xe s
def PSs (X : Cx) (st : List Stmt) (t : TS) : Prop :=
  ∀ (pins : List (Addr × Obj)) (s : Shared) (σ : St) (H : Hp) (D : Ends), Inv X pins σ H s → t D σ H → wpAny (model X.prog X.w) X.A (execs st X.env) (SP X pins D) X.xe s
/-- weaken the end -/
theorem thn {α : Type} {t : Sem α} {Q Q' : α → Shared → Prop} {M : Model} {A : Around} {E : Value → Shared → Prop} {s : Shared} (h : wpAny M A t Q E s) (hQ : ∀ a s, Q a s → Q' a s) : wpAny M A t Q' E s := wpAny_mono h hQ fun _ _ x => x
end L2

namespace L2
open PySem PySem.Spec PyProof.Rows
section
variable {X : Cx}

/-- two expressions in a row -/
theorem bin {a b : Expr} {ta tb : TE} (ha : PE X a ta) (hb : PE X b tb) {pins : List (Addr × Obj)} {s : Shared} {σ : St} {H : Hp} {R : V → V → Hp → Prop} (I : Inv X pins σ H s) (h : ta σ H fun x H1 => tb σ H1 fun y H2 => R x y H2)
    {α : Type} {Q : α → Shared → Prop} {f : Value → Value → Sem α}
    (hf : ∀ v u s2 x y H2, Inv X pins σ H2 s2 → RelV x v → RelV y u → R x y H2 → wpAny (model X.prog X.w) X.A (f v u) Q X.xe s2) :
    wpAny (model X.prog X.w) X.A (eval a X.env) (fun v s₁ => wpAny (model X.prog X.w) X.A (eval b X.env) (fun u s₂ => wpAny (model X.prog X.w) X.A (f v u) Q X.xe s₂) X.xe s₁) X.xe s := by
  refine thn (ha pins s σ H _ I h) fun v s1 ⟨x, H1, I1, r1, q1⟩ => ?_
  refine thn (hb pins s1 σ H1 _ I1 q1) fun u s2 ⟨y, H2, I2, r2, q2⟩ => ?_
  exact hf v u s2 x y H2 I2 r1 r2 q2

/-! ### names and constants -/
def tVar (i : Nat) : TE := fun σ H Q => ∃ v, σ[i]? = some (some v) ∧ Q v H
def tC (v : V) : TE := fun _ H Q => Q v H
theorem pe_var {i : Nat} {x : Str} {pos : Pos} (hN : X.N[i]? = some x) (hv : Vis X.env.scope x) (hd : (x == ("__debug__" : Str)) = false := by decide) (hcd : (x == ("__classdict__" : Str)) = false := by decide) : PE X (.Name x pos) (tVar i) := by
  intro pins s σ H Q I h
  obtain ⟨v, e, h⟩ := h
  obtain ⟨m, hn, hl⟩ := I.loc
  obtain ⟨u, r, l⟩ := hl i x v hN e hv
  have fin : EP X pins σ Q u s := ⟨v, H, I, r, h⟩
  rcases l with ⟨hk, hm⟩ | ⟨hk, c, hc, hcell⟩
  · exact wpAny_Name (wpAny_loadName_local I.ok.kind hk hn hm fin) hd
  · rcases hk with hk | hk
    · exact wpAny_Name (wpAny_loadName_cell I.ok.kind hk hc hcell fin) hd
    · exact wpAny_Name (wpAny_loadName_free I.ok.kind hk hc hcell fin hcd) hd
theorem pe_int {i j pos} : PE X (.Constant (.int i) j pos) (tC (.int i)) := fun _ _ _ H _ I h => wpAny_Constant_int ⟨.int i, H, I.tok _, ⟨_, rfl⟩, h⟩
theorem pe_bl {b j pos} : PE X (.Constant (.bool b) j pos) (tC (.bl b)) := fun _ _ _ H _ I h => Constant_bool ⟨.bl b, H, I, rfl, h⟩
theorem pe_non {j pos} : PE X (.Constant .none j pos) (tC .non) := fun _ _ _ H _ I h => Constant_none ⟨.non, H, I, rfl, h⟩
theorem pe_str {x j pos} : PE X (.Constant (.str x) j pos) (tC (.str x)) := fun _ _ _ H _ I h => Calls.Constant_str ⟨.str x, H, I.tok _, ⟨_, rfl⟩, h⟩

/-- a global name of the def -/
def Gl (X : Cx) (x : Str) : Prop := X.env.kindOf x = some .globalImplicit
theorem ld_glob {E : Value → Shared → Prop} {pins : List (Addr × Obj)} {s : Shared} {σ : St} {H : Hp} {x : Str} {u : Value} {pos : Pos} {Q : Value → Shared → Prop} (I : Inv X pins σ H s) (hg : Gl X x) (hm : X.mg x = some u) (h : Q u s)
    (hd : (x == ("__debug__" : Str)) = false := by decide) : wpAny (model X.prog X.w) X.A (eval (.Name x pos) X.env) Q E s :=
  Calls.Name_function_global I.ok.kind hg (Calls.loadGlobal_global (by rw [I.ok.glob]; exact I.mod.glob.keeps I.bk) hm h) hd
theorem ld_blt {E : Value → Shared → Prop} {pins : List (Addr × Obj)} {s : Shared} {σ : St} {H : Hp} {x : Str} {u : Value} {pos : Pos} {Q : Value → Shared → Prop} (I : Inv X pins σ H s) (hg : Gl X x) (hm : X.mg x = none) (hv : bootBuiltins x = some u) (h : Q u s)
    (hn : x ≠ "__name__" := by decide) (hd : (x == ("__debug__" : Str)) = false := by decide) : wpAny (model X.prog X.w) X.A (eval (.Name x pos) X.env) Q E s := by
  obtain ⟨mb, h1, h2⟩ := I.mod.blt
  exact Calls.Name_function_global I.ok.kind hg (Calls.loadGlobal_builtin (by rw [I.ok.glob]; exact I.mod.glob.keeps I.bk) hm (by rw [I.ok.blt]; exact h1.keeps I.bk) ((h2 x hn).trans hv) h) hd
/-- a module's constant, a class, a function, as a value -/
theorem pe_glob {x : Str} {v : V} {u : Value} {pos : Pos} (hg : Gl X x) (hm : X.mg x = some u) (r : RelV v u) (hd : (x == ("__debug__" : Str)) = false := by decide) : PE X (.Name x pos) (tC v) :=
  fun _ _ _ H _ I h => ld_glob I hg hm ⟨v, H, I, r, h⟩ hd
theorem pe_bltn {x : Str} {v : V} {u : Value} {pos : Pos} (hg : Gl X x) (hm : X.mg x = none) (hv : bootBuiltins x = some u) (r : RelV v u) (hn : x ≠ "__name__" := by decide) (hd : (x == ("__debug__" : Str)) = false := by decide) : PE X (.Name x pos) (tC v) :=
  fun _ _ _ H _ I h => ld_blt I hg hm hv ⟨v, H, I, r, h⟩ hn hd

/-! ### arithmetic -/
/-- two ints -/
def t2I (ta tb : TE) (k : Int → Int → Hp → Prop) : St → Hp → Prop := fun σ H => ta σ H fun x H1 => tb σ H1 fun y H2 => ∃ i j, x = .int i ∧ y = .int j ∧ k i j H2
def tAdd (ta tb : TE) : TE := fun σ H Q => t2I ta tb (fun i j H2 => Q (.int (i + j)) H2) σ H
def tSub (ta tb : TE) : TE := fun σ H Q => t2I ta tb (fun i j H2 => Q (.int (i - j)) H2) σ H
/-- the left factor below 2^64 -/
def tMul (ta tb : TE) : TE := fun σ H Q => t2I ta tb (fun i j H2 => (-(2 ^ 64) < i ∧ i < 2 ^ 64) ∧ Q (.int (i * j)) H2) σ H
variable {a b : Expr} {ta tb : TE} {pos : Pos}
theorem pe_add (ha : PE X a ta) (hb : PE X b tb) : PE X (.BinOp a .Add b pos) (tAdd ta tb) := by
  intro pins s σ H Q I h
  refine wpAny_BinOp (bin ha hb I h fun v u s2 x y H2 I2 rx ry q => ?_)
  obtain ⟨i, j, rfl, rfl, q⟩ := q
  obtain ⟨t, rfl⟩ := rx
  obtain ⟨t', rfl⟩ := ry
  exact add_int ⟨.int _, H2, I2.tok _, ⟨_, rfl⟩, q⟩
theorem pe_sub (ha : PE X a ta) (hb : PE X b tb) : PE X (.BinOp a .Sub b pos) (tSub ta tb) := by
  intro pins s σ H Q I h
  refine wpAny_BinOp (bin ha hb I h fun v u s2 x y H2 I2 rx ry q => ?_)
  obtain ⟨i, j, rfl, rfl, q⟩ := q
  obtain ⟨t, rfl⟩ := rx
  obtain ⟨t', rfl⟩ := ry
  exact sub_int ⟨.int _, H2, I2.tok _, ⟨_, rfl⟩, q⟩
theorem pe_mul (ha : PE X a ta) (hb : PE X b tb) : PE X (.BinOp a .Mult b pos) (tMul ta tb) := by
  intro pins s σ H Q I h
  refine wpAny_BinOp (bin ha hb I h fun v u s2 x y H2 I2 rx ry q => ?_)
  obtain ⟨i, j, rfl, rfl, ⟨q1, q2⟩, q⟩ := q
  obtain ⟨t, rfl⟩ := rx
  obtain ⟨t', rfl⟩ := ry
  exact mul_int ⟨.int _, H2, I2.tok _, ⟨_, rfl⟩, q⟩ (.of_left (intBits_le_64 q1 q2))

/-! ### comparisons -/
def PC (X : Cx) (op : CmpOp) (a b : Expr) (t : TE) : Prop :=
  ∀ (pins : List (Addr × Obj)) (s : Shared) (σ : St) (H : Hp) (Q : VK), Inv X pins σ H s → t σ H Q →
    wpAny (model X.prog X.w) X.A (eval a X.env) (fun v s₁ => wpAny (model X.prog X.w) X.A (eval b X.env) (fun u s₂ => wpAny (model X.prog X.w) X.A (compareOp op v u) (EP X pins σ Q) X.xe s₂) X.xe s₁) X.xe s
theorem nobehind (b : Expr) {op : CmpOp} (h : op ≠ .In) (h2 : op ≠ .NotIn) : behindInMarks op b = false := by
  have e1 : (op == CmpOp.In) = false := by cases op <;> first | rfl | exact absurd rfl h
  have e2 : (op == CmpOp.NotIn) = false := by cases op <;> first | rfl | exact absurd rfl h2
  cases b <;> simp [behindInMarks, e1, e2]
def tCmp (p : Int → Int → Bool) (ta tb : TE) : TE := fun σ H Q => t2I ta tb (fun i j H2 => Q (.bl (p i j)) H2) σ H
abbrev tLt : TE → TE → TE := tCmp fun i j => decide (i < j)
abbrev tLe : TE → TE → TE := tCmp fun i j => decide (i ≤ j)
abbrev tGt : TE → TE → TE := tCmp fun i j => decide (j < i)
abbrev tGe : TE → TE → TE := tCmp fun i j => decide (j ≤ i)
abbrev tEqI : TE → TE → TE := tCmp fun i j => decide (i = j)
abbrev tNeI : TE → TE → TE := tCmp fun i j => !decide (i = j)
/-- a comparison of two ints, by its rule -/
theorem pc_int {op : CmpOp} {p : Int → Int → Bool} (ha : PE X a ta) (hb : PE X b tb)
    (rule : ∀ (i j : Int) (t u : Tok) (Q : Value → Shared → Prop) (s : Shared), Q (.bool (p i j)) s → wpAny (model X.prog X.w) X.A (compareOp op (.int i t) (.int j u)) Q X.xe s) : PC X op a b (tCmp p ta tb) := by
  intro pins s σ H Q I h
  refine bin ha hb I h fun v u s2 x y H2 I2 rx ry q => ?_
  obtain ⟨i, j, rfl, rfl, q⟩ := q
  obtain ⟨t, rfl⟩ := rx
  obtain ⟨t', rfl⟩ := ry
  exact rule i j t t' _ s2 ⟨.bl _, H2, I2, rfl, q⟩
theorem pc_lt (ha : PE X a ta) (hb : PE X b tb) : PC X .Lt a b (tLt ta tb) := pc_int ha hb fun _ _ _ _ _ _ h => lt_int h
theorem pc_le (ha : PE X a ta) (hb : PE X b tb) : PC X .LtE a b (tLe ta tb) := pc_int ha hb fun _ _ _ _ _ _ h => le_int h
theorem pc_gt (ha : PE X a ta) (hb : PE X b tb) : PC X .Gt a b (tGt ta tb) := pc_int ha hb fun _ _ _ _ _ _ h => gt_int h
theorem pc_ge (ha : PE X a ta) (hb : PE X b tb) : PC X .GtE a b (tGe ta tb) := pc_int ha hb fun _ _ _ _ _ _ h => ge_int h
theorem pc_eqI (ha : PE X a ta) (hb : PE X b tb) : PC X .Eq a b (tEqI ta tb) := pc_int ha hb fun _ _ _ _ _ _ h => eq_int (by rw [Bool.beq_eq_decide_eq]; exact h)
theorem pc_neI (ha : PE X a ta) (hb : PE X b tb) : PC X .NotEq a b (tNeI ta tb) := pc_int ha hb fun _ _ _ _ _ _ h => ne_int (by rw [bne, Bool.beq_eq_decide_eq]; exact h)
/-- is None -/
def tIsN (ta : TE) : TE := fun σ H Q => ta σ H fun x H1 => Q (.bl (decide (x = .non))) H1
def tNotN (ta : TE) : TE := fun σ H Q => ta σ H fun x H1 => Q (.bl (!decide (x = .non))) H1
theorem RelV.none_iff {x : V} {v : Value} (r : RelV x v) : (v == Value.none) = decide (x = .non) := by
  cases x with
  | non => cases r; rfl
  | bl _ => cases r; rfl
  | int _ => obtain ⟨t, rfl⟩ := r; rfl
  | str _ => obtain ⟨t, rfl⟩ := r; rfl
  | byt _ => obtain ⟨t, rfl⟩ := r; rfl
  | flt _ => obtain ⟨t, rfl⟩ := r; rfl
  | ref _ => cases r; rfl
  | ty _ => cases r; rfl
theorem pc_isN {j pos'} (ha : PE X a ta) : PC X .Is a (.Constant .none j pos') (tIsN ta) := by
  intro pins s σ H Q I h
  refine thn (ha pins s σ H _ I h) fun v s1 ⟨x, H1, I1, r1, q1⟩ => ?_
  exact Constant_none (is_none_gen ⟨.bl _, H1, I1, by rw [r1.none_iff]; rfl, q1⟩)
theorem pc_notN {j pos'} (ha : PE X a ta) : PC X .IsNot a (.Constant .none j pos') (tNotN ta) := by
  intro pins s σ H Q I h
  refine thn (ha pins s σ H _ I h) fun v s1 ⟨x, H1, I1, r1, q1⟩ => ?_
  exact Constant_none (isnot_none_gen ⟨.bl _, H1, I1, by rw [r1.none_iff]; rfl, q1⟩)
/-- a comparison as a value, as a test -/
def tB (t : TE) : TT := fun σ H Q => t σ H fun x H1 => ∃ c, x = .bl c ∧ Q c H1
theorem pe_cmp {op : CmpOp} {t : TE} (h : PC X op a b t) (h1 : behindInMarks op b = false := by first | exact nobehind _ (by decide) (by decide) | rfl) : PE X (.Compare a [op] [b] pos) t := fun pins s σ H Q I hw => wpAny_Compare1 (h pins s σ H Q I hw) h1
theorem pt_cmp {op : CmpOp} {t : TE} (h : PC X op a b t) (h1 : behindInMarks op b = false := by first | exact nobehind _ (by decide) (by decide) | rfl) : PT X (.Compare a [op] [b] pos) (tB t) := by
  intro pins s σ H Q I hw
  refine wpAny_isTrue_Compare1 (thn (h pins s σ H _ I hw) fun v s1 h1 => thn h1 fun u s2 h2 => thn h2 fun c s3 ⟨x, H1, I1, r1, q1⟩ => ?_) h1
  obtain ⟨d, rfl, q⟩ := q1
  cases r1
  exact wpAny_truthy_bool ⟨H1, I1, q⟩
/-- an expression whose value is a bool, as a test -/
theorem pt_val {e : Expr} {t : TE} (h : PE X e t) (he : ∀ whole, isTrue e X.env whole = (do let v ← whole; standAt e.pos; holding [v] (truthy v)) := by intro _; rfl) : PT X e (tB t) := by
  intro pins s σ H Q I hw
  refine isTrue_plain (thn (h pins s σ H _ I hw) fun v s1 ⟨x, H1, I1, r1, q1⟩ => ?_) (he _)
  obtain ⟨d, rfl, q⟩ := q1
  cases r1
  exact wpAny_truthy_bool ⟨H1, I1, q⟩

/-! ### and, or, not -/
variable {tA tB' : TT} {rest : List Expr}
def tAnd (t u : TT) : TT := fun σ H Q => t σ H fun c H1 => if c = true then u σ H1 Q else Q false H1
def tOr (t u : TT) : TT := fun σ H Q => t σ H fun c H1 => if c = true then Q true H1 else u σ H1 Q
def tNot (t : TT) : TT := fun σ H Q => t σ H fun c H1 => Q (!c) H1
theorem pw_and1 (ha : PT X a tA) : PW X (.BoolOp .And [a] pos) tA := by
  intro wh pins s σ H Q I h
  refine isTrue_and (thn (ha pins s σ H Q I h) fun c s1 e => ?_)
  cases c with
  | true => exact isTrue_and_nil e
  | false => exact e
theorem pw_or1 (ha : PT X a tA) : PW X (.BoolOp .Or [a] pos) tA := by
  intro wh pins s σ H Q I h
  refine isTrue_or (thn (ha pins s σ H Q I h) fun c s1 e => ?_)
  cases c with
  | false => exact isTrue_or_nil e
  | true => exact e
theorem pw_and (ha : PT X a tA) (hb : PW X (.BoolOp .And (b :: rest) pos) tB') : PW X (.BoolOp .And (a :: b :: rest) pos) (tAnd tA tB') := by
  intro wh pins s σ H Q I h
  refine isTrue_and (thn (ha pins s σ H _ I h) fun c s1 ⟨H1, I1, q1⟩ => ?_)
  cases c with
  | true => exact hb wh pins s1 σ H1 Q I1 q1
  | false => exact ⟨H1, I1, q1⟩
theorem pw_or (ha : PT X a tA) (hb : PW X (.BoolOp .Or (b :: rest) pos) tB') : PW X (.BoolOp .Or (a :: b :: rest) pos) (tOr tA tB') := by
  intro wh pins s σ H Q I h
  refine isTrue_or (thn (ha pins s σ H _ I h) fun c s1 ⟨H1, I1, q1⟩ => ?_)
  cases c with
  | true => exact ⟨H1, I1, q1⟩
  | false => exact hb wh pins s1 σ H1 Q I1 q1
theorem pt_not (ha : PT X a tA) : PT X (.UnaryOp .Not a pos) (tNot tA) := by
  intro pins s σ H Q I h
  exact isTrue_not (ha pins s σ H (fun c H1 => Q (!c) H1) I h)
/-- .. as values (bools) -/
def tAndV (ta tb : TE) : TE := fun σ H Q => ta σ H fun x H1 => ∃ c, x = .bl c ∧ if c = true then tb σ H1 Q else Q (.bl false) H1
def tOrV (ta tb : TE) : TE := fun σ H Q => ta σ H fun x H1 => ∃ c, x = .bl c ∧ if c = true then Q (.bl true) H1 else tb σ H1 Q
def tNotV (ta : TE) : TE := fun σ H Q => ta σ H fun x H1 => ∃ c, x = .bl c ∧ Q (.bl (!c)) H1
theorem pe_one {op} {t : TE} (h : PE X a t) : PE X (.BoolOp op [a] pos) t := fun pins s σ H Q I hw => BoolOp_one (h pins s σ H Q I hw)
theorem pe_and (ha : PE X a ta) (hb : PE X (.BoolOp .And (b :: rest) pos) tb) : PE X (.BoolOp .And (a :: b :: rest) pos) (tAndV ta tb) := by
  intro pins s σ H Q I h
  refine BoolOp_and (thn (ha pins s σ H _ I h) fun v s1 ⟨x, H1, I1, r1, q1⟩ => ?_)
  obtain ⟨c, rfl, q1⟩ := q1
  cases r1
  refine wpAny_truthy_bool ?_
  cases c with
  | true => exact hb pins s1 σ H1 Q I1 q1
  | false => exact ⟨.bl false, H1, I1, rfl, q1⟩
theorem pe_or (ha : PE X a ta) (hb : PE X (.BoolOp .Or (b :: rest) pos) tb) : PE X (.BoolOp .Or (a :: b :: rest) pos) (tOrV ta tb) := by
  intro pins s σ H Q I h
  refine BoolOp_or (thn (ha pins s σ H _ I h) fun v s1 ⟨x, H1, I1, r1, q1⟩ => ?_)
  obtain ⟨c, rfl, q1⟩ := q1
  cases r1
  refine wpAny_truthy_bool ?_
  cases c with
  | false => exact hb pins s1 σ H1 Q I1 q1
  | true => exact ⟨.bl true, H1, I1, rfl, q1⟩
theorem pe_not (ha : PE X a ta) : PE X (.UnaryOp .Not a pos) (tNotV ta) := by
  intro pins s σ H Q I h
  refine UnaryOp_ (thn (ha pins s σ H _ I h) fun v s1 ⟨x, H1, I1, r1, q1⟩ => ?_)
  obtain ⟨c, rfl, q1⟩ := q1
  cases r1
  exact not_of (wpAny_truthy_bool ⟨.bl (!c), H1, I1, rfl, q1⟩)
/-- a if t else b -/
def tIf (t : TT) (ta tb : TE) : TE := fun σ H Q => t σ H fun c H1 => if c = true then ta σ H1 Q else tb σ H1 Q
theorem pe_ifExp {c : Expr} (hc : PT X c tA) (ha : PE X a ta) (hb : PE X b tb) : PE X (.IfExp c a b pos) (tIf tA ta tb) := by
  intro pins s σ H Q I h
  refine wpAny_IfExp (thn (hc pins s σ H _ I h) fun d s1 ⟨H1, I1, q1⟩ => ?_)
  cases d with
  | true => exact ha pins s1 σ H1 Q I1 q1
  | false => exact hb pins s1 σ H1 Q I1 q1
end
end L2

namespace L2
open PySem PySem.Spec PyProof.Rows

/-! ### a list, a tuple that is read: tracked, frozen, or an object of the module -/
def SqL (K : PySem.W.Frag) (H : Hp) (a : Addr) (xs : List V) : Prop :=
  Rd H a (.lst xs) ∨
    ∃ (o : Obj) (its : Array Value) (n : Nat), K.lookup a = some o ∧ o.cls = .type "list" ∧ o.dict = none ∧ o.data = .seq its n ∧ its.size ≤ sizeLine ∧ Vals xs its.toList
def SqT (K : PySem.W.Frag) (H : Hp) (a : Addr) (xs : List V) : Prop :=
  Rd H a (.tup xs) ∨
    ∃ (o : Obj) (its : Array Value) (n : Nat), K.lookup a = some o ∧ o.cls = .type "tuple" ∧ o.data = .seq its n ∧ its.size ≤ sizeLine ∧ Vals xs its.toList
def absV : Value → Option V
  | .none => some .non
  | .bool b => some (.bl b)
  | .int i _ => some (.int i)
  | .str x _ => some (.str x)
  | .bytes b _ => some (.byt b)
  | .float b _ => some (.flt b)
  | .ref a => some (.ref a)
  | .type n => some (.ty n)
  | _ => none
theorem RelV.abs {x : V} {u : Value} (r : RelV x u) : absV u = some x := by
  cases x with
  | non => cases r; rfl
  | bl _ => cases r; rfl
  | int _ => obtain ⟨t, rfl⟩ := r; rfl
  | str _ => obtain ⟨t, rfl⟩ := r; rfl
  | byt _ => obtain ⟨t, rfl⟩ := r; rfl
  | flt _ => obtain ⟨t, rfl⟩ := r; rfl
  | ref _ => cases r; rfl
  | ty _ => cases r; rfl
theorem RelV.inj {x y : V} {u : Value} (r : RelV x u) (q : RelV y u) : x = y := Option.some.inj (r.abs.symm.trans q.abs)
theorem Vals.inj : ∀ {xs ys : List V} {us : List Value}, Vals xs us → Vals ys us → xs = ys
  | _, _, _, .nil, .nil => rfl
  | _, _, _, .cons r t, .cons r' t' => by rw [r.inj r', Vals.inj t t']
section
variable {X : Cx} {pins : List (Addr × Obj)} {σ : St} {H : Hp} {s : Shared} {a : Addr} {xs ys : List V}
theorem SqL.of {K : PySem.W.Frag} (h : H a = some (.lst xs)) : SqL K H a xs := .inl (.inl h)
theorem SqT.of {K : PySem.W.Frag} (h : H a = some (.tup xs)) : SqT K H a xs := .inl (.inl h)
theorem Inv.list (I : Inv X pins σ H s) (h : SqL X.K H a xs) : ∃ its : List Value, Vals xs its ∧ PlainL s.heap a its.toArray ∧ xs.length ≤ sizeLine := by
  rcases h with h | ⟨o, its, n, hk, hc, hd, hs, hz, r⟩
  · obtain ⟨z, its, n, r, e⟩ := h.ok I.hok
    exact ⟨its, r, ⟨_, n, e, rfl, rfl, rfl⟩, z⟩
  · refine ⟨its.toList, r, ⟨o, n, I.kIn a o hk, hc, hd, by simpa using hs⟩, ?_⟩
    have e := r.length
    simp only [Array.length_toList] at e
    omega
theorem Inv.tuple (I : Inv X pins σ H s) (h : SqT X.K H a xs) : ∃ its : List Value, Vals xs its ∧ IsTup s.heap a its.toArray ∧ xs.length ≤ sizeLine := by
  rcases h with h | ⟨o, its, n, hk, hc, hs, hz, r⟩
  · obtain ⟨z, its, r, p⟩ := h.ok I.hok
    exact ⟨its, r, p, z⟩
  · refine ⟨its.toList, r, ⟨o, I.kIn a o hk, hc, n, by simpa using hs⟩, ?_⟩
    have e := r.length
    simp only [Array.length_toList] at e
    omega
theorem Inv.list_inj (I : Inv X pins σ H s) (h : SqL X.K H a xs) (h' : SqL X.K H a ys) : xs = ys := by
  obtain ⟨its, r, ⟨o, n, e, _, _, d⟩, _⟩ := I.list h
  obtain ⟨its', r', ⟨o', n', e', _, _, d'⟩, _⟩ := I.list h'
  rw [e] at e'; cases e'
  rw [d] at d'
  injection d' with d1 _
  have : its = its' := by simpa using congrArg Array.toList d1
  subst this
  exact r.inj r'
theorem Inv.tuple_inj (I : Inv X pins σ H s) (h : SqT X.K H a xs) (h' : SqT X.K H a ys) : xs = ys := by
  obtain ⟨its, r, ⟨o, e, _, n, d⟩, _⟩ := I.tuple h
  obtain ⟨its', r', ⟨o', e', _, n', d'⟩, _⟩ := I.tuple h'
  rw [e] at e'; cases e'
  rw [d] at d'
  injection d' with d1 _
  have : its = its' := by simpa using congrArg Array.toList d1
  subst this
  exact r.inj r'
end

/-! ### another wish about exceptions -/
abbrev Cx.wish (X : Cx) (E : Value → Shared → Prop) : Cx := { X with xe := E }
/-- no exception leaves -/
abbrev Cx.nox (X : Cx) : Cx := X.wish fun _ _ => False
theorem Cx.Ok.wish {X : Cx} (ok : X.Ok) (E : Value → Shared → Prop) : (X.wish E).Ok :=
  ⟨ok.mod, ok.kind, ok.glob, ok.blt, ok.above, ok.inj, ok.has, ok.cab, ok.hd, ok.frames, ok.stk, ok.exf, ok.bs, ok.bsz, ok.noex, ok.exfs, ok.funs, ok.frf⟩
theorem Cx.Ok.unwish {X : Cx} {E : Value → Shared → Prop} (ok : (X.wish E).Ok) : X.Ok :=
  ⟨ok.mod, ok.kind, ok.glob, ok.blt, ok.above, ok.inj, ok.has, ok.cab, ok.hd, ok.frames, ok.stk, ok.exf, ok.bs, ok.bsz, ok.noex, ok.exfs, ok.funs, ok.frf⟩
section
variable {X : Cx} {pins : List (Addr × Obj)} {σ : St} {H : Hp} {s : Shared} {E : Value → Shared → Prop}
theorem Inv.wish (I : Inv X pins σ H s) (E : Value → Shared → Prop) : Inv (X.wish E) pins σ H s := ⟨I.ok.wish E, I.os, I.bare, I.base, I.loc, I.cell, I.free, I.freeC, I.pin, I.hok, I.len⟩
theorem Inv.unwish (I : Inv (X.wish E) pins σ H s) : Inv X pins σ H s := ⟨I.ok.unwish, I.os, I.bare, I.base, I.loc, I.cell, I.free, I.freeC, I.pin, I.hok, I.len⟩
theorem SP.unwish {D : Ends} {f : Flow} {s' : Shared} (h : SP (X.wish E) pins D f s') : SP X pins D f s' := by
  cases f with
  | next => obtain ⟨σ', H', I, q⟩ := h; exact ⟨σ', H', I.unwish, q⟩
  | brk => obtain ⟨σ', H', I, q⟩ := h; exact ⟨σ', H', I.unwish, q⟩
  | cont => obtain ⟨σ', H', I, q⟩ := h; exact ⟨σ', H', I.unwish, q⟩
  | ret u => obtain ⟨v, σ', H', I, r, q⟩ := h; exact ⟨v, σ', H', I.unwish, r, q⟩
theorem PE.nox {e : Expr} {t : TE} (h : PE X.nox e t) : PE X e t := fun pins s σ H Q I hw =>
  wpAny_mono (h pins s σ H Q (I.wish _) hw) (fun _ _ ⟨v, H', I', r, q⟩ => ⟨v, H', I'.unwish, r, q⟩) fun _ _ z => False.elim z
theorem PT.nox {e : Expr} {t : TT} (h : PT X.nox e t) : PT X e t := fun pins s σ H Q I hw =>
  wpAny_mono (h pins s σ H Q (I.wish _) hw) (fun _ _ ⟨H', I', q⟩ => ⟨H', I'.unwish, q⟩) fun _ _ z => False.elim z
theorem PSs.nox {st : List Stmt} {t : TS} (h : PSs X.nox st t) : PSs X st t := fun pins s σ H D I hw =>
  wpAny_mono (h pins s σ H D (I.wish _) hw) (fun _ _ q => q.unwish) fun _ _ z => False.elim z
end

/-! ### blocks and small statements -/
section
variable {X : Cx} {st : Stmt} {rest : List Stmt} {t u : TS} {e : Expr} {te : TE} {pos : Pos}
def tNext : TS := fun D σ H => D.nx σ H
def tSeq (t u : TS) : TS := fun D σ H => t { D with nx := u D } σ H
theorem pss_nil : PSs X [] tNext := fun _ _ σ H _ I h => wpAny_execs_nil ⟨σ, H, I, h⟩
theorem pss_cons (h1 : PS X st t) (h2 : PSs X rest u) : PSs X (st :: rest) (tSeq t u) := by
  intro pins s σ H D I h
  refine wpAny_execs_cons (thn (h1 pins s σ H { D with nx := u D } I h) fun f s1 q => ?_)
  cases f with
  | next =>
    obtain ⟨σ', H', I', q⟩ := q
    exact h2 pins s1 σ' H' D I' q
  | ret v => exact q
  | brk => exact q
  | cont => exact q
theorem pss_one (h1 : PS X st t) : PSs X [st] t := by
  intro pins s σ H D I h
  refine wpAny_execs_cons (thn (h1 pins s σ H D I h) fun f s1 q => ?_)
  cases f with
  | next => exact wpAny_execs_nil q
  | ret v => exact q
  | brk => exact q
  | cont => exact q
def tBreak : TS := fun D σ H => D.bk σ H
def tCont : TS := fun D σ H => D.ct σ H
theorem ps_pass : PS X (.Pass pos) tNext := fun _ _ σ H _ I h => wpAny_Pass ⟨σ, H, I, h⟩
theorem ps_break : PS X (.Break pos) tBreak := fun _ _ σ H _ I h => wpAny_Break ⟨σ, H, I, h⟩
theorem ps_continue : PS X (.Continue pos) tCont := fun _ _ σ H _ I h => wpAny_Continue ⟨σ, H, I, h⟩
/-- in a def's body nothing is shown -/
theorem Inv.quiet {pins : List (Addr × Obj)} {σ : St} {H : Hp} {s : Shared} (I : Inv X pins σ H s) : interactive X.env = false := by simp [interactive, I.ok.kind]
/-- a docstring -/
theorem ps_doc {x j pos pos'} : PS X (.Expr (.Constant (.str x) j pos) pos') tNext := fun _ s σ H _ I h => wpAny_Expr (Calls.Constant_str (show SP X _ _ .next { s with toks := s.toks + 1 } from ⟨σ, H, I.tok _, h⟩)) I.quiet
/-- an expression whose value is dropped -/
def tDrop (te : TE) : TS := fun D σ H => te σ H fun _ H1 => D.nx σ H1
theorem ps_expr (he : PE X e te) (hs : swapsWith e none pos.line X.env = pure false := by rfl) : PS X (.Expr e pos) (tDrop te) := by
  intro pins s σ H D I h
  exact wpAny_Expr_any (thn (he pins s σ H _ I h) fun v s1 ⟨x, H1, I1, r1, q1⟩ => ⟨σ, H1, I1, q1⟩) I.quiet hs
def tRet (te : TE) : TS := fun D σ H => te σ H D.rt
theorem ps_ret (he : PE X e te) : PS X (.Return (some e) pos) (tRet te) := by
  intro pins s σ H D I h
  exact wpAny_Return_some (thn (he pins s σ H _ I h) fun v s1 ⟨x, H1, I1, r1, q1⟩ => ⟨x, σ, H1, I1, r1, q1⟩)
def tRetN : TS := fun D _ H => D.rt .non H
theorem ps_retN : PS X (.Return none pos) tRetN := fun _ _ σ H _ I h => wpAny_Return_none ⟨.non, σ, H, I, rfl, h⟩
def tIfS (c : TT) (t u : TS) : TS := fun D σ H => c σ H fun b H1 => if b = true then t D σ H1 else u D σ H1
theorem ps_if {c : Expr} {a b : List Stmt} {tc : TT} (hc : PT X c tc) (ha : PSs X a t) (hb : PSs X b u) : PS X (.If c a b pos) (tIfS tc t u) := by
  intro pins s σ H D I h
  refine wpAny_If (thn (hc pins s σ H _ I h) fun d s1 ⟨H1, I1, q1⟩ => ?_)
  cases d with
  | true => exact ha pins s1 σ H1 D I1 q1
  | false => exact hb pins s1 σ H1 D I1 q1
/-- code that the proof never comes to -/
def tNever : TS := fun _ _ _ => False
theorem ps_never : PS X st tNever := fun _ _ _ _ _ _ h => h.elim
theorem pss_never {sts : List Stmt} : PSs X sts tNever := fun _ _ _ _ _ _ h => h.elim
end

/-! ### targets -/
abbrev TG := V → St → Hp → (St → Hp → Prop) → Prop
abbrev TGs := List V → St → Hp → (St → Hp → Prop) → Prop
def PG (X : Cx) (target : Expr) (t : TG) : Prop :=
  ∀ (pins : List (Addr × Obj)) (s : Shared) (σ : St) (H : Hp) (v : V) (u : Value) (Q : St → Hp → Prop), Inv X pins σ H s → RelV v u → t v σ H Q →
    wpAny (model X.prog X.w) X.A (assign target X.env u) (fun _ s' => ∃ σ' H', Inv X pins σ' H' s' ∧ Q σ' H') X.xe s
/-- several targets, one after another -/
def PGs (X : Cx) (ts : List Expr) (t : TGs) : Prop :=
  ∀ (pins : List (Addr × Obj)) (s : Shared) (σ : St) (H : Hp) (vs : List V) (us : List Value) (Q : St → Hp → Prop), Inv X pins σ H s → Vals vs us → t vs σ H Q →
    wpAny (model X.prog X.w) X.A (assignInOrder ((assignEach ts X.env).map (·.2)) us) (fun _ s' => ∃ σ' H', Inv X pins σ' H' s' ∧ Q σ' H') X.xe s
/-- o[i] = v, by values -/
abbrev TSet := V → V → V → Hp → (Hp → Prop) → Prop
def PSet (X : Cx) (t : TSet) : Prop :=
  ∀ (pins : List (Addr × Obj)) (s : Shared) (σ : St) (H : Hp) (o i v : V) (ov iv u : Value) (Q : Hp → Prop), Inv X pins σ H s → RelV o ov → RelV i iv → RelV v u → t o i v H Q →
    wpAny (model X.prog X.w) X.A (setItem ov iv u) (fun _ s' => ∃ H', Inv X pins σ H' s' ∧ Q H') X.xe s
/-- a op= b, by values -/
abbrev TIp := V → V → Hp → VK → Prop
def PIp (X : Cx) (op : Operator) (t : TIp) : Prop :=
  ∀ (pins : List (Addr × Obj)) (s : Shared) (σ : St) (H : Hp) (x y : V) (v u : Value) (Q : VK), Inv X pins σ H s → RelV x v → RelV y u → t x y H Q →
    wpAny (model X.prog X.w) X.A (inplaceOp op v u) (EP X pins σ Q) X.xe s
section
variable {X : Cx} {pos : Pos}
def gName (i : Nat) : TG := fun v σ H Q => Q (σ.set i (some v)) H
theorem pg_name {i : Nat} {x : Str} (hN : X.N.Nodup) (hi : X.N[i]? = some x) (hx : Loc X.env.scope x) (hf : X.fn x = true ∨ X.env.scope.names.lookup x = some .local := by first | exact .inl rfl | exact .inr rfl | assumption) : PG X (.Name x pos) (gName i) := by
  intro pins s σ H v u Q I r h
  exact wpAny_assign_Name (store_ok I hN hi hx r (fun s' I' => ⟨_, H, I', h⟩) hf)
def gNil : TGs := fun vs σ H Q => vs = [] ∧ Q σ H
def gCons (t : TG) (u : TGs) : TGs := fun vs σ H Q => ∃ v r, vs = v :: r ∧ t v σ H fun σ' H' => u r σ' H' Q
theorem pgs_nil : PGs X [] gNil := by
  intro pins s σ H vs us Q I r h
  obtain ⟨e, h⟩ := h
  subst e
  cases r
  exact assignInOrder_nil ⟨σ, H, I, h⟩
theorem pgs_cons {e : Expr} {es : List Expr} {t : TG} {u : TGs} (h1 : PG X e t) (h2 : PGs X es u)
    (hs : (assignEach (e :: es) X.env).map (·.2) = assign e X.env :: (assignEach es X.env).map (·.2) := by rfl) : PGs X (e :: es) (gCons t u) := by
  intro pins s σ H vs us Q I r h
  obtain ⟨v, vr, e1, h⟩ := h
  subst e1
  cases r with
  | cons r rr =>
    rw [hs]
    refine assignInOrder_cons (thn (h1 pins s σ H _ _ _ I r h) fun _ s1 ⟨σ1, H1, I1, q1⟩ => ?_)
    exact h2 pins s1 σ1 H1 _ _ Q I1 rr q1
/-- (a, b, ..) = a tuple of that length -/
def gTup (K : PySem.W.Frag) (n : Nat) (t : TGs) : TG := fun v σ H Q => ∃ a xs, v = .ref a ∧ SqT K H a xs ∧ xs.length = n ∧ t xs σ H Q
theorem pg_tup {es : List Expr} {k : Nat} {t : TGs} {n : Nat} (hc : X.calm = true) (h : PGs X es t)
    (hn : (assignEach es X.env).length = n := by rfl) (hst : (assignEach es X.env).findIdx? (·.1) = none := by rfl) : PG X (.Tuple es k pos) (gTup X.K n t) := by
  intro pins s σ H v u Q I r hw
  obtain ⟨a, xs, e1, hq, hl, hw⟩ := hw
  subst e1
  cases r
  obtain ⟨its, rv, ht, hz⟩ := I.tuple hq
  refine assign_Tuple_tuple (I.ok.hd hc) ht (by simp [hn, ← hl, rv.length]) hst fun h' hx => ?_
  have I1 : Inv X pins σ H { s with heap := h' } := I.kept (t' := s.toks) fun b o e => hx b o (Nat.ne_of_lt (Heap.lt_size e)) e
  exact h pins _ σ H xs _ Q I1 (by simpa using rv) hw
/-- o[i] = .. -/
def gSub (to ti : TE) (t : TSet) : TG := fun v σ H Q => to σ H fun o H1 => ti σ H1 fun i H2 => t o i v H2 fun H3 => Q σ H3
theorem pg_sub {o i : Expr} {to ti : TE} {t : TSet} (ho : PE X o to) (hi : PE X i ti) (hs : PSet X t)
    (ha : ∀ v, assign (.Subscript o i pos) X.env v = (do
      let ov ← holding [v] (eval o X.env)
      let iv ← holding [v, ov] (eval i X.env)
      standAt pos
      holding [v, ov, iv] (setItem ov iv v)
      release [v, ov, iv] []) := by intro _; rfl) : PG X (.Subscript o i pos) (gSub to ti t) := by
  intro pins s σ H v u Q I r h
  rw [ha]
  refine wpAny_bind (wpAny_holding (thn (ho pins s σ H _ I h) fun ov s1 ⟨x, H1, I1, r1, q1⟩ => ?_))
  refine wpAny_bind (wpAny_holding (thn (hi pins s1 σ H1 _ I1 q1) fun iv s2 ⟨y, H2, I2, r2, q2⟩ => ?_))
  refine wpAny_bind (wpAny_standAt (wpAny_bind (wpAny_holding (thn (hs pins s2 σ H2 x y v ov iv u _ I2 r1 r2 r q2) fun _ s3 ⟨H3, I3, q3⟩ => ?_))))
  exact wpAny_release ⟨σ, H3, I3, q3⟩
/-- target = value -/
def tAsg (te : TE) (g : TG) : TS := fun D σ H => te σ H fun x H1 => g x σ H1 D.nx
theorem ps_asg {tg e : Expr} {te : TE} {g : TG} (he : PE X e te) (hg : PG X tg g) (hs : swapsWithSole [tg] e pos.line X.env = pure false := by rfl) (hw : swappedStores [tg] e X.env = pure none := by rfl)
    (h1 : (assignEach [tg] X.env).map (·.2) = [assign tg X.env] := by rfl) : PS X (.Assign [tg] e pos) (tAsg te g) := by
  intro pins s σ H D I h
  refine wpAny_Assign_stores (thn (he pins s σ H _ I h) fun v s1 ⟨x, H1, I1, r1, q1⟩ => ?_) hs hw
  rw [h1]
  exact thn (hg pins s1 σ H1 x v _ I1 r1 q1) fun _ s2 q => q
/-- name = value -/
theorem ps_set {i : Nat} {x : Str} {e : Expr} {te : TE} {pos' : Pos} (hN : X.N.Nodup) (hi : X.N[i]? = some x) (hx : Loc X.env.scope x) (he : PE X e te) (hs : swapsWith e (some (.Name x pos')) pos.line X.env = pure false := by rfl) (hf : X.fn x = true ∨ X.env.scope.names.lookup x = some .local := by first | exact .inl rfl | exact .inr rfl | assumption) :
    PS X (.Assign [.Name x pos'] e pos) (tAsg te (gName i)) := by
  intro pins s σ H D I h
  refine wpAny_Assign_Name (thn (he pins s σ H _ I h) fun v s1 ⟨y, H1, I1, r1, q1⟩ => ?_) hs
  exact store_ok I1 hN hi hx r1 (fun s2 I2 => ⟨_, H1, I2, q1⟩) hf
/-- a, b = x, y with plain local names: stored from the right; the pair itself is not tracked (the opening rows as in PyProof/Rows/TupAssign.lean:23) -/
def tPar (i j : Nat) (ta : TA) : TS := fun D σ H => ta σ H fun vs H1 => ∃ v w, vs = [v, w] ∧ D.nx ((σ.set i (some v)).set j (some w)) H1
theorem ps_par {i j : Nat} {x y : Str} {a b : Expr} {ta : TA} {px py pt : Pos} {kt k2 pt2} (hc : X.calm = true) (hN : X.N.Nodup) (hi : X.N[i]? = some x) (hj : X.N[j]? = some y) (hij : i ≠ j)
    (hx : X.env.scope.names.lookup x = some .local) (hy : X.env.scope.names.lookup y = some .local) (ha : PA X [a, b] ta)
    (hw : swappedStores [.Tuple [.Name x px, .Name y py] kt pt] (.Tuple [a, b] k2 pt2) X.env = pure (some [x, y]))
    (hs : swapsWithSole [.Tuple [.Name x px, .Name y py] kt pt] (.Tuple [a, b] k2 pt2) pos.line X.env = pure false := by rfl) :
    PS X (.Assign [.Tuple [.Name x px, .Name y py] kt pt] (.Tuple [a, b] k2 pt2) pos) (tPar i j ta) := by
  intro pins s σ H D I h
  rw [exec_Assign_arm]
  refine wpAny_bind (wpAny_standAt ?_)
  rw [hs]
  refine wpAny_bind (wpAny_pure ?_)
  rw [if_neg (by decide)]
  refine wpAny_bind (Tuple_ (thn (ha _ pins s σ H _ I h) fun us s1 ⟨vs, H1, I1, r1, q1⟩ => ?_))
  obtain ⟨v, w, e1, q1⟩ := q1
  subst e1
  obtain ⟨u1, u2, rfl, rv, rw'⟩ : ∃ u1 u2, us = [u1, u2] ∧ RelV v u1 ∧ RelV w u2 := by
    cases r1 with
    | cons p q =>
      cases q with
      | cons p' q' =>
        cases q'
        exact ⟨_, _, rfl, p, p'⟩
  refine wpAny_newObj_type ?_ (by show 2 ≤ sizeLine; decide)
  have I2 : Inv X pins σ H1 { s1 with heap := s1.heap.push { cls := .type "tuple", data := .seq [u1, u2].toArray } } := I1.kept (t' := s1.toks) fun b o e => Heap.get?_push_of_some _ e
  rw [hw]
  refine wpAny_bind (wpAny_pure ?_)
  show wpAny (model X.prog X.w) X.A (do rule "assign.swapped-stores"; let items ← unpackItems (.ref s1.heap.objs.size) 2 none; assignInOrder [fun v => bindName X.env y v, fun v => bindName X.env x v] items.reverse; pure Flow.next) _ _ _
  refine wpAny_bind (wpAny_rule (wpAny_bind (unpackItems_tuple (items := #[u1, u2]) (I.ok.hd hc) (IsTup.new s1.heap _) fun h' hx' => ?_)))
  have I3 := I2.kept (h' := h') (t' := s1.toks) fun b o e => hx' b o (Nat.ne_of_lt (Heap.lt_size e)) e
  show wpAny _ _ (assignInOrder [fun v => bindName X.env y v, fun v => bindName X.env x v] [u2, u1] >>= fun _ => pure Flow.next) _ _ _
  refine wpAny_bind (assignInOrder_cons (wpAny_bindName (store_ok I3 hN hj (.inl hy) rw' (fun s2 I4 => ?_) (.inr hy))))
  refine assignInOrder_cons (wpAny_bindName (store_ok I4 hN hi (.inl hx) rv (fun s3 I5 => assignInOrder_nil (wpAny_pure ?_)) (.inr hx)))
  rw [List.set_comm _ _ (Ne.symm hij)] at I5
  exact ⟨_, H1, I5, q1⟩
/-- name op= e -/
def tAug (i : Nat) (te : TE) (ti : TIp) : TS := fun D σ H => ∃ x, σ[i]? = some (some x) ∧ te σ H fun y H1 => ti x y H1 fun z H2 => D.nx (σ.set i (some z)) H2
theorem ps_aug {i : Nat} {x : Str} {e : Expr} {te : TE} {op : Operator} {ti : TIp} {pos' : Pos} (hN : X.N.Nodup) (hi : X.N[i]? = some x) (hx : Loc X.env.scope x) (he : PE X e te) (ho : PIp X op ti) (hf : X.fn x = true ∨ X.env.scope.names.lookup x = some .local := by first | exact .inl rfl | exact .inr rfl | assumption) :
    PS X (.AugAssign (.Name x pos') op e pos) (tAug i te ti) := by
  intro pins s σ H D I h
  obtain ⟨v, e1, h⟩ := h
  obtain ⟨m, hn, hl⟩ := I.loc
  have vis : Vis X.env.scope x := by rcases hx with k | k; exact .inl k; exact .inr (.inl k)
  obtain ⟨u, r, l⟩ := hl i x v hi e1 vis
  refine wpAny_AugAssign_Name ?_
  have go : wpAny (model X.prog X.w) X.A (eval e X.env) (fun w s₂ => wpAny (model X.prog X.w) X.A (inplaceOp op u w) (fun r s₃ => wpAny (model X.prog X.w) X.A (storeName X.env x r) (fun _ => SP X pins D .next) X.xe s₃) X.xe s₂) X.xe s := by
    refine thn (he pins s σ H _ I h) fun w s1 ⟨y, H1, I1, r1, q1⟩ => ?_
    refine thn (ho pins s1 σ H1 v y u w _ I1 r r1 q1) fun z s2 ⟨zv, H2, I2, r2, q2⟩ => ?_
    exact store_ok I2 hN hi hx r2 (fun s3 I3 => ⟨_, H2, I3, q2⟩) hf
  rcases l with ⟨hk, hm⟩ | ⟨hk, c, hc, hcell⟩
  · exact wpAny_loadName_local I.ok.kind hk hn hm go
  · rcases hk with hk | hk
    · exact wpAny_loadName_cell I.ok.kind hk hc hcell go
    · rcases hx with k | k
      · have : X.env.scope.names.lookup x = some .free := hk
        rw [k] at this; cases this
      · have : X.env.scope.names.lookup x = some .free := hk
        rw [k] at this; cases this
/-- o[i] op= e -/
def tAugS (to ti te : TE) (tget : V → V → Hp → VK → Prop) (tip : TIp) (tset : TSet) : TS := fun D σ H => to σ H fun o H1 => ti σ H1 fun i H2 => tget o i H2 fun x H3 => te σ H3 fun y H4 => tip x y H4 fun z H5 => tset o i z H5 fun H6 => D.nx σ H6
/-- o[i], by values -/
def PGet (X : Cx) (t : V → V → Hp → VK → Prop) : Prop :=
  ∀ (pins : List (Addr × Obj)) (s : Shared) (σ : St) (H : Hp) (o i : V) (ov iv : Value) (Q : VK), Inv X pins σ H s → RelV o ov → RelV i iv → t o i H Q →
    wpAny (model X.prog X.w) X.A (getItem ov iv) (EP X pins σ Q) X.xe s
theorem ps_augS {o i e : Expr} {to ti te : TE} {tget : V → V → Hp → VK → Prop} {tip : TIp} {tset : TSet} {op : Operator} {tpos : Pos} (ho : PE X o to) (hi : PE X i ti) (hg : PGet X tget) (he : PE X e te) (hp : PIp X op tip) (hs : PSet X tset)
    (ha : ∀ ov iv new, augStore i ov iv new = (do holding [new, ov, iv] (setItem ov iv new); release [new, ov, iv] []; pure .next) := by intros; rfl) : PS X (.AugAssign (.Subscript o i tpos) op e pos) (tAugS to ti te tget tip tset) := by
  intro pins s σ H D I h
  refine wpAny_AugAssign_SubscriptAny (thn (ho pins s σ H _ I h) fun ov s1 ⟨x1, H1, I1, r1, q1⟩ => ?_) ha
  refine thn (hi pins s1 σ H1 _ I1 q1) fun iv s2 ⟨x2, H2, I2, r2, q2⟩ => ?_
  refine thn (hg pins s2 σ H2 x1 x2 ov iv _ I2 r1 r2 q2) fun old s3 ⟨x3, H3, I3, r3, q3⟩ => ?_
  refine thn (he pins s3 σ H3 _ I3 q3) fun v s4 ⟨x4, H4, I4, r4, q4⟩ => ?_
  refine thn (hp pins s4 σ H4 x3 x4 old v _ I4 r3 r4 q4) fun new s5 ⟨x5, H5, I5, r5, q5⟩ => ?_
  exact thn (hs pins s5 σ H5 x1 x2 x5 ov iv new _ I5 r1 r2 r5 q5) fun _ s6 ⟨H6, I6, q6⟩ => ⟨σ, H6, I6, q6⟩
/-- ints -/
def ipI (f : Int → Int → Int) : TIp := fun x y H Q => ∃ i j, x = .int i ∧ y = .int j ∧ Q (.int (f i j)) H
theorem ip_add : PIp X .Add (ipI fun i j => i + j) := by
  intro pins s σ H x y v u Q I r1 r2 h
  obtain ⟨i, j, e1, e2, q⟩ := h
  subst e1; subst e2
  obtain ⟨t, rfl⟩ := r1
  obtain ⟨t', rfl⟩ := r2
  exact iadd_int ⟨.int _, H, I.tok _, ⟨_, rfl⟩, q⟩
theorem ip_sub : PIp X .Sub (ipI fun i j => i - j) := by
  intro pins s σ H x y v u Q I r1 r2 h
  obtain ⟨i, j, e1, e2, q⟩ := h
  subst e1; subst e2
  obtain ⟨t, rfl⟩ := r1
  obtain ⟨t', rfl⟩ := r2
  exact isub_int ⟨.int _, H, I.tok _, ⟨_, rfl⟩, q⟩
end

/-! ### while -/
section
variable {X : Cx} {pos : Pos}
/-- the invariant W with its measure -/
def tWhile (c : TT) (tb : TS) : TS := fun D σ H => ∃ W : Nat → St → Hp → Prop, (∃ m, W m σ H) ∧ ∀ m σ H, W m σ H →
  c σ H fun b H1 => if b = true then ∃ N : St → Hp → Prop, (∀ σ' H', N σ' H' → ∃ m', m' < m ∧ W m' σ' H') ∧ tb { D with nx := N, ct := N, bk := D.nx } σ H1 else D.nx σ H1
theorem ps_while {c : Expr} {body : List Stmt} {tc : TT} {tb : TS} (hp : PassesOwn (model X.prog X.w) X.A X.env X.xe) (hc : PT X c tc) (hb : PSs X body tb) : PS X (.While c body [] pos) (tWhile tc tb) := by
  intro pins s σ H D I h
  obtain ⟨W, ⟨m0, w0⟩, turn⟩ := h
  refine wpAny_While (codeAny_whileLoop (fun n s' => ∃ σ' H', Inv X pins σ' H' s' ∧ W n σ' H') ?_ m0 ⟨σ, H, I, w0⟩)
  rintro n s1 ⟨σ1, H1, I1, w1⟩
  refine wpAny_passesOwn hp (thn (hc pins s1 σ1 H1 _ I1 (turn n σ1 H1 w1)) fun b s2 ⟨H2, I2, q2⟩ => ?_)
  cases b with
  | true =>
    obtain ⟨N, hN, q2⟩ := q2
    rw [if_pos rfl]
    refine wpAny_passesOwn hp (thn (hb pins s2 σ1 H2 _ I2 q2) fun f s3 q3 => ?_)
    cases f with
    | next =>
      obtain ⟨σ3, H3, I3, n3⟩ := q3
      obtain ⟨m', hm, w3⟩ := hN σ3 H3 n3
      exact ⟨m', hm, σ3, H3, I3, w3⟩
    | cont =>
      obtain ⟨σ3, H3, I3, n3⟩ := q3
      obtain ⟨m', hm, w3⟩ := hN σ3 H3 n3
      exact ⟨m', hm, σ3, H3, I3, w3⟩
    | brk => exact q3
    | ret v => exact q3
  | false =>
    rw [if_neg Bool.false_ne_true]
    exact wpAny_execs_nil ⟨σ1, H2, I2, q2⟩
end

/-! ### what a loop or a comprehension walks -/
/-- at turn i: it yields x (the heap may grow), or it stops -/
structure It where
  go : Nat → Hp → Prop
  yld : Nat → Hp → V → Hp → Prop
  stop : Nat → Hp → Prop
/-- the iterator's own objects may turn: they are not the frame's, not pinned, younger than the entry (or a comprehension's own) -/
def FpOk (X : Cx) (pins : List (Addr × Obj)) (H : Hp) (b : Addr) : Prop :=
  H b = none ∧ b ≠ X.env.locals ∧ b ∉ X.fs ∧ (b ∈ X.ex ∨ X.s₀.heap.objs.size ≤ b) ∧ (∀ x c, X.env.cells.lookup x = some c → c ≠ b) ∧ ∀ p ∈ X.pn ++ pins, p.1 ≠ b
theorem Inv.fpOk {X : Cx} {pins : List (Addr × Obj)} {σ : St} {H H' : Hp} {s : Shared} {b : Addr} (I : Inv X pins σ H s) (hb : s.heap.objs.size ≤ b) (hn : H' b = none) : FpOk X pins H' b := by
  refine ⟨hn, Nat.ne_of_gt (Nat.lt_of_lt_of_le I.lt hb), I.nofs hb, .inr (Nat.le_trans I.sz hb), fun x c e z => ?_, fun p hp z => ?_⟩
  · obtain ⟨v, q⟩ := I.cell x c e
    exact absurd (Nat.lt_of_lt_of_le q.lt (by rw [z]; exact hb)) (Nat.lt_irrefl _)
  · exact absurd (Nat.lt_of_lt_of_le (Heap.lt_size (I.pin p hp).1) (by rw [z]; exact hb)) (Nat.lt_irrefl _)
structure Turn (P : Program) (w : World) (K : PySem.W.Frag) (tg : Expr) (J : It) (fp : List Addr) (it : Addr) (tn : Nat → Heap → Prop) : Prop where
  mem : it ∈ fp
  obj : ∀ i h, tn i h → ∀ b ∈ fp, ∃ o, h.get? b = some o ∧ ∀ v, o.data ≠ .cell v
  keep : ∀ i h h', tn i h → (∀ b ∈ fp, ∀ o, h.get? b = some o → h'.get? b = some o) → tn i h'
  item : ∀ (X : Cx), X.prog = P → X.w = w → X.K = K → X.calm = true → ∀ (i : Nat) (pins : List (Addr × Obj)) (s : Shared) (σ : St) (H : Hp) (E : Value → Shared → Prop), Inv X pins σ H s → (∀ b ∈ fp, FpOk X pins H b) → tn i s.heap → J.go i H →
    wpAny (model P w) X.A (pyNext (.ref it)) (fun r s1 => ∃ u, r = some u ∧
      wpAny (model P w) X.A (letOwnedTupleGo tg (.ref it) u) (fun _ s2 => ∃ x H', Inv X pins σ H' s2 ∧ RelV x u ∧ J.yld i H x H' ∧ tn (i + 1) s2.heap ∧ ∀ b ∈ fp, H' b = none) E s1) E s
  done : ∀ (X : Cx), X.prog = P → X.w = w → X.K = K → X.calm = true → ∀ (i : Nat) (pins : List (Addr × Obj)) (s : Shared) (σ : St) (H : Hp) (E : Value → Shared → Prop), Inv X pins σ H s → (∀ b ∈ fp, FpOk X pins H b) → tn i s.heap → J.stop i H →
    wpAny (model P w) X.A (pyNext (.ref it)) (fun r s1 => r = none ∧ Inv X pins σ H s1) E s
  self : ∀ (A : Around) (i : Nat) (s : Shared) (Q : Value → Shared → Prop) (E : Value → Shared → Prop), tn i s.heap → Q (.ref it) s → wpAny (model P w) A (pyIter (.ref it)) Q E s
abbrev TI := St → Hp → (It → Hp → Prop) → Prop
/-- an iterator has come -/
def PIE (X : Cx) (pins : List (Addr × Obj)) (σ : St) (tg : Expr) (R : It → Hp → Prop) (itv : Value) (s2 : Shared) : Prop :=
  ∃ (it : Addr) (fp : List Addr) (tn : Nat → Heap → Prop) (J : It) (H' : Hp), itv = .ref it ∧ Inv X pins σ H' s2 ∧ Turn X.prog X.w X.K tg J fp it tn ∧ tn 0 s2.heap ∧ (∀ b ∈ fp, FpOk X pins H' b) ∧ R J H'
def PI (X : Cx) (tg iter : Expr) (wi : TI) : Prop :=
  ∀ (pins : List (Addr × Obj)) (s : Shared) (σ : St) (H : Hp) (R : It → Hp → Prop), Inv X pins σ H s → wi σ H R →
    wpAny (model X.prog X.w) X.A (eval iter X.env) (fun v s1 => wpAny (model X.prog X.w) X.A (pyIter v) (PIE X pins σ tg R) X.xe s1) X.xe s

/-- the step ahead of the store is nothing for an iterator that keeps no tuple -/
theorem go_of {M : Model} {A : Around} {E : Value → Shared → Prop} {s : Shared} {tg : Expr} {it : Addr} {u : Value} {o : Obj} {n : String} {vs : Array Value} {Q : Unit → Shared → Prop} (ho : s.heap.get? it = some o) (hc : o.cls = .type n) (hd : o.data = .fields vs)
    (hn : ["enumerate", "zip", "dict_itemiterator", "dict_reverseitemiterator", "odict_iterator", "itertools.zip_longest", "itertools.pairwise"].contains n = false) (hQ : Q () s) : wpAny M A (letOwnedTupleGo tg (.ref it) u) Q E s := by
  unfold letOwnedTupleGo
  cases tg <;> first
    | exact wpAny_pure hQ
    | (cases u <;> first
        | exact wpAny_pure hQ
        | (refine wpAny_bind (wpAny_load ho ?_)
           rw [hc, hd]
           show wpAny M A (if (["enumerate", "zip", "dict_itemiterator", "dict_reverseitemiterator", "odict_iterator", "itertools.zip_longest", "itertools.pairwise"].contains n && vs[0]? == some (rawInt _)) = true then _ else _) Q E s
           rw [if_neg (by intro h; rw [hn, Bool.false_and] at h; cases h)]
           exact wpAny_pure hQ))

/-- the list at a, as it stands at each turn (a loop may append to it) -/
def Itl (K : PySem.W.Frag) (a : Addr) : It :=
  ⟨fun i H => ∃ xs x, SqL K H a xs ∧ xs[i]? = some x, fun i H x H' => H' = H ∧ ∀ xs, SqL K H a xs → xs[i]? = some x, fun i H => ∃ xs, SqL K H a xs ∧ xs.length ≤ i⟩
def Itt (K : PySem.W.Frag) (a : Addr) : It :=
  ⟨fun i H => ∃ xs x, SqT K H a xs ∧ xs[i]? = some x, fun i H x H' => H' = H ∧ ∀ xs, SqT K H a xs → xs[i]? = some x, fun i H => ∃ xs, SqT K H a xs ∧ xs.length ≤ i⟩
/-- lo, lo + 1, .. (n of them) -/
def Itr (lo : Int) (n : Nat) : It := ⟨fun i _ => i < n, fun i H x H' => H' = H ∧ x = .int (lo + i), fun i _ => n ≤ i⟩
theorem turn_list {P : Program} {w : World} {K : PySem.W.Frag} {tg : Expr} (a it : Addr) : Turn P w K tg (Itl K a) [it] it (fun i h => h.IsListIter it a i) where
  mem := by simp
  obj := fun i h st b hb => by
    have e : b = it := by simpa using hb
    subst e
    obtain ⟨o, e, c, d⟩ := st
    exact ⟨o, e, fun v z => by rw [d] at z; cases z⟩
  keep := fun i h h' st k => st.at fun o e => k it (by simp) o e
  item := by
    intro X hP hw hK hc i pins s σ H E I hf st hg
    subst hP hw hK
    obtain ⟨xs, x, hq, hx⟩ := hg
    obtain ⟨its, rv, p, hz⟩ := I.list hq
    obtain ⟨u, hu, ru⟩ := rv.get hx
    obtain ⟨f0, f1, f2, f3, f4, f5⟩ := hf it (by simp)
    refine wpAny_pyNext_list_item st p.isList (x := u) (by simpa using hu) fun h' st' sb => ?_
    have I1 : Inv X pins σ H { s with heap := h' } := I.turned (t' := s.toks) (fun b o hb e => (sb.2 b hb).trans e) f0 f1 f3 f4 f5
    obtain ⟨o, e, c, d⟩ := id st'
    exact ⟨u, rfl, go_of (s := { s with heap := h' }) e c d (by decide) ⟨x, H, I1, ru, ⟨rfl, fun ys hy => by rw [I.list_inj hy hq]; exact hx⟩, st', fun b hb => (hf b hb).1⟩⟩
  done := by
    intro X hP hw hK hc i pins s σ H E I hf st hg
    subst hP hw hK
    obtain ⟨xs, hq, hx⟩ := hg
    obtain ⟨its, rv, p, hz⟩ := I.list hq
    obtain ⟨f0, f1, f2, f3, f4, f5⟩ := hf it (by simp)
    have hl := rv.length
    exact wpAny_pyNext_list_end (I.ok.hd hc) st p.isList (by simp; omega) fun h' eb => ⟨rfl, I.turned (t' := s.toks) (fun b o hb e => eb b o hb e) f0 f1 f3 f4 f5⟩
  self := fun _ _ _ _ _ st h => wpAny_pyIter_listiter st h
theorem turn_tuple {P : Program} {w : World} {K : PySem.W.Frag} {tg : Expr} (a it : Addr) : Turn P w K tg (Itt K a) [it] it (fun i h => h.IsTupleIter it a i) where
  mem := by simp
  obj := fun i h st b hb => by
    have e : b = it := by simpa using hb
    subst e
    obtain ⟨o, e, c, d⟩ := st
    exact ⟨o, e, fun v z => by rw [d] at z; cases z⟩
  keep := fun i h h' st k => st.at fun o e => k it (by simp) o e
  item := by
    intro X hP hw hK hc i pins s σ H E I hf st hg
    subst hP hw hK
    obtain ⟨xs, x, hq, hx⟩ := hg
    obtain ⟨its, rv, p, hz⟩ := I.tuple hq
    obtain ⟨u, hu, ru⟩ := rv.get hx
    obtain ⟨f0, f1, f2, f3, f4, f5⟩ := hf it (by simp)
    refine wpAny_pyNext_tuple_item st (show s.heap.IsTuple a its.toArray from p) (x := u) (by simpa using hu) fun h' st' sb => ?_
    have I1 : Inv X pins σ H { s with heap := h' } := I.turned (t' := s.toks) (fun b o hb e => (sb.2 b hb).trans e) f0 f1 f3 f4 f5
    obtain ⟨o, e, c, d⟩ := id st'
    exact ⟨u, rfl, go_of (s := { s with heap := h' }) e c d (by decide) ⟨x, H, I1, ru, ⟨rfl, fun ys hy => by rw [I.tuple_inj hy hq]; exact hx⟩, st', fun b hb => (hf b hb).1⟩⟩
  done := by
    intro X hP hw hK hc i pins s σ H E I hf st hg
    subst hP hw hK
    obtain ⟨xs, hq, hx⟩ := hg
    obtain ⟨its, rv, p, hz⟩ := I.tuple hq
    obtain ⟨f0, f1, f2, f3, f4, f5⟩ := hf it (by simp)
    have hl := rv.length
    exact wpAny_pyNext_tuple_end (I.ok.hd hc) st (show s.heap.IsTuple a its.toArray from p) (by simp; omega) fun h' eb => ⟨rfl, I.turned (t' := s.toks) (fun b o hb e => eb b o hb e) f0 f1 f3 f4 f5⟩
  self := fun _ _ _ _ _ st h => wpAny_pyIter_tupleiter st h
theorem turn_range {P : Program} {w : World} {K : PySem.W.Frag} {tg : Expr} (it : Addr) (lo : Int) (n : Nat) : Turn P w K tg (Itr lo n) [it] it (fun i h => IsRangeIter h it (lo + (i : Nat) * 1) ((n : Int) - (i : Nat)) 1) where
  mem := by simp
  obj := fun i h st b hb => by
    have e : b = it := by simpa using hb
    subst e
    exact ⟨_, st, fun v z => by
      have z' : Data.fields _ = Data.cell v := z
      cases z'⟩
  keep := fun i h h' st k => k it (by simp) _ st
  item := by
    intro X hP hw hK hc i pins s σ H E I hf st hg
    subst hP hw hK
    obtain ⟨f0, f1, f2, f3, f4, f5⟩ := hf it (by simp)
    have W := Walks.range (prog := X.prog) (w := X.w) (I.ok.hd hc) it lo 1 n
    refine W.item i s _ _ hg st fun v h' tk hv st' kk => ?_
    obtain ⟨t, rfl⟩ := hv
    have I1 : Inv X pins σ H { s with heap := h', toks := tk } := I.turned (fun b o hb e => kk b o (by simpa using hb) e) f0 f1 f3 f4 f5
    refine ⟨_, rfl, go_of (s := { s with heap := h', toks := tk }) (n := "range_iterator") st' rfl rfl (by decide) ⟨.int (lo + i), H, I1, ⟨t, ?_⟩, ⟨rfl, rfl⟩, st', fun b hb => (hf b hb).1⟩⟩
    rw [Int.mul_one]
  done := by
    intro X hP hw hK hc i pins s σ H E I hf st hg
    subst hP hw hK
    obtain ⟨f0, f1, f2, f3, f4, f5⟩ := hf it (by simp)
    exact wpAny_pyNext_range_end (I.ok.hd hc) st (by have : n ≤ i := hg; omega) fun h' eb => ⟨rfl, I.turned (t' := s.toks) (fun b o hb e => eb b o hb e) f0 f1 f3 f4 f5⟩
  self := fun _ _ _ _ _ st h => wpAny_pyIter_rangeiter st h
end L2

namespace L2
open PySem PySem.Spec PyProof.Rows
section
variable {X : Cx} {tg : Expr}
def iList (K : PySem.W.Frag) (tl : TE) : TI := fun σ H R => tl σ H fun x H1 => ∃ a, x = .ref a ∧ (∃ xs, SqL K H1 a xs) ∧ R (Itl K a) H1
def iTup (K : PySem.W.Frag) (tl : TE) : TI := fun σ H R => tl σ H fun x H1 => ∃ a, x = .ref a ∧ (∃ xs, SqT K H1 a xs) ∧ R (Itt K a) H1
theorem pi_list {l : Expr} {tl : TE} (hl : PE X l tl) : PI X tg l (iList X.K tl) := by
  intro pins s σ H R I h
  refine thn (hl pins s σ H _ I h) fun v s1 ⟨x, H1, I1, r1, q1⟩ => ?_
  obtain ⟨a, e, ⟨xs, hq⟩, q⟩ := q1
  subst e
  cases r1
  obtain ⟨its, rv, p, hz⟩ := I1.list hq
  refine wpAny_pyIter_list p.isList ?_
  refine ⟨s1.heap.objs.size, [s1.heap.objs.size], _, _, H1, rfl, I1.kept (t' := s1.toks) fun b o e => Heap.get?_push_of_some _ e, turn_list a _, ⟨_, Heap.get?_push_size _ rfl, rfl, rfl⟩, fun b hb => ?_, q⟩
  have e : b = s1.heap.objs.size := by simpa using hb
  subst e
  exact I1.fpOk (Nat.le_refl _) (I1.hok.fresh (Nat.le_refl _))
theorem pi_tup {l : Expr} {tl : TE} (hl : PE X l tl) : PI X tg l (iTup X.K tl) := by
  intro pins s σ H R I h
  refine thn (hl pins s σ H _ I h) fun v s1 ⟨x, H1, I1, r1, q1⟩ => ?_
  obtain ⟨a, e, ⟨xs, hq⟩, q⟩ := q1
  subst e
  cases r1
  obtain ⟨its, rv, p, hz⟩ := I1.tuple hq
  refine wpAny_pyIter_tuple (show s1.heap.IsTuple a its.toArray from p) ?_
  refine ⟨s1.heap.objs.size, [s1.heap.objs.size], _, _, H1, rfl, I1.kept (t' := s1.toks) fun b o e => Heap.get?_push_of_some _ e, turn_tuple a _, ⟨_, Heap.get?_push_size _ rfl, rfl, rfl⟩, fun b hb => ?_, q⟩
  have e : b = s1.heap.objs.size := by simpa using hb
  subst e
  exact I1.fpOk (Nat.le_refl _) (I1.hok.fresh (Nat.le_refl _))
/-- a range object just made, walked -/
theorem range_it {pins : List (Addr × Obj)} {σ : St} {H : Hp} {s : Shared} {R : It → Hp → Prop} {E : Value → Shared → Prop} {lo hi : Int} {t u v : Tok} {tk : Nat} (I : Inv X pins σ H s) (h1 : -(2 ^ 62) ≤ lo) (h2 : lo < 2 ^ 62) (h3 : -(2 ^ 62) ≤ hi) (h4 : hi < 2 ^ 62)
    (q : R (Itr lo (hi - lo).toNat) H) : wpAny (model X.prog X.w) X.A (pyIter (.ref s.heap.objs.size)) (PIE X pins σ tg R) E { s with heap := s.heap.push { cls := .type "range", data := .fields #[.int lo t, .int hi u, .int 1 v] }, toks := tk } := by
  refine wpAny_pyIter_range (IsRange.new ..) (small_one h1 h2 h3 h4) ?_
  have I1 : Inv X pins σ H { s with heap := s.heap.push { cls := .type "range", data := .fields #[.int lo t, .int hi u, .int 1 v] }, toks := tk } := I.kept fun b o e => Heap.get?_push_of_some _ e
  refine ⟨(s.heap.push { cls := .type "range", data := .fields #[.int lo t, .int hi u, .int 1 v] }).objs.size, [(s.heap.push { cls := .type "range", data := .fields #[.int lo t, .int hi u, .int 1 v] }).objs.size], _, _, H, rfl,
    I1.kept (t' := tk) fun b o e => Heap.get?_push_of_some _ e, turn_range _ lo (hi - lo).toNat, ?_, fun b hb => ?_, q⟩
  · have e1 : lo + ((0 : Nat) : Int) * 1 = lo := by simp
    have e2 : (((hi - lo).toNat : Nat) : Int) - ((0 : Nat) : Int) = Builtin.Range.rangeSize lo hi 1 := by rw [rangeSize_one]; split <;> omega
    show IsRangeIter _ _ (lo + ((0 : Nat) : Int) * 1) ((((hi - lo).toNat : Nat) : Int) - ((0 : Nat) : Int)) 1
    rw [e1, e2]
    exact Heap.get?_push_size _ rfl
  · have e : b = (s.heap.push { cls := .type "range", data := .fields #[.int lo t, .int hi u, .int 1 v] }).objs.size := by simpa using hb
    subst e
    exact I1.fpOk (Nat.le_refl _) (I1.hok.fresh (Nat.le_refl _))
def iRng1 (ta : TA) : TI := fun σ H R => ta σ H fun vs H1 => ∃ j : Int, vs = [.int j] ∧ -(2 ^ 62) ≤ j ∧ j < 2 ^ 62 ∧ R (Itr 0 j.toNat) H1
def iRng2 (ta : TA) : TI := fun σ H R => ta σ H fun vs H1 => ∃ i j : Int, vs = [.int i, .int j] ∧ (-(2 ^ 62) ≤ i ∧ i < 2 ^ 62 ∧ -(2 ^ 62) ≤ j ∧ j < 2 ^ 62) ∧ R (Itr i (j - i).toNat) H1
theorem pi_range1 {a : Expr} {ta : TA} {p pos : Pos} (hg : Gl X "range") (hm : X.mg "range" = none) (ha : PA X [a] ta) (hs : starEach [a] X.env = [(false, eval a X.env)] := by rfl) : PI X tg (.Call (.Name "range" p) [a] [] pos) (iRng1 ta) := by
  intro pins s σ H R I h
  refine Call_ (ld_blt I hg hm boot_range (PyProof.Rows.callWith_type1 (thn (ha pos pins s σ H _ I h) fun us s1 ⟨vs, H1, I1, r1, q1⟩ => ?_) hs rfl))
  obtain ⟨j, e, q1, q2, q⟩ := q1
  subst e
  cases r1 with
  | cons r rr =>
    cases rr
    obtain ⟨t, rfl⟩ := r
    exact call_range_1 (range_it I1 (by omega) (by omega) q1 q2 (by simpa using q))
theorem pi_range2 {a b : Expr} {ta : TA} {p pos : Pos} (hg : Gl X "range") (hm : X.mg "range" = none) (ha : PA X [a, b] ta) (hs : starEach [a, b] X.env = [(false, eval a X.env), (false, eval b X.env)] := by rfl) (hs2 : starEach [b] X.env = [(false, eval b X.env)] := by rfl) :
    PI X tg (.Call (.Name "range" p) [a, b] [] pos) (iRng2 ta) := by
  intro pins s σ H R I h
  refine Call_ (ld_blt I hg hm boot_range (PyProof.Rows.callWith_type1 (thn (ha pos pins s σ H _ I h) fun us s1 ⟨vs, H1, I1, r1, q1⟩ => ?_) (by rw [hs, hs2]) (by rw [hs2]; rfl)))
  obtain ⟨i, j, e, ⟨q1, q2, q3, q4⟩, q⟩ := q1
  subst e
  cases r1 with
  | cons r rr =>
    cases rr with
    | cons r' rr =>
      cases rr
      obtain ⟨t, rfl⟩ := r
      obtain ⟨t', rfl⟩ := r'
      exact call_range_2 (range_it I1 q1 q2 q3 q4 q)

/-! ### for -/
/-- W: the invariant by the turn and a measure; N: what the body is to reach -/
def tFor (wi : TI) (g : TG) (tb : TS) : TS := fun D σ H => wi σ H fun J H1 => ∃ W : Nat → Nat → St → Hp → Prop, (∃ m, W 0 m σ H1) ∧ ∀ i m σ H, W i m σ H →
  (J.stop i H ∧ D.nx σ H) ∨ (J.go i H ∧ ∃ N : St → Hp → Prop, (∀ σ' H', N σ' H' → ∃ m', m' < m ∧ W (i + 1) m' σ' H') ∧ ∀ x H', J.yld i H x H' → g x σ H' fun σ2 H2 => tb { D with nx := N, ct := N, bk := D.nx } σ2 H2)
/-- the records at fp as they stand -/
def pinsAt (fp : List Addr) (h : Heap) : List (Addr × Obj) := fp.filterMap fun b => (h.get? b).map fun o => (b, o)
theorem mem_pinsAt {fp : List Addr} {h : Heap} {b : Addr} {o : Obj} (hb : b ∈ fp) (e : h.get? b = some o) : (b, o) ∈ pinsAt fp h := List.mem_filterMap.mpr ⟨b, hb, by rw [e]; rfl⟩
theorem of_pinsAt {fp : List Addr} {h : Heap} {p : Addr × Obj} (hp : p ∈ pinsAt fp h) : p.1 ∈ fp ∧ h.get? p.1 = some p.2 := by
  obtain ⟨b, hb, e⟩ := List.mem_filterMap.mp hp
  cases q : h.get? b with
  | none => rw [q] at e; cases e
  | some o =>
    rw [q] at e
    have e' : (b, o) = p := Option.some.inj e
    subst e'
    exact ⟨hb, q⟩
theorem Inv.pinned {pins : List (Addr × Obj)} {σ : St} {H : Hp} {s : Shared} {fp : List Addr} (I : Inv X pins σ H s) (hf : ∀ b ∈ fp, FpOk X pins H b) (ho : ∀ b ∈ fp, ∃ o, s.heap.get? b = some o ∧ ∀ v, o.data ≠ .cell v) : Inv X (pins ++ pinsAt fp s.heap) σ H s :=
  I.pins_of fun p hp => (List.mem_append.mp hp).elim (fun z => I.pin p (List.mem_append_right _ z)) fun z => by
    obtain ⟨hb, e⟩ := of_pinsAt z
    obtain ⟨f0, f1, f2, _⟩ := hf p.1 hb
    obtain ⟨o, e', d⟩ := ho p.1 hb
    rw [e] at e'; cases e'
    exact ⟨e, f0, f1, f2, d⟩
theorem Inv.unpinned {pins pl : List (Addr × Obj)} {σ : St} {H : Hp} {s : Shared} (I : Inv X (pins ++ pl) σ H s) : Inv X pins σ H s := I.pins_of fun p hp => I.pin p (List.mem_append_right _ (List.mem_append_left _ hp))
theorem ps_for {iter : Expr} {body : List Stmt} {wi : TI} {g : TG} {tb : TS} {pos : Pos} (hp : PassesOwn (model X.prog X.w) X.A X.env X.xe) (hc : X.calm = true) (hi : PI X tg iter wi) (hg : PG X tg g) (hb : PSs X body tb)
    (hs : ∀ x, foldedSetIterable iter X.env x = pure x := by intro _; rfl) : PS X (.For tg iter body [] pos) (tFor wi g tb) := by
  intro pins s σ H D I h
  refine wpAny_For (thn (hi pins s σ H _ I h) fun v s1 h1 => thn h1 fun itv s2 h2 => ?_) hs
  obtain ⟨it, fp, tn, J, H2, e, I2, T, st2, f2, W, ⟨m0, w0⟩, turn⟩ := h2
  subst e
  -- what stays true of the iterator's objects through the loop
  have stat : ∀ {H' : Hp}, (∀ b ∈ fp, H' b = none) → ∀ b ∈ fp, FpOk X pins H' b := fun hn b hb => ⟨hn b hb, (f2 b hb).2⟩
  refine codeAny_forLoop_any (fun n s' => ∃ i σ' H', Inv X pins σ' H' s' ∧ tn i s'.heap ∧ (∀ b ∈ fp, H' b = none) ∧ W i n σ' H') ?_ m0 ⟨0, σ, H2, I2, st2, fun b hb => (f2 b hb).1, w0⟩
  rintro n s3 ⟨i, σ3, H3, I3, st3, fr3, w3⟩
  rcases turn i n σ3 H3 w3 with ⟨stop, qn⟩ | ⟨go, N, hN, step⟩
  · refine wpAny_passesOwn hp (thn (T.done X rfl rfl rfl hc i pins s3 σ3 H3 X.xe I3 (stat fr3) st3 stop) fun r s4 ⟨hr, I4⟩ => ?_)
    subst hr
    exact wpAny_execs_nil ⟨σ3, H3, I4, qn⟩
  · refine wpAny_passesOwn hp (thn (T.item X rfl rfl rfl hc i pins s3 σ3 H3 X.xe I3 (stat fr3) st3 go) fun r s4 ⟨u, hr, h4⟩ => ?_)
    subst hr
    refine wpAny_passesOwn hp (thn h4 fun _ s5 ⟨x, H5, I5, r5, y5, st5, fr5⟩ => ?_)
    have I5' := I5.pinned (stat fr5) (T.obj _ _ st5)
    refine wpAny_passesOwn hp (thn (hg _ s5 σ3 H5 x u _ I5' r5 (step x H5 y5)) fun _ s6 ⟨σ6, H6, I6, q6⟩ => ?_)
    refine wpAny_passesOwn hp (thn (hb _ s6 σ6 H6 _ I6 q6) fun f s7 q7 => ?_)
    have again : ∀ {σ7 : St} {H7 : Hp}, Inv X (pins ++ pinsAt fp s5.heap) σ7 H7 s7 → N σ7 H7 → ∃ m, m < n ∧ ∃ i σ' H', Inv X pins σ' H' s7 ∧ tn i s7.heap ∧ (∀ b ∈ fp, H' b = none) ∧ W i m σ' H' := fun {σ7 H7} I7 n7 => by
      obtain ⟨m', hm, w7⟩ := hN σ7 H7 n7
      refine ⟨m', hm, i + 1, σ7, H7, I7.unpinned, T.keep _ _ _ st5 fun b hb o e => (I7.pin (b, o) (List.mem_append_right _ (List.mem_append_right _ (mem_pinsAt hb e)))).1, fun b hb => ?_, w7⟩
      obtain ⟨o, e, d⟩ := T.obj _ _ st5 b hb
      exact (I7.pin (b, o) (List.mem_append_right _ (List.mem_append_right _ (mem_pinsAt hb e)))).2.1
    cases f with
    | next => obtain ⟨σ7, H7, I7, n7⟩ := q7; exact again I7 n7
    | cont => obtain ⟨σ7, H7, I7, n7⟩ := q7; exact again I7 n7
    | brk => obtain ⟨σ7, H7, I7, q7⟩ := q7; exact ⟨σ7, H7, I7.unpinned, q7⟩
    | ret v => obtain ⟨x7, σ7, H7, I7, r7, q7⟩ := q7; exact ⟨x7, σ7, H7, I7.unpinned, r7, q7⟩
end

/-! ### the forms one uses -/
/-- over a list that the body leaves as it is -/
theorem for_list {K : PySem.W.Frag} {a : Addr} {xs : List V} {g : TG} {tb : TS} {D : Ends} {σ : St} {H : Hp} (Pv : Nat → St → Hp → Prop) (h0 : Pv 0 σ H) (hl : ∀ i σ H, i ≤ xs.length → Pv i σ H → SqL K H a xs)
    (hs : ∀ i x σ H, xs[i]? = some x → Pv i σ H → g x σ H fun σ2 H2 => tb { D with nx := Pv (i + 1), ct := Pv (i + 1), bk := D.nx } σ2 H2) (hd : ∀ σ H, Pv xs.length σ H → D.nx σ H) :
    ∃ W : Nat → Nat → St → Hp → Prop, (∃ m, W 0 m σ H) ∧ ∀ i m σ H, W i m σ H →
      ((Itl K a).stop i H ∧ D.nx σ H) ∨ ((Itl K a).go i H ∧ ∃ N : St → Hp → Prop, (∀ σ' H', N σ' H' → ∃ m', m' < m ∧ W (i + 1) m' σ' H') ∧ ∀ x H', (Itl K a).yld i H x H' → g x σ H' fun σ2 H2 => tb { D with nx := N, ct := N, bk := D.nx } σ2 H2) := by
  refine ⟨fun i m σ H => m = xs.length - i ∧ i ≤ xs.length ∧ Pv i σ H, ⟨xs.length, by simp, Nat.zero_le _, h0⟩, ?_⟩
  rintro i m σ H ⟨rfl, hi, p⟩
  have q := hl i σ H hi p
  by_cases hlt : i < xs.length
  · refine .inr ⟨⟨xs, xs[i], q, by simp [hlt]⟩, Pv (i + 1), fun σ' H' p' => ⟨xs.length - (i + 1), by omega, rfl, hlt, p'⟩, fun x H' y => ?_⟩
    obtain ⟨e, y⟩ := y
    subst e
    exact hs i x σ _ (y xs q) p
  · have e : i = xs.length := by omega
    subst e
    exact .inl ⟨⟨xs, q, Nat.le_refl _⟩, hd σ H p⟩
theorem for_tup {K : PySem.W.Frag} {a : Addr} {xs : List V} {g : TG} {tb : TS} {D : Ends} {σ : St} {H : Hp} (Pv : Nat → St → Hp → Prop) (h0 : Pv 0 σ H) (hl : ∀ i σ H, i ≤ xs.length → Pv i σ H → SqT K H a xs)
    (hs : ∀ i x σ H, xs[i]? = some x → Pv i σ H → g x σ H fun σ2 H2 => tb { D with nx := Pv (i + 1), ct := Pv (i + 1), bk := D.nx } σ2 H2) (hd : ∀ σ H, Pv xs.length σ H → D.nx σ H) :
    ∃ W : Nat → Nat → St → Hp → Prop, (∃ m, W 0 m σ H) ∧ ∀ i m σ H, W i m σ H →
      ((Itt K a).stop i H ∧ D.nx σ H) ∨ ((Itt K a).go i H ∧ ∃ N : St → Hp → Prop, (∀ σ' H', N σ' H' → ∃ m', m' < m ∧ W (i + 1) m' σ' H') ∧ ∀ x H', (Itt K a).yld i H x H' → g x σ H' fun σ2 H2 => tb { D with nx := N, ct := N, bk := D.nx } σ2 H2) := by
  refine ⟨fun i m σ H => m = xs.length - i ∧ i ≤ xs.length ∧ Pv i σ H, ⟨xs.length, by simp, Nat.zero_le _, h0⟩, ?_⟩
  rintro i m σ H ⟨rfl, hi, p⟩
  have q := hl i σ H hi p
  by_cases hlt : i < xs.length
  · refine .inr ⟨⟨xs, xs[i], q, by simp [hlt]⟩, Pv (i + 1), fun σ' H' p' => ⟨xs.length - (i + 1), by omega, rfl, hlt, p'⟩, fun x H' y => ?_⟩
    obtain ⟨e, y⟩ := y
    subst e
    exact hs i x σ _ (y xs q) p
  · have e : i = xs.length := by omega
    subst e
    exact .inl ⟨⟨xs, q, Nat.le_refl _⟩, hd σ H p⟩
theorem for_range {lo : Int} {n : Nat} {g : TG} {tb : TS} {D : Ends} {σ : St} {H : Hp} (Pv : Nat → St → Hp → Prop) (h0 : Pv 0 σ H)
    (hs : ∀ i σ H, i < n → Pv i σ H → g (.int (lo + i)) σ H fun σ2 H2 => tb { D with nx := Pv (i + 1), ct := Pv (i + 1), bk := D.nx } σ2 H2) (hd : ∀ σ H, Pv n σ H → D.nx σ H) :
    ∃ W : Nat → Nat → St → Hp → Prop, (∃ m, W 0 m σ H) ∧ ∀ i m σ H, W i m σ H →
      ((Itr lo n).stop i H ∧ D.nx σ H) ∨ ((Itr lo n).go i H ∧ ∃ N : St → Hp → Prop, (∀ σ' H', N σ' H' → ∃ m', m' < m ∧ W (i + 1) m' σ' H') ∧ ∀ x H', (Itr lo n).yld i H x H' → g x σ H' fun σ2 H2 => tb { D with nx := N, ct := N, bk := D.nx } σ2 H2) := by
  refine ⟨fun i m σ H => m = n - i ∧ i ≤ n ∧ Pv i σ H, ⟨n, by simp, Nat.zero_le _, h0⟩, ?_⟩
  rintro i m σ H ⟨rfl, hi, p⟩
  by_cases hlt : i < n
  · refine .inr ⟨hlt, Pv (i + 1), fun σ' H' p' => ⟨n - (i + 1), by omega, rfl, hlt, p'⟩, fun x H' y => ?_⟩
    obtain ⟨e, y⟩ := y
    subst e y
    exact hs i σ _ hlt p
  · have e : i = n := by omega
    subst e
    exact .inl ⟨Nat.le_refl _, hd σ H p⟩
/-- while, by a word and a measure of the state -/
theorem while_by {c : TT} {tb : TS} {D : Ends} {σ : St} {H : Hp} (Pv : St → Hp → Prop) (μ : St → Hp → Nat) (h0 : Pv σ H)
    (hs : ∀ σ H, Pv σ H → c σ H fun b H1 => if b = true then tb { D with nx := fun σ' H' => Pv σ' H' ∧ μ σ' H' < μ σ H, ct := fun σ' H' => Pv σ' H' ∧ μ σ' H' < μ σ H, bk := D.nx } σ H1 else D.nx σ H1)
    (mono : ∀ σ H Q Q', (∀ b H1, Q b H1 → Q' b H1) → c σ H Q → c σ H Q') : tWhile c tb D σ H := by
  refine ⟨fun m σ H => m = μ σ H ∧ Pv σ H, ⟨_, rfl, h0⟩, ?_⟩
  rintro m σ H ⟨rfl, p⟩
  refine mono σ H _ _ (fun b H1 q => ?_) (hs σ H p)
  cases b with
  | true => exact ⟨_, fun σ' H' ⟨p', l⟩ => ⟨_, l, rfl, p'⟩, q⟩
  | false => exact q
end L2

namespace L2
open PySem PySem.Spec PyProof.Rows

abbrev R2 := V → V → Hp → VK → Prop
/-- a two-place operation on values: f is binaryOp op, inplaceOp op or compareOp op -/
def OpR (X : Cx) (f : Value → Value → Sem Value) (r : R2) : Prop :=
  ∀ (pins : List (Addr × Obj)) (s : Shared) (σ : St) (H : Hp) (x y : V) (v u : Value) (Q : VK), Inv X pins σ H s → RelV x v → RelV y u → r x y H Q →
    wpAny (model X.prog X.w) X.A (f v u) (EP X pins σ Q) X.xe s
/-- a one-place operation -/
def UnR (X : Cx) (f : Value → Sem Value) (r : V → Hp → VK → Prop) : Prop :=
  ∀ (pins : List (Addr × Obj)) (s : Shared) (σ : St) (H : Hp) (x : V) (v : Value) (Q : VK), Inv X pins σ H s → RelV x v → r x H Q →
    wpAny (model X.prog X.w) X.A (f v) (EP X pins σ Q) X.xe s
/-- a call of a value that is known (a builtin, a type) with values -/
def CallR (X : Cx) (f : Value) (r : List V → Hp → VK → Prop) : Prop :=
  ∀ (pins : List (Addr × Obj)) (s : Shared) (σ : St) (H : Hp) (xs : List V) (us : List Value) (Q : VK), Inv X pins σ H s → Vals xs us → r xs H Q →
    wpAny (model X.prog X.w) X.A (call f us) (EP X pins σ Q) X.xe s
/-- a value's truth -/
def TruR (X : Cx) (r : V → Hp → (Bool → Hp → Prop) → Prop) : Prop :=
  ∀ (pins : List (Addr × Obj)) (s : Shared) (σ : St) (H : Hp) (x : V) (v : Value) (Q : Bool → Hp → Prop), Inv X pins σ H s → RelV x v → r x H Q →
    wpAny (model X.prog X.w) X.A (truthy v) (TP X pins σ Q) X.xe s

def tOp (r : R2) (ta tb : TE) : TE := fun σ H Q => ta σ H fun x H1 => tb σ H1 fun y H2 => r x y H2 Q
def tUn (r : V → Hp → VK → Prop) (ta : TE) : TE := fun σ H Q => ta σ H fun x H1 => r x H1 Q
/-- ints in, under C, and a value out -/
def rI (C : Int → Int → Prop) (g : Int → Int → V) : R2 := fun x y H Q => ∃ i j, x = .int i ∧ y = .int j ∧ C i j ∧ Q (g i j) H
def rI0 (g : Int → Int → V) : R2 := fun x y H Q => ∃ i j, x = .int i ∧ y = .int j ∧ Q (g i j) H
def rU (g : Int → V) : V → Hp → VK → Prop := fun x H Q => ∃ i, x = .int i ∧ Q (g i) H

section
variable {X : Cx} {a b c : Expr} {ta tb tc : TE} {pos : Pos}

theorem binT (ha : PE X a ta) (hb : PE X b tb) {pins : List (Addr × Obj)} {s : Shared} {σ : St} {H : Hp} {R : V → V → Hp → Prop} (I : Inv X pins σ H s)
    (h : ta σ H fun x H1 => tb σ H1 fun y H2 => R x y H2) {Q : Value → Shared → Prop} {f : Value → Value → Sem Value}
    (hf : ∀ v u s2 x y H2, Inv X pins σ H2 s2 → RelV x v → RelV y u → R x y H2 → wpAny (model X.prog X.w) X.A (f v u) Q X.xe s2) :
    wpAny (model X.prog X.w) X.A (eval a X.env) (fun v s₁ => wpAny (model X.prog X.w) X.A (eval b X.env) (fun u s₂ => wpAny (model X.prog X.w) X.A (f v u) Q X.xe s₂) X.xe s₁) X.xe s := by
  refine thn (ha pins s σ H _ I h) fun v s1 ⟨x, H1, I1, r1, q1⟩ => ?_
  refine thn (hb pins s1 σ H1 _ I1 q1) fun u s2 ⟨y, H2, I2, r2, q2⟩ => ?_
  exact hf v u s2 x y H2 I2 r1 r2 q2

theorem pe_op {op : Operator} {r : R2} (ho : OpR X (binaryOp op) r) (ha : PE X a ta) (hb : PE X b tb) : PE X (.BinOp a op b pos) (tOp r ta tb) := by
  intro pins s σ H Q I h
  exact wpAny_BinOp (binT ha hb I h fun v u s2 x y H2 I2 rx ry q => ho pins s2 σ H2 x y v u Q I2 rx ry q)
theorem pe_un {op : UnaryOp} {r : V → Hp → VK → Prop} (ho : UnR X (unaryOp op) r) (ha : PE X a ta) : PE X (.UnaryOp op a pos) (tUn r ta) := by
  intro pins s σ H Q I h
  exact UnaryOp_ (thn (ha pins s σ H _ I h) fun v s1 ⟨x, H1, I1, r1, q1⟩ => ho pins s1 σ H1 x v Q I1 r1 q1)
/-- a op= e at a name: the name's slot i -/
theorem augR {op : Operator} {r : R2} (ho : OpR X (inplaceOp op) r) {pins : List (Addr × Obj)} {s : Shared} {σ : St} {H : Hp} {x y : V} {v u : Value} {Q : VK} (I : Inv X pins σ H s)
    (rx : RelV x v) (ry : RelV y u) (q : r x y H Q) : wpAny (model X.prog X.w) X.A (inplaceOp op v u) (EP X pins σ Q) X.xe s := ho pins s σ H x y v u Q I rx ry q

/-! ### ints -/
theorem opI {f : Value → Value → Sem Value} {C : Int → Int → Prop} {g : Int → Int → Int}
    (rule : ∀ (i j : Int) (t u : Tok) (s : Shared) (Q : Value → Shared → Prop) (E : Value → Shared → Prop), C i j → Q (.int (g i j) s.toks) { s with toks := s.toks + 1 } → wpAny (model X.prog X.w) X.A (f (.int i t) (.int j u)) Q E s) :
    OpR X f (rI C fun i j => .int (g i j)) := by
  intro pins s σ H x y v u Q I rx ry h
  obtain ⟨i, j, rfl, rfl, hc, q⟩ := h
  obtain ⟨t, rfl⟩ := rx
  obtain ⟨t', rfl⟩ := ry
  exact rule i j t t' s _ _ hc ⟨.int (g i j), H, I.tok _, ⟨_, rfl⟩, q⟩
theorem opI0 {f : Value → Value → Sem Value} {g : Int → Int → Int}
    (rule : ∀ (i j : Int) (t u : Tok) (s : Shared) (Q : Value → Shared → Prop) (E : Value → Shared → Prop), Q (.int (g i j) s.toks) { s with toks := s.toks + 1 } → wpAny (model X.prog X.w) X.A (f (.int i t) (.int j u)) Q E s) :
    OpR X f (rI0 fun i j => .int (g i j)) := by
  intro pins s σ H x y v u Q I rx ry h
  obtain ⟨i, j, rfl, rfl, q⟩ := h
  obtain ⟨t, rfl⟩ := rx
  obtain ⟨t', rfl⟩ := ry
  exact rule i j t t' s _ _ ⟨.int (g i j), H, I.tok _, ⟨_, rfl⟩, q⟩
theorem opB0 {f : Value → Value → Sem Value} {g : Int → Int → Bool}
    (rule : ∀ (i j : Int) (t u : Tok) (s : Shared) (Q : Value → Shared → Prop) (E : Value → Shared → Prop), Q (.bool (g i j)) s → wpAny (model X.prog X.w) X.A (f (.int i t) (.int j u)) Q E s) :
    OpR X f (rI0 fun i j => .bl (g i j)) := by
  intro pins s σ H x y v u Q I rx ry h
  obtain ⟨i, j, rfl, rfl, q⟩ := h
  obtain ⟨t, rfl⟩ := rx
  obtain ⟨t', rfl⟩ := ry
  exact rule i j t t' s _ _ ⟨.bl (g i j), H, I, rfl, q⟩

def CDiv (i j : Int) : Prop := 0 < j ∧ j < 1073741824
def CDivN (i j : Int) : Prop := j ≠ 0 ∧ j.natAbs < 1073741824
def CPow (i j : Int) : Prop := 0 ≤ j ∧ j ≤ 1000000 ∧ i.natAbs < 2 ^ 64
def CMul (i j : Int) : Prop := (-(2 ^ 64) < i ∧ i < 2 ^ 64) ∨ (-(2 ^ 64) < j ∧ j < 2 ^ 64)
theorem CMul.ok {i j : Int} (h : CMul i j) : IntMulOk i j := by
  rcases h with ⟨h1, h2⟩ | ⟨h1, h2⟩
  · exact .of_left (intBits_le_64 h1 h2)
  · exact .of_right (intBits_le_64 h1 h2)
theorem two_pow_nn (k : Nat) : (0 : Int) ≤ 2 ^ k := by
  rw [two_pow_cast]
  exact Int.natCast_nonneg _

theorem op_add : OpR X (binaryOp .Add) (rI0 fun i j => .int (i + j)) := opI0 fun _ _ _ _ _ _ _ q => add_int q
theorem op_sub : OpR X (binaryOp .Sub) (rI0 fun i j => .int (i - j)) := opI0 fun _ _ _ _ _ _ _ q => sub_int q
theorem op_mul : OpR X (binaryOp .Mult) (rI CMul fun i j => .int (i * j)) := opI fun _ _ _ _ _ _ _ hc q => mul_int q hc.ok
/-- // by a positive divisor -/
theorem op_fdiv : OpR X (binaryOp .FloorDiv) (rI CDiv fun i j => .int (i / j)) := opI fun i j _ _ _ _ _ hc q => by
  have h1 : (0 : Int) < j := hc.1
  have h2 : j < 1073741824 := hc.2
  exact floordiv_int (by omega) (by rw [Int.fdiv_eq_ediv_of_nonneg i (by omega)]; exact q) (.inl (PyProof.noPylong_small (by omega)))
theorem op_fdivN : OpR X (binaryOp .FloorDiv) (rI CDivN fun i j => .int (i.fdiv j)) := opI fun _ _ _ _ _ _ _ hc q => floordiv_int hc.1 q (.inl (PyProof.noPylong_small hc.2))
/-- % by a positive divisor of any size -/
theorem op_mod : OpR X (binaryOp .Mod) (rI (fun _ j => 0 < j) fun i j => .int (i % j)) := opI fun i j _ _ _ _ _ hc q => by
  have h1 : (0 : Int) < j := hc
  exact mod_int' (by omega) (by rw [Int.fmod_eq_emod_of_nonneg i (by omega)]; exact q)
theorem op_modN : OpR X (binaryOp .Mod) (rI (fun _ j => j ≠ 0) fun i j => .int (i.fmod j)) := opI fun _ _ _ _ _ _ _ hc q => mod_int' hc q
theorem op_pow : OpR X (binaryOp .Pow) (rI CPow fun i j => .int (i ^ j.toNat)) := opI fun _ _ _ _ _ _ _ hc q => pow_int_small hc.1 hc.2.1 hc.2.2 q
theorem op_shl : OpR X (binaryOp .LShift) (rI CPow fun i j => .int (i * 2 ^ j.toNat)) := opI fun _ _ _ _ _ _ _ hc q => lshift_int_small hc.1 hc.2.1 hc.2.2 q
theorem op_shr : OpR X (binaryOp .RShift) (rI (fun _ j => 0 ≤ j) fun i j => .int (i / 2 ^ j.toNat)) := opI fun i j _ _ _ _ _ hc q =>
  rshift_int hc (by rw [Int.fdiv_eq_ediv_of_nonneg i (two_pow_nn _)]; exact q)
theorem op_and : OpR X (binaryOp .BitAnd) (rI0 fun i j => .int (Builtin.bitAnd i j)) := opI0 fun _ _ _ _ _ _ _ q => and_int q
theorem op_or : OpR X (binaryOp .BitOr) (rI0 fun i j => .int (Builtin.bitOr i j)) := opI0 fun _ _ _ _ _ _ _ q => or_int q
theorem op_xor : OpR X (binaryOp .BitXor) (rI0 fun i j => .int (Builtin.bitXor i j)) := opI0 fun _ _ _ _ _ _ _ q => xor_int q

theorem iop_add : OpR X (inplaceOp .Add) (rI0 fun i j => .int (i + j)) := opI0 fun _ _ _ _ _ _ _ q => iadd_int q
theorem iop_sub : OpR X (inplaceOp .Sub) (rI0 fun i j => .int (i - j)) := opI0 fun _ _ _ _ _ _ _ q => isub_int q
theorem iop_mul : OpR X (inplaceOp .Mult) (rI CMul fun i j => .int (i * j)) := opI fun _ _ _ _ _ _ _ hc q => imul_int q hc.ok
theorem iop_fdiv : OpR X (inplaceOp .FloorDiv) (rI CDiv fun i j => .int (i / j)) := opI fun i j _ _ _ _ _ hc q => by
  have h1 : (0 : Int) < j := hc.1
  have h2 : j < 1073741824 := hc.2
  exact ifloordiv_int (by omega) (by rw [Int.fdiv_eq_ediv_of_nonneg i (by omega)]; exact q) (.inl (PyProof.noPylong_small (by omega)))
theorem iop_mod : OpR X (inplaceOp .Mod) (rI (fun _ j => 0 < j) fun i j => .int (i % j)) := opI fun i j _ _ _ _ _ hc q => by
  have h1 : (0 : Int) < j := hc
  exact imod_int (by omega) (by rw [Int.fmod_eq_emod_of_nonneg i (by omega)]; exact q)
theorem iop_shl : OpR X (inplaceOp .LShift) (rI CPow fun i j => .int (i * 2 ^ j.toNat)) := opI fun _ _ _ _ _ _ _ hc q => ilshift_int_small hc.1 hc.2.1 hc.2.2 q
theorem iop_shr : OpR X (inplaceOp .RShift) (rI (fun _ j => 0 ≤ j) fun i j => .int (i / 2 ^ j.toNat)) := opI fun i j _ _ _ _ _ hc q =>
  irshift_int hc (by rw [Int.fdiv_eq_ediv_of_nonneg i (two_pow_nn _)]; exact q)
theorem iop_and : OpR X (inplaceOp .BitAnd) (rI0 fun i j => .int (Builtin.bitAnd i j)) := opI0 fun _ _ _ _ _ _ _ q => iand_int q
theorem iop_or : OpR X (inplaceOp .BitOr) (rI0 fun i j => .int (Builtin.bitOr i j)) := opI0 fun _ _ _ _ _ _ _ q => ior_int q
theorem iop_xor : OpR X (inplaceOp .BitXor) (rI0 fun i j => .int (Builtin.bitXor i j)) := opI0 fun _ _ _ _ _ _ _ q => ixor_int q

theorem unI {f : Value → Sem Value} {g : Int → Int}
    (rule : ∀ (i : Int) (t : Tok) (s : Shared) (Q : Value → Shared → Prop) (E : Value → Shared → Prop), Q (.int (g i) s.toks) { s with toks := s.toks + 1 } → wpAny (model X.prog X.w) X.A (f (.int i t)) Q E s) :
    UnR X f (rU fun i => .int (g i)) := by
  intro pins s σ H x v Q I rx h
  obtain ⟨i, rfl, q⟩ := h
  obtain ⟨t, rfl⟩ := rx
  exact rule i t s _ _ ⟨.int (g i), H, I.tok _, ⟨_, rfl⟩, q⟩
theorem un_neg : UnR X (unaryOp .USub) (rU fun i => .int (-i)) := unI fun _ _ _ _ _ q => neg_int q
theorem un_inv : UnR X (unaryOp .Invert) (rU fun i => .int (Builtin.bitNot i)) := unI fun _ _ _ _ _ q => invert_int q

/-! ### bools among ints: n += (a < b) -/
theorem op_add_ib : OpR X (binaryOp .Add) (fun x y H Q => ∃ i k, x = .int i ∧ y = .bl k ∧ Q (.int (i + b2i k)) H) := by
  intro pins s σ H x y v u Q I rx ry h
  obtain ⟨i, k, rfl, rfl, q⟩ := h
  obtain ⟨t, rfl⟩ := rx
  cases ry
  exact add_int_bool ⟨.int (i + b2i k), H, I.tok _, ⟨_, rfl⟩, q⟩
end

/-! ### comparisons -/
/-- the scalars that == tells apart as data does -/
def scal : V → V → Bool
  | .non, .non => true | .non, .int _ => true | .int _, .non => true | .non, .bl _ => true | .bl _, .non => true | .non, .str _ => true | .str _, .non => true
  | .int _, .int _ => true | .bl _, .bl _ => true | .str _, .str _ => true | .byt _, .byt _ => true
  | .int _, .str _ => true | .str _, .int _ => true | .bl _, .str _ => true | .str _, .bl _ => true
  | _, _ => false
def rEq : R2 := fun x y H Q => scal x y = true ∧ Q (.bl (decide (x = y))) H
def rNe : R2 := fun x y H Q => scal x y = true ∧ Q (.bl (!decide (x = y))) H

theorem dec_int {i j : Int} : decide (V.int i = V.int j) = (i == j) := by
  rw [Bool.eq_iff_iff]
  simp
theorem dec_bl {i j : Bool} : decide (V.bl i = V.bl j) = (i == j) := by
  rw [Bool.eq_iff_iff]
  simp
theorem dec_str {i j : Str} : decide (V.str i = V.str j) = (i == j) := by
  rw [Bool.eq_iff_iff]
  simp
theorem dec_byt {i j : Array UInt8} : decide (V.byt i = V.byt j) = (i.toList == j.toList) := by
  rw [Bool.eq_iff_iff]
  cases i
  cases j
  simp

section
variable {X : Cx} {a b c : Expr} {ta tb tc : TE} {pos : Pos}
theorem fin_bl {pins : List (Addr × Obj)} {σ : St} {H : Hp} {s : Shared} {Q : VK} {k k' : Bool} (I : Inv X pins σ H s) (q : Q (.bl k) H) (e : k = k') : EP X pins σ Q (.bool k') s := by
  subst e
  exact ⟨.bl k, H, I, rfl, q⟩
theorem op_eq : OpR X (compareOp .Eq) rEq := by
  intro pins s σ H x y v u Q I rx ry h
  obtain ⟨hs, q⟩ := h
  cases x with
  | non =>
    cases rx
    cases y with
    | non => cases ry; exact PySem.EqNone.eq_none_none (fin_bl I q (by simp))
    | bl j => cases ry; exact PySem.EqNone.eq_none_bool (fin_bl I q (by simp))
    | int j => obtain ⟨t', rfl⟩ := ry; exact PySem.EqNone.eq_none_int (fin_bl I q (by simp))
    | str j => obtain ⟨t', rfl⟩ := ry; exact PySem.EqNone.eq_none_str (fin_bl I q (by simp))
    | _ => exact absurd (show false = true from hs) Bool.false_ne_true
  | bl i =>
    cases rx
    cases y with
    | non => cases ry; exact PySem.EqNone.eq_bool_none (fin_bl I q (by simp))
    | bl j => cases ry; exact eq_bool (fin_bl I q dec_bl)
    | str j => obtain ⟨t', rfl⟩ := ry; exact PySem.EqMixed.eq_bool_str (fin_bl I q (by simp))
    | _ => exact absurd (show false = true from hs) Bool.false_ne_true
  | int i =>
    obtain ⟨t, rfl⟩ := rx
    cases y with
    | non => cases ry; exact PySem.EqNone.eq_int_none (fin_bl I q (by simp))
    | int j => obtain ⟨t', rfl⟩ := ry; exact eq_int (fin_bl I q dec_int)
    | str j => obtain ⟨t', rfl⟩ := ry; exact PySem.EqMixed.eq_int_str (fin_bl I q (by simp))
    | _ => exact absurd (show false = true from hs) Bool.false_ne_true
  | str i =>
    obtain ⟨t, rfl⟩ := rx
    cases y with
    | non => cases ry; exact PySem.EqNone.eq_str_none (fin_bl I q (by simp))
    | bl j => cases ry; exact PySem.EqMixed.eq_str_bool (fin_bl I q (by simp))
    | int j => obtain ⟨t', rfl⟩ := ry; exact PySem.EqMixed.eq_str_int (fin_bl I q (by simp))
    | str j => obtain ⟨t', rfl⟩ := ry; exact eq_str (fin_bl I q dec_str)
    | _ => exact absurd (show false = true from hs) Bool.false_ne_true
  | byt i =>
    obtain ⟨t, rfl⟩ := rx
    cases y with
    | byt j => obtain ⟨t', rfl⟩ := ry; exact PySem.W.eq_bytes (fin_bl I q dec_byt)
    | _ => exact absurd (show false = true from hs) Bool.false_ne_true
  | _ => cases y <;> exact absurd (show false = true from hs) Bool.false_ne_true
theorem op_ne : OpR X (compareOp .NotEq) rNe := by
  intro pins s σ H x y v u Q I rx ry h
  obtain ⟨hs, q⟩ := h
  cases x with
  | non =>
    cases rx
    cases y with
    | non => cases ry; exact PySem.EqNone.ne_none_none (fin_bl I q (by simp))
    | bl j => cases ry; exact PySem.EqNone.ne_none_bool (fin_bl I q (by simp))
    | int j => obtain ⟨t', rfl⟩ := ry; exact PySem.EqNone.ne_none_int (fin_bl I q (by simp))
    | str j => obtain ⟨t', rfl⟩ := ry; exact PySem.EqNone.ne_none_str (fin_bl I q (by simp))
    | _ => exact absurd (show false = true from hs) Bool.false_ne_true
  | bl i =>
    cases rx
    cases y with
    | non => cases ry; exact PySem.EqNone.ne_bool_none (fin_bl I q (by simp))
    | bl j => cases ry; exact ne_bool (fin_bl I q (congrArg not dec_bl))
    | str j => obtain ⟨t', rfl⟩ := ry; exact PySem.EqMixed.ne_bool_str (fin_bl I q (by simp))
    | _ => exact absurd (show false = true from hs) Bool.false_ne_true
  | int i =>
    obtain ⟨t, rfl⟩ := rx
    cases y with
    | non => cases ry; exact PySem.EqNone.ne_int_none (fin_bl I q (by simp))
    | int j => obtain ⟨t', rfl⟩ := ry; exact ne_int (fin_bl I q (congrArg not dec_int))
    | str j => obtain ⟨t', rfl⟩ := ry; exact PySem.EqMixed.ne_int_str (fin_bl I q (by simp))
    | _ => exact absurd (show false = true from hs) Bool.false_ne_true
  | str i =>
    obtain ⟨t, rfl⟩ := rx
    cases y with
    | non => cases ry; exact PySem.EqNone.ne_str_none (fin_bl I q (by simp))
    | bl j => cases ry; exact PySem.EqMixed.ne_str_bool (fin_bl I q (by simp))
    | int j => obtain ⟨t', rfl⟩ := ry; exact PySem.EqMixed.ne_str_int (fin_bl I q (by simp))
    | str j => obtain ⟨t', rfl⟩ := ry; exact ne_str (fin_bl I q (congrArg not dec_str))
    | _ => exact absurd (show false = true from hs) Bool.false_ne_true
  | byt i =>
    obtain ⟨t, rfl⟩ := rx
    cases y with
    | byt j => obtain ⟨t', rfl⟩ := ry; exact PySem.W.ne_bytes (fin_bl I q (congrArg not dec_byt))
    | _ => exact absurd (show false = true from hs) Bool.false_ne_true
  | _ => cases y <;> exact absurd (show false = true from hs) Bool.false_ne_true

theorem op_lt : OpR X (compareOp .Lt) (rI0 fun i j => .bl (decide (i < j))) := opB0 fun _ _ _ _ _ _ _ q => lt_int q
theorem op_le : OpR X (compareOp .LtE) (rI0 fun i j => .bl (decide (i ≤ j))) := opB0 fun _ _ _ _ _ _ _ q => le_int q
theorem op_gt : OpR X (compareOp .Gt) (rI0 fun i j => .bl (decide (j < i))) := opB0 fun _ _ _ _ _ _ _ q => gt_int q
theorem op_ge : OpR X (compareOp .GtE) (rI0 fun i j => .bl (decide (j ≤ i))) := opB0 fun _ _ _ _ _ _ _ q => ge_int q
theorem op_lt_str : OpR X (compareOp .Lt) (fun x y H Q => ∃ i j, x = .str i ∧ y = .str j ∧ Q (.bl (decide (i.cps.toList < j.cps.toList))) H) := by
  intro pins s σ H x y v u Q I rx ry h
  obtain ⟨i, j, rfl, rfl, q⟩ := h
  obtain ⟨t, rfl⟩ := rx
  obtain ⟨t', rfl⟩ := ry
  exact lt_str (fin_bl I q rfl)
/-- the one string within the other -/
theorem op_in_str : OpR X (compareOp .In) (fun x y H Q => ∃ i j, x = .str i ∧ y = .str j ∧ Q (.bl (!(Builtin.Str.occurrences j i 0 j.length 1).isEmpty)) H) := by
  intro pins s σ H x y v u Q I rx ry h
  obtain ⟨i, j, rfl, rfl, q⟩ := h
  obtain ⟨t, rfl⟩ := rx
  obtain ⟨t', rfl⟩ := ry
  exact in_str (fin_bl I q rfl)

/-- is None, is not None: the right side a value none -/
theorem op_isN : OpR X (compareOp .Is) (fun x y H Q => y = .non ∧ Q (.bl (decide (x = .non))) H) := by
  intro pins s σ H x y v u Q I rx ry h
  obtain ⟨rfl, q⟩ := h
  cases ry
  refine is_none_gen (fin_bl I q ?_)
  cases x <;> first
    | (cases rx; rfl)
    | (obtain ⟨t, rfl⟩ := rx; rfl)
theorem op_notN : OpR X (compareOp .IsNot) (fun x y H Q => y = .non ∧ Q (.bl (!decide (x = .non))) H) := by
  intro pins s σ H x y v u Q I rx ry h
  obtain ⟨rfl, q⟩ := h
  cases ry
  refine isnot_none_gen (fin_bl I q ?_)
  cases x <;> first
    | (cases rx; rfl)
    | (obtain ⟨t, rfl⟩ := rx; rfl)

theorem op_notin_str : OpR X (compareOp .NotIn) (fun x y H Q => ∃ i j, x = .str i ∧ y = .str j ∧ Q (.bl (!(!(Builtin.Str.occurrences j i 0 j.length 1).isEmpty))) H) := by
  intro pins s σ H x y v u Q I rx ry h
  obtain ⟨i, j, rfl, rfl, q⟩ := h
  obtain ⟨t, rfl⟩ := rx
  obtain ⟨t', rfl⟩ := ry
  exact notIn_str (fin_bl I q rfl)
/-- is, is not of two objects that are tracked lists or instances -/
def isObj : HO → Bool
  | .lst _ => true
  | .ins _ _ _ => true
  | _ => false
theorem obj_there {pins : List (Addr × Obj)} {s : Shared} {σ : St} {H : Hp} {a : Addr} {o : HO} (I : Inv X pins σ H s) (h : H a = some o) (p : isObj o = true) : ∃ ob, s.heap.get? a = some ob ∧ ob.cls ≠ .type "tuple" := by
  cases o with
  | lst xs =>
    obtain ⟨_, its, n, _, e⟩ : xs.length ≤ sizeLine ∧ ∃ (its : List Value) (n : Nat), Vals xs its ∧ s.heap.get? a = some { cls := .type "list", data := .seq its.toArray n } := I.hok a _ h
    exact ⟨_, e, (by show Value.type "list" ≠ .type "tuple"; decide +kernel)⟩
  | ins C dx fs =>
    have x := I.hok a _ h
    obtain ⟨_, _, _, e, _⟩ := x
    exact ⟨_, e, (by show Value.ref C ≠ .type "tuple"; exact fun z => by cases z)⟩
  | _ => exact absurd (show false = true from p) Bool.false_ne_true
theorem op_is_ref : OpR X (compareOp .Is) (fun x y H Q => ∃ a b oa ob, x = .ref a ∧ y = .ref b ∧ H a = some oa ∧ isObj oa = true ∧ H b = some ob ∧ isObj ob = true ∧ Q (.bl (decide (a = b))) H) := by
  intro pins s σ H x y v u Q I rx ry h
  obtain ⟨a, b, oa, ob, rfl, rfl, ha, pa, hb, pb, q⟩ := h
  cases rx
  cases ry
  obtain ⟨o1, e1, n1⟩ := obj_there I ha pa
  obtain ⟨o2, e2, _⟩ := obj_there I hb pb
  by_cases z : a = b
  · subst z
    exact wpAny_is_ref_self (fin_bl I q (by simp))
  · exact wpAny_is_ref_other z e1 e2 n1 (fin_bl I q (by simp [z]))
theorem op_isnot_ref : OpR X (compareOp .IsNot) (fun x y H Q => ∃ a b oa ob, x = .ref a ∧ y = .ref b ∧ H a = some oa ∧ isObj oa = true ∧ H b = some ob ∧ isObj ob = true ∧ Q (.bl (!decide (a = b))) H) := by
  intro pins s σ H x y v u Q I rx ry h
  obtain ⟨a, b, oa, ob, rfl, rfl, ha, pa, hb, pb, q⟩ := h
  cases rx
  cases ry
  obtain ⟨o1, e1, n1⟩ := obj_there I ha pa
  obtain ⟨o2, e2, _⟩ := obj_there I hb pb
  by_cases z : a = b
  · subst z
    exact wpAny_isNot_ref_self (fin_bl I q (by simp))
  · exact wpAny_isNot_ref_other z e1 e2 n1 (fin_bl I q (by simp [z]))

/-- two rules for one operation: by cases -/
theorem OpR.or {f : Value → Value → Sem Value} {r r' : R2} (h : OpR X f r) (h' : OpR X f r') : OpR X f (fun x y H Q => r x y H Q ∨ r' x y H Q) := by
  intro pins s σ H x y v u Q I rx ry q
  rcases q with q | q
  · exact h pins s σ H x y v u Q I rx ry q
  · exact h' pins s σ H x y v u Q I rx ry q

theorem nomark (b : Expr) {op : CmpOp} (h : op ≠ .In := by decide) (h2 : op ≠ .NotIn := by decide) : behindInMarks op b = false := by
  have e1 : (op == CmpOp.In) = false := by cases op <;> first | rfl | exact absurd rfl h
  have e2 : (op == CmpOp.NotIn) = false := by cases op <;> first | rfl | exact absurd rfl h2
  cases b <;> simp [behindInMarks, e1, e2]
/-- a comparison as a value; hm: nomark b, or (for in, not in) by with_unfolding_all rfl -/
theorem pe_cmpR {op : CmpOp} {r : R2} (ho : OpR X (compareOp op) r) (ha : PE X a ta) (hb : PE X b tb) (hm : behindInMarks op b = false) : PE X (.Compare a [op] [b] pos) (tOp r ta tb) := by
  intro pins s σ H Q I h
  exact wpAny_Compare1 (binT ha hb I h fun v u s2 x y H2 I2 rx ry q => ho pins s2 σ H2 x y v u Q I2 rx ry q) hm
/-- a reading of a value as a test -/
def tTest (t : TE) : TT := fun σ H Q => t σ H fun x H' => ∃ k, x = .bl k ∧ Q k H'
theorem pt_cmpR {op : CmpOp} {r : R2} (ho : OpR X (compareOp op) r) (ha : PE X a ta) (hb : PE X b tb) (hm : behindInMarks op b = false) : PT X (.Compare a [op] [b] pos) (tTest (tOp r ta tb)) := by
  intro pins s σ H Q I h
  refine wpAny_isTrue_Compare1 (thn (ha pins s σ H _ I h) fun v s1 ⟨x, H1, I1, r1, q1⟩ => thn (hb pins s1 σ H1 _ I1 q1) fun u s2 ⟨y, H2, I2, r2, q2⟩ =>
    thn (ho pins s2 σ H2 x y v u _ I2 r1 r2 q2) fun c s3 ⟨z, H3, I3, r3, k, e, q3⟩ => ?_) hm
  subst e
  cases r3
  exact wpAny_truthy_bool ⟨H3, I3, q3⟩
/-- a op1 b op2 c -/
def tChain (r r' : R2) (ta tb tc : TE) : TE := fun σ H Q => ta σ H fun x H1 => tb σ H1 fun y H2 => r x y H2 fun z H3 => ∃ k, z = .bl k ∧
  (if k = true then tc σ H3 fun w' H4 => r' y w' H4 Q else Q (.bl false) H3)
theorem pe_chain {op op' : CmpOp} {r r' : R2} (ho : OpR X (compareOp op) r) (ho' : OpR X (compareOp op') r') (ha : PE X a ta) (hb : PE X b tb) (hc : PE X c tc)
    (hm : lastMarks [op, op'] [b, c] = false := by with_unfolding_all rfl) : PE X (.Compare a [op, op'] [b, c] pos) (tChain r r' ta tb tc) := by
  intro pins s σ H Q I h
  refine Compare_chain (thn (ha pins s σ H _ I h) fun v s1 ⟨x, H1, I1, r1, q1⟩ => chain_link (thn (hb pins s1 σ H1 _ I1 q1) fun u s2 ⟨y, H2, I2, r2, q2⟩ =>
    thn (ho pins s2 σ H2 x y v u _ I2 r1 r2 q2) fun d s3 ⟨z, H3, I3, r3, k, e, q3⟩ => ?_)) hm
  subst e
  cases r3
  refine wpAny_truthy_bool ?_
  cases k with
  | false => exact ite_ff ⟨.bl false, H3, I3, rfl, q3⟩
  | true => exact ite_tt (chain_last (thn (hc pins s3 σ H3 _ I3 q3) fun w' s4 ⟨z', H4, I4, r4, q4⟩ => ho' pins s4 σ H4 y z' u w' Q I4 r2 r4 q4))
theorem pt_chain {op op' : CmpOp} {r r' : R2} (ho : OpR X (compareOp op) r) (ho' : OpR X (compareOp op') r') (ha : PE X a ta) (hb : PE X b tb) (hc : PE X c tc)
    (hm : lastMarks [op, op'] [b, c] = false := by with_unfolding_all rfl) : PT X (.Compare a [op, op'] [b, c] pos) (tTest (tChain r r' ta tb tc)) := by
  intro pins s σ H Q I h
  refine isTrue_chain (thn (ha pins s σ H _ I h) fun v s1 ⟨x, H1, I1, r1, q1⟩ => test_link (thn (hb pins s1 σ H1 _ I1 q1) fun u s2 ⟨y, H2, I2, r2, q2⟩ =>
    thn (ho pins s2 σ H2 x y v u _ I2 r1 r2 q2) fun d s3 ⟨z, H3, I3, r3, k, e, q3⟩ => ?_)) hm
  subst e
  cases r3
  refine wpAny_truthy_bool ?_
  cases k with
  | false =>
    obtain ⟨k', e', q'⟩ := q3
    cases e'
    exact ite_ff ⟨H3, I3, q'⟩
  | true =>
    refine ite_tt (test_last (thn (hc pins s3 σ H3 _ I3 q3) fun w' s4 ⟨z', H4, I4, r4, q4⟩ => thn (ho' pins s4 σ H4 y z' u w' _ I4 r2 r4 q4) fun d' s5 ⟨z2, H5, I5, r5, k2, e2, q5⟩ => ?_))
    subst e2
    cases r5
    exact wpAny_truthy_bool ⟨H5, I5, q5⟩

/-! ### truth -/
/-- a value's truth by the abstract heap -/
def TruV (K : PySem.W.Frag) (x : V) (H : Hp) (k : Bool) : Prop :=
  match x with
  | .non => k = false
  | .bl b => k = b
  | .int i => k = (i != 0)
  | .str y => y.length ≤ sizeLine ∧ k = ((y.length : Int) != 0)
  | .byt y => y.size ≤ sizeLine ∧ k = ((y.size : Int) != 0)
  | .ref p => (∃ xs, SqL K H p xs ∧ k = !xs.isEmpty) ∨ (∃ xs, SqT K H p xs ∧ k = !xs.isEmpty) ∨ ∃ kvs, H p = some (.dK kvs) ∧ k = !kvs.isEmpty
  | _ => False
theorem isEmpty_kv {κ : Type} {kvs : List (κ × V)} {vs : List (κ × Value)} (r : KV kvs vs) : (!vs.isEmpty) = !kvs.isEmpty := by
  cases r <;> rfl
theorem isEmpty_of {xs : List V} {its : List Value} (r : Vals xs its) : (!its.toArray.isEmpty) = !xs.isEmpty := by
  cases r <;> simp
theorem line63 : (sizeLine : Nat) < 2 ^ 63 := by rw [sizeLine_eq]; decide
theorem tru_ok : TruR X (fun x H Q => ∃ k, TruV X.K x H k ∧ Q k H) := by
  intro pins s σ H x v Q I rx h
  obtain ⟨k, e, q⟩ := h
  have hl := line63
  have hs : sizeLine = 16777216 := sizeLine_eq
  cases x with
  | non =>
    cases rx
    have e' : k = false := e
    subst e'
    exact truthy_none ⟨H, I, q⟩
  | bl b =>
    cases rx
    have e' : k = b := e
    subst e'
    exact wpAny_truthy_bool ⟨H, I, q⟩
  | int i =>
    obtain ⟨t, rfl⟩ := rx
    have e' : k = (i != 0) := e
    subst e'
    exact PySem.P.truthy_int ⟨H, I, q⟩
  | str y =>
    obtain ⟨t, rfl⟩ := rx
    obtain ⟨hy, e'⟩ : y.length ≤ sizeLine ∧ k = ((y.length : Int) != 0) := e
    subst e'
    exact PySem.P.truthy_str (by omega) ⟨H, I.tok _, q⟩
  | byt y =>
    obtain ⟨t, rfl⟩ := rx
    obtain ⟨hy, e'⟩ : y.size ≤ sizeLine ∧ k = ((y.size : Int) != 0) := e
    subst e'
    exact PySem.W.truthy_bytes (by omega) ⟨H, I.tok _, q⟩
  | ref p =>
    cases rx
    have e' : (∃ xs, SqL X.K H p xs ∧ k = !xs.isEmpty) ∨ (∃ xs, SqT X.K H p xs ∧ k = !xs.isEmpty) ∨ ∃ kvs, H p = some (.dK kvs) ∧ k = !kvs.isEmpty := e
    rcases e' with ⟨xs, hx, e'⟩ | ⟨xs, hx, e'⟩ | ⟨kvs, hx, e'⟩
    · subst e'
      obtain ⟨its, r, pl, hz⟩ := I.list hx
      have hlen := r.length
      exact wpAny_truthy_list pl.isList (by simp only [List.size_toArray]; omega) ⟨H, I.tok _, by rw [isEmpty_of r]; exact q⟩
    · subst e'
      obtain ⟨its, r, pl, hz⟩ := I.tuple hx
      have hlen := r.length
      exact truthy_tuple pl (by simp only [List.size_toArray]; omega) ⟨H, I.tok _, by rw [isEmpty_of r]; exact q⟩
    · subst e'
      obtain ⟨hz, hS, vs, r, m⟩ : kvs.length ≤ sizeLine ∧ (p == sysModules) = false ∧ ∃ vs, KV kvs vs ∧ s.heap.DictOf (mixKind X.prog X.w) p vs := I.hok p _ hx
      have hlen : kvs.length = vs.length := Paired.length r
      exact wpAny_truthy_dict hS m (by omega) ⟨H, I.tok _, by rw [isEmpty_kv r]; exact q⟩
  | _ => exact (show False from e).elim
/-- any expression whose test is its value's truth (a name, a call, a subscript, a field ..: he by fun _ => rfl) -/
theorem pt_truth (ha : PE X a ta) (he : ∀ whole, isTrue a X.env whole = (do let v ← whole; standAt a.pos; holding [v] (truthy v))) :
    PT X a (fun σ H Q => ta σ H fun x H' => ∃ k, TruV X.K x H' k ∧ Q k H') := by
  intro pins s σ H Q I h
  exact isTrue_plain (thn (ha pins s σ H _ I h) fun v s1 ⟨x, H1, I1, r1, q1⟩ => tru_ok pins s1 σ H1 x v Q I1 r1 q1) (he _)

/-! ### strs and bytes -/
theorem pe_byt {x : List UInt8} {k : Nat} : PE X (.Constant (.bytes x) k pos) (fun _ H Q => Q (.byt x.toArray) H) := fun _ _ _ H _ I h => PySem.W.Constant_bytes ⟨.byt x.toArray, H, I.tok _, ⟨_, rfl⟩, h⟩
theorem op_add_str : OpR X (binaryOp .Add) (fun x y H Q => ∃ i j, x = .str i ∧ y = .str j ∧ i.length + j.length ≤ sizeLine ∧ Q (.str (i ++ j)) H) := by
  intro pins s σ H x y v u Q I rx ry h
  obtain ⟨i, j, rfl, rfl, hz, q⟩ := h
  obtain ⟨t, rfl⟩ := rx
  obtain ⟨t', rfl⟩ := ry
  exact add_str (fun t' tk => ⟨.str (i ++ j), H, I.tok _, ⟨_, rfl⟩, q⟩) hz
theorem iop_add_str : OpR X (inplaceOp .Add) (fun x y H Q => ∃ i j, x = .str i ∧ y = .str j ∧ i.length + j.length ≤ sizeLine ∧ Q (.str (i ++ j)) H) := by
  intro pins s σ H x y v u Q I rx ry h
  obtain ⟨i, j, rfl, rfl, hz, q⟩ := h
  obtain ⟨t, rfl⟩ := rx
  obtain ⟨t', rfl⟩ := ry
  exact iadd_str (fun t' tk => ⟨.str (i ++ j), H, I.tok _, ⟨_, rfl⟩, q⟩) hz
theorem op_add_byt : OpR X (binaryOp .Add) (fun x y H Q => ∃ i j, x = .byt i ∧ y = .byt j ∧ i.size + j.size ≤ 16777216 ∧ Q (.byt (i ++ j)) H) := by
  intro pins s σ H x y v u Q I rx ry h
  obtain ⟨i, j, rfl, rfl, hz, q⟩ := h
  obtain ⟨t, rfl⟩ := rx
  obtain ⟨t', rfl⟩ := ry
  exact PySem.W.KBy.add_bytes hz (fun t' tk => ⟨.byt (i ++ j), H, I.tok _, ⟨_, rfl⟩, q⟩)

def PlainIxT (b : Expr) : Prop := ∀ o i, subscripted b false o i = operate [o, i] (getItem o i)
/-- s[i], 0 ≤ i < len -/
theorem pe_item_str (ha : PE X a ta) (hb : PE X b tb) (hs : PlainIxT b) :
    PE X (.Subscript a b pos) (tOp (fun x y H Q => ∃ z i c, x = .str z ∧ y = .int i ∧ 0 ≤ i ∧ i < 2 ^ 63 ∧ i < z.length ∧ z.cps[i.toNat]? = some c ∧ Q (.str ⟨#[c]⟩) H) ta tb) := by
  intro pins s σ H Q I h
  refine Subscript_ (binT ha hb I h fun v u s2 x y H2 I2 rx ry q => ?_)
  obtain ⟨z, i, c, rfl, rfl, h0, h63, h1, hc, q⟩ := q
  obtain ⟨t, rfl⟩ := rx
  obtain ⟨t', rfl⟩ := ry
  have e : seqIndex? i z.length = some i.toNat := PySem.StrLaws.seqIndex_nonneg h0 h1
  exact tail_any (typeIs_str s2 z t) slot_str_getitem.lookup (getItem_str (c := c) (by
    have e1 : decide (i < -(2 ^ 63 : Int)) = false := decide_eq_false (by omega)
    have e2 : decide (i ≥ 2 ^ 63) = false := decide_eq_false (by omega)
    rw [e1, e2] <;> rfl) (by rw [e]; exact hc) ⟨.str ⟨#[c]⟩, H2, I2.tok _, ⟨_, rfl⟩, q⟩) (hs _ _)
/-- b[i], 0 ≤ i < len -/
theorem pe_item_byt (ha : PE X a ta) (hb : PE X b tb) (hs : PlainIxT b) :
    PE X (.Subscript a b pos) (tOp (fun x y H Q => ∃ (z : List UInt8) (i : Int), x = .byt z.toArray ∧ y = .int i ∧ z.length ≤ sizeLine ∧ 0 ≤ i ∧ i < z.length ∧ Q (.int ((z.getD i.toNat 0).toNat : Nat)) H) ta tb) := by
  intro pins s σ H Q I h
  refine Subscript_ (binT ha hb I h fun v u s2 x y H2 I2 rx ry q => ?_)
  obtain ⟨z, i, rfl, rfl, hz, h0, h1, q⟩ := q
  obtain ⟨t, rfl⟩ := rx
  obtain ⟨t', rfl⟩ := ry
  have hl : sizeLine = 16777216 := sizeLine_eq
  exact tail_any (PySem.W.typeIs_bytes s2 z.toArray t) PySem.W.FB.slot_bytes_getitem.lookup (PySem.W.getItem_bytes (by omega) h0 h1 ⟨.int ((z.getD i.toNat 0).toNat : Nat), H2, I2.tok _, ⟨_, rfl⟩, q⟩) (hs _ _)

/-! ### scalar builtins, by CallR -/
theorem vals1 {x : V} {us : List Value} (r : Vals [x] us) : ∃ u, us = [u] ∧ RelV x u := by
  cases r with
  | cons r1 r2 => cases r2; exact ⟨_, rfl, r1⟩
theorem vals2 {x y : V} {us : List Value} (r : Vals [x, y] us) : ∃ u w', us = [u, w'] ∧ RelV x u ∧ RelV y w' := by
  cases r with
  | cons r1 r2 =>
    cases r2 with
    | cons r3 r4 => cases r4; exact ⟨_, _, rfl, r1, r3⟩
theorem call_abs : CallR X (.builtin "abs") (fun xs H Q => ∃ i, xs = [.int i] ∧ Q (.int (if i < 0 then -i else i)) H) := by
  intro pins s σ H xs us Q I r h
  obtain ⟨i, rfl, q⟩ := h
  obtain ⟨u, rfl, t, rfl⟩ := vals1 r
  exact call_abs_int fun u tk => ⟨.int (if i < 0 then -i else i), H, I.tok _, ⟨_, rfl⟩, q⟩
theorem call_max2 (hc : X.calm = true) : CallR X (.builtin "max") (fun xs H Q => ∃ i j, xs = [.int i, .int j] ∧ Q (.int (if j > i then j else i)) H) := by
  intro pins s σ H xs us Q I r h
  obtain ⟨i, j, rfl, q⟩ := h
  obtain ⟨u, w', rfl, ⟨t, rfl⟩, ⟨t', rfl⟩⟩ := vals2 r
  refine max_two_ints (I.ok.hd hc) fun h' tk k => ⟨_, H, I.kept k, ?_, q⟩
  by_cases hj : j > i
  · rw [if_pos hj, if_pos hj]; exact ⟨_, rfl⟩
  · rw [if_neg hj, if_neg hj]; exact ⟨_, rfl⟩
theorem call_min2 (hc : X.calm = true) : CallR X (.builtin "min") (fun xs H Q => ∃ i j, xs = [.int i, .int j] ∧ Q (.int (if j < i then j else i)) H) := by
  intro pins s σ H xs us Q I r h
  obtain ⟨i, j, rfl, q⟩ := h
  obtain ⟨u, w', rfl, ⟨t, rfl⟩, ⟨t', rfl⟩⟩ := vals2 r
  refine min_two_ints (I.ok.hd hc) fun h' tk k => ⟨_, H, I.kept k, ?_, q⟩
  by_cases hj : j < i
  · rw [if_pos hj, if_pos hj]; exact ⟨_, rfl⟩
  · rw [if_neg hj, if_neg hj]; exact ⟨_, rfl⟩
theorem call_int1 : CallR X (.type "int") (fun xs H Q => (∃ i, xs = [.int i] ∧ Q (.int i) H) ∨ ∃ k, xs = [.bl k] ∧ Q (.int (if k then 1 else 0)) H) := by
  intro pins s σ H xs us Q I r h
  rcases h with ⟨i, rfl, q⟩ | ⟨k, rfl, q⟩
  · obtain ⟨u, rfl, t, rfl⟩ := vals1 r
    exact call_int_int ⟨.int i, H, I, ⟨_, rfl⟩, q⟩
  · obtain ⟨u, rfl, r1⟩ := vals1 r
    cases r1
    exact call_int_bool ⟨.int (if k then 1 else 0), H, I.tok _, ⟨_, rfl⟩, q⟩
theorem call_bool1 : CallR X (.type "bool") (fun xs H Q => (∃ i, xs = [.int i] ∧ Q (.bl (i != 0)) H) ∨ ∃ k, xs = [.bl k] ∧ Q (.bl k) H) := by
  intro pins s σ H xs us Q I r h
  rcases h with ⟨i, rfl, q⟩ | ⟨k, rfl, q⟩
  · obtain ⟨u, rfl, t, rfl⟩ := vals1 r
    exact call_bool_int ⟨.bl (i != 0), H, I, rfl, q⟩
  · obtain ⟨u, rfl, r1⟩ := vals1 r
    cases r1
    exact call_bool_bool ⟨.bl k, H, I, rfl, q⟩
theorem call_str_int : CallR X (.type "str") (fun xs H Q => ∃ i, xs = [.int i] ∧ i.natAbs.log2 < 1920 ∧ Q (.str (toString i)) H) := by
  intro pins s σ H xs us Q I r h
  obtain ⟨i, rfl, hz, q⟩ := h
  obtain ⟨u, rfl, t, rfl⟩ := vals1 r
  exact PySem.P.str_of_int hz ⟨.str _, H, I.tok _, ⟨_, rfl⟩, q⟩
theorem call_ord : CallR X (.builtin "ord") (fun xs H Q => ∃ x, xs = [.str x] ∧ x.length = 1 ∧ Q (.int (x.cps.getD 0 0 : Nat)) H) := by
  intro pins s σ H xs us Q I r h
  obtain ⟨x, rfl, hz, q⟩ := h
  obtain ⟨u, rfl, t, rfl⟩ := vals1 r
  exact ord_of_one hz ⟨.int _, H, I.tok _, ⟨_, rfl⟩, q⟩
theorem call_chr : CallR X (.builtin "chr") (fun xs H Q => ∃ i, xs = [.int i] ∧ 0 ≤ i ∧ i ≤ 1114111 ∧ Q (.str ⟨#[i.toNat]⟩) H) := by
  intro pins s σ H xs us Q I r h
  obtain ⟨i, rfl, h0, h1, q⟩ := h
  obtain ⟨u, rfl, t, rfl⟩ := vals1 r
  exact chr_of_range h0 h1 ⟨.str _, H, I.tok _, ⟨_, rfl⟩, q⟩
/-- len of a str, a bytes, a list, a tuple -/
def LenV (K : PySem.W.Frag) (x : V) (H : Hp) (n : Nat) : Prop :=
  match x with
  | .str y => y.length ≤ sizeLine ∧ n = y.length
  | .byt y => y.size ≤ sizeLine ∧ n = y.size
  | .ref p => (∃ xs, SqL K H p xs ∧ n = xs.length) ∨ ∃ xs, SqT K H p xs ∧ n = xs.length
  | _ => False
theorem call_len : CallR X (.builtin "len") (fun xs H Q => ∃ x n, xs = [x] ∧ LenV X.K x H n ∧ Q (.int n) H) := by
  intro pins s σ H xs us Q I r h
  obtain ⟨x, n, rfl, e, q⟩ := h
  obtain ⟨u, rfl, rx⟩ := vals1 r
  have hl := line63
  have hs : sizeLine = 16777216 := sizeLine_eq
  cases x with
  | str y =>
    obtain ⟨t, rfl⟩ := rx
    obtain ⟨hy, e'⟩ : y.length ≤ sizeLine ∧ n = y.length := e
    subst e'
    exact len_str (by omega) ⟨.int _, H, I.tok _, ⟨_, rfl⟩, q⟩
  | byt y =>
    obtain ⟨t, rfl⟩ := rx
    obtain ⟨hy, e'⟩ : y.size ≤ sizeLine ∧ n = y.size := e
    subst e'
    exact PySem.W.len_bytes (by omega) ⟨.int _, H, I.tok _, ⟨_, rfl⟩, q⟩
  | ref p =>
    cases rx
    have e' : (∃ xs, SqL X.K H p xs ∧ n = xs.length) ∨ ∃ xs, SqT X.K H p xs ∧ n = xs.length := e
    rcases e' with ⟨xs, hx, e'⟩ | ⟨xs, hx, e'⟩
    · subst e'
      obtain ⟨its, r', pl, hz⟩ := I.list hx
      have hlen := r'.length
      exact Calls.call_len_list pl.isList (by simp only [List.size_toArray]; omega) ⟨.int xs.length, H, I.tok _, ⟨_, by simp only [List.size_toArray]; rw [hlen]⟩, q⟩
    · subst e'
      obtain ⟨its, r', pl, hz⟩ := I.tuple hx
      have hlen := r'.length
      exact len_tuple pl (by simp only [List.size_toArray]; omega) ⟨.int xs.length, H, I.tok _, ⟨_, by simp only [List.size_toArray]; rw [hlen]⟩, q⟩
  | _ => exact (show False from e).elim
/-- divmod: a new tuple -/
theorem call_divmod : CallR X (.builtin "divmod") (fun xs H Q => ∃ i j, xs = [.int i, .int j] ∧ CDiv i j ∧ ∀ p, H p = none → Q (.ref p) (upd H p (.tup [.int (i / j), .int (i % j)]))) := by
  intro pins s σ H xs us Q I r h
  obtain ⟨i, j, rfl, ⟨h1, h2⟩, q⟩ := h
  obtain ⟨u, w', rfl, ⟨t, rfl⟩, ⟨t', rfl⟩⟩ := vals2 r
  refine divmod_int (by omega) ?_ (.inl (PyProof.noPylong_small (by omega)))
  rw [Int.fdiv_eq_ediv_of_nonneg i (by omega), Int.fmod_eq_emod_of_nonneg i (by omega)]
  have hn : H s.heap.objs.size = none := I.hok.fresh (Nat.le_refl _)
  refine ⟨.ref s.heap.objs.size, _, ?_, rfl, q _ hn⟩
  refine I.laid (fun b o e => Heap.get?_push_of_some _ e) (Nat.le_refl _) ⟨by simp only [List.length_cons, List.length_nil]; rw [sizeLine_eq]; decide, [.int (i / j) s.toks, .int (i % j) (s.toks + 1)], .cons ⟨_, rfl⟩ (.cons ⟨_, rfl⟩ .nil), ?_⟩
  exact ⟨_, Heap.get?_push_size s.heap rfl, rfl, 0, rfl⟩
end
end L2

namespace L2
open PySem PySem.Spec PyProof.Rows

/-! ### an instance, its attributes a map -/
structure ObjM (h : Heap) (x dx C : Addr) (mA : Str → Option Value) : Prop where
  obj : h.get? x = some (PySem.W.instObj C dx)
  ns : h.Ns1 dx mA
  ne : dx ≠ x

theorem lookIn_ns {h : Heap} {dx : Addr} {mA : Str → Option Value} (n : h.Ns1 dx mA) : ∃ od, h.get? dx = some od ∧ ∀ name, PySem.W.lookIn name od = some (mA name) := by
  obtain ⟨o, es, ep, ho, hd, hk, _, hm⟩ := n
  refine ⟨o, ho, fun name => ?_⟩
  have e := hm name
  unfold nsFind findBy at e
  rw [← Array.find?_toList] at e
  unfold PySem.W.lookIn
  rw [hd]
  dsimp only
  split
  · rename_i y q
    rw [q] at e
    exact congrArg some e
  · rename_i q
    rw [q] at e
    have a : es.toList.any (·.refKey) = false := by
      rw [List.any_eq_false]
      intro y hy
      obtain ⟨z, t, hkey⟩ := hk y (Array.mem_toList_iff.mp hy)
      simp [DictEntry.refKey, hkey]
    have a' : ¬ es.toList.any (·.refKey) = true := by rw [a]; exact Bool.false_ne_true
    rw [if_neg a']
    exact congrArg some e

theorem ObjM.look {h : Heap} {x dx C : Addr} {mA : Str → Option Value} (I : ObjM h x dx C mA) : ∃ od, PySem.W.InstAt h x (PySem.W.instObj C dx) C (some od) ∧ ∀ name, PySem.W.lookIn name od = some (mA name) :=
  let ⟨od, ho, hl⟩ := lookIn_ns I.ns
  ⟨od, ⟨I.obj, rfl, rfl, ho⟩, hl⟩

section
variable {prog : Program} {w : World} {A : Around} {E : Value → Shared → Prop} {s : Shared} {K : PySem.W.Frag} {x dx C f : Addr} {mA : Str → Option Value} {name : Str} {v : Value}

theorem get_map {expr : Bool} {Q : Value → Shared → Prop} (X : K.In s.heap) (I : ObjM s.heap x dx C mA) (hg : PySem.W.plainGet K C name = true) (hh : PySem.W.hasDictIn K C = true)
    (ha : PySem.W.findIn K (.ref C) name = some none) (hv : mA name = some v) (hv' : PySem.W.handedIn v = true) (h : Q v { s with toks := s.toks + 1 }) :
    wpAny (model prog w) A (getAttr (.ref x) name expr) Q E s := by
  obtain ⟨od, J, hl⟩ := I.look
  exact PySem.W.get_value X J (PySem.W.plainGet_of hg).1 (PySem.W.findObj_own hh ha rfl (by rw [hl, hv])) hv' h

theorem get_const {expr : Bool} {a : Value} {Q : Value → Shared → Prop} (X : K.In s.heap) (I : ObjM s.heap x dx C mA) (hg : PySem.W.plainGet K C name = true) (hh : PySem.W.hasDictIn K C = true)
    (ha : PySem.W.findIn K (.ref C) name = some (some a)) (hn : PySem.W.specialIn K a "__get__" = some none) (hc : PySem.W.copiedNames.contains name = false) (hv : mA name = none) (hv' : PySem.W.handedIn a = true)
    (h : Q a { s with toks := s.toks + 1 }) : wpAny (model prog w) A (getAttr (.ref x) name expr) Q E s := by
  obtain ⟨od, J, hl⟩ := I.look
  exact PySem.W.get_value X J (PySem.W.plainGet_of hg).1 (PySem.W.findObj_cls hh ha hn hv' hc (by rw [hl, hv])) hv' h

theorem get_meth {pl : Sem Bool} {Q : Value × List Value → Shared → Prop} (X : K.In s.heap) (I : ObjM s.heap x dx C mA) (hg : PySem.W.plainGet K C name = true)
    (hf : PySem.W.findIn K (.ref C) name = some (some (.ref f))) (ht : PySem.W.isFn K (.ref f) = true) (hv : mA name = none) (h : Q (.ref f, [.ref x]) s) :
    wpAny (model prog w) A (getMethod (.ref x) name pl) Q E s := by
  obtain ⟨od, J, hl⟩ := I.look
  exact PySem.W.method_fn X J (PySem.W.plainGet_of hg).1 (PySem.W.plainGet_of hg).2 hf (beq_iff_eq.mp ht) (by show (PySem.W.lookIn name od).map (·.isSome) = some false; rw [hl, hv]; rfl) h

theorem set_map {ns : List Str} {Q : Unit → Shared → Prop} (X : K.In s.heap) (I : ObjM s.heap x dx C mA)
    (hs : PySem.W.findIn K (.ref C) "__setattr__" = some (some (.builtin "object.__setattr__"))) (hp : PySem.W.plainOver K C = true) (ht : PySem.W.takerIn K C name = some none) (hh : PySem.W.hasDictIn K C = true)
    (hw : PySem.Within mA ns) (hsz : ns.length ≤ sizeLine)
    (h : ∀ h', ObjM h' x dx C (fun y => if y = name then some v else mA y) → Heap.SameBut dx s.heap h' → Q () { s with heap := h', toks := s.toks + 2 }) :
    wpAny (model prog w) A (setAttr (.ref x) name v) Q E s := by
  obtain ⟨od, J, hl⟩ := I.look
  refine PySem.W.set_plain X J hs (PySem.W.osa_open (s := { s with toks := s.toks + 1 }) (r := none) X J hp ht fun b => ?_)
  obtain ⟨cd, hc, hd'⟩ := PySem.W.any_some hh
  have hx : s.heap.get? x = some ⟨.ref C, some dx, .plain, #[]⟩ := I.obj
  refine wpAny_bind (wpAny_pure (wpAny_bind (wpAny_bind (wpAny_loadPart hx (wpAny_bind (PySem.W.Looks.here (s := { s with toks := s.toks + 1 }) (PySem.W.looks_clsIn X hc) ?_))))))
  rw [hd']
  refine wpAny_pure (a := some dx) (wpAny_bind (wpAny_pure (wpAny_bind ?_)))
  refine wpAny_nsSet1 (s := { s with toks := s.toks + 1 }) I.ns fun h' hn2 hs2 => ?_
  obtain ⟨oD, esD, epD, hoD, hdD, hcD⟩ := hn2.count (PySem.Within.cons name v hw)
  refine wpAny_bind (wpAny_lookBehind hoD (by rw [hdD]; exact pastItsLine_dict (Nat.le_trans hcD (by rw [List.length_cons]; omega))) ?_)
  exact wpAny_pure (h _ ⟨(hs2.2 _ (Ne.symm I.ne)).trans I.obj, hn2, I.ne⟩ hs2)

/-- C(..): the dict at the heap's end, the instance behind it; then its __init__ -/
theorem make_map {R : Result → Shared → Prop} {vs : List Value} {kw : List (Str × Value)} (X : K.In s.heap) (hm : PySem.W.makesIn K C = true)
    (hi : PySem.W.findIn K (.ref C) "__init__" = some (some (.ref f))) (hf : PySem.W.typeIn K (.ref f) = some (.type "function"))
    (h : codeAny (model prog w) (A.under (.builtin "type.__call__" ⟨.ref C :: vs, kw⟩)) (.call (.ref f) ⟨.ref (s.heap.objs.size + 1) :: vs, kw⟩) (PySem.W.InitBack (s.heap.objs.size + 1) R)
      { s with heap := (s.heap.push PySem.W.emptyDict).push (PySem.W.instObj C s.heap.objs.size) }) :
    codeAny (model prog w) A (.call (.ref C) ⟨vs, kw⟩) R s := by
  obtain ⟨hh, g, d, t, os⟩ := s
  exact PySem.W.make_core (PySem.W.makes_of X hm) (PySem.W.looks_findIn X hi) (fun self => PySem.W.bind_fn X self hf) (.inl rfl) h
/-- C() where there is no __init__ but object's -/
theorem make_map0 {R : Result → Shared → Prop} (X : K.In s.heap) (hm : PySem.W.makesIn K C = true)
    (hi : PySem.W.findIn K (.ref C) "__init__" = some (some (.builtin "object.__init__")))
    (hb : ∀ self, PySem.W.Looks (model prog w) s.heap (bindSpecial (.builtin "object.__init__") self) (.builtin "object.__init__", [self]))
    (h : codeAny (model prog w) (A.under (.builtin "type.__call__" ⟨[.ref C], []⟩)) (.call (.builtin "object.__init__") ⟨[.ref (s.heap.objs.size + 1)], []⟩) (PySem.W.InitBack (s.heap.objs.size + 1) R)
      { s with heap := (s.heap.push PySem.W.emptyDict).push (PySem.W.instObj C s.heap.objs.size) }) :
    codeAny (model prog w) A (.call (.ref C) ⟨[], []⟩) R s := by
  obtain ⟨hh, g, d, t, os⟩ := s
  exact PySem.W.make_core (PySem.W.makes_of X hm) (PySem.W.looks_findIn X hi) hb (.inr ⟨rfl, rfl⟩) h
end

/-! ### the attributes as a list of pairs -/
def putF (f : Str) (v : V) : List (Str × V) → List (Str × V)
  | [] => [(f, v)]
  | (g, x) :: r => if g = f then (g, v) :: r else (g, x) :: putF f v r
theorem lookup_putF (f g : Str) (v : V) : ∀ fs : List (Str × V), (putF f v fs).lookup g = if g = f then some v else fs.lookup g
  | [] => by
    show List.lookup g [(f, v)] = _
    by_cases h : g = f
    · have hb : (g == f) = true := beq_iff_eq.mpr h
      simp only [List.lookup, hb, if_pos h]
    · have hb : (g == f) = false := beq_eq_false_iff_ne.mpr h
      simp only [List.lookup, hb, if_neg h]
  | (k, x) :: r => by
    have ih := lookup_putF f g v r
    rw [show putF f v ((k, x) :: r) = (if k = f then (k, v) :: r else (k, x) :: putF f v r) from rfl]
    by_cases hk : k = f
    · rw [if_pos hk]
      by_cases h : g = k
      · have hb : (g == k) = true := beq_iff_eq.mpr h
        simp only [List.lookup, hb, if_pos (h.trans hk)]
      · have hb : (g == k) = false := beq_eq_false_iff_ne.mpr h
        simp only [List.lookup, hb, if_neg (fun e : g = f => h (e.trans hk.symm))]
    · rw [if_neg hk]
      by_cases h : g = k
      · have hb : (g == k) = true := beq_iff_eq.mpr h
        simp only [List.lookup, hb, if_neg (fun e : g = f => hk (h.symm.trans e))]
      · have hb : (g == k) = false := beq_eq_false_iff_ne.mpr h
        simp only [List.lookup, hb]
        exact ih
theorem keys_putF (f : Str) (v : V) : ∀ fs : List (Str × V), f ∈ (putF f v fs).map (·.1) ∧ ∀ g, g ∈ fs.map (·.1) → g ∈ (putF f v fs).map (·.1)
  | [] => ⟨by simp [putF], fun g h => by simp at h⟩
  | (k, x) :: r => by
    obtain ⟨i1, i2⟩ := keys_putF f v r
    rw [show putF f v ((k, x) :: r) = (if k = f then (k, v) :: r else (k, x) :: putF f v r) from rfl]
    by_cases hk : k = f
    · rw [if_pos hk]
      subst hk
      exact ⟨by simp, fun g h => by simpa using h⟩
    · rw [if_neg hk]
      refine ⟨?_, fun g h => ?_⟩
      · rw [List.map_cons]
        exact List.mem_cons_of_mem _ i1
      · rw [List.map_cons] at h ⊢
        rcases List.mem_cons.mp h with e | e
        · exact List.mem_cons.mpr (.inl e)
        · exact List.mem_cons_of_mem _ (i2 g e)
theorem length_putF (f : Str) (v : V) : ∀ fs : List (Str × V), (putF f v fs).length ≤ fs.length + 1
  | [] => by simp [putF]
  | (k, x) :: r => by
    have ih := length_putF f v r
    rw [show putF f v ((k, x) :: r) = (if k = f then (k, v) :: r else (k, x) :: putF f v r) from rfl]
    by_cases hk : k = f
    · rw [if_pos hk, List.length_cons, List.length_cons]; omega
    · rw [if_neg hk, List.length_cons, List.length_cons]; omega

theorem RelO.some_of {v : V} {o : Option Value} (r : RelO (some v) o) : ∃ u, o = some u ∧ RelV v u := by
  cases o with
  | none => exact (show False from r).elim
  | some u => exact ⟨u, rfl, r⟩
theorem RelO.none_of {o : Option Value} (r : RelO none o) : o = none := by
  cases o with
  | none => rfl
  | some u => exact (show False from r).elim
theorem handed_of {v : V} {u : Value} (r : RelV v u) : PySem.W.handedIn u = true := by
  cases v with
  | non => cases (show u = Value.none from r); rfl
  | bl b => cases (show u = Value.bool b from r); rfl
  | int i => obtain ⟨t, e⟩ := (show ∃ t, u = Value.int i t from r); cases e; rfl
  | str x => obtain ⟨t, e⟩ := (show ∃ t, u = Value.str x t from r); cases e; rfl
  | byt b => obtain ⟨t, e⟩ := (show ∃ t, u = Value.bytes b t from r); cases e; rfl
  | flt b => obtain ⟨t, e⟩ := (show ∃ t, u = Value.float b t from r); cases e; rfl
  | ref a => cases (show u = Value.ref a from r); rfl
  | ty n => cases (show u = Value.type n from r); rfl

section
variable {P : Program} {w : World} {H H' : Hp} {h h' : Heap} {a C dx : Addr} {fs fs' : List (Str × V)}
theorem ins_get (hok : HOk P w H h) (e : H a = some (.ins C dx fs)) : ∃ mA, ObjM h a dx C mA ∧ (∀ f, RelO (fs.lookup f) (mA f)) ∧ PySem.Within mA (fs.map (·.1)) ∧ fs.length ≤ 1000 ∧ H dx = some (.own a) := by
  obtain ⟨d, z, ne, ob, mA, n, r, q⟩ := (show ObjOk P w H h a (.ins C dx fs) from hok a _ e)
  exact ⟨mA, ⟨ob, n, ne⟩, r, q, z, d⟩
end

/-! ### what of the text a class must have -/
structure Cls (K : PySem.W.Frag) (C : Addr) : Prop where
  pg : PySem.W.plainGet K C Str.empty = true
  hd : PySem.W.hasDictIn K C = true
  po : PySem.W.plainOver K C = true
  sa : PySem.W.findIn K (.ref C) "__setattr__" = some (some (.builtin "object.__setattr__"))
theorem Cls.get {K : PySem.W.Frag} {C : Addr} (c : Cls K C) (f : Str) : PySem.W.plainGet K C f = true := c.pg
/-- no class of it has the name -/
def NoAttr (K : PySem.W.Frag) (C : Addr) (f : Str) : Prop := PySem.W.findIn K (.ref C) f = some none
theorem NoAttr.taker {K : PySem.W.Frag} {C : Addr} {f : Str} (n : NoAttr K C f) : PySem.W.takerIn K C f = some none := by
  unfold PySem.W.takerIn
  rw [show PySem.W.findIn K (.ref C) f = some none from n]
  rfl
/-- a constant of the class -/
structure Con (K : PySem.W.Frag) (C : Addr) (f : Str) (v : V) (u : Value) : Prop where
  at_ : PySem.W.findIn K (.ref C) f = some (some u)
  rel : RelV v u
  get : PySem.W.specialIn K u "__get__" = some none
  cp : PySem.W.copiedNames.contains f = false
/-- a method: a plain def of the class or of one above it -/
structure Meth (K : PySem.W.Frag) (C : Addr) (m : Str) (f : Addr) : Prop where
  at_ : PySem.W.findIn K (.ref C) m = some (some (.ref f))
  fn : PySem.W.isFn K (.ref f) = true
  kp : PySem.W.keepIn K (.ref f) = true

section
variable {X : Cx} {pins : List (Addr × Obj)} {σ : St} {H : Hp} {s : Shared} {a C dx : Addr} {fs : List (Str × V)} {f : Str} {v : V} {A : Around} {E : Value → Shared → Prop}

theorem getattr_ok {b : Bool} {Q : Value → Shared → Prop} (I : Inv X pins σ H s) (e : H a = some (.ins C dx fs)) (c : Cls X.K C) (n : NoAttr X.K C f) (l : fs.lookup f = some v)
    (h : ∀ u s', Inv X pins σ H s' → RelV v u → Q u s') : wpAny (model X.prog X.w) A (getAttr (.ref a) f b) Q E s := by
  obtain ⟨mA, O, r, _, _, _⟩ := ins_get I.hok e
  obtain ⟨u, hu, ru⟩ := RelO.some_of (v := v) (o := mA f) (by rw [← l]; exact r f)
  exact get_map I.kIn O (c.get f) c.hd n hu (handed_of ru) (h u _ (I.tok _) ru)

theorem getcon_ok {b : Bool} {u : Value} {Q : Value → Shared → Prop} (I : Inv X pins σ H s) (e : H a = some (.ins C dx fs)) (c : Cls X.K C) (k : Con X.K C f v u) (l : fs.lookup f = none)
    (h : ∀ s', Inv X pins σ H s' → Q u s') : wpAny (model X.prog X.w) A (getAttr (.ref a) f b) Q E s := by
  obtain ⟨mA, O, r, _, _, _⟩ := ins_get I.hok e
  have hn : mA f = none := RelO.none_of (by rw [← l]; exact r f)
  exact get_const I.kIn O (c.get f) c.hd k.at_ k.get k.cp hn (handed_of k.rel) (h _ (I.tok _))

theorem getmeth_ok {m : Str} {g : Addr} {pl : Sem Bool} {Q : Value × List Value → Shared → Prop} (I : Inv X pins σ H s) (e : H a = some (.ins C dx fs)) (c : Cls X.K C) (k : Meth X.K C m g) (l : fs.lookup m = none)
    (h : Q (.ref g, [.ref a]) s) : wpAny (model X.prog X.w) A (getMethod (.ref a) m pl) Q E s := by
  obtain ⟨mA, O, r, _, _, _⟩ := ins_get I.hok e
  have hn : mA m = none := RelO.none_of (by rw [← l]; exact r m)
  exact get_meth I.kIn O (c.get m) k.at_ k.fn hn h

theorem setattr_ok {y : V} {u : Value} {Q : Unit → Shared → Prop} (I : Inv X pins σ H s) (e : H a = some (.ins C dx fs)) (c : Cls X.K C) (n : NoAttr X.K C f) (hl : fs.length < 1000) (ry : RelV y u)
    (h : ∀ s', Inv X pins σ (upd H a (.ins C dx (putF f y fs))) s' → Q () s') : wpAny (model X.prog X.w) A (setAttr (.ref a) f u) Q E s := by
  obtain ⟨mA, O, r, wi, _, ho⟩ := ins_get I.hok e
  have hz : (fs.map (·.1)).length ≤ sizeLine := by rw [List.length_map, sizeLine_eq]; omega
  refine set_map I.kIn O c.sa c.po n.taker c.hd wi hz fun h' O' sb => h _ ?_
  have hd : ∃ o, h'.get? dx = some o := let ⟨o, _, _, e', _⟩ := O'.ns; ⟨o, e'⟩
  refine I.write (x := a) (e := dx) (by rw [e]; exact True.intro) (.inr ho) (fun b q hb z => (sb.2 b hb).trans z) hd ?_
  refine ⟨by rw [upd_ne O.ne]; exact ho, ?_, O.ne, O'.obj, _, O'.ns, fun g => ?_, fun g hg => ?_⟩
  · have := length_putF f y fs; omega
  · show RelO ((putF f y fs).lookup g) (if g = f then some u else mA g)
    rw [lookup_putF]
    by_cases q : g = f
    · rw [if_pos q, if_pos q]; exact ry
    · rw [if_neg q, if_neg q]; exact r g
  · by_cases q : g = f
    · rw [q]; exact (keys_putF f y fs).1
    · refine (keys_putF f y fs).2 g (wi g fun z => hg ?_)
      show (if g = f then some u else mA g) = none
      rw [if_neg q]; exact z

/-- a new instance, tracked, without attributes -/
theorem Inv.made (I : Inv X pins σ H s) : Inv X pins σ (upd (upd H s.heap.objs.size (.own (s.heap.objs.size + 1))) (s.heap.objs.size + 1) (.ins C s.heap.objs.size []))
    { s with heap := (s.heap.push PySem.W.emptyDict).push (PySem.W.instObj C s.heap.objs.size) } := by
  have e1 : (s.heap.push PySem.W.emptyDict).get? s.heap.objs.size = some PySem.W.emptyDict := Heap.get?_push_size s.heap rfl
  have e2 : ((s.heap.push PySem.W.emptyDict).push (PySem.W.instObj C s.heap.objs.size)).get? (s.heap.objs.size + 1) = some (PySem.W.instObj C s.heap.objs.size) := by
    have := Heap.get?_push_size (s.heap.push PySem.W.emptyDict) (o := PySem.W.instObj C s.heap.objs.size) rfl
    rwa [Heap.size_push] at this
  have e3 : (s.heap.push PySem.W.emptyDict).Ns s.heap.objs.size (fun _ => none) := ⟨PySem.W.emptyDict, #[], _, e1, rfl, (fun e he => absurd he (by simp)), fun _ => rfl⟩
  have I1 := I.laid (a := s.heap.objs.size) (o := .own (s.heap.objs.size + 1)) (h' := s.heap.push PySem.W.emptyDict) (t' := s.toks) (fun b u q => Heap.get?_push_of_some _ q) (Nat.le_refl _) ⟨_, e1⟩
  refine I1.laid (a := s.heap.objs.size + 1) (o := .ins C s.heap.objs.size []) (t' := s.toks) (fun b u q => Heap.get?_push_of_some _ q) (Nat.le_of_eq (Heap.size_push _ _)) ?_
  have ne : s.heap.objs.size ≠ s.heap.objs.size + 1 := Nat.ne_of_lt (Nat.lt_succ_self _)
  refine ⟨by rw [upd_ne ne, upd_same], Nat.zero_le _, ne, e2, fun _ => none, (Heap.Ns1.of_empty e3).at fun o q => Heap.get?_push_of_some _ q, fun _ => True.intro, fun y hy => absurd rfl hy⟩

/-- e.f where nothing but the object is asked: through attributeBase (super) and the last hold -/
theorem attr_of {prog : Program} {w : World} {env : Env} {e : Expr} {f : Str} {pos : Pos} {s : Shared} {Q : Value → Shared → Prop} (hb : attributeBase e f env (eval e env) = eval e env)
    (h : wpAny (model prog w) A (eval e env) (fun o s₁ => wpAny (model prog w) A (getAttr o f true) Q E s₁) E s) : wpAny (model prog w) A (eval (.Attribute e f pos) env) Q E s :=
  Attribute_any_ h (by rw [arm_eval_Attribute, hb])
end

/-! ### readings and rules -/
/-- e.f, an attribute of the instance -/
def tFld (K : PySem.W.Frag) (ta : TE) (f : Str) : TE := fun σ H Q => ta σ H fun x H1 => ∃ a C dx fs v, x = .ref a ∧ H1 a = some (.ins C dx fs) ∧ Cls K C ∧ NoAttr K C f ∧ fs.lookup f = some v ∧ Q v H1
/-- e.f, a constant of the class -/
def tCon (K : PySem.W.Frag) (ta : TE) (f : Str) : TE := fun σ H Q => ta σ H fun x H1 => ∃ a C dx fs v u, x = .ref a ∧ H1 a = some (.ins C dx fs) ∧ Cls K C ∧ Con K C f v u ∧ fs.lookup f = none ∧ Q v H1
/-- e.f = value -/
def sFld (K : PySem.W.Frag) (ta tv : TE) (f : Str) : TS := fun D σ H => tv σ H fun y H1 => ta σ H1 fun x H2 => ∃ a C dx fs, x = .ref a ∧ H2 a = some (.ins C dx fs) ∧ Cls K C ∧ NoAttr K C f ∧ fs.length < 1000 ∧
  D.nx σ (upd H2 a (.ins C dx (putF f y fs)))
/-- an augmented operator on two values -/
def InOp (X : Cx) (op : Operator) (rd : V → V → Hp → VK → Prop) : Prop :=
  ∀ (pins : List (Addr × Obj)) (s : Shared) (σ : St) (H : Hp) (x y : V) (u v : Value) (Q : VK), Inv X pins σ H s → RelV x u → RelV y v → rd x y H Q → wpAny (model X.prog X.w) X.A (inplaceOp op u v) (EP X pins σ Q) X.xe s
/-- e.f op= value -/
def sFldAug (K : PySem.W.Frag) (ta tv : TE) (rd : V → V → Hp → VK → Prop) (f : Str) : TS := fun D σ H => ta σ H fun x H1 => ∃ a C dx fs v, x = .ref a ∧ H1 a = some (.ins C dx fs) ∧ Cls K C ∧ NoAttr K C f ∧ fs.lookup f = some v ∧
  tv σ H1 fun y H2 => rd v y H2 fun z H3 => ∃ dx' fs', H3 a = some (.ins C dx' fs') ∧ fs'.length < 1000 ∧ D.nx σ (upd H3 a (.ins C dx' (putF f z fs')))

section
variable {X : Cx} {o e value : Expr} {f : Str} {pos pos' tpos : Pos} {ta tv : TE}
theorem pe_fld (he : PE X e ta) (hb : attributeBase e f X.env (eval e X.env) = eval e X.env) : PE X (.Attribute e f pos) (tFld X.K ta f) := by
  intro pins s σ H Q I h
  refine attr_of hb (thn (he pins s σ H _ I h) fun u s1 ⟨x, H1, I1, rx, a, C, dx, fs, v, ex, ea, c, n, l, q⟩ => ?_)
  subst ex
  obtain rfl : u = Value.ref a := rx
  exact getattr_ok I1 ea c n l fun u' s2 I2 ru => ⟨v, H1, I2, ru, q⟩
theorem pe_con (he : PE X e ta) (hb : attributeBase e f X.env (eval e X.env) = eval e X.env) : PE X (.Attribute e f pos) (tCon X.K ta f) := by
  intro pins s σ H Q I h
  refine attr_of hb (thn (he pins s σ H _ I h) fun u s1 ⟨x, H1, I1, rx, a, C, dx, fs, v, u0, ex, ea, c, k, l, q⟩ => ?_)
  subst ex
  obtain rfl : u = Value.ref a := rx
  exact getcon_ok I1 ea c k l fun s2 I2 => ⟨v, H1, I2, k.rel, q⟩
theorem ps_fld (ha : PE X o ta) (hv : PE X value tv) (hs : swapsWith value (some (.Attribute o f pos')) pos.line X.env = pure false) : PS X (.Assign [.Attribute o f pos'] value pos) (sFld X.K ta tv f) := by
  intro pins s σ H D I h
  refine plainObj_wpAny_Assign_Attribute (thn (hv pins s σ H _ I h) fun u s1 ⟨y, H1, I1, ry, q⟩ => thn (ha pins s1 σ H1 _ I1 q) fun ov s2 ⟨x, H2, I2, rx, a, C, dx, fs, ex, ea, c, n, l, q2⟩ => ?_) hs
  subst ex
  obtain rfl : ov = Value.ref a := rx
  exact setattr_ok I2 ea c n l ry fun s3 I3 => ⟨σ, _, I3, q2⟩
theorem ps_fldaug {op : Operator} {rd : V → V → Hp → VK → Prop} (ha : PE X o ta) (hv : PE X value tv) (hop : InOp X op rd) : PS X (.AugAssign (.Attribute o f tpos) op value pos) (sFldAug X.K ta tv rd f) := by
  intro pins s σ H D I h
  refine wpAny_AugAssign_AttributeAny (thn (ha pins s σ H _ I h) fun ov s1 ⟨x, H1, I1, rx, a, C, dx, fs, v, ex, ea, c, n, l, q⟩ => ?_)
  subst ex
  obtain rfl : ov = Value.ref a := rx
  refine getattr_ok I1 ea c n l fun u s2 I2 ru => thn (hv pins s2 σ H1 _ I2 q) fun w3 s3 ⟨y, H2, I3, ry, q3⟩ => thn (hop pins s3 σ H2 v y u w3 _ I3 ru ry q3) fun w4 s4 ⟨z, H3, I4, rz, dx', fs', ea', l', q4⟩ => ?_
  exact setattr_ok I4 ea' c n l' rz fun s5 I5 => ⟨σ, _, I5, q4⟩
def rAdd : V → V → Hp → VK → Prop := fun x y H Q => ∃ i j, x = .int i ∧ y = .int j ∧ Q (.int (i + j)) H
def rSub : V → V → Hp → VK → Prop := fun x y H Q => ∃ i j, x = .int i ∧ y = .int j ∧ Q (.int (i - j)) H
theorem in_add : InOp X .Add rAdd := by
  rintro pins s σ H x y u v Q I rx ry ⟨i, j, rfl, rfl, q⟩
  obtain ⟨t, rfl⟩ := (show ∃ t, u = Value.int i t from rx)
  obtain ⟨t', rfl⟩ := (show ∃ t', v = Value.int j t' from ry)
  exact PyProof.Rows.iadd_int ⟨.int (i + j), H, I.tok _, ⟨_, rfl⟩, q⟩
theorem in_sub : InOp X .Sub rSub := by
  rintro pins s σ H x y u v Q I rx ry ⟨i, j, rfl, rfl, q⟩
  obtain ⟨t, rfl⟩ := (show ∃ t, u = Value.int i t from rx)
  obtain ⟨t', rfl⟩ := (show ∃ t', v = Value.int j t' from ry)
  exact PyProof.Rows.isub_int ⟨.int (i - j), H, I.tok _, ⟨_, rfl⟩, q⟩

/-- what is between an instance and its method: the tree of a method call -/
theorem methcall_of {pl : Sem Bool} {m : Str} {apos : Pos} {args : List Expr} {pins : List (Addr × Obj)} {s : Shared} {σ : St} {H : Hp} {Q : Value → Shared → Prop} {te : TE} (he : PE X e te) (I : Inv X pins σ H s)
    (h : te σ H fun x H1 => ∃ a C dx fs g, x = .ref a ∧ H1 a = some (.ins C dx fs) ∧ Cls X.K C ∧ Meth X.K C m g ∧ fs.lookup m = none ∧
      ∀ s1, Inv X pins σ H1 s1 → wpAny (model X.prog X.w) X.A (callWith pos (.ref g) [.ref a] (backTo pos (starEach args X.env)) (backToKw pos (keywordEach [] X.env))) Q X.xe s1)
    (ht : eval (.Call (.Attribute e m apos) args [] pos) X.env = (do
      let ov ← eval e X.env
      standAt apos.atName
      let (f, first) ← holding [ov] (getMethod ov m pl)
      callWith pos f first (backTo pos (starEach args X.env)) (backToKw pos (keywordEach [] X.env)))) :
    wpAny (model X.prog X.w) X.A (eval (.Call (.Attribute e m apos) args [] pos) X.env) Q X.xe s := by
  refine PySem.W.methodCall_KW (pl := pl) (thn (he pins s σ H _ I h) fun u s1 ⟨x, H1, I1, rx, a, C, dx, fs, g, ex, ea, c, k, l, q⟩ => ?_) ht
  subst ex
  obtain rfl : u = Value.ref a := rx
  exact getmeth_ok I1 ea c k l (q s1 I1)
end

/-! ### isinstance -/
section
variable {X : Cx} {pins : List (Addr × Obj)} {σ : St} {H : Hp} {s : Shared} {A : Around} {E : Value → Shared → Prop} {Q : Value → Shared → Prop} {c : Value} {b : Bool}
/-- the type of a value, as the fragment's deciders take it; for an instance its class -/
inductive TyOf (K : PySem.W.Frag) (H : Hp) : V → Value → Prop where
  | non : TyOf K H .non (.type "NoneType")
  | bl (x : Bool) : TyOf K H (.bl x) (.type "bool")
  | int (i : Int) : TyOf K H (.int i) (.type "int")
  | str (x : Str) : TyOf K H (.str x) (.type "str")
  | flt (x : UInt64) : TyOf K H (.flt x) (.type "float")
  | lst {a : Addr} {xs : List V} (e : H a = some (.lst xs)) : TyOf K H (.ref a) (.type "list")
  | frz {a : Addr} {o : Obj} {xs : List V} (e : H a = some (.frz o (.lst xs))) : TyOf K H (.ref a) (.type "list")
  | tup {a : Addr} {xs : List V} (e : H a = some (.tup xs)) : TyOf K H (.ref a) (.type "tuple")
  | dK {a : Addr} {kvs : List (Key × V)} (e : H a = some (.dK kvs)) : TyOf K H (.ref a) (.type "dict")
  | dT {a : Addr} {kvs : List (List Key × V)} (e : H a = some (.dT kvs)) : TyOf K H (.ref a) (.type "dict")
  | ins {a C dx : Addr} {fs : List (Str × V)} (e : H a = some (.ins C dx fs)) (cl : Cls K C) (ha : PySem.W.findIn K (.ref C) "__class__" = some (some (.builtin "object.__class__")))
      (hn : PySem.W.specialIn K (.builtin "object.__class__") "__get__" = some (some (.builtin "getset_descriptor.__get__"))) (htk : PySem.W.takesIn K (.builtin "object.__class__") = some true)
      (hm : PySem.W.mroIn K C (.type "object") = some true) : TyOf K H (.ref a) (.ref C)
/-- isinstance(x, c) for one class c, a built-in or an own one: kitOne's answer -/
theorem isinst_ok {x : V} {u t : Value} (I : Inv X pins σ H s) (rx : RelV x u) (ty : TyOf X.K H x t) (e : PySem.W.kitOne X.K t c = some b) (h : ∀ tk, Q (.bool b) { s with toks := tk }) :
    wpAny (model X.prog X.w) A (call (.builtin "isinstance") [u, c]) Q E s := by
  cases ty with
  | non => cases (show u = Value.none from rx); exact PySem.W.kia_one PySem.W.kitx_none I.kIn True.intro e (fun z => nomatch z) h
  | bl y => cases (show u = Value.bool y from rx); exact PySem.W.kia_one PySem.W.kitx_bool I.kIn True.intro e (fun z => nomatch z) h
  | int i => obtain ⟨t, q⟩ := (show ∃ t, u = Value.int i t from rx); cases q; exact PySem.W.kia_one PySem.W.kitx_int I.kIn True.intro e (fun z => nomatch z) h
  | str y => obtain ⟨t, q⟩ := (show ∃ t, u = Value.str y t from rx); cases q; exact PySem.W.kia_one PySem.W.kitx_str I.kIn True.intro e (fun z => nomatch z) h
  | flt y => obtain ⟨t, q⟩ := (show ∃ t, u = Value.float y t from rx); cases q; exact PySem.W.kia_one PySem.W.kitx_float I.kIn True.intro e (fun z => nomatch z) h
  | @lst a xs ea =>
    cases (show u = Value.ref a from rx)
    obtain ⟨_, _, n, _, h1⟩ := (show ObjOk X.prog X.w H s.heap a (.lst xs) from I.hok a _ ea)
    exact PySem.W.kia_one PySem.W.kitx_list I.kIn ⟨_, h1, rfl⟩ e (fun z => nomatch z) h
  | @frz a ob xs ea =>
    cases (show u = Value.ref a from rx)
    obtain ⟨_, _, _, n, _, h1⟩ := (show ObjOk X.prog X.w H s.heap a (.frz ob (.lst xs)) from I.hok a _ ea)
    exact PySem.W.kia_one PySem.W.kitx_list I.kIn ⟨_, h1, rfl⟩ e (fun z => nomatch z) h
  | @tup a xs ea =>
    cases (show u = Value.ref a from rx)
    obtain ⟨_, _, _, p⟩ := (show ObjOk X.prog X.w H s.heap a (.tup xs) from I.hok a _ ea)
    obtain ⟨o, h1, h2, _⟩ := p
    exact PySem.W.kia_one PySem.W.kitx_tuple I.kIn ⟨o, h1, h2⟩ e (fun z => nomatch z) h
  | @dK a kvs ea =>
    cases (show u = Value.ref a from rx)
    obtain ⟨_, _, vs, _, p⟩ := (show ObjOk X.prog X.w H s.heap a (.dK kvs) from I.hok a _ ea)
    obtain ⟨o, es, ep, h1, h2, _⟩ := p
    exact PySem.W.kia_one PySem.W.kitx_dict I.kIn ⟨o, h1, h2.1⟩ e (fun z => nomatch z) h
  | @dT a kvs ea =>
    cases (show u = Value.ref a from rx)
    obtain ⟨_, _, xs, _, o, es, ep, h1, h2, _⟩ := (show ObjOk X.prog X.w H s.heap a (.dT kvs) from I.hok a _ ea)
    exact PySem.W.kia_one PySem.W.kitx_dict I.kIn ⟨o, h1, h2.1⟩ e (fun z => nomatch z) h
  | @ins a C dx fs ea cl ha hn htk hm =>
    cases (show u = Value.ref a from rx)
    obtain ⟨mA, O, _⟩ := ins_get I.hok ea
    obtain ⟨od, J, _⟩ := O.look
    exact PySem.W.kia_one (PySem.W.kitx_own (cl.get _) cl.hd ha hn htk hm) I.kIn J e (fun z => nomatch z) h
end
end L2

namespace L2
open PySem PySem.Spec PyProof.Rows

/-! ### room -/
structure Room (k : Nat) (A : Around) : Prop where
  hd : A.handled = none
  dp : A.depth + 3 * k + 5 < recursionLimit
  un : A.units + 16 * k + 200 < cLine
theorem Room.mono {j k : Nat} {A : Around} (r : Room k A) (h : j ≤ k) : Room j A := ⟨r.hd, by have := r.dp; omega, by have := r.un; omega⟩
theorem Room.deeper {k : Nat} {A : Around} (r : Room (k + 1) A) (env : Env) : Room k (A.deeper env) :=
  ⟨r.hd, by have := r.dp; show A.depth + 1 + 3 * k + 5 < _; omega, by have := r.un; show A.units + 3 + 16 * k + 200 < _; omega⟩
theorem Room.in1 {k : Nat} {A : Around} (r : Room (k + 1) A) : Room k A.in1 :=
  ⟨r.hd, by have := r.dp; show A.depth + 3 * k + 5 < _; omega, by have := r.un; show A.units + 1 + 16 * k + 200 < _; omega⟩
theorem make_depth {A : Around} {C : Addr} {us : List Value} {kw : List (Str × Value)} : (A.under (.builtin "type.__call__" ⟨.ref C :: us, kw⟩)).depth = A.depth + 1 := by
  first | rfl | simp [Around.under, Code.weight, Code.isCreation, Code.isGuard, Code.isCaller, Code.frames, Code.isFrame, guardIds]
theorem make_units {A : Around} {C : Addr} {us : List Value} {kw : List (Str × Value)} : (A.under (.builtin "type.__call__" ⟨.ref C :: us, kw⟩)).units = A.units + 1 := by
  first | rfl | simp [Around.under, Code.cUnits, Code.frames, Code.isFrame]
theorem Room.make {k : Nat} {A : Around} (r : Room (k + 1) A) (C : Addr) (us : List Value) (kw : List (Str × Value)) : Room k (A.under (.builtin "type.__call__" ⟨.ref C :: us, kw⟩)) :=
  ⟨r.hd, by have := r.dp; rw [make_depth]; omega, by have := r.un; rw [make_units]; omega⟩
theorem Room.depth {k : Nat} {A : Around} (r : Room k A) : A.depth < recursionLimit := by have := r.dp; omega
theorem Room.units {k : Nat} {A : Around} (r : Room k A) : A.units + 64 < cLine := by have := r.un; omega
theorem Room.units0 {k : Nat} {A : Around} (r : Room k A) : A.units < cLine := by have := r.un; omega

/-! ### argument lists and displays -/
def tNil : TA := fun _ H Q => Q [] H
def tCons (ta : TE) (tr : TA) : TA := fun σ H Q => ta σ H fun x H1 => tr σ H1 fun xs H2 => Q (x :: xs) H2
section
variable {X : Cx} {e : Expr} {es : List Expr} {te : TE} {t : TA} {pos : Pos}
theorem pa_nil : PA X [] tNil := fun _ _ _ _ H Q I h => Calls.spliced_nil ⟨[], H, I, .nil, h⟩
theorem pa_cons (ha : PE X e te) (hr : PA X es t) (hs : starEach (e :: es) X.env = (false, eval e X.env) :: starEach es X.env := by rfl) : PA X (e :: es) (tCons te t) := by
  intro pos pins s σ H Q I h
  rw [hs]
  show wpAny _ _ (spliced ((false, eval e X.env) :: backTo pos (starEach es X.env))) _ _ s
  refine Calls.spliced_cons (thn (ha pins s σ H _ I h) fun u s1 ⟨x, H1, I1, r1, q1⟩ => ?_)
  exact thn (hr pos pins s1 σ H1 _ I1 q1) fun us s2 ⟨xs, H2, I2, r2, q2⟩ => ⟨x :: xs, H2, I2, .cons r1 r2, q2⟩

/-- a tuple, a list of written items -/
def tTup (t : TA) : TE := fun σ H Q => t σ H fun xs H1 => xs.length ≤ sizeLine ∧ ∀ p, H1 p = none → Q (.ref p) (upd H1 p (.tup xs))
def tLst (t : TA) : TE := fun σ H Q => t σ H fun xs H1 => xs.length ≤ sizeLine ∧ ∀ p, H1 p = none → Q (.ref p) (upd H1 p (.lst xs))
theorem pe_tup {x1} (h : PA X es t) : PE X (.Tuple es x1 pos) (tTup t) := by
  intro pins s σ H Q I hq
  refine wpAny_Tuple_spliced (thn (h pos pins s σ H _ I hq) fun us s1 ⟨xs, H1, I1, r, z, q⟩ => ⟨by rw [← r.length]; exact z, ?_⟩)
  have hf : H1 s1.heap.objs.size = none := I1.hok.fresh (Nat.le_refl _)
  refine ⟨.ref s1.heap.objs.size, upd H1 s1.heap.objs.size (.tup xs), I1.laid (t' := s1.toks) (fun b u e => Heap.get?_push_of_some _ e) (Nat.le_refl _) ?_, rfl, q _ hf⟩
  exact ⟨z, us, r, ⟨_, Heap.get?_push_size _ rfl, rfl, _, rfl⟩⟩
theorem pe_lst (h : PA X es t) : PE X (.List es pos) (tLst t) := by
  intro pins s σ H Q I hq
  refine wpAny_List_spliced (thn (h pos pins s σ H _ I hq) fun us s1 ⟨xs, H1, I1, r, z, q⟩ => ⟨by rw [← r.length]; exact z, ?_⟩)
  have hf : H1 s1.heap.objs.size = none := I1.hok.fresh (Nat.le_refl _)
  refine ⟨.ref s1.heap.objs.size, upd H1 s1.heap.objs.size (.lst xs), I1.laid (t' := s1.toks) (fun b u e => Heap.get?_push_of_some _ e) (Nat.le_refl _) ?_, rfl, q _ hf⟩
  exact ⟨z, us, 0, r, Heap.get?_push_size _ rfl⟩
end

/-! ### what a def promises -/
/-- a def's promise: the bound arguments in the parameters' order, the heap, the wanted end, the wanted exception -/
abbrev Sp := List V → Hp → VK → XK → Prop
/-- how an exception lies behind a call (file 08 gives it): the callers' frames, abstract heap and state ahead of the call, the wish, the exception, the state -/
abbrev CXT := List Env → Hp → Shared → XK → Value → Shared → Prop

/-- the state at a call -/
structure Env0 (P : Program) (w : World) (K : PySem.W.Frag) (mg : Str → Option Value) (base : Heap) (A : Around) (outer : List Env) (s : Shared) (H : Hp) : Prop where
  frames : A.frames = some outer
  mod : Mod K mg base
  bs : ∀ b o, base.get? b = some o → s.heap.get? b = some o ∧ H b = none
  bsz : base.objs.size ≤ s.heap.objs.size
  funs : s.heap.FunFrames base outer
  frf : ∀ b ∈ frs outer, H b = none
  hok : HOk P w H s.heap
  bare : AllBare s.gens
/-- a call's end -/
def CE (outer : List Env) (P : Program) (w : World) (H : Hp) (s : Shared) (Q : VK) (u : Value) (s' : Shared) : Prop :=
  ∃ v H', s'.os = s.os ∧ AllBare s'.gens ∧ Un (frs outer) [] H H' s.heap s'.heap ∧ HOk P w H' s'.heap ∧ RelV v u ∧ Q v H'
def CR (CX : CXT) (outer : List Env) (P : Program) (w : World) (H : Hp) (s : Shared) (Q : VK) (E : XK) (r : Result) (s' : Shared) : Prop :=
  match r with
  | .ok (.ret u) => CE outer P w H s Q u s'
  | .ok _ => False
  | .error e => CX outer H s E e s'
structure FnOk (P : Program) (w : World) (K : PySem.W.Frag) (mg : Str → Option Value) (base : Heap) (CX : CXT) (k : Nat) (f : Addr) (fd : FuncData) (ps : List Str) (sp : Sp) : Prop where
  len : ∀ vs H Q E, sp vs H Q E → vs.length = ps.length
  run : ∀ (A : Around) (outer : List Env) (s : Shared) (H : Hp) (args : Args) (us : List Value) (vs : List V) (Q : VK) (E : XK), Room k A → Env0 P w K mg base A outer s H → BindsTo s fd args (ps.zip us) → Vals vs us → sp vs H Q E →
    codeAny (model P w) A (.call (.ref f) args) (CR CX outer P w H s Q E) s
theorem FnOk.mono {P : Program} {w : World} {K : PySem.W.Frag} {mg : Str → Option Value} {base : Heap} {CX : CXT} {j k : Nat} {f : Addr} {fd : FuncData} {ps : List Str} {sp : Sp} (F : FnOk P w K mg base CX j f fd ps sp) (h : j ≤ k) :
    FnOk P w K mg base CX k f fd ps sp := ⟨F.len, fun A outer s H args us vs Q E hr => F.run A outer s H args us vs Q E (hr.mono h)⟩
/-- a weaker promise -/
theorem FnOk.imp {P : Program} {w : World} {K : PySem.W.Frag} {mg : Str → Option Value} {base : Heap} {CX : CXT} {k : Nat} {f : Addr} {fd : FuncData} {ps : List Str} {sp sp' : Sp} (F : FnOk P w K mg base CX k f fd ps sp)
    (h : ∀ vs H Q E, sp' vs H Q E → sp vs H Q E) : FnOk P w K mg base CX k f fd ps sp' :=
  ⟨fun vs H Q E q => F.len vs H Q E (h _ _ _ _ q), fun A outer s H args us vs Q E hr he hb hv hs => F.run A outer s H args us vs Q E hr he hb hv (h _ _ _ _ hs)⟩

theorem Env0.make {P : Program} {w : World} {K : PySem.W.Frag} {mg : Str → Option Value} {base : Heap} {A : Around} {outer : List Env} {s : Shared} {H : Hp} (e : Env0 P w K mg base A outer s H) (C : Addr) (us : List Value) (kw : List (Str × Value)) :
    Env0 P w K mg base (A.under (.builtin "type.__call__" ⟨.ref C :: us, kw⟩)) outer s H := ⟨by first | exact e.frames | (simpa [Around.under, Code.envs, Code.isFrame, pushEnvs] using e.frames), e.mod, e.bs, e.bsz, e.funs, e.frf, e.hok, e.bare⟩
theorem Env0.in1 {P : Program} {w : World} {K : PySem.W.Frag} {mg : Str → Option Value} {base : Heap} {A : Around} {outer : List Env} {s : Shared} {H : Hp} (e : Env0 P w K mg base A outer s H) :
    Env0 P w K mg base A.in1 outer s H := ⟨e.frames, e.mod, e.bs, e.bsz, e.funs, e.frf, e.hok, e.bare⟩

section
variable {X : Cx} {pins : List (Addr × Obj)} {σ : St} {H : Hp} {s s' : Shared}
/-- from a body: what a callee wants -/
theorem Inv.env0 (I : Inv X pins σ H s) : Env0 X.prog X.w X.K X.mg X.base X.A X.stack s H :=
  ⟨I.ok.frames, I.ok.mod, I.bs, Nat.le_trans I.ok.bsz I.sz, I.stack, I.stkFree, I.hok, I.bare⟩
/-- behind a call -/
theorem Inv.after {Q : VK} {u : Value} (I : Inv X pins σ H s) (h : CE X.stack X.prog X.w H s Q u s') : EP X pins σ Q u s' := by
  obtain ⟨v, H', os, bare, un, hok, r, q⟩ := h
  obtain ⟨hh, g, d, t, os'⟩ := s'
  obtain rfl : os' = s.os := os
  exact ⟨v, H', I.call (h' := hh) (g' := g) (d' := d) (t' := t) (ch := []) un hok bare (fun b z => absurd z (by simp)), r, q⟩
end

/-! ### calls -/
/-- f(..): the written arguments, then the defaults dvs; E: what is wanted of an exception -/
def tCall (sp : Sp) (dvs : List V) (E : XK) (t : TA) : TE := fun σ H Q => t σ H fun vs H1 => sp (vs ++ dvs) H1 Q E
/-- o.m(..) of an instance of the class at C -/
def tMeth (C : Addr) (m : Str) (sp : Sp) (dvs : List V) (E : XK) (ta : TE) (t : TA) : TE := fun σ H Q => ta σ H fun x H1 => ∃ a dx fs, x = .ref a ∧ H1 a = some (.ins C dx fs) ∧ fs.lookup m = none ∧
  t σ H1 fun vs H2 => sp (x :: (vs ++ dvs)) H2 Q E
/-- C(..): a new instance and its dict, then __init__ -/
def tMake (C : Addr) (sp : Sp) (dvs : List V) (E : XK) (t : TA) : TE := fun σ H Q => t σ H fun vs H1 => ∀ x dx, H1 x = none → H1 dx = none → dx ≠ x →
  sp (.ref x :: (vs ++ dvs)) (upd (upd H1 dx (.own x)) x (.ins C dx [])) (fun v H2 => v = .non ∧ Q (.ref x) H2) E

/-- how the parameters are bound: us the positional arguments, kw the keywords' values by name, ds the defaults that fill up -/
def Binds (K : PySem.W.Frag) (fd : FuncData) (ps : List Str) (ds : List Value) : Prop :=
  ∀ (s : Shared) (us : List Value), K.In s.heap → (us ++ ds).length = ps.length → BindsTo s fd ⟨us, []⟩ (ps.zip (us ++ ds))
/-- every parameter is given -/
theorem Binds.all {K : PySem.W.Frag} {fd : FuncData} {ps : List Str} (h : ∀ us : List Value, us.length = ps.length → bindArgs fd ⟨us, []⟩ = pure (ps.zip us)) : Binds K fd ps [] := fun s us _ hl => by
  rw [List.append_nil] at hl ⊢
  exact .of_eq (h us hl)

/-- an exception of a callee reaches what this body wants of exceptions -/
def Passes (CX : CXT) (X : Cx) (E : XK) : Prop := ∀ (pins : List (Addr × Obj)) (σ : St) (H : Hp) (s : Shared) (e : Value) (s' : Shared), Inv X pins σ H s → CX X.stack H s E e s' → X.xe e s'

section
variable {X : Cx} {CX : CXT} {k : Nat} {f C : Addr} {fd : FuncData} {ps : List Str} {sp : Sp} {dvs : List V} {ds : List Value} {E : XK} {x m : Str} {p pos apos : Pos} {e o : Expr} {es : List Expr} {ta : TE} {t : TA}

/-- the callee runs -/
theorem run_fn {pins : List (Addr × Obj)} {σ : St} {H : Hp} {s : Shared} {Q : VK} {us : List Value} {vs : List V} (F : FnOk X.prog X.w X.K X.mg X.base CX k f fd ps sp) (hr : Room k X.A) (hb : Binds X.K fd ps ds) (hd : Vals dvs ds) (hx : Passes CX X E)
    (I : Inv X pins σ H s) (r : Vals vs us) (h : sp (vs ++ dvs) H Q E) : wpAny (model X.prog X.w) X.A (call (.ref f) us) (EP X pins σ Q) X.xe s := by
  have r2 : Vals (vs ++ dvs) (us ++ ds) := r.append hd
  have hl : (us ++ ds).length = ps.length := by rw [← r2.length]; exact F.len _ _ _ _ h
  refine wpAny_call (codeAny_mono (F.run X.A X.stack s H ⟨us, []⟩ (us ++ ds) (vs ++ dvs) Q E hr I.env0 (hb s us I.kIn hl) r2 h) fun r s' hq => ?_)
  cases r with
  | error e => exact hx pins σ H s e s' I hq
  | ok fl =>
    cases fl with
    | ret u => exact I.after hq
    | next => exact False.elim hq
    | brk => exact False.elim hq
    | cont => exact False.elim hq

theorem pe_call (F : FnOk X.prog X.w X.K X.mg X.base CX k f fd ps sp) (hr : Room k X.A) (hg : Gl X x) (hm : X.mg x = some (.ref f)) (hk : PySem.W.keepIn X.K (.ref f) = true) (hb : Binds X.K fd ps ds) (hd : Vals dvs ds) (hx : Passes CX X E)
    (ha : PA X (e :: es) t) (hdb : (x == ("__debug__" : Str)) = false := by decide) (he : starEach (e :: es) X.env = (false, eval e X.env) :: starEach es X.env := by rfl) (hpl : (backTo pos (starEach es X.env)).any (·.1) = false := by rfl) :
    PE X (.Call (.Name x p) (e :: es) [] pos) (tCall sp dvs E t) := by
  intro pins s σ H Q I h
  refine wpAny_Call_Name_kw (ld_glob I hg hm ?_ hdb)
  refine PySem.W.callWith_K (h₀ := X.base) I.ok.mod.kin hk (thn (ha pos pins s σ H _ I h) fun us s1 ⟨vs, H1, I1, r, q⟩ => ⟨I1.kIn, ?_⟩) he hpl
  exact run_fn F hr hb hd hx I1 r q
theorem pe_call0 (F : FnOk X.prog X.w X.K X.mg X.base CX k f fd ps sp) (hr : Room k X.A) (hg : Gl X x) (hm : X.mg x = some (.ref f)) (hk : PySem.W.keepIn X.K (.ref f) = true) (hb : Binds X.K fd ps ds) (hd : Vals dvs ds) (hx : Passes CX X E)
    (hdb : (x == ("__debug__" : Str)) = false := by decide) : PE X (.Call (.Name x p) [] [] pos) (tCall sp dvs E tNil) := by
  intro pins s σ H Q I h
  refine wpAny_Call_Name_kw (ld_glob I hg hm ?_ hdb)
  exact PySem.W.callWith_K0 I.kIn hk (run_fn (us := []) F hr hb hd hx I .nil h)

/-- o.m(e, ..) -/
theorem pe_meth {pl : Sem Bool} (he : PE X o ta) (c : Cls X.K C) (hm : Meth X.K C m f) (F : FnOk X.prog X.w X.K X.mg X.base CX k f fd ps sp) (hr : Room k X.A) (hb : Binds X.K fd ps ds) (hd : Vals dvs ds) (hx : Passes CX X E) (ha : PA X (e :: es) t)
    (hst : starEach (e :: es) X.env = (false, eval e X.env) :: starEach es X.env := by rfl) (hpl : (backTo pos (starEach es X.env)).any (·.1) = false := by rfl)
    (ht : eval (.Call (.Attribute o m apos) (e :: es) [] pos) X.env = (do
      let ov ← eval o X.env
      standAt apos.atName
      let (f, first) ← holding [ov] (getMethod ov m pl)
      callWith pos f first (backTo pos (starEach (e :: es) X.env)) (backToKw pos (keywordEach [] X.env))) := by rfl) :
    PE X (.Call (.Attribute o m apos) (e :: es) [] pos) (tMeth C m sp dvs E ta t) := by
  intro pins s σ H Q I h
  refine PySem.W.methodCall_KW (pl := pl) (thn (he pins s σ H _ I h) fun u s1 ⟨x, H1, I1, rx, a, dx, fs, ex, ea, l, q⟩ => ?_) ht
  subst ex
  obtain rfl : u = Value.ref a := rx
  refine getmeth_ok I1 ea c hm l ?_
  refine PySem.W.callWith_K (first := [.ref a]) (h₀ := X.base) I.ok.mod.kin hm.kp (thn (ha pos pins s1 σ H1 _ I1 q) fun us s2 ⟨vs, H2, I2, r, q2⟩ => ⟨I2.kIn, ?_⟩) hst hpl
  exact run_fn (us := .ref a :: us) (vs := .ref a :: vs) F hr hb hd hx I2 (.cons rfl r) q2
/-- o.m() -/
theorem pe_meth0 {pl : Sem Bool} (he : PE X o ta) (c : Cls X.K C) (hm : Meth X.K C m f) (F : FnOk X.prog X.w X.K X.mg X.base CX k f fd ps sp) (hr : Room k X.A) (hb : Binds X.K fd ps ds) (hd : Vals dvs ds) (hx : Passes CX X E)
    (ht : eval (.Call (.Attribute o m apos) [] [] pos) X.env = (do
      let ov ← eval o X.env
      standAt apos.atName
      let (f, first) ← holding [ov] (getMethod ov m pl)
      callWith pos f first (backTo pos (starEach [] X.env)) (backToKw pos (keywordEach [] X.env))) := by rfl) :
    PE X (.Call (.Attribute o m apos) [] [] pos) (tMeth C m sp dvs E ta tNil) := by
  intro pins s σ H Q I h
  refine PySem.W.methodCall_KW (pl := pl) (thn (he pins s σ H _ I h) fun u s1 ⟨x, H1, I1, rx, a, dx, fs, ex, ea, l, q⟩ => ?_) ht
  subst ex
  obtain rfl : u = Value.ref a := rx
  refine getmeth_ok I1 ea c hm l ?_
  exact PySem.W.callWith_K0 (first := [.ref a]) I1.kIn hm.kp (run_fn (us := [.ref a]) (vs := [.ref a]) F hr hb hd hx I1 (.cons rfl .nil) q)

/-- what a class must have to be made -/
structure Mk (K : PySem.W.Frag) (C f : Addr) : Prop where
  makes : PySem.W.makesIn K C = true
  init : PySem.W.findIn K (.ref C) "__init__" = some (some (.ref f))
  fn : PySem.W.isFn K (.ref f) = true
  kp : PySem.W.keepIn K (.ref C) = true

theorem run_make {pins : List (Addr × Obj)} {σ : St} {H : Hp} {s : Shared} {Q : VK} {us : List Value} {vs : List V} (M : Mk X.K C f) (F : FnOk X.prog X.w X.K X.mg X.base CX k f fd ps sp) (hr : Room (k + 1) X.A) (hb : Binds X.K fd ps ds) (hd : Vals dvs ds)
    (hx : Passes CX X E) (I : Inv X pins σ H s) (r : Vals vs us)
    (h : ∀ x dx, H x = none → H dx = none → dx ≠ x → sp (.ref x :: (vs ++ dvs)) (upd (upd H dx (.own x)) x (.ins C dx [])) (fun v H2 => v = .non ∧ Q (.ref x) H2) E) :
    wpAny (model X.prog X.w) X.A (call (.ref C) us) (EP X pins σ Q) X.xe s := by
  have hq := h (s.heap.objs.size + 1) s.heap.objs.size (I.hok.fresh (Nat.le_succ _)) (I.hok.fresh (Nat.le_refl _)) (Nat.ne_of_lt (Nat.lt_succ_self _))
  have I2 := Inv.made (C := C) I
  have r2 : Vals (V.ref (s.heap.objs.size + 1) :: (vs ++ dvs)) (Value.ref (s.heap.objs.size + 1) :: (us ++ ds)) := .cons rfl (r.append hd)
  have hl : (Value.ref (s.heap.objs.size + 1) :: us ++ ds).length = ps.length := by
    have e := r2.length
    rw [F.len _ _ _ _ hq] at e
    exact e.symm
  refine wpAny_call (make_map (f := f) I.kIn M.makes M.init (beq_iff_eq.mp M.fn) (codeAny_mono (F.run _ X.stack _ _ ⟨Value.ref (s.heap.objs.size + 1) :: us, []⟩ (Value.ref (s.heap.objs.size + 1) :: (us ++ ds)) _ _ E (hr.make C us [])
    (I2.env0.make C us []) (hb _ (Value.ref (s.heap.objs.size + 1) :: us) I2.kIn hl) r2 hq) fun r s' hq' => ?_))
  cases r with
  | error e => exact hx pins σ _ _ e s' I2 hq'
  | ok fl =>
    cases fl with
    | ret u =>
      obtain ⟨v, H', I3, rv, ev, q3⟩ := I2.after hq'
      subst ev
      exact ⟨rv, ⟨V.ref (s.heap.objs.size + 1), H', I3, rfl, q3⟩⟩
    | next => exact False.elim hq'
    | brk => exact False.elim hq'
    | cont => exact False.elim hq'
theorem pe_make (M : Mk X.K C f) (F : FnOk X.prog X.w X.K X.mg X.base CX k f fd ps sp) (hr : Room (k + 1) X.A) (hg : Gl X x) (hm : X.mg x = some (.ref C)) (hb : Binds X.K fd ps ds) (hd : Vals dvs ds) (hx : Passes CX X E)
    (ha : PA X (e :: es) t) (hdb : (x == ("__debug__" : Str)) = false := by decide) (he : starEach (e :: es) X.env = (false, eval e X.env) :: starEach es X.env := by rfl) (hpl : (backTo pos (starEach es X.env)).any (·.1) = false := by rfl) :
    PE X (.Call (.Name x p) (e :: es) [] pos) (tMake C sp dvs E t) := by
  intro pins s σ H Q I h
  refine wpAny_Call_Name_kw (ld_glob I hg hm ?_ hdb)
  refine PySem.W.callWith_K (h₀ := X.base) I.ok.mod.kin M.kp (thn (ha pos pins s σ H _ I h) fun us s1 ⟨vs, H1, I1, r, q⟩ => ⟨I1.kIn, ?_⟩) he hpl
  exact run_make M F hr hb hd hx I1 r q
theorem pe_make0 (M : Mk X.K C f) (F : FnOk X.prog X.w X.K X.mg X.base CX k f fd ps sp) (hr : Room (k + 1) X.A) (hg : Gl X x) (hm : X.mg x = some (.ref C)) (hb : Binds X.K fd ps ds) (hd : Vals dvs ds) (hx : Passes CX X E)
    (hdb : (x == ("__debug__" : Str)) = false := by decide) : PE X (.Call (.Name x p) [] [] pos) (tMake C sp dvs E tNil) := by
  intro pins s σ H Q I h
  refine wpAny_Call_Name_kw (ld_glob I hg hm ?_ hdb)
  exact PySem.W.callWith_K0 I.kIn M.kp (run_make (us := []) M F hr hb hd hx I .nil h)
end

/-! ### keywords -/
/-- the values of the keywords, from the left -/
def PK (X : Cx) (kws : List Keyword) (t : TA) : Prop :=
  ∀ (pos : Pos) (pins : List (Addr × Obj)) (s : Shared) (σ : St) (H : Hp) (Q : List V → Hp → Prop), Inv X pins σ H s → t σ H Q → wpAny (model X.prog X.w) X.A (evalAll ((backToKw pos (keywordEach kws X.env)).map (·.2))) (AP X pins σ Q) X.xe s
section
variable {X : Cx} {CX : CXT} {k : Nat} {f C : Addr} {fd : FuncData} {ps ks : List Str} {sp : Sp} {E : XK} {x m : Str} {p pos apos kpos : Pos} {e o : Expr} {es : List Expr} {kws : List Keyword} {te ta : TE} {t tk : TA} {nm : Option Str}
theorem pk_nil : PK X [] tNil := fun _ _ _ _ H Q I h => wpAny_evalAll_nil ⟨[], H, I, .nil, h⟩
theorem pk_cons (ha : PE X e te) (hr : PK X kws t) : PK X (⟨nm, e, kpos⟩ :: kws) (tCons te t) := by
  intro pos pins s σ H Q I h
  show wpAny _ _ (evalAll ((do let v ← eval e X.env; standAt pos; pure v) :: (backToKw pos (keywordEach kws X.env)).map (·.2))) _ _ s
  refine wpAny_evalAll_cons (wpAny_bind (thn (ha pins s σ H _ I h) fun u s1 ⟨x, H1, I1, r1, q1⟩ => wpAny_bind (wpAny_standAt (wpAny_pure ?_))))
  exact thn (hr pos pins s1 σ H1 _ I1 q1) fun us s2 ⟨xs, H2, I2, r2, q2⟩ => ⟨x :: xs, H2, I2, .cons r1 r2, q2⟩

/-- how a call with keywords binds: g puts the positional values us and the keywords' values ws (names ks) in the parameters' order, defaults among them -/
structure KBinds (K : PySem.W.Frag) (fd : FuncData) (ps ks : List Str) (g : List Value → List Value → List Value) (gV : List V → List V → List V) : Prop where
  to : ∀ (s : Shared) (us ws : List Value), K.In s.heap → (g us ws).length = ps.length → BindsTo s fd ⟨us, ks.zip ws⟩ (ps.zip (g us ws))
  rel : ∀ {vs : List V} {us : List Value} {zs : List V} {ws : List Value}, Vals vs us → Vals zs ws → Vals (gV vs zs) (g us ws)
def tCallK (sp : Sp) (gV : List V → List V → List V) (E : XK) (t tk : TA) : TE := fun σ H Q => t σ H fun vs H1 => tk σ H1 fun zs H2 => sp (gV vs zs) H2 Q E
variable {g : List Value → List Value → List Value} {gV : List V → List V → List V}
theorem run_fnk {pins : List (Addr × Obj)} {σ : St} {H : Hp} {s : Shared} {Q : VK} {us ws : List Value} {vs zs : List V} (F : FnOk X.prog X.w X.K X.mg X.base CX k f fd ps sp) (hr : Room k X.A) (hb : KBinds X.K fd ps ks g gV) (hx : Passes CX X E)
    (I : Inv X pins σ H s) (r : Vals vs us) (rz : Vals zs ws) (h : sp (gV vs zs) H Q E) : wpAny (model X.prog X.w) X.A (call (.ref f) us (ks.zip ws)) (EP X pins σ Q) X.xe s := by
  have r2 := hb.rel r rz
  have hl : (g us ws).length = ps.length := by rw [← r2.length]; exact F.len _ _ _ _ h
  refine wpAny_call (codeAny_mono (F.run X.A X.stack s H ⟨us, ks.zip ws⟩ (g us ws) (gV vs zs) Q E hr I.env0 (hb.to s us ws I.kIn hl) r2 h) fun r s' hq => ?_)
  cases r with
  | error e => exact hx pins σ H s e s' I hq
  | ok fl =>
    cases fl with
    | ret u => exact I.after hq
    | next => exact False.elim hq
    | brk => exact False.elim hq
    | cont => exact False.elim hq
/-- f(e, .., k = v, ..) -/
theorem pe_callK (F : FnOk X.prog X.w X.K X.mg X.base CX k f fd ps sp) (hr : Room k X.A) (hg : Gl X x) (hm : X.mg x = some (.ref f)) (hk : PySem.W.keepIn X.K (.ref f) = true) (hb : KBinds X.K fd ps ks g gV) (hx : Passes CX X E)
    (ha : PA X (e :: es) t) (hkw : PK X kws tk) (hall : (backToKw pos (keywordEach kws X.env)).all (·.1.isSome) = true := by rfl) (hks : (backToKw pos (keywordEach kws X.env)).filterMap (·.1) = ks := by rfl)
    (hdb : (x == ("__debug__" : Str)) = false := by decide) (he : starEach (e :: es) X.env = (false, eval e X.env) :: starEach es X.env := by rfl)
    (hpl : ((backTo pos (starEach (e :: es) X.env)).any (·.1) || (backToKw pos (keywordEach kws X.env)).any (·.1.isNone)) = false := by rfl) :
    PE X (.Call (.Name x p) (e :: es) kws pos) (tCallK sp gV E t tk) := by
  intro pins s σ H Q I h
  refine wpAny_Call_Name_kw (ld_glob I hg hm ?_ hdb)
  refine PySem.W.callWith_KW (h₀ := X.base) I.ok.mod.kin hk hall (thn (ha pos pins s σ H _ I h) fun us s1 ⟨vs, H1, I1, r, q⟩ => ?_) hpl he
  refine thn (hkw pos pins s1 σ H1 _ I1 q) fun ws s2 ⟨zs, H2, I2, rz, q2⟩ => ⟨I2.kIn, ?_⟩
  rw [hks]
  exact run_fnk F hr hb hx I2 r rz q2
end

/-! ### a def's body keeps its promise -/
/-- names: the parameters first -/
structure FnScope (N P : List Str) (sc : Scope) : Prop where
  kind : sc.kind = .function
  co : sc.isCoroutine = false
  gen : sc.isGenerator = false
  nd : N.Nodup
  pre : N.take P.length = P
  par : ∀ x ∈ P, sc.names.lookup x = some .local ∨ sc.names.lookup x = some .cell
  nofree : ∀ y ∈ sc.names, y.2 ≠ .free

theorem bindL_out {kindOf : Str → Option NameKind} {x : Str} : ∀ {binds : List (Str × Value)} {m : Str → Option Value}, (∀ v, (x, v) ∉ binds) → bindL kindOf binds m x = m x
  | [], _, _ => rfl
  | (n, v) :: r, m, h => by
    unfold bindL
    rw [bindL_out fun w hw => h w (List.mem_cons_of_mem _ hw)]
    split
    · have : x ≠ n := by rintro rfl; exact h v List.mem_cons_self
      simp [this]
    · rfl
theorem bindC_out {kindOf : Str → Option NameKind} {x : Str} : ∀ {binds : List (Str × Value)} {m : Str → Option Value}, (∀ v, (x, v) ∉ binds) → bindC kindOf binds m x = m x
  | [], _, _ => rfl
  | (n, v) :: r, m, h => by
    unfold bindC
    rw [bindC_out fun w hw => h w (List.mem_cons_of_mem _ hw)]
    split
    · rfl
    · have : x ≠ n := by rintro rfl; exact h v List.mem_cons_self
      simp [this]
theorem bindL_get {kindOf : Str → Option NameKind} {x : Str} {v : Value} : ∀ {P : List Str} {vs : List Value} {i : Nat} {m : Str → Option Value}, P.Nodup → P[i]? = some x → vs[i]? = some v → kindOf x = some .local →
    bindL kindOf (P.zip vs) m x = some v
  | [], _, _, _, _, h, _, _ => by simp at h
  | _ :: _, [], _, _, _, _, h, _ => by simp at h
  | p :: P, w :: vs, 0, m, nd, h1, h2, hk => by
    simp at h1 h2; subst h1; subst h2
    show bindL kindOf ((p, w) :: P.zip vs) m p = _
    unfold bindL
    rw [bindL_out fun v hv => (List.nodup_cons.mp nd).1 (List.of_mem_zip hv).1, if_pos hk]
    simp
  | p :: P, w :: vs, i + 1, m, nd, h1, h2, hk => by
    show bindL kindOf ((p, w) :: P.zip vs) m x = _
    unfold bindL
    exact bindL_get (i := i) (List.nodup_cons.mp nd).2 (by simpa using h1) (by simpa using h2) hk
theorem bindC_get {kindOf : Str → Option NameKind} {x : Str} {v : Value} : ∀ {P : List Str} {vs : List Value} {i : Nat} {m : Str → Option Value}, P.Nodup → P[i]? = some x → vs[i]? = some v → kindOf x ≠ some .local →
    bindC kindOf (P.zip vs) m x = some v
  | [], _, _, _, _, h, _, _ => by simp at h
  | _ :: _, [], _, _, _, _, h, _ => by simp at h
  | p :: P, w :: vs, 0, m, nd, h1, h2, hk => by
    simp at h1 h2; subst h1; subst h2
    show bindC kindOf ((p, w) :: P.zip vs) m p = _
    unfold bindC
    rw [bindC_out fun v hv => (List.nodup_cons.mp nd).1 (List.of_mem_zip hv).1, if_neg hk]
    simp
  | p :: P, w :: vs, i + 1, m, nd, h1, h2, hk => by
    show bindC kindOf ((p, w) :: P.zip vs) m x = _
    unfold bindC
    exact bindC_get (i := i) (List.nodup_cons.mp nd).2 (by simpa using h1) (by simpa using h2) hk

/-- the names' values at the entry -/
def start (N : List Str) (vs : List V) : St := vs.map some ++ List.replicate (N.length - vs.length) none

/-- the context of a def's body, at its entry; an exception leaves the frame, then lies as CX says -/
def cxOf (CX : CXT) (P : Program) (w : World) (K : PySem.W.Frag) (mg : Str → Option Value) (base : Heap) (N : List Str) (qual : Str) (scope : Scope) (f : Addr) (cd : Value) (A : Around) (outer : List Env) (s : Shared) (H : Hp) (E : XK) : Cx where
  prog := P
  w := w
  K := K
  mg := mg
  base := base
  A := A.deeper (envOfC qual scope s.heap.objs.size f cd)
  N := N
  s₀ := s
  H₀ := H
  env := envOfC qual scope s.heap.objs.size f cd
  outer := outer
  stack := envOfC qual scope s.heap.objs.size f cd :: outer
  ex := []
  calm := true
  fn := fun _ => true
  pn := []
  xe := fun e s' => wpAny (model P w) (A.deeper (envOfC qual scope s.heap.objs.size f cd)) (leaving (envOfC qual scope s.heap.objs.size f cd) e) (fun _ s'' => CX outer H s E e s'') (fun e' s'' => CX outer H s E e' s'') s'

theorem cell_has {sc : Scope} {n : Nat} {x : Str} (h : sc.names.lookup x = some .cell) : ∃ c, (cellsFrom n sc.names []).lookup x = some c := by
  have q := PySem.W.cellsFrom_some sc.names n [] (.inl h)
  exact Option.isSome_iff_exists.mp q

theorem inv_start {CX : CXT} {P : Program} {w : World} {K : PySem.W.Frag} {mg : Str → Option Value} {base : Heap} {N ps : List Str} {qual : Str} {scope : Scope} {f : Addr} {cd : Value} {A : Around} {outer : List Env} {s s1 : Shared} {H : Hp} {E : XK} {us : List Value} {vs : List V}
    (S : FnScope N ps scope) (hd : A.handled = none) (e0 : Env0 P w K mg base A outer s H) (hl : vs.length = ps.length) (r : Vals vs us)
    (x : InCallC s s.heap.objs.size (bindL (envOfC qual scope s.heap.objs.size f cd).kindOf (ps.zip us) fun _ => none) (cellsFrom (s.heap.objs.size + 1) scope.names []) (bindC (envOfC qual scope s.heap.objs.size f cd).kindOf (ps.zip us) fun _ => none) s1) :
    Inv (cxOf CX P w K mg base N qual scope f cd A outer s H E) [] (start N vs) H s1 := by
  have hpl : ps.length ≤ N.length := by have := congrArg List.length S.pre; rw [List.length_take] at this; omega
  obtain ⟨h1, tk, rfl, hk⟩ := x.done
  have noA : ∀ b : Addr, b ∉ (cxOf CX P w K mg base N qual scope f cd A outer s H E).ex := fun b z => absurd (show b ∈ ([] : List Addr) from z) (by simp)
  refine ⟨⟨e0.mod, S.kind, rfl, rfl, Nat.le_refl _, fun y z c h1 h2 => ?_, fun y hy => ?_, fun y c _ h => ?_, fun _ => hd, Around.frames_deeper e0.frames, .inr ⟨rfl, rfl⟩, fun b z => absurd z (noA b), e0.bs, e0.bsz, fun b _ _ => noA b, fun b z => absurd z (noA b), e0.funs, e0.frf⟩,
    rfl, e0.bare, Un.kept hk, ⟨_, x.toInCall.ns, fun i y v h1 h2 h3 => ?_⟩, fun y c h => ⟨_, x.cell y c h⟩, e0.hok.fresh (Nat.le_refl _), fun y c h => ?_, fun p hp => absurd (show p ∈ ([] : List (Addr × Obj)) from hp) (by simp), e0.hok.kept hk, ?_⟩
  · exact name_of_addr x.apart (PySem.mem_of_lookup h1) (PySem.mem_of_lookup h2)
  · have hy : scope.names.lookup y = some .cell ∨ scope.names.lookup y = some .free := hy
    rcases hy with hy | hy
    · exact cell_has hy
    · exact absurd rfl (S.nofree _ (PySem.mem_of_lookup hy))
  · exact Nat.le_of_lt (x.above y c (PySem.mem_of_lookup h))
  · have hi : i < vs.length := by
      unfold start at h2
      by_cases hi : i < vs.length
      · exact hi
      · rw [List.getElem?_append_right (by simpa using hi)] at h2
        rw [List.getElem?_replicate] at h2
        split at h2 <;> cases h2
    have ha : vs[i]? = some v := by
      unfold start at h2
      rw [List.getElem?_append_left (by simpa using hi), List.getElem?_map] at h2
      cases e : vs[i]? with
      | none => rw [e] at h2; cases h2
      | some a => rw [e] at h2; cases h2; rfl
    obtain ⟨u, hu, rv⟩ := r.get ha
    have hp : ps[i]? = some y := by
      rw [← S.pre, List.getElem?_take_of_lt (by omega)]; exact h1
    have ndP : ps.Nodup := by rw [← S.pre]; exact S.nd.sublist (List.take_sublist _ _)
    refine ⟨u, rv, ?_⟩
    rcases S.par y (List.mem_of_getElem? hp) with k | k
    · exact .inl ⟨k, bindL_get ndP hp hu k⟩
    · obtain ⟨c, e⟩ := cell_has (n := s.heap.objs.size + 1) k
      refine .inr ⟨.inl k, c, e, ?_⟩
      have q := x.cell y c e
      rw [bindC_get ndP hp hu (by show scope.names.lookup y ≠ _; rw [k]; decide)] at q
      exact q
  · exact e0.hok.fresh (Nat.le_of_lt (x.above y c (PySem.mem_of_lookup h)))
  · unfold start
    show _ = N.length
    rw [List.length_append, List.length_map, List.length_replicate]
    omega

/-- THE RULE: a def (or a method) of the text, by its body. The body's reading t is chosen for each entry; it is run at the parameters' values -/
theorem fn_of {CX : CXT} {P : Program} {w : World} {K : PySem.W.Frag} {mg : Str → Option Value} {base : Heap} {k : Nat} {f : Addr} {name qual : Str} {params : Arguments} {body : List Stmt} {scope : Scope} {dV kV doc pm cdv ct oc : Value} {an od : Option Addr}
    {osl : Array (Option Value)} {N ps : List Str} {sp : Sp} (lk : K.lookup f = some ⟨oc, od, .func (PySem.W.fnOf name qual params body scope dV kV doc pm an cdv ct), osl⟩) (hcd : PySem.W.codeIn K cdv qual = true) (S : FnScope N ps scope)
    (len : ∀ vs H Q E, sp vs H Q E → vs.length = ps.length)
    (hbody : ∀ (A : Around) (outer : List Env) (s : Shared) (H : Hp) (vs : List V) (Q : VK) (E : XK), Room k (A.deeper (envOfC qual scope s.heap.objs.size f cdv)) → sp vs H Q E →
      ∃ t, PSs (cxOf CX P w K mg base N qual scope f cdv A outer s H E) body t ∧ t { nx := fun _ H' => Q .non H', rt := Q } (start N vs) H) :
    FnOk P w K mg base CX (k + 1) f (PySem.W.fnOf name qual params body scope dV kV doc pm an cdv ct) ps sp := by
  refine ⟨len, fun A outer s H args us vs Q E hr e0 hb r hsp => ?_⟩
  have hl := len _ _ _ _ hsp
  have KX : K.In s.heap := e0.mod.kin.keeps fun b o e => (e0.bs b o e).1
  have lim : s.heap.NoLimit := e0.mod.nolimit.keeps fun b o e => (e0.bs b o e).1
  have hkind : ∀ y ∈ ps.zip us, scope.names.lookup y.1 = some .local ∨ (scope.names.lookup y.1 = some .cell ∧ ((cellsFrom (s.heap.objs.size + 1) scope.names []).lookup y.1).isSome = true) := fun ⟨n, v⟩ hy => by
    rcases S.par n (List.of_mem_zip hy).1 with q | q
    · exact .inl q
    · exact .inr ⟨q, PySem.W.cellsFrom_some _ _ _ (.inl q)⟩
  refine codeAny_call_function hr.depth (KX _ _ lk) rfl S.co S.gen rfl (PySem.W.codeRec_of KX hcd) (hb _ _ _ _ ?_)
  refine wpAny_newFunctionEnv_cells S.kind hkind fun env he s1 x => ?_
  subst he
  refine ⟨lim.keeps x.toInCall.keep, codeAny_func ?_⟩
  obtain ⟨t, ht, hq⟩ := hbody A outer s H vs Q E (hr.deeper _) hsp
  have I : Inv (cxOf CX P w K mg base N qual scope f cdv A outer s H E) [] (start N vs) H s1 := inv_start S hr.hd e0 hl r x
  refine wpAny_mono (ht [] s1 (start N vs) H _ I hq) (fun fl s' hs => ?_) fun e s' hs => hs
  have fin : ∀ {σ' : St} {H' : Hp} {v : V} {u : Value}, Inv (cxOf CX P w K mg base N qual scope f cdv A outer s H E) [] σ' H' s' → RelV v u → Q v H' → CE outer P w H s Q u s' :=
    fun {σ' H' v u} J rv q => ⟨v, H', J.os, J.bare, J.base, J.hok, rv, q⟩
  cases fl with
  | ret u =>
    obtain ⟨v, σ', H', J, rv, q⟩ := hs
    exact fin J rv q
  | next =>
    obtain ⟨σ', H', J, q⟩ := hs
    exact fin (v := V.non) (u := Value.none) J rfl q
  | brk =>
    obtain ⟨_, _, _, q⟩ := hs
    exact False.elim q
  | cont =>
    obtain ⟨_, _, _, q⟩ := hs
    exact False.elim q
end L2

namespace L2
open PySem PySem.Spec PyProof.Rows
section
variable {X : Cx} {x : Str} {p pos : Pos} {e : Expr} {es : List Expr} {t : TA} {id T : String} {r : List V → Hp → VK → Prop}

def tCB (r : List V → Hp → VK → Prop) (t : TA) : TE := fun σ H Q => t σ H fun vs H1 => r vs H1 Q
/-- f(e, ..), f a built-in function -/
theorem pe_callB (hc : CallR X (.builtin id) r) (hg : Gl X x) (hm : X.mg x = none) (hv : bootBuiltins x = some (.builtin id)) (ha : PA X (e :: es) t) (hn : x ≠ "__name__" := by decide) (hdb : (x == ("__debug__" : Str)) = false := by decide)
    (he : starEach (e :: es) X.env = (false, eval e X.env) :: starEach es X.env := by rfl) (hpl : (backTo pos (starEach es X.env)).any (·.1) = false := by rfl) : PE X (.Call (.Name x p) (e :: es) [] pos) (tCB r t) := by
  intro pins s σ H Q I h
  refine wpAny_Call_Name_kw (ld_blt I hg hm hv ?_ hn hdb)
  exact PyProof.Rows.callWith_builtin1 (thn (ha pos pins s σ H _ I h) fun us s1 ⟨vs, H1, I1, r1, q1⟩ => hc pins s1 σ H1 vs us Q I1 r1 q1) he hpl
/-- T(e, ..), T a built-in type -/
theorem pe_callTy (hc : CallR X (.type T) r) (hg : Gl X x) (hm : X.mg x = none) (hv : bootBuiltins x = some (.type T)) (ha : PA X (e :: es) t) (hn : x ≠ "__name__" := by decide) (hdb : (x == ("__debug__" : Str)) = false := by decide)
    (he : starEach (e :: es) X.env = (false, eval e X.env) :: starEach es X.env := by rfl) (hpl : (backTo pos (starEach es X.env)).any (·.1) = false := by rfl) : PE X (.Call (.Name x p) (e :: es) [] pos) (tCB r t) := by
  intro pins s σ H Q I h
  refine wpAny_Call_Name_kw (ld_blt I hg hm hv ?_ hn hdb)
  exact PyProof.Rows.callWith_type1 (thn (ha pos pins s σ H _ I h) fun us s1 ⟨vs, H1, I1, r1, q1⟩ => hc pins s1 σ H1 vs us Q I1 r1 q1) he hpl
/-- T() -/
theorem pe_callTy0 (hc : CallR X (.type T) r) (hg : Gl X x) (hm : X.mg x = none) (hv : bootBuiltins x = some (.type T)) (hn : x ≠ "__name__" := by decide) (hdb : (x == ("__debug__" : Str)) = false := by decide) :
    PE X (.Call (.Name x p) [] [] pos) (tCB r tNil) := by
  intro pins s σ H Q I h
  refine wpAny_Call_Name_kw (ld_blt I hg hm hv ?_ hn hdb)
  exact PyProof.Rows.callWith_type0 (hc pins s σ H [] [] Q I .nil h)
end
end L2

namespace HT
open PySem PyProof.Rows

/-- t < u of tuples of ints -/
def lexLt : List Int → List Int → Bool
  | [], [] => false
  | [], _ :: _ => true
  | _ :: _, [] => false
  | x :: xs, y :: ys => if x = y then lexLt xs ys else decide (x < y)
theorem lexLt_cons (x y : Int) (xs ys : List Int) : lexLt (x :: xs) (y :: ys) = if x = y then lexLt xs ys else decide (x < y) := rfl
theorem lexLt_nil_nil : lexLt [] [] = false := rfl
theorem lexLt_nil_cons (y : Int) (ys : List Int) : lexLt [] (y :: ys) = true := rfl
theorem lexLt_cons_nil (x : Int) (xs : List Int) : lexLt (x :: xs) [] = false := rfl

theorem eqAt_int (A : Around) (s : Shared) (a : Int) (t : Tok) (c : Int) (u : Tok) : ∃ e, SeqAt.EqAt A s (.int a t) (.int c u) e ∧ (e = true ↔ a = c) :=
  ⟨(a == c), SeqAt.EqAt.int_int a t c u, by simp⟩
theorem rcLt_int (A : Around) (s : Shared) (a : Int) (t : Tok) (c : Int) (u : Tok) (prog : Program) (w : World) (E : Value → Shared → Prop) (Q : Value → Shared → Prop) (h : Q (.bool (decide (a < c))) s) :
    wpAny (model prog w) A (richCompare .Lt (.int a t) (.int c u)) Q E s :=
  (PyProof.Rows.lt_int h : wpAny (model prog w) A (compareOp .Lt (.int a t) (.int c u)) Q E s)

section
open PySem.SeqAt
open PySem.AutoSeq1 (wpAny_loadPart')
open PySem.MeetsSeq PySem.MeetsSeq2 PySem.MeetsSeq3

theorem tuple_lt_ints (l b : Addr) (items items2 : Array Value) (n n2 : Nat) (dd dd2 : Option Addr) (sl sl2 : Array (Option Value)) (ns ms : List Int) (hi : IntsAre items.toList ns) (hj : IntsAre items2.toList ms) :
    Meets (Builtin.«tuple.__lt__» ⟨[.ref l, .ref b], []⟩)
      (fun _ R s => s.heap.get? l = some { cls := .type "tuple", dict := dd, data := .seq items n, slots := sl } ∧ s.heap.get? b = some { cls := .type "tuple", dict := dd2, data := .seq items2 n2, slots := sl2 } ∧
        R (.ok (.ret (.bool (lexLt ns ms)))) s) :=
  .of_wp fun prog w A R s h => by
    obtain ⟨hp, g, d, tk, os⟩ := s; obtain ⟨hl, hb, h⟩ := h
    have f2 := AutoSeq1.sub_tuple_tuple
    have z1 : items.size = ns.length := by rw [← hi.length]; simp
    have z2 : items2.size = ms.length := by rw [← hj.length]; simp
    wp_walk using wpAny_loadPart' hl, wpAny_loadPart' hb, wpAny_forIn_list _ (fun rest b s' => b.1 = none ∧ s' = ⟨hp, g, d, tk, os⟩ ∧ ∃ (vs ws : List Value) (ns' ms' : List Int), rest = vs.zip ws ∧
      IntsAre vs ns' ∧ IntsAre ws ms' ∧ ns'.length + items2.size = ms'.length + items.size ∧ R (.ok (.ret (.bool (lexLt ns' ms')))) ⟨hp, g, d, tk, os⟩) _
    case turn =>
      rintro ⟨y, x⟩ rest b s' ⟨hb', rfl, vs, ws, ns', ms', hz, hvi, hwi, hlen, hR⟩
      cases hvi with
      | nil => rw [List.zip_nil_left] at hz; cases hz
      | cons a t hvi' =>
        cases hwi with
        | nil => rw [List.zip_nil_right] at hz; cases hz
        | cons c u hwi' =>
          rw [List.zip_cons_cons] at hz
          injection hz with hyx hrest
          injection hyx with hy hx
          subst hy hx
          rw [lexLt_cons] at hR
          simp only [List.length_cons] at hlen
          obtain ⟨e, he, hiff⟩ := eqAt_int A.in1 ⟨hp, g, d, tk, os⟩ a t c u
          refine wpAny_bind (he prog w _ _ ?_)
          cases e with
          | true =>
            rw [if_pos (hiff.mp rfl)] at hR
            wp_walk
            exact ⟨rfl, rfl, _, _, _, _, hrest, hvi', hwi', by omega, hR⟩
          | false =>
            rw [if_neg (fun q => absurd (hiff.mpr q) Bool.false_ne_true)] at hR
            have hri := rcLt_int A.in1 ⟨hp, g, d, tk, os⟩ a t c u prog w
            wp_walk using hri
            exact ⟨_, rfl, by simpa using hR⟩
    case fin =>
      rintro ⟨b1, b2⟩ s' ⟨hb', rfl, vs, ws, ns', ms', hz, hvi, hwi, hlen, hR⟩
      simp only at hb'
      subst hb'
      have hv : lexLt ns' ms' = decide (items.size < items2.size) := by
        cases hvi with
        | nil =>
          cases hwi with
          | nil =>
            simp only [List.length_nil] at hlen
            rw [lexLt_nil_nil]
            exact (decide_eq_false (by omega)).symm
          | cons c u hw =>
            simp only [List.length_nil, List.length_cons] at hlen
            rw [lexLt_nil_cons]
            exact (decide_eq_true (by omega)).symm
        | cons a t hv =>
          cases hwi with
          | nil =>
            simp only [List.length_nil, List.length_cons] at hlen
            rw [lexLt_cons_nil]
            exact (decide_eq_false (by omega)).symm
          | cons c u hw =>
            rw [List.zip_cons_cons] at hz
            cases hz
      rw [hv] at hR
      wp_walk
      exact ⟨_, rfl, by simpa [Builtin.Tuple.tupleCompareSizes] using hR⟩
    case h =>
      exact ⟨rfl, rfl, items.toList, items2.toList, ns, ms, rfl, hi, hj, by omega, h⟩
end

section
variable {prog : Program} {w : World} {A : Around} {E : Value → Shared → Prop} {s : Shared}

theorem lt_tupInts {l b : Addr} {items items2 : Array Value} {ns ms : List Int} {Q : Value → Shared → Prop} (hl : IsTup s.heap l items) (hb : IsTup s.heap b items2) (hi : IntsAre items.toList ns) (hj : IntsAre items2.toList ms)
    (hu : A.units < cLine) (h : Q (.bool (lexLt ns ms)) s) : wpAny (model prog w) A (compareOp .Lt (.ref l) (.ref b)) Q E s := by
  obtain ⟨⟨cls, dd, data, sl⟩, ho, hc, n, hd⟩ := id hl
  obtain ⟨⟨cls2, dd2, data2, sl2⟩, ho2, hc2, n2, hd2⟩ := id hb
  simp only at hc hd hc2 hd2
  subst hc hd hc2 hd2
  exact richCompare_meets_room (op := .Lt) ⟨_, ho, rfl⟩ ⟨_, ho2, rfl⟩ PySem.F.slot_tuple_lt PySem.F.entry_tuple_lt (PySem.F.args_tuple_lt_2 _ _) (tuple_lt_ints l b items items2 n n2 dd dd2 sl sl2 ns ms hi hj)
    ⟨ho, ho2, show Value.bool (lexLt ns ms) ≠ Value.notImplemented ∧ Q (.bool (lexLt ns ms)) s from ⟨(fun x => nomatch x), h⟩⟩ hu

/-- t + u, t not empty -/
theorem cat_tup {t b : Addr} {vs ws : List Value} {Q : Value → Shared → Prop} (ht : IsTup s.heap t vs.toArray) (hb : IsTup s.heap b ws.toArray) (hv : vs ≠ [])
    (h1 : ws = [] → Q (.ref t) s) (h2 : ws ≠ [] → Q (.ref s.heap.objs.size) { s with heap := s.heap.push { cls := .type "tuple", data := .seq (vs ++ ws).toArray } })
    (hsz : vs.length + ws.length ≤ sizeLine) : wpAny (model prog w) A (binaryOp .Add (.ref t) (.ref b)) Q E s := by
  obtain ⟨⟨cls, dd, data, sl⟩, ho, hc, n, hd⟩ := id ht
  obtain ⟨⟨cls2, dd2, data2, sl2⟩, ho2, hc2, n2, hd2⟩ := id hb
  simp only at hc hd hc2 hd2
  subst hc hd hc2 hd2
  have e : vs.toArray ++ ws.toArray = (vs ++ ws).toArray := by simp
  by_cases hw : ws = []
  · exact concat_meets ⟨_, ho, rfl⟩ ⟨_, ho2, rfl⟩ noFill_tuple_add seq_tuple_add PySem.F.slot_tuple_add PySem.F.entry_tuple_add (PySem.F.args_tuple_add_2 _ _)
      (tuple_addW1 t b vs.toArray ws.toArray n n2 dd dd2 sl sl2 (by simpa using hv) (by simp [hw])) ⟨ho, ho2, h1 hw⟩
  · refine concat_meets ⟨_, ho, rfl⟩ ⟨_, ho2, rfl⟩ noFill_tuple_add seq_tuple_add PySem.F.slot_tuple_add PySem.F.entry_tuple_add (PySem.F.args_tuple_add_2 _ _)
      (tuple_addW2 t b vs.toArray ws.toArray n n2 dd dd2 sl sl2 (by simpa using hv) (by simpa using hw) (by rw [List.size_toArray, List.size_toArray]; exact hsz)) ⟨ho, ho2, ?_⟩
    rw [e]
    exact h2 hw

/-! ### t[a:b], not the whole -/
/-- a slice's bound as a place among n (d where it is left out) -/
def sIx (n d : Nat) : Option Int → Nat
  | none => d
  | some v => if v < 0 then (v + (n : Int)).toNat else min v.toNat n
theorem sIx_none (n d : Nat) : sIx n d none = d := rfl
theorem sIx_nat (n d k : Nat) : sIx n d (some (k : Int)) = min k n := by
  show (if (k : Int) < 0 then ((k : Int) + (n : Int)).toNat else min (k : Int).toNat n) = min k n
  rw [if_neg (by omega), Int.toNat_natCast]
theorem sIx_le (n d : Nat) (hd : d ≤ n) (o : Option Int) : sIx n d o ≤ n := by
  cases o with
  | none => exact hd
  | some v =>
    show (if v < 0 then (v + (n : Int)).toNat else min v.toNat n) ≤ n
    by_cases hv : v < 0
    · rw [if_pos hv]; omega
    · rw [if_neg hv]; exact Nat.min_le_right _ _
theorem clip_eq (v : Int) (n d : Nat) : (if v < 0 then max (v + (n : Int)) 0 else min v (n : Int)) = ((sIx n d (some v) : Nat) : Int) := by
  show (if v < 0 then max (v + (n : Int)) 0 else min v (n : Int)) = (((if v < 0 then (v + (n : Int)).toNat else min v.toNat n) : Nat) : Int)
  by_cases hv : v < 0
  · simp only [if_pos hv]; omega
  · simp only [if_neg hv]; omega
theorem adjust_gen (lo hi : Option Int) (n : Nat) : Builtin.Slice.sliceAdjust lo hi 1 (n : Int) = (((sIx n 0 lo : Nat) : Int), ((sIx n n hi : Nat) : Int)) := by
  have h1 : ¬ ((1 : Int) < 0) := by omega
  unfold Builtin.Slice.sliceAdjust
  simp only [h1, if_false]
  refine Prod.ext ?_ ?_
  · cases lo with
    | none => rfl
    | some v => exact clip_eq v n 0
  · cases hi with
    | none => rfl
    | some v => exact clip_eq v n n
theorem places_gen (i j : Nat) : Builtin.Slice.slicePlaces (i : Int) (j : Int) 1 = j - i := by
  unfold Builtin.Slice.slicePlaces
  have h1 : (1 : Int) > 0 := by omega
  simp only [h1, if_true, Int.ediv_one]
  split <;> omega
theorem slicePart_ {v : Value} {o : Option Int} {Q : Option Int → Shared → Prop} (p : IsPart v o) (h : Q o s) : wpAny (model prog w) A (Builtin.Slice.slicePartIndex v) Q E s := by
  cases p with
  | none => exact slicePart_none h
  | int i t => exact slicePart_int h
theorem sliceApplied_gen {sl : Addr} {vl vu : Value} {lo hi : Option Int} {n : Nat} {Q : Int × Int × Nat → Shared → Prop} (hs : s.heap.IsSliceOf sl vl vu .none) (pl : IsPart vl lo) (pu : IsPart vu hi)
    (h : Q (((sIx n 0 lo : Nat) : Int), 1, sIx n n hi - sIx n 0 lo) s) : wpAny (model prog w) A (Builtin.Slice.sliceApplied (.ref sl) (pure (n : Int))) Q E s := by
  obtain ⟨os, hos, hcs, hds⟩ := id hs
  unfold Builtin.Slice.sliceApplied Builtin.Slice.sliceFields
  refine wpAny_bind (wpAny_bind (wpAny_field hos hds (x := vl) rfl (wpAny_bind (wpAny_field hos hds (x := vu) rfl (wpAny_bind (wpAny_field hos hds (x := .none) rfl (wpAny_pure ?_)))))))
  refine wpAny_bind (slicePart_none ?_)
  show wpAny _ _ (if ((1 : Int) == 0) = true then _ else _) _ _ s
  rw [if_neg (by decide)]
  refine wpAny_bind (slicePart_ pl (wpAny_bind (slicePart_ pu (wpAny_bind (wpAny_pure ?_)))))
  show wpAny _ _ (match Builtin.Slice.sliceAdjust lo hi 1 (n : Int) with | (lo, hi) => pure (lo, (1 : Int), Builtin.Slice.slicePlaces lo hi 1)) _ _ s
  rw [adjust_gen lo hi n]
  show wpAny _ _ (pure (((sIx n 0 lo : Nat) : Int), (1 : Int), Builtin.Slice.slicePlaces ((sIx n 0 lo : Nat) : Int) ((sIx n n hi : Nat) : Int) 1)) _ _ s
  rw [places_gen]
  exact wpAny_pure h
theorem pick_gen (xs : Array Value) (i k : Nat) : ((List.range k).filterMap fun (m : Nat) => xs[((i : Int) + (m : Int) * 1).toNat]?).toArray = ((xs.toList.drop i).take k).toArray := by
  have e : (fun (m : Nat) => xs[((i : Int) + (m : Int) * 1).toNat]?) = fun m => xs[i + m]? := by
    funext m
    have : ((i : Int) + (m : Int) * 1).toNat = i + m := by omega
    rw [this]
  rw [e]
  have := pick_run xs i k
  rw [List.filterMap_map] at this
  have e2 : ((fun x => xs[x]?) ∘ fun x => i + x) = fun m => xs[i + m]? := rfl
  rw [e2] at this
  rw [this]

theorem getItem_tuple_cut {t sl : Addr} {items : Array Value} {vl vu : Value} {lo hi : Option Int} {Q : Value → Shared → Prop} (ht : IsTup s.heap t items) (hs : s.heap.IsSliceOf sl vl vu .none) (pl : IsPart vl lo) (pu : IsPart vu hi)
    (hw : ¬ (sIx items.size 0 lo = 0 ∧ sIx items.size items.size hi = items.size))
    (h : Q (.ref s.heap.objs.size) { s with heap := s.heap.push { cls := .type "tuple", data := .seq ((items.toList.drop (sIx items.size 0 lo)).take (sIx items.size items.size hi - sIx items.size 0 lo)).toArray } })
    (hsz : items.size ≤ sizeLine) : wpAny (model prog w) A (getItem (.ref t) (.ref sl)) Q E s := by
  have htake : sizeOk (.seq ((items.toList.drop (sIx items.size 0 lo)).take (sIx items.size items.size hi - sIx items.size 0 lo)).toArray) := by
    show ((items.toList.drop (sIx items.size 0 lo)).take (sIx items.size items.size hi - sIx items.size 0 lo)).toArray.size ≤ sizeLine
    rw [List.size_toArray, List.length_take, List.length_drop, Array.length_toList]
    omega
  have hj : sIx items.size items.size hi ≤ items.size := sIx_le _ _ (Nat.le_refl _) hi
  obtain ⟨os, hos, hcs, hds⟩ := id hs
  have hTs : s.TypeIs (.ref sl) "slice" := ⟨os, hos, hcs⟩
  unfold getItem
  try with_reducible refine wpAny_holding ?_
  first | refine wpAny_bind (wpAny_pure ?_) | skip
  refine wpAny_bind (wpAny_sequenceKey ht.typeIs (by decide) ?_)
  refine wpAny_bind (wpAny_callSpecial?_slot (name := Str.ofString "__getitem__") ht.typeIs PyProof.Rows.slot_tuple_getitem
    (wpAny_call_entry PyProof.Rows.slot_tuple_getitem ht.typeIs entry_tuple_getitem ?_ (args_tuple_getitem _ _)))
  show wpAny _ _ (Builtin.Tuple.tupleItemsOf (.ref t) >>= _) _ _ s
  refine wpAny_bind (tupleItemsOf_ ht ?_)
  refine wpAny_bind (wpAny_typeOf hTs ?_)
  rw [if_pos (by decide)]
  refine wpAny_bind (sliceApplied_gen hs pl pu ?_)
  have hno : ¬ ((((sIx items.size 0 lo : Nat) : Int) == 0 && (1 : Int) == 1 && (sIx items.size items.size hi - sIx items.size 0 lo) == items.size) = true) := by
    intro q
    rw [Bool.and_eq_true, Bool.and_eq_true] at q
    have q1 : ((sIx items.size 0 lo : Nat) : Int) = 0 := eq_of_beq q.1.1
    have q2 : sIx items.size items.size hi - sIx items.size 0 lo = items.size := eq_of_beq q.2
    exact hw ⟨by omega, by omega⟩
  show wpAny _ _ (if (((sIx items.size 0 lo : Nat) : Int) == 0 && (1 : Int) == 1 && (sIx items.size items.size hi - sIx items.size 0 lo) == items.size) = true then _ else _) _ _ s
  rw [if_neg hno, pick_gen]
  first
    | exact wpAny_bind (m := Builtin.Tuple.tupleExact _) (wpAny_newObj_type (wpAny_pure ⟨_, rfl, wpAny_pure h⟩) htake)
    | exact wpAny_bind (m := Builtin.Tuple.tupleExact _) (wpAny_newObj_type (wpAny_bind (wpAny_pure (wpAny_pure ⟨_, rfl, wpAny_pure h⟩))) htake)
    | exact wpAny_bind (wpAny_bind (m := Builtin.Tuple.tupleExact _) (wpAny_newObj_type (wpAny_pure (wpAny_pure ⟨_, rfl, wpAny_pure h⟩)) htake))
    | exact wpAny_bind (wpAny_bind (m := Builtin.Tuple.tupleExact _) (wpAny_newObj_type (wpAny_pure ⟨_, rfl, wpAny_pure h⟩) htake))
end
end HT

namespace L2
open PySem PySem.Spec PyProof.Rows

/-! ### the parts of a slice -/
abbrev TO := St → Hp → (Option Int → Hp → Prop) → Prop
/-- a slice's part (left out, or an int) -/
def PO (X : Cx) (e : Option Expr) (t : TO) : Prop :=
  ∀ (pins : List (Addr × Obj)) (s : Shared) (σ : St) (H : Hp) (Q : Option Int → Hp → Prop), Inv X pins σ H s → t σ H Q →
    wpAny (model X.prog X.w) X.A (evalPart e X.env) (fun u s' => ∃ o H', Inv X pins σ H' s' ∧ IsPart u o ∧ Q o H') X.xe s
def tNoPart : TO := fun _ H Q => Q none H
def tPart (t : TE) : TO := fun σ H Q => t σ H fun x H1 => ∃ i, x = .int i ∧ Q (some i) H1

theorem intsAre_of {ns : List Int} : ∀ {us : List Value}, Vals (ns.map V.int) us → IntsAre us ns := by
  induction ns with
  | nil => intro us r; rw [List.map_nil] at r; cases r; exact .nil
  | cons n ns ih =>
    intro us r
    rw [List.map_cons] at r
    cases r with
    | cons r1 r2 =>
      obtain ⟨t, e⟩ := r1
      subst e
      exact .cons n t (ih r2)

section
variable {X : Cx} {e : Expr} {te : TE} {lo hi : Option Expr} {tl th : TO} {pos p2 : Pos}

theorem po_none : PO X none tNoPart := by
  intro pins s σ H Q I h
  rw [evalPart_none]
  exact wpAny_pure ⟨none, H, I, .none, h⟩
theorem po_some (h : PE X e te) : PO X (some e) (tPart te) := by
  intro pins s σ H Q I hw
  rw [evalPart_some]
  refine thn (h pins s σ H _ I hw) fun u s1 ⟨x, H1, I1, r1, q1⟩ => ?_
  obtain ⟨i, rfl, q⟩ := q1
  obtain ⟨t, rfl⟩ := r1
  exact ⟨some i, H1, I1, .int i t, q⟩

/-- what a slice of a value is, by values: the slice object stands at sl -/
def SlR (X : Cx) (r : V → Option Int → Option Int → Hp → VK → Prop) : Prop :=
  ∀ (pins : List (Addr × Obj)) (s : Shared) (σ : St) (H : Hp) (x : V) (v vl vu : Value) (lo hi : Option Int) (sl : Addr) (Q : VK), Inv X pins σ H s → RelV x v → s.heap.IsSliceOf sl vl vu .none → IsPart vl lo → IsPart vu hi → r x lo hi H Q →
    ∃ T id, typeLookup (.type T) "__getitem__" = pure (some (.builtin id)) ∧ s.TypeIs v T ∧ wpAny (model X.prog X.w) X.A (getItem v (.ref sl)) (EP X pins σ Q) X.xe s
theorem SlR.or {r r' : V → Option Int → Option Int → Hp → VK → Prop} (h : SlR X r) (h' : SlR X r') : SlR X (fun x lo hi H Q => r x lo hi H Q ∨ r' x lo hi H Q) := by
  intro pins s σ H x v vl vu lo hi sl Q I rx hs pl pu q
  rcases q with q | q
  · exact h pins s σ H x v vl vu lo hi sl Q I rx hs pl pu q
  · exact h' pins s σ H x v vl vu lo hi sl Q I rx hs pl pu q
def tSl (r : V → Option Int → Option Int → Hp → VK → Prop) (te : TE) (tl th : TO) : TE := fun σ H Q => te σ H fun x H1 => tl σ H1 fun l H2 => th σ H2 fun u H3 => r x l u H3 Q
/-- a[lo:hi], any a -/
theorem pe_slice {r : V → Option Int → Option Int → Hp → VK → Prop} (hr : SlR X r) (he : PE X e te) (hl : PO X lo tl) (hu : PO X hi th) : PE X (.Subscript e (.Slice lo hi none p2) pos) (tSl r te tl th) := by
  intro pins s σ H Q I h
  refine Subscript_ (thn (he pins s σ H _ I h) fun v s1 ⟨x, H1, I1, r1, q1⟩ => ?_)
  refine wpAny_Slice (thn (hl pins s1 σ H1 _ I1 q1) fun vl s2 ⟨l, H2, I2, pl, q2⟩ => thn (hu pins s2 σ H2 _ I2 q2) fun vu s3 ⟨u, H3, I3, pu, q3⟩ => ?_)
  rw [evalPart_none]
  refine wpAny_pure ?_
  have I4 : Inv X pins σ H3 { s3 with heap := s3.heap.push { cls := .type "slice", data := .fields #[vl, vu, .none] } } := I3.kept (t' := s3.toks) fun b ob q => Heap.get?_push_of_some _ q
  obtain ⟨T, id, hT, ht, hg⟩ := hr pins { s3 with heap := s3.heap.push { cls := .type "slice", data := .fields #[vl, vu, .none] } } σ H3 x v vl vu l u s3.heap.objs.size Q I4 r1 (Heap.IsSliceOf.new ..) pl pu q3
  show wpAny (model X.prog X.w) X.A (subscriptTail e (.Slice lo hi none p2) v (.ref s3.heap.objs.size)) (EP X pins σ Q) X.xe { s3 with heap := s3.heap.push { cls := .type "slice", data := .fields #[vl, vu, .none] } }
  exact tail_any (ops := [.ref s3.heap.objs.size, v]) ht hT hg (by with_unfolding_all rfl)

/-- the items of xs[lo:hi] -/
def cutV (xs : List V) (lo hi : Option Int) : List V := (xs.drop (HT.sIx xs.length 0 lo)).take (HT.sIx xs.length xs.length hi - HT.sIx xs.length 0 lo)
theorem cutV_length (xs : List V) (lo hi : Option Int) : (cutV xs lo hi).length ≤ xs.length := by
  unfold cutV
  rw [List.length_take, List.length_drop]
  omega
/-- t[lo:hi], not the whole of it (the whole would be t itself) -/
def rSlT (K : PySem.W.Frag) : V → Option Int → Option Int → Hp → VK → Prop := fun x lo hi H Q => ∃ a xs, x = .ref a ∧ SqT K H a xs ∧
  ¬ (HT.sIx xs.length 0 lo = 0 ∧ HT.sIx xs.length xs.length hi = xs.length) ∧ ∀ p, H p = none → Q (.ref p) (upd H p (.tup (cutV xs lo hi)))
theorem sl_tup : SlR X (rSlT X.K) := by
  intro pins s σ H x v vl vu lo hi sl Q I rx hs pl pu h
  obtain ⟨a, xs, rfl, hx, hw, q⟩ := h
  cases rx
  obtain ⟨its, r, ht, hz⟩ := I.tuple hx
  have hlen : its.toArray.size = xs.length := by rw [List.size_toArray]; exact r.length.symm
  refine ⟨"tuple", _, PyProof.Rows.slot_tuple_getitem.lookup, ht.typeIs, ?_⟩
  refine HT.getItem_tuple_cut ht hs pl pu (by rw [hlen]; exact hw) ?_ (by rw [hlen]; exact hz)
  rw [hlen]
  refine ⟨.ref s.heap.objs.size, _, I.laid (t' := s.toks) (o := .tup (cutV xs lo hi)) (fun b ob q => Heap.get?_push_of_some _ q) (Nat.le_refl _) ?_, rfl, q _ (I.hok.fresh (Nat.le_refl _))⟩
  exact ⟨Nat.le_trans (cutV_length xs lo hi) hz, _, (r.drop (HT.sIx xs.length 0 lo)).take (HT.sIx xs.length xs.length hi - HT.sIx xs.length 0 lo), IsTup.new _ _⟩

/-! ### t < u, t + u -/
def rLtT (K : PySem.W.Frag) : R2 := fun x y H Q => ∃ a b ns ms, x = .ref a ∧ y = .ref b ∧ SqT K H a (ns.map V.int) ∧ SqT K H b (ms.map V.int) ∧ Q (.bl (HT.lexLt ns ms)) H
theorem op_ltT (hu : X.A.units < cLine) : OpR X (compareOp .Lt) (rLtT X.K) := by
  intro pins s σ H x y v u Q I rx ry h
  obtain ⟨a, b, ns, ms, rfl, rfl, ha, hb, q⟩ := h
  cases rx
  cases ry
  obtain ⟨its, r1, p1, _⟩ := I.tuple ha
  obtain ⟨its2, r2, p2, _⟩ := I.tuple hb
  have i1 : IntsAre its.toArray.toList ns := intsAre_of r1
  have i2 : IntsAre its2.toArray.toList ms := intsAre_of r2
  exact HT.lt_tupInts p1 p2 i1 i2 hu ⟨.bl (HT.lexLt ns ms), H, I, rfl, q⟩
/-- t + u, t not empty: u empty gives t itself -/
def rCatT (K : PySem.W.Frag) : R2 := fun x y H Q => ∃ a b xs ys, x = .ref a ∧ y = .ref b ∧ SqT K H a xs ∧ SqT K H b ys ∧ xs ≠ [] ∧ xs.length + ys.length ≤ sizeLine ∧
  (ys = [] → Q (.ref a) H) ∧ (ys ≠ [] → ∀ p, H p = none → Q (.ref p) (upd H p (.tup (xs ++ ys))))
theorem Vals.nil_iff {xs : List V} {us : List Value} (r : Vals xs us) : us = [] ↔ xs = [] := by
  cases r with
  | nil => simp
  | cons _ _ => simp
theorem op_catT : OpR X (binaryOp .Add) (rCatT X.K) := by
  intro pins s σ H x y v u Q I rx ry h
  obtain ⟨a, b, xs, ys, rfl, rfl, ha, hb, hx, hz, q1, q2⟩ := h
  cases rx
  cases ry
  obtain ⟨its, r1, p1, _⟩ := I.tuple ha
  obtain ⟨its2, r2, p2, _⟩ := I.tuple hb
  refine HT.cat_tup p1 p2 (fun z => hx (r1.nil_iff.mp z)) (fun z => ⟨.ref a, H, I, rfl, q1 (r2.nil_iff.mp z)⟩) (fun z => ?_) (by rw [← r1.length, ← r2.length]; exact hz)
  refine ⟨.ref s.heap.objs.size, _, I.laid (t' := s.toks) (o := .tup (xs ++ ys)) (fun b ob q => Heap.get?_push_of_some _ q) (Nat.le_refl _) ?_, rfl, q2 (fun w => z (r2.nil_iff.mpr w)) _ (I.hok.fresh (Nat.le_refl _))⟩
  exact ⟨by rw [List.length_append]; exact hz, _, r1.append r2, IsTup.new _ _⟩
/-- tuple(t) -/
theorem call_tupleT : CallR X (.type "tuple") (fun xs H Q => ∃ a ys, xs = [.ref a] ∧ SqT X.K H a ys ∧ Q (.ref a) H) := by
  intro pins s σ H xs us Q I r h
  obtain ⟨a, ys, rfl, ha, q⟩ := h
  obtain ⟨u, rfl, ru⟩ := vals1 r
  cases ru
  obtain ⟨its, _, p1, _⟩ := I.tuple ha
  exact call_tuple_same (items := its.toArray) p1 ⟨.ref a, H, I, rfl, q⟩
end
end L2

namespace L2
open PySem PySem.Spec PyProof.Rows

/-! ### places -/
/-- the place that an index of any sign means -/
def ixN (n : Nat) (i : Int) : Option Nat := if 0 ≤ i then (if i < n then some i.toNat else none) else if -(n : Int) ≤ i then some (i + n).toNat else none
def atI {α : Type} (xs : List α) (i : Int) : Option α := (ixN xs.length i).bind fun j => xs[j]?
theorem ixN_seq {n : Nat} {i : Int} {j : Nat} (h : ixN n i = some j) : seqIndex? i n = some j ∧ j < n ∧ -(n : Int) ≤ i ∧ i < n := by
  unfold ixN at h
  by_cases h0 : 0 ≤ i
  · rw [if_pos h0] at h
    by_cases h1 : i < n
    · rw [if_pos h1] at h
      have e : i.toNat = j := Option.some.inj h
      exact ⟨by rw [seqIndex_of h0 h1, e], by omega, by omega, h1⟩
    · rw [if_neg h1] at h; cases h
  · rw [if_neg h0] at h
    by_cases h1 : -(n : Int) ≤ i
    · rw [if_pos h1] at h
      have e : (i + n).toNat = j := Option.some.inj h
      exact ⟨by rw [seqIndex_neg (by omega) h1, e], by omega, h1, by omega⟩
    · rw [if_neg h1] at h; cases h
theorem atI_get {α : Type} {xs : List α} {i : Int} {v : α} (h : atI xs i = some v) : ∃ j, seqIndex? i xs.length = some j ∧ xs[j]? = some v ∧ j < xs.length ∧ -(xs.length : Int) ≤ i ∧ i < xs.length := by
  unfold atI at h
  cases e : ixN xs.length i with
  | none => rw [e] at h; cases h
  | some j =>
    rw [e] at h
    obtain ⟨h1, h2, h3, h4⟩ := ixN_seq e
    exact ⟨j, h1, h, h2, h3, h4⟩
theorem atI_nat {α : Type} {xs : List α} {j : Nat} {v : α} (h : xs[j]? = some v) : atI xs (j : Int) = some v := by
  have hj : j < xs.length := (List.getElem?_eq_some_iff.mp h).1
  have e : ixN xs.length (j : Int) = some j := by
    unfold ixN
    rw [if_pos (by omega), if_pos (by omega)]; simp
  unfold atI; rw [e]; exact h
theorem atI_last {α : Type} (xs : List α) (v : α) : atI (xs ++ [v]) (-1) = some v := by
  have hl : (xs ++ [v]).length = xs.length + 1 := by simp
  have e : ixN (xs ++ [v]).length (-1) = some xs.length := by
    unfold ixN
    rw [hl, if_neg (by decide), if_pos (by omega)]
    congr 1
    omega
  unfold atI
  rw [e]
  show (xs ++ [v])[xs.length]? = some v
  simp

/-! ### what may be subscripted -/
/-- what stands as an index of a plain subscript -/
def PlainIx (b : Expr) : Prop := ∀ o i, subscripted b false o i = operate [o, i] (getItem o i)
/-- a subscript by values -/
def IxR (X : Cx) (r : R2) : Prop :=
  ∀ (value slice : Expr) (pins : List (Addr × Obj)) (s : Shared) (σ : St) (H : Hp) (x y : V) (v u : Value) (Q : VK), Inv X pins σ H s → RelV x v → RelV y u → r x y H Q →
    subscripted slice false v u = operate [v, u] (getItem v u) → wpAny (model X.prog X.w) X.A (subscriptTail value slice v u) (EP X pins σ Q) X.xe s
/-- a call of a builtin's method by values: the receiver, the arguments -/
def MtR (X : Cx) (id : String) (r : V → List V → Hp → VK → Prop) : Prop :=
  ∀ (pins : List (Addr × Obj)) (s : Shared) (σ : St) (H : Hp) (x : V) (xs : List V) (v : Value) (us : List Value) (Q : VK), Inv X pins σ H s → RelV x v → Vals xs us → r x xs H Q →
    wpAny (model X.prog X.w) X.A (call (.builtin id) (v :: us)) (EP X pins σ Q) X.xe s
section
variable {X : Cx} {a b : Expr} {ta tb : TE} {pos : Pos}
theorem IxR.or {r r' : R2} (h : IxR X r) (h' : IxR X r') : IxR X (fun x y H Q => r x y H Q ∨ r' x y H Q) := by
  intro value slice pins s σ H x y v u Q I rx ry q hs
  rcases q with q | q
  · exact h value slice pins s σ H x y v u Q I rx ry q hs
  · exact h' value slice pins s σ H x y v u Q I rx ry q hs
theorem MtR.or {id : String} {r r' : V → List V → Hp → VK → Prop} (h : MtR X id r) (h' : MtR X id r') : MtR X id (fun x xs H Q => r x xs H Q ∨ r' x xs H Q) := by
  intro pins s σ H x xs v us Q I rx rs q
  rcases q with q | q
  · exact h pins s σ H x xs v us Q I rx rs q
  · exact h' pins s σ H x xs v us Q I rx rs q
/-- a[b] -/
theorem pe_ix {r : R2} (hr : IxR X r) (ha : PE X a ta) (hb : PE X b tb) (hs : PlainIx b) : PE X (.Subscript a b pos) (tOp r ta tb) := by
  intro pins s σ H Q I h
  exact Subscript_ (binT ha hb I h fun v u s2 x y H2 I2 rx ry q => hr a b pins s2 σ H2 x y v u Q I2 rx ry q (hs _ _))

def rIxL (K : PySem.W.Frag) : R2 := fun x y H Q => ∃ p xs i v, x = .ref p ∧ y = .int i ∧ SqL K H p xs ∧ atI xs i = some v ∧ Q v H
def rIxT (K : PySem.W.Frag) : R2 := fun x y H Q => ∃ p xs i v, x = .ref p ∧ y = .int i ∧ SqT K H p xs ∧ atI xs i = some v ∧ Q v H
def rIxS : R2 := fun x y H Q => ∃ z i c, x = .str z ∧ y = .int i ∧ z.length ≤ sizeLine ∧ atI z.cps.toList i = some c ∧ Q (.str ⟨#[c]⟩) H
theorem ix_list : IxR X (rIxL X.K) := by
  intro value slice pins s σ H x y v u Q I rx ry h hs
  obtain ⟨p, xs, i, z, rfl, rfl, hq, he, q⟩ := h
  cases rx
  obtain ⟨t, rfl⟩ := ry
  obtain ⟨its, r, pl, hz⟩ := I.list hq
  obtain ⟨j, h1, h2, h3, h4, h5⟩ := atI_get he
  obtain ⟨w, ew, rw'⟩ := r.get h2
  have hl := r.length
  have hn := line63
  have fin : EP X pins σ Q w s := ⟨z, H, I, rw', q⟩
  by_cases h0 : 0 ≤ i
  · have hj : i.toNat = j := by
      rw [seqIndex_of h0 h5] at h1
      exact Option.some.inj h1
    exact item_listR pl.isList h0 (by omega) (by rw [hj]; simpa using ew) fin hs
  · have hj : (i + (its.toArray.size : Int)).toNat = j := by
      rw [seqIndex_neg (by omega) h4] at h1
      rw [List.size_toArray, ← hl]
      exact Option.some.inj h1
    exact subscriptTail_builtinR (x := w) pl.isList.typeIs slot_list_getitem.lookup
      (wpAny_getItem_list_neg (Q := fun r s' => r = w ∧ EP X pins σ Q r s') pl.isList (by omega) (by rw [List.size_toArray] <;> omega) (by omega) (by rw [hj]; simpa using ew) ⟨rfl, fin⟩) hs
theorem ix_tup : IxR X (rIxT X.K) := by
  intro value slice pins s σ H x y v u Q I rx ry h hs
  obtain ⟨p, xs, i, z, rfl, rfl, hq, he, q⟩ := h
  cases rx
  obtain ⟨t, rfl⟩ := ry
  obtain ⟨its, r, pl, hz⟩ := I.tuple hq
  obtain ⟨j, h1, h2, h3, h4, h5⟩ := atI_get he
  obtain ⟨w, ew, rw'⟩ := r.get h2
  have hl := r.length
  have hn := line63
  have fin : EP X pins σ Q w s := ⟨z, H, I, rw', q⟩
  exact subscriptTail_builtinR (x := w) pl.typeIs slot_tuple_getitem.lookup
    (getItem_tuple (j := j) (Q := fun r s' => r = w ∧ EP X pins σ Q r s') pl (by omega) (by omega) (by rw [List.size_toArray, ← hl]; exact h1) (by simpa using ew) ⟨rfl, fin⟩) hs
theorem ix_str : IxR X rIxS := by
  intro value slice pins s σ H x y v u Q I rx ry h hs
  obtain ⟨z, i, c, rfl, rfl, hz, he, q⟩ := h
  obtain ⟨t, rfl⟩ := rx
  obtain ⟨t', rfl⟩ := ry
  obtain ⟨j, h1, h2, h3, h4, h5⟩ := atI_get he
  have hl : z.cps.toList.length = z.length := by simp [Str.length]
  rw [hl] at h1 h4 h5
  have hn := line63
  exact tail_any (typeIs_str s z t) slot_str_getitem.lookup (getItem_str (c := c) (by
    have e1 : decide (i < -(2 ^ 63 : Int)) = false := decide_eq_false (by omega)
    have e2 : decide (i ≥ 2 ^ 63) = false := decide_eq_false (by omega)
    rw [e1, e2, Bool.or_false]) (by rw [h1]; simpa using h2) ⟨.str ⟨#[c]⟩, H, I.tok _, ⟨_, rfl⟩, q⟩) hs
/-- list, tuple or str -/
def rIx (K : PySem.W.Frag) : R2 := fun x y H Q => rIxL K x y H Q ∨ rIxT K x y H Q ∨ rIxS x y H Q
theorem ix_seq : IxR X (rIx X.K) := ix_list.or (ix_tup.or ix_str)

/-! ### xs[i] = v, any sign -/
/-- the list's object behind a store -/
theorem mapSeq_set (its : List Value) (n j : Nat) (u : Value) : Obj.mapSeq (·.setIfInBounds j u) { cls := .type "list", data := .seq its.toArray n } = { cls := .type "list", data := .seq (its.set j u).toArray n } := by
  simp [Obj.mapSeq]
theorem Inv.lst {pins : List (Addr × Obj)} {σ : St} {H : Hp} {s : Shared} {p : Addr} {xs : List V} (I : Inv X pins σ H s) (h : H p = some (.lst xs)) :
    ∃ (its : List Value) (n : Nat), Vals xs its ∧ s.heap.get? p = some { cls := .type "list", data := .seq its.toArray n } ∧ xs.length ≤ sizeLine := by
  obtain ⟨z, its, n, r, e⟩ := I.hok p _ h
  exact ⟨its, n, r, e, z⟩
/-- the list at p is written by an update of its object -/
theorem Inv.lstUpd {pins : List (Addr × Obj)} {σ : St} {H : Hp} {s : Shared} {p : Addr} {xs ys : List V} {its its' : List Value} {n n' : Nat} {f : Obj → Obj} (I : Inv X pins σ H s) (h : H p = some (.lst xs))
    (ho : s.heap.get? p = some { cls := .type "list", data := .seq its.toArray n }) (hf : f { cls := .type "list", data := .seq its.toArray n } = { cls := .type "list", data := .seq its'.toArray n' }) (r : Vals ys its') (hz : ys.length ≤ sizeLine) (t : Nat) :
    Inv X pins σ (upd H p (.lst ys)) { s with heap := s.heap.update p f, toks := t } := by
  have e : (s.heap.update p f).get? p = some { cls := .type "list", data := .seq its'.toArray n' } := by
    rw [Heap.get?_update_self f ho (by rw [hf] <;> rfl), hf]
  refine I.write (x := p) (e := p) (by rw [h]; trivial) (.inl rfl) (fun b u hb q => (Heap.get?_update_other _ _ (Ne.symm hb)).trans q) ⟨_, e⟩ ?_
  exact ⟨hz, its', n', r, e⟩
def rSetL : V → V → V → Hp → (Hp → Prop) → Prop := fun o i v H Q => ∃ p xs k j, o = .ref p ∧ i = .int k ∧ H p = some (.lst xs) ∧ ixN xs.length k = some j ∧ Q (upd H p (.lst (xs.set j v)))
theorem set_list : PSet X rSetL := by
  intro pins s σ H o i v ov iv u Q I ro ri rv h
  obtain ⟨p, xs, k, j, rfl, rfl, hp, hj, q⟩ := h
  cases ro
  obtain ⟨t, rfl⟩ := ri
  obtain ⟨its, n, r, ho, hz⟩ := I.lst hp
  obtain ⟨h1, h2, h3, h4⟩ := ixN_seq hj
  have hl := r.length
  have hn := line63
  have I' : Inv X pins σ (upd H p (.lst (xs.set j v))) { s with heap := s.heap.update p (Obj.mapSeq (·.setIfInBounds j u)) } :=
    I.lstUpd hp ho (mapSeq_set its n j u) (r.set rv j) (by rw [List.length_set]; exact hz) s.toks
  by_cases h0 : 0 ≤ k
  · have hk : k.toNat = j := by
      rw [seqIndex_of h0 h4] at h1
      exact Option.some.inj h1
    exact PySem.W.ki_setAt ho h0 (by omega) (by rw [List.size_toArray, ← hl]; exact h4) (by rw [hk]; exact ⟨_, I', q⟩)
  · have hk : (k + (its.toArray.size : Int)).toNat = j := by
      rw [seqIndex_neg (by omega) h3] at h1
      rw [List.size_toArray, ← hl]
      exact Option.some.inj h1
    exact PySem.W.ki_setBack ho (by omega) (by rw [List.size_toArray, ← hl]; exact h3) (by omega) (by rw [hk]; exact ⟨_, I', q⟩)

/-! ### slices -/
theorem slice_bounds (lo hi : Option Int) (n : Nat) : (sliceBounds lo hi none n).1 = ((HT.sIx n 0 lo : Nat) : Int) ∧ (sliceBounds lo hi none n).2.1 = ((HT.sIx n n hi : Nat) : Int) ∧ (sliceBounds lo hi none n).2.2 = 1 := by
  refine ⟨?_, ?_, rfl⟩
  · cases lo with
    | none => simp [sliceBounds, HT.sIx]
    | some i =>
      simp only [sliceBounds, HT.sIx, Option.getD_none, show (1 : Int) > 0 by decide, if_true]
      by_cases h : i < 0
      · simp only [h, if_true] <;> omega
      · simp only [h, if_false] <;> omega
  · cases hi with
    | none => simp [sliceBounds, HT.sIx]
    | some i =>
      simp only [sliceBounds, HT.sIx, Option.getD_none, show (1 : Int) > 0 by decide, if_true]
      by_cases h : i < 0
      · simp only [h, if_true] <;> omega
      · simp only [h, if_false] <;> omega
theorem slicePick_cut (its : List Value) (lo hi : Option Int) : slicePick its.toArray lo hi none = ((its.drop (HT.sIx its.length 0 lo)).take (HT.sIx its.length its.length hi - HT.sIx its.length 0 lo)).toArray := by
  obtain ⟨h1, h2, h3⟩ := slice_bounds lo hi its.toArray.size
  unfold slicePick
  rw [h1, h2, h3]
  simp only [sliceRange_one, pick_run, List.size_toArray] <;> rfl
/-- xs[lo:hi] of a list: a new list -/
def rSlL (K : PySem.W.Frag) : V → Option Int → Option Int → Hp → VK → Prop := fun x lo hi H Q => ∃ a xs, x = .ref a ∧ SqL K H a xs ∧ ∀ p, H p = none → Q (.ref p) (upd H p (.lst (cutV xs lo hi)))
theorem sl_list : SlR X (rSlL X.K) := by
  intro pins s σ H x v vl vu lo hi sl Q I rx hs pl pu h
  obtain ⟨a, xs, rfl, hx, q⟩ := h
  cases rx
  obtain ⟨its, r, ht, hz⟩ := I.list hx
  have hlen := r.length
  refine ⟨"list", _, slot_list_getitem.lookup, ht.isList.typeIs, ?_⟩
  refine wpAny_getItem_list_slice ht.isList hs pl pu .none (by simp) ?_ (by rw [List.size_toArray] <;> omega)
  rw [slicePick_cut, ← hlen]
  refine ⟨.ref s.heap.objs.size, _, I.laid (t' := s.toks) (o := .lst (cutV xs lo hi)) (fun b ob q => Heap.get?_push_of_some _ q) (Nat.le_refl _) ?_, rfl, q _ (I.hok.fresh (Nat.le_refl _))⟩
  exact ⟨Nat.le_trans (cutV_length xs lo hi) hz, _, 0, (r.drop (HT.sIx xs.length 0 lo)).take (HT.sIx xs.length xs.length hi - HT.sIx xs.length 0 lo), Heap.get?_push_size _ rfl⟩

/-! ### in, not in: flat items -/
def flatV : V → Bool
  | .non => true
  | .bl _ => true
  | .int _ => true
  | .str _ => true
  | _ => false
/-- == of flat values -/
def eqV : V → V → Bool
  | .non, .non => true
  | .bl a, .bl b => a == b
  | .bl a, .int b => (if a then 1 else 0) == b
  | .int a, .bl b => a == (if b then 1 else 0)
  | .int a, .int b => a == b
  | .str a, .str b => a == b
  | _, _ => false
theorem eqAt_V {A : Around} {s : Shared} {y x : V} {u v : Value} (ry : RelV y u) (rx : RelV x v) (fy : flatV y = true) (fx : flatV x = true) : SeqAt.EqAt A s u v (eqV y x) := by
  cases y with
  | non =>
    cases ry
    cases x with
    | non => cases rx; exact SeqAt.EqAt.same _
    | bl b => cases rx; exact SeqAt.EqAt.none_bool b
    | int b => obtain ⟨t, rfl⟩ := rx; exact SeqAt.EqAt.none_int b t
    | str b => obtain ⟨t, rfl⟩ := rx; exact SeqAt.EqAt.none_str b t
    | _ => exact absurd (show false = true from fx) Bool.false_ne_true
  | bl a =>
    cases ry
    cases x with
    | non => cases rx; exact SeqAt.EqAt.bool_none a
    | bl b => cases rx; exact SeqAt.EqAt.bool_bool a b
    | int b => obtain ⟨t, rfl⟩ := rx; exact SeqAt.EqAt.bool_int a b t
    | str b => obtain ⟨t, rfl⟩ := rx; exact SeqAt.EqAt.bool_str a b t
    | _ => exact absurd (show false = true from fx) Bool.false_ne_true
  | int a =>
    obtain ⟨t', rfl⟩ := ry
    cases x with
    | non => cases rx; exact SeqAt.EqAt.int_none a t'
    | bl b => cases rx; exact SeqAt.EqAt.int_bool a t' b
    | int b => obtain ⟨t, rfl⟩ := rx; exact SeqAt.EqAt.int_int a t' b t
    | str b => obtain ⟨t, rfl⟩ := rx; exact SeqAt.EqAt.int_str a t' b t
    | _ => exact absurd (show false = true from fx) Bool.false_ne_true
  | str a =>
    obtain ⟨t', rfl⟩ := ry
    cases x with
    | non => cases rx; exact SeqAt.EqAt.str_none a t'
    | bl b => cases rx; exact SeqAt.EqAt.str_bool a t' b
    | int b => obtain ⟨t, rfl⟩ := rx; exact SeqAt.EqAt.str_int a t' b t
    | str b => obtain ⟨t, rfl⟩ := rx; exact SeqAt.EqAt.str_str a t' b t
    | _ => exact absurd (show false = true from fx) Bool.false_ne_true
  | _ => exact absurd (show false = true from fy) Bool.false_ne_true
/-- the items' answers, read off the values (a value's own answer does not lean on its token) -/
def eqU (x : V) (u : Value) : Bool := match u with
  | .none => eqV .non x
  | .bool b => eqV (.bl b) x
  | .int i _ => eqV (.int i) x
  | .str z _ => eqV (.str z) x
  | _ => false
theorem eqU_of {x y : V} {u : Value} (r : RelV y u) (f : flatV y = true) : eqU x u = eqV y x := by
  cases y with
  | non => cases r; rfl
  | bl b => cases r; rfl
  | int i => obtain ⟨t, rfl⟩ := r; rfl
  | str z => obtain ⟨t, rfl⟩ := r; rfl
  | _ => exact absurd (show false = true from f) Bool.false_ne_true
theorem any_eqU {x : V} : ∀ {xs : List V} {us : List Value}, Vals xs us → xs.all flatV = true → us.any (eqU x) = xs.any fun y => eqV y x
  | _, _, .nil, _ => rfl
  | y :: xs, u :: us, .cons r t, f => by
    rw [List.all_cons, Bool.and_eq_true] at f
    rw [List.any_cons, List.any_cons, eqU_of r f.1, any_eqU t f.2]
theorem mem_eqAt {A : Around} {s : Shared} {x : V} {v : Value} (rx : RelV x v) (fx : flatV x = true) : ∀ {xs : List V} {us : List Value}, Vals xs us → xs.all flatV = true → ∀ u ∈ us, SeqAt.EqAt A s u v (eqU x u)
  | _, _, .nil, _ => fun u hu => by cases hu
  | y :: xs, u :: us, .cons r t, f => fun u' hu => by
    rw [List.all_cons, Bool.and_eq_true] at f
    rcases List.mem_cons.mp hu with rfl | hu
    · rw [eqU_of r f.1]; exact eqAt_V r rx f.1 fx
    · exact mem_eqAt rx fx t f.2 u' hu
def inV (x : V) (xs : List V) : Bool := xs.any fun y => eqV y x
/-- x in a list or tuple of flat items -/
def rIn (K : PySem.W.Frag) (neg : Bool) : R2 := fun x y H Q => ∃ p xs, y = .ref p ∧ (SqL K H p xs ∨ SqT K H p xs) ∧ flatV x = true ∧ xs.all flatV = true ∧ Q (.bl (if neg then !inV x xs else inV x xs)) H
theorem op_in_seq : OpR X (compareOp .In) (rIn X.K false) := by
  intro pins s σ H x y v u Q I rx ry h
  obtain ⟨p, xs, rfl, hq, fx, fs, q⟩ := h
  cases ry
  rcases hq with hq | hq
  · obtain ⟨its, r, pl, hz⟩ := I.list hq
    refine SeqAt.in_listAt (eqU x) pl.isList (fun w hw => mem_eqAt rx fx r fs w (by simpa using hw)) ⟨.bl _, H, I, rfl, ?_⟩
    rw [show its.toArray.any (eqU x) = its.any (eqU x) by simp, any_eqU r fs]
    exact q
  · obtain ⟨its, r, pl, hz⟩ := I.tuple hq
    refine SeqAt.in_tupleAt (eqU x) pl (fun w hw => mem_eqAt rx fx r fs w (by simpa using hw)) ⟨.bl _, H, I, rfl, ?_⟩
    rw [show its.toArray.any (eqU x) = its.any (eqU x) by simp, any_eqU r fs]
    exact q
theorem op_notIn_seq : OpR X (compareOp .NotIn) (rIn X.K true) := by
  intro pins s σ H x y v u Q I rx ry h
  obtain ⟨p, xs, rfl, hq, fx, fs, q⟩ := h
  cases ry
  rcases hq with hq | hq
  · obtain ⟨its, r, pl, hz⟩ := I.list hq
    refine SeqAt.notIn_listAt (eqU x) pl.isList (fun w hw => mem_eqAt rx fx r fs w (by simpa using hw)) ⟨.bl _, H, I, rfl, ?_⟩
    rw [show its.toArray.any (eqU x) = its.any (eqU x) by simp, any_eqU r fs]
    exact q
  · obtain ⟨its, r, pl, hz⟩ := I.tuple hq
    refine SeqAt.notIn_tupleAt (eqU x) pl (fun w hw => mem_eqAt rx fx r fs w (by simpa using hw)) ⟨.bl _, H, I, rfl, ?_⟩
    rw [show its.toArray.any (eqU x) = its.any (eqU x) by simp, any_eqU r fs]
    exact q
theorem op_notIn_str : OpR X (compareOp .NotIn) (fun x y H Q => ∃ i j, x = .str i ∧ y = .str j ∧ Q (.bl (!(!(Builtin.Str.occurrences j i 0 j.length 1).isEmpty))) H) := by
  intro pins s σ H x y v u Q I rx ry h
  obtain ⟨i, j, rfl, rfl, q⟩ := h
  obtain ⟨t, rfl⟩ := rx
  obtain ⟨t', rfl⟩ := ry
  exact notIn_str ⟨.bl _, H, I, rfl, q⟩

/-! ### len, list(x), tuple(x) of any list or tuple that is read -/
theorem call_len_seq : CallR X (.builtin "len") (fun xs H Q => ∃ p ys, xs = [.ref p] ∧ (SqL X.K H p ys ∨ SqT X.K H p ys) ∧ Q (.int ys.length) H) := by
  intro pins s σ H xs us Q I r h
  obtain ⟨p, ys, rfl, hq, q⟩ := h
  obtain ⟨u, rfl, rx⟩ := vals1 r
  cases rx
  have hn := line63
  rcases hq with hq | hq
  · obtain ⟨its, r', pl, hz⟩ := I.list hq
    have hlen := r'.length
    exact Calls.call_len_list pl.isList (by simp only [List.size_toArray] <;> omega) ⟨.int ys.length, H, I.tok _, ⟨s.toks + 1, by rw [List.size_toArray, hlen]⟩, q⟩
  · obtain ⟨its, r', pl, hz⟩ := I.tuple hq
    have hlen := r'.length
    exact len_tuple pl (by simp only [List.size_toArray] <;> omega) ⟨.int ys.length, H, I.tok _, ⟨s.toks + 1, by rw [List.size_toArray, hlen]⟩, q⟩
theorem call_len_str : CallR X (.builtin "len") (fun xs H Q => ∃ z, xs = [.str z] ∧ z.length ≤ sizeLine ∧ Q (.int z.length) H) := by
  intro pins s σ H xs us Q I r h
  obtain ⟨z, rfl, hz, q⟩ := h
  obtain ⟨u, rfl, t, rfl⟩ := vals1 r
  have hn := line63
  exact len_str (by omega) ⟨.int z.length, H, I.tok _, ⟨_, rfl⟩, q⟩
theorem CallR.or {f : Value} {r r' : List V → Hp → VK → Prop} (h : CallR X f r) (h' : CallR X f r') : CallR X f (fun xs H Q => r xs H Q ∨ r' xs H Q) := by
  intro pins s σ H xs us Q I rs q
  rcases q with q | q
  · exact h pins s σ H xs us Q I rs q
  · exact h' pins s σ H xs us Q I rs q
theorem call_list_of : CallR X (.type "list") (fun xs H Q => ∃ p ys, xs = [.ref p] ∧ (SqL X.K H p ys ∨ SqT X.K H p ys) ∧ ∀ l, H l = none → Q (.ref l) (upd H l (.lst ys))) := by
  intro pins s σ H xs us Q I r h
  obtain ⟨p, ys, rfl, hq, q⟩ := h
  obtain ⟨u, rfl, rx⟩ := vals1 r
  cases rx
  have fin : ∀ (its : List Value), Vals ys its → ys.length ≤ sizeLine → ∀ (h' : Heap) (c' : Nat), (∀ b o', s.heap.get? b = some o' → h'.get? b = some o') →
      h'.get? s.heap.objs.size = some { cls := .type "list", dict := none, data := .seq its.toArray c', slots := #[] } → EP X pins σ Q (.ref s.heap.objs.size) { s with heap := h' } := fun its r' hz h' c' kp e =>
    ⟨.ref s.heap.objs.size, _, I.laid (t' := s.toks) kp (Nat.le_refl _) (show ObjOk X.prog X.w _ h' _ (.lst ys) from ⟨hz, its, c', r', e⟩), rfl, q _ (I.hok.fresh (Nat.le_refl _))⟩
  rcases hq with hq | hq
  · obtain ⟨its, r', pl, hz⟩ := I.list hq
    have hlen := r'.length
    obtain ⟨o, ho, hc, n, hd⟩ := pl.isList
    exact call_list_seq p (.inl rfl) ho hc hd (fun h' c' kp e => fin its r' hz h' c' kp e) (by simp only [List.size_toArray] <;> omega)
  · obtain ⟨its, r', pl, hz⟩ := I.tuple hq
    have hlen := r'.length
    obtain ⟨o, ho, hc, n, hd⟩ := pl
    exact call_list_seq p (.inr rfl) ho hc hd (fun h' c' kp e => fin its r' hz h' c' kp e) (by simp only [List.size_toArray] <;> omega)
theorem call_tuple_of : CallR X (.type "tuple") (fun xs H Q => ∃ p ys, xs = [.ref p] ∧ ((SqL X.K H p ys ∧ ∀ l, H l = none → Q (.ref l) (upd H l (.tup ys))) ∨ (SqT X.K H p ys ∧ Q (.ref p) H))) := by
  intro pins s σ H xs us Q I r h
  obtain ⟨p, ys, rfl, h⟩ := h
  obtain ⟨u, rfl, rx⟩ := vals1 r
  cases rx
  rcases h with ⟨hq, q⟩ | ⟨hq, q⟩
  · obtain ⟨its, r', pl, hz⟩ := I.list hq
    have hlen := r'.length
    refine call_tuple_list pl.isList (fun h' kp => ?_) (by simp only [List.size_toArray] <;> omega)
    have I1 : Inv X pins σ H { s with heap := h' } := I.kept (t' := s.toks) kp
    have I2 : Inv X pins σ (upd H h'.objs.size (.tup ys)) { s with heap := h'.push { cls := .type "tuple", data := .seq its.toArray } } :=
      I1.laid (t' := s.toks) (fun b o e => Heap.get?_push_of_some _ e) (Nat.le_refl _) (show ObjOk X.prog X.w _ _ _ (.tup ys) from ⟨hz, its, r', IsTup.new _ _⟩)
    exact ⟨.ref h'.objs.size, _, I2, rfl, q _ (I1.hok.fresh (Nat.le_refl _))⟩
  · obtain ⟨its, r', pl, hz⟩ := I.tuple hq
    exact call_tuple_same pl ⟨.ref p, H, I, rfl, q⟩

/-! ### the call of a builtin's method: o.m(..) -/
/-- the value is of that builtin type -/
def tyV (K : PySem.W.Frag) (T : String) (x : V) (H : Hp) : Prop := match x with
  | .str _ => T = "str"
  | .int _ => T = "int"
  | .ref p => (T = "list" ∧ ∃ xs, SqL K H p xs) ∨ (T = "tuple" ∧ ∃ o, K.lookup p = some o ∧ o.cls = .type "tuple" ∧ o.dict = none) ∨
      (T = "dict" ∧ ((∃ kvs, H p = some (.dK kvs)) ∨ ∃ kvs, H p = some (.dT kvs))) ∨ (T = "set" ∧ ∃ S n, H p = some (.set S n))
  | _ => False
theorem tyV_is {pins : List (Addr × Obj)} {σ : St} {H : Hp} {s : Shared} {T : String} {x : V} {v : Value} (I : Inv X pins σ H s) (r : RelV x v) (ty : tyV X.K T x H) :
    s.TypeIs v T ∧ ∀ a, v = .ref a → ∃ ob, s.heap.get? a = some ob ∧ ob.dict = none := by
  cases x with
  | str z =>
    obtain ⟨t, rfl⟩ := r
    cases (show T = "str" from ty)
    exact ⟨typeIs_str s z t, fun _ e => nomatch e⟩
  | int i =>
    obtain ⟨t, rfl⟩ := r
    cases (show T = "int" from ty)
    exact ⟨typeIs_int s i t, fun _ e => nomatch e⟩
  | ref p =>
    cases r
    rcases ty with ⟨rfl, xs, hq⟩ | ⟨rfl, o, hk, hc, hd⟩ | ⟨rfl, hk⟩ | ⟨rfl, S, n, hk⟩
    · obtain ⟨its, _, pl, _⟩ := I.list hq
      refine ⟨pl.isList.typeIs, fun a e => ?_⟩
      cases e
      obtain ⟨o, n, e, c, hd, _⟩ := pl
      exact ⟨o, e, hd⟩
    · refine ⟨⟨o, I.kIn p o hk, hc⟩, fun a e => ?_⟩
      cases e
      exact ⟨o, I.kIn _ o hk, hd⟩
    · have z : ∃ o, s.heap.get? p = some o ∧ o.ExactDict := by
        rcases hk with ⟨kvs, hk⟩ | ⟨kvs, hk⟩
        · obtain ⟨_, _, _, _, o, _, _, e, ex, _⟩ := I.hok p _ hk
          exact ⟨o, e, ex⟩
        · obtain ⟨_, _, _, _, o, _, _, e, ex, _⟩ := I.hok p _ hk
          exact ⟨o, e, ex⟩
      obtain ⟨o, e, ex⟩ := z
      refine ⟨⟨o, e, ex.1⟩, fun a e2 => ?_⟩
      cases e2
      exact ⟨o, e, ex.2.1⟩
    · obtain ⟨o, _, _, _, e, ex, _⟩ := I.hok p _ hk
      refine ⟨⟨o, e, ex.1⟩, fun a e2 => ?_⟩
      cases e2
      exact ⟨o, e, ex.2.1⟩
  | _ => exact False.elim ty
def tBM0 (K : PySem.W.Frag) (T : String) (r : V → List V → Hp → VK → Prop) (to : TE) : TE := fun σ H Q => to σ H fun x H1 => tyV K T x H1 ∧ r x [] H1 Q
def tBM (K : PySem.W.Frag) (T : String) (r : V → List V → Hp → VK → Prop) (to : TE) (t : TA) : TE := fun σ H Q => to σ H fun x H1 => tyV K T x H1 ∧ t σ H1 fun xs H2 => r x xs H2 Q
variable {o e : Expr} {es : List Expr} {to : TE} {t : TA} {name : Str} {apos cpos : Pos} {T id : String} {r : V → List V → Hp → VK → Prop}
theorem pe_bm0 (pa : PlainAttrs T) (slot : Slot T name id) (hty : typeOf (.builtin id) = pure (.type "method_descriptor")) (hm : MtR X id r) (ho : PE X o to)
    (hbase : attributeBase o name X.env (eval o X.env) = eval o X.env := by rfl) (hline : (apos.endLine == cpos.line) = true := by rfl) : PE X (.Call (.Attribute o name apos) [] [] cpos) (tBM0 X.K T r to) := by
  intro pins s σ H Q I h
  refine wpAny_Call_method0_late hbase hline (thn (ho pins s σ H _ I h) fun v s1 ⟨x, H1, I1, r1, ty, q1⟩ => ?_)
  obtain ⟨h1, h2⟩ := tyV_is I1 r1 ty
  exact ⟨T, id, pa, slot, hty, h1, h2, Calls.callWith_builtin rfl (PySem.evalArgs_none (hm pins s1 σ H1 x [] v [] Q I1 r1 .nil q1))⟩
theorem pe_bm (pa : PlainAttrs T) (slot : Slot T name id) (hty : typeOf (.builtin id) = pure (.type "method_descriptor")) (hm : MtR X id r) (ho : PE X o to) (ha : PA X (e :: es) t)
    (hbase : attributeBase o name X.env (eval o X.env) = eval o X.env := by rfl)
    (hfew : ((backTo cpos (starEach (e :: es) X.env)).all (fun x => !x.1) && (backToKw cpos (keywordEach [] X.env)).all (fun x => x.1.isSome)
      && decide ((e :: es).length + ([] : List Keyword).length + (if ([] : List Keyword).isEmpty then 0 else 1) < 30)) = true := by rfl)
    (hline : (apos.endLine == cpos.line) = true := by rfl) (hs : starEach (e :: es) X.env = (false, eval e X.env) :: starEach es X.env := by rfl) (hplain : (backTo cpos (starEach es X.env)).any (·.1) = false := by rfl) :
    PE X (.Call (.Attribute o name apos) (e :: es) [] cpos) (tBM X.K T r to t) := by
  intro pins s σ H Q I h
  refine wpAny_Call_method_late hbase hfew hline rfl (thn (ho pins s σ H _ I h) fun v s1 ⟨x, H1, I1, r1, ty, q1⟩ => ?_)
  obtain ⟨h1, h2⟩ := tyV_is I1 r1 ty
  refine ⟨T, id, pa, slot, hty, h1, h2, ?_⟩
  have hA := ha cpos pins s1 σ H1 _ I1 q1
  rw [hs] at hA ⊢
  refine Calls.callWith_builtin (by show (false || (backTo cpos (starEach es X.env)).any (·.1)) = false; rw [hplain] <;> rfl) (Calls.evalArgs_plain ?_)
  exact thn hA fun us s2 ⟨vs, H2, I2, r2, q2⟩ => hm pins s2 σ H2 x vs v us Q I2 r1 r2 q2
/- xs.append(e), list.index on a module's tuple .. are MtR facts of 06m -/
end
end L2

namespace L2
open PySem PySem.Spec PyProof.Rows

def MtM (X : Cx) (id : String) (r : V → List V → Hp → VK → Prop) : Prop :=
  ∀ (pins : List (Addr × Obj)) (s : Shared) (σ : St) (H : Hp) (x : V) (xs : List V) (v : Value) (us : List Value) (Q : VK), Inv X pins σ H s → RelV x v → Vals xs us → r x xs H Q →
    wpAny (model X.prog X.w) X.A (call (.builtin id) (v :: us)) (EP X pins σ Q) X.xe s

/-! ### lists of values -/
theorem Vals.one : ∀ {x : V} {us : List Value}, Vals [x] us → ∃ u, us = [u] ∧ RelV x u
  | _, _, .cons r .nil => ⟨_, rfl, r⟩
theorem Vals.two : ∀ {x y : V} {us : List Value}, Vals [x, y] us → ∃ u v, us = [u, v] ∧ RelV x u ∧ RelV y v
  | _, _, _, .cons r (.cons q .nil) => ⟨_, _, rfl, r, q⟩
theorem Vals.zero : ∀ {us : List Value}, Vals [] us → us = []
  | _, .nil => rfl
theorem Vals.dropLast {xs : List V} {us : List Value} (h : Vals xs us) : Vals xs.dropLast us.dropLast := by
  induction h with
  | nil => exact .nil
  | cons r t ih =>
    cases t with
    | nil => exact .nil
    | cons q t' => exact .cons r ih
theorem Vals.eraseIdx : ∀ {xs : List V} {us : List Value} (i : Nat), Vals xs us → Vals (xs.eraseIdx i) (us.eraseIdx i)
  | _, _, _, .nil => .nil
  | _, _, 0, .cons _ t => t
  | _, _, i + 1, .cons r t => .cons r (Vals.eraseIdx i t)
theorem Vals.reverse {xs : List V} {us : List Value} (h : Vals xs us) : Vals xs.reverse us.reverse := by
  induction h with
  | nil => exact .nil
  | cons r t ih => rw [List.reverse_cons, List.reverse_cons]; exact Vals.append ih (.cons r .nil)
theorem Vals.rep {xs : List V} {us : List Value} (h : Vals xs us) : ∀ k : Nat, Vals (List.replicate k xs).flatten (List.replicate k us).flatten
  | 0 => .nil
  | k + 1 => by
    rw [List.replicate_succ, List.replicate_succ, List.flatten_cons, List.flatten_cons]
    exact Vals.append h (Vals.rep h k)
theorem erase_last {α : Type} (l : List α) : l.eraseIdx (l.length - 1) = l.dropLast := by
  induction l with
  | nil => rfl
  | cons a r ih =>
    cases r with
    | nil => rfl
    | cons b r =>
      have e : (a :: b :: r).length - 1 = ((b :: r).length - 1) + 1 := by
        have h1 : (a :: b :: r).length = r.length + 2 := rfl
        have h2 : (b :: r).length = r.length + 1 := rfl
        omega
      rw [e, List.eraseIdx_cons_succ, ih]
      all_goals rfl
theorem len_erase {α : Type} : ∀ (l : List α) (i : Nat), (l.eraseIdx i).length ≤ l.length
  | [], _ => Nat.le_refl _
  | _ :: _, 0 => Nat.le_succ _
  | _ :: r, i + 1 => Nat.succ_le_succ (len_erase r i)
theorem foldl_rep (its : List Value) : ∀ (k : Nat) (acc : List Value),
    List.foldl (fun x1 x2 => x1 ++ x2) acc.toArray (List.replicate k its.toArray) = (acc ++ (List.replicate k its).flatten).toArray
  | 0, acc => by simp
  | k + 1, acc => by
    have e : acc.toArray ++ its.toArray = (acc ++ its).toArray := by simp
    have e2 : (acc ++ its) ++ (List.replicate k its).flatten = acc ++ (List.replicate (k + 1) its).flatten := by
      rw [List.replicate_succ, List.flatten_cons, List.append_assoc]
    rw [← e2, ← foldl_rep its k (acc ++ its), ← e, List.replicate_succ, List.foldl_cons]

section
variable {X : Cx} {pins : List (Addr × Obj)} {σ : St} {H : Hp} {s : Shared} {l b : Addr} {xs ys zs : List V}

/-! ### the two steps: a tracked list is rewritten, a new list is laid -/
theorem Inv.lset {its its' : List Value} {n : Nat} {f : Array Value → Array Value} {t' : Nat} (I : Inv X pins σ H s) (hH : H l = some (.lst xs))
    (e : s.heap.get? l = some { cls := .type "list", data := .seq its.toArray n }) (hf : f its.toArray = its'.toArray) (hv : Vals ys its') (hz : ys.length ≤ sizeLine) :
    Inv X pins σ (upd H l (.lst ys)) { s with heap := s.heap.update l (Obj.mapSeq f), toks := t' } := by
  have q := PySem.IsL.update e f
  rw [hf] at q
  refine I.write (x := l) (e := l) (by rw [hH]; exact trivial) (.inl rfl) (fun b' u hb hu => (Heap.get?_update_other s.heap (Obj.mapSeq f) (Ne.symm hb)).trans hu) ⟨_, q⟩ ?_
  exact ⟨hz, its', _, hv, q⟩
theorem Inv.lnew {its : List Value} {t' : Nat} (I : Inv X pins σ H s) (hv : Vals ys its) (hz : ys.length ≤ sizeLine) :
    Inv X pins σ (upd H s.heap.objs.size (.lst ys)) { s with heap := s.heap.push { cls := .type "list", data := .seq its.toArray }, toks := t' } :=
  I.laid (fun _ _ q => Heap.get?_push_of_some _ q) (Nat.le_refl _) ⟨hz, its, 0, hv, Heap.get?_push_size _ rfl⟩
theorem Inv.fresh (I : Inv X pins σ H s) : H s.heap.objs.size = none := I.hok.fresh (Nat.le_refl _)
theorem Inv.lstM (I : Inv X pins σ H s) (hH : H l = some (.lst xs)) : xs.length ≤ sizeLine ∧ ∃ (its : List Value) (n : Nat), Vals xs its ∧ xs.length = its.length ∧ s.heap.get? l = some { cls := .type "list", data := .seq its.toArray n } := by
  obtain ⟨z, its, n, r, e⟩ := I.hok l _ hH
  exact ⟨z, its, n, r, r.length, e⟩

theorem notLongL {n : Nat} (h : n ≤ sizeLine) : Builtin.List.listTooLong n = false := by
  unfold Builtin.List.listTooLong
  exact decide_eq_false (by omega)
end

section
variable {X : Cx}

/-! ### methods -/
def rAppend : V → List V → Hp → VK → Prop := fun x vs H Q => ∃ l xs y, x = .ref l ∧ vs = [y] ∧ H l = some (.lst xs) ∧ xs.length < sizeLine ∧ Q .non (upd H l (.lst (xs ++ [y])))
theorem mt_append : MtM X "list.append" rAppend := by
  intro pins s σ H x vs v us Q I rx rv h
  obtain ⟨l, xs, y, rfl, rfl, hH, hz, q⟩ := h
  cases rx
  obtain ⟨u, rfl, ru⟩ := rv.one
  obtain ⟨z, its, n, r, hl, e⟩ := I.lstM hH
  refine call_meets F.slot_list_append ⟨_, e, rfl⟩ F.entry_list_append (F.args_list_append_2 _ _) (PySem.list_append l its.toArray n u (by rw [List.size_toArray]; omega)) ⟨e, ?_⟩
  refine ⟨.non, _, I.lset (its' := its ++ [u]) hH e (by simp) (r.append (.cons ru .nil)) ?_, rfl, q⟩
  rw [List.length_append, List.length_singleton]
  omega

def rExtend : V → List V → Hp → VK → Prop := fun x vs H Q => ∃ l b xs zs, x = .ref l ∧ vs = [.ref b] ∧ H l = some (.lst xs) ∧ H b = some (.lst zs) ∧ xs.length + zs.length ≤ sizeLine ∧ Q .non (upd H l (.lst (xs ++ zs)))
theorem mt_extend : MtM X "list.extend" rExtend := by
  intro pins s σ H x vs v us Q I rx rv h
  obtain ⟨l, b, xs, zs, rfl, rfl, hH, hB, hz, q⟩ := h
  cases rx
  obtain ⟨u, rfl, ru⟩ := rv.one
  cases ru
  obtain ⟨z, its, n, r, hl, e⟩ := I.lstM hH
  obtain ⟨z2, its2, n2, r2, hl2, e2⟩ := I.lstM hB
  have hsz : its.toArray.size + its2.toArray.size ≤ sizeLine := by rw [List.size_toArray, List.size_toArray]; omega
  have hlong : ¬ (!its.toArray.isEmpty && Builtin.List.listTooLong (its.toArray.size + its2.toArray.size)) = true := by
    rw [notLongL hsz, Bool.and_false]
    exact Bool.false_ne_true
  refine call_meets F.slot_list_extend ⟨_, e, rfl⟩ F.entry_list_extend (F.args_list_extend_2 _ _)
    (AutoSeq1.list_extend_list_list_0 l its.toArray n b its2.toArray n2 hlong (by rw [List.size_toArray]; omega) (by omega)) ⟨e, e2, ?_⟩
  refine ⟨.non, _, I.lset (its' := its ++ its2) hH e (by simp) (r.append r2) ?_, rfl, q⟩
  rw [List.length_append]
  omega

def rPop : V → List V → Hp → VK → Prop := fun x vs H Q => ∃ l xs y, x = .ref l ∧ vs = [] ∧ H l = some (.lst xs) ∧ xs[xs.length - 1]? = some y ∧ Q y (upd H l (.lst xs.dropLast))
theorem mt_pop : MtM X "list.pop" rPop := by
  intro pins s σ H x vs v us Q I rx rv h
  obtain ⟨l, xs, y, rfl, rfl, hH, hy, q⟩ := h
  cases rx
  have hus := rv.zero
  subst hus
  obtain ⟨z, its, n, r, hl, e⟩ := I.lstM hH
  obtain ⟨u, hu, ru⟩ := r.get hy
  have hy' : its.toArray[its.toArray.size - 1]? = some u := by
    show its.toArray[its.length - 1]? = some u
    rw [← Array.getElem?_toList, ← hl]
    exact hu
  refine call_meets F.slot_list_pop ⟨_, e, rfl⟩ F.entry_list_pop (F.args_list_pop_1 _) (MeetsSeq.list_pop_last l its.toArray n u hy' (by rw [List.size_toArray]; omega)) ⟨e, ?_⟩
  refine ⟨y, _, I.lset (its' := its.dropLast) hH e ?_ r.dropLast ?_, ru, q⟩
  · show its.toArray.eraseIdxIfInBounds (its.toArray.size - 1) = its.dropLast.toArray
    rw [List.size_toArray, List.eraseIdxIfInBounds_toArray, erase_last]
  · rw [List.length_dropLast]
    omega

def rPopAt : V → List V → Hp → VK → Prop := fun x vs H Q => ∃ l xs i k y, x = .ref l ∧ vs = [.int i] ∧ H l = some (.lst xs) ∧ -(2 ^ 63) ≤ i ∧ i < 2 ^ 63 ∧ seqIndex? i xs.length = some k ∧ xs[k]? = some y ∧ Q y (upd H l (.lst (xs.eraseIdx k)))
theorem mt_popAt : MtM X "list.pop" rPopAt := by
  intro pins s σ H x vs v us Q I rx rv h
  obtain ⟨l, xs, i, k, y, rfl, rfl, hH, h1, h2, hk, hy, q⟩ := h
  cases rx
  obtain ⟨u, rfl, ru⟩ := rv.one
  obtain ⟨t, rfl⟩ := ru
  obtain ⟨z, its, n, r, hl, e⟩ := I.lstM hH
  obtain ⟨w, hw, rw'⟩ := r.get hy
  refine call_meets F.slot_list_pop ⟨_, e, rfl⟩ F.entry_list_pop (F.args_list_pop_2 _ _)
    (MeetsSeq.list_pop_at l its.toArray n i t k w (fitsIndex_both h1 h2) (by rw [List.size_toArray, ← hl]; exact hk) (by rw [← Array.getElem?_toList]; exact hw) (by rw [List.size_toArray]; omega)) ⟨e, ?_⟩
  refine ⟨y, _, I.lset (its' := its.eraseIdx k) hH e ?_ (r.eraseIdx k) ?_, rw', q⟩
  · show its.toArray.eraseIdxIfInBounds k = (its.eraseIdx k).toArray
    rw [List.eraseIdxIfInBounds_toArray]
  · have := len_erase xs k
    omega

def rReverse : V → List V → Hp → VK → Prop := fun x vs H Q => ∃ l xs, x = .ref l ∧ vs = [] ∧ H l = some (.lst xs) ∧ Q .non (upd H l (.lst xs.reverse))
theorem mt_reverse : MtM X "list.reverse" rReverse := by
  intro pins s σ H x vs v us Q I rx rv h
  obtain ⟨l, xs, rfl, rfl, hH, q⟩ := h
  cases rx
  have hus := rv.zero
  subst hus
  obtain ⟨z, its, n, r, hl, e⟩ := I.lstM hH
  refine call_meets F.slot_list_reverse ⟨_, e, rfl⟩ F.entry_list_reverse (F.args_list_reverse_1 _) (AutoSeq1.list_reverse_list_0 l its.toArray n (by rw [List.size_toArray]; omega)) ⟨e, ?_⟩
  refine ⟨.non, _, I.lset (its' := its.reverse) hH e (by simp) r.reverse ?_, rfl, q⟩
  rw [List.length_reverse]
  omega

def rClear : V → List V → Hp → VK → Prop := fun x vs H Q => ∃ l xs, x = .ref l ∧ vs = [] ∧ H l = some (.lst xs) ∧ Q .non (upd H l (.lst []))
theorem mt_clear : MtM X "list.clear" rClear := by
  intro pins s σ H x vs v us Q I rx rv h
  obtain ⟨l, xs, rfl, rfl, hH, q⟩ := h
  cases rx
  have hus := rv.zero
  subst hus
  obtain ⟨z, its, n, r, hl, e⟩ := I.lstM hH
  refine call_meets F.slot_list_clear ⟨_, e, rfl⟩ F.entry_list_clear (F.args_list_clear_1 _) (AutoSeq1.list_clear_list_0 l its.toArray n (by rw [List.size_toArray]; omega)) ⟨e, ?_⟩
  exact ⟨.non, _, I.lset (its' := []) (ys := []) hH e rfl .nil (Nat.zero_le _), rfl, q⟩

/-! ### list + list, list += list, list * int -/
def rCat : R2 := fun x y H Q => ∃ l b xs zs, x = .ref l ∧ y = .ref b ∧ H l = some (.lst xs) ∧ H b = some (.lst zs) ∧ xs.length + zs.length ≤ sizeLine ∧ ∀ p, H p = none → Q (.ref p) (upd H p (.lst (xs ++ zs)))
theorem op_cat : OpR X (binaryOp .Add) rCat := by
  intro pins s σ H x y v u Q I rx ry h
  obtain ⟨l, b, xs, zs, rfl, rfl, hH, hB, hz, q⟩ := h
  cases rx
  cases ry
  obtain ⟨z, its, n, r, hl, e⟩ := I.lstM hH
  obtain ⟨z2, its2, n2, r2, hl2, e2⟩ := I.lstM hB
  refine PySem.P.add_list e e2 ?_ (by rw [List.size_toArray, List.size_toArray]; omega)
  have ea : its.toArray ++ its2.toArray = (its ++ its2).toArray := by simp
  rw [ea]
  exact ⟨.ref _, _, I.lnew (t' := s.toks) (r.append r2) (by rw [List.length_append]; omega), rfl, q _ I.fresh⟩
/-- a list times an int (a negative one is nothing) -/
def rRep : R2 := fun x y H Q => ∃ l k xs, x = .ref l ∧ y = .int k ∧ H l = some (.lst xs) ∧ -(2 ^ 63) ≤ k ∧ k < 2 ^ 63 ∧ xs.length * k.toNat ≤ sizeLine ∧
  ∀ p, H p = none → Q (.ref p) (upd H p (.lst (List.replicate k.toNat xs).flatten))
theorem len_rep {α : Type} (xs : List α) (k : Nat) : (List.replicate k xs).flatten.length = k * xs.length := by
  induction k with
  | zero => simp
  | succ k ih => rw [List.replicate_succ, List.flatten_cons, List.length_append, ih, Nat.succ_mul, Nat.add_comm]
theorem op_rep : OpR X (binaryOp .Mult) rRep := by
  intro pins s σ H x y v u Q I rx ry h
  obtain ⟨l, k, xs, rfl, rfl, hH, h1, h2, hz, q⟩ := h
  cases rx
  obtain ⟨t, rfl⟩ := ry
  obtain ⟨z, its, n, r, hl, e⟩ := I.lstM hH
  have hlen : its.toArray.size * k.toNat ≤ sizeLine := by rw [List.size_toArray, ← hl]; exact hz
  have hcap : ¬ its.toArray.size * k.toNat > (2 ^ 63 - 1) / 8 := by
    have : (sizeLine : Nat) ≤ (2 ^ 63 - 1) / 8 := by decide
    omega
  have hfit : ¬ (!Builtin.List.listFitsIndex k) = true := by
    rw [fitsIndex_both h1 h2]
    exact Bool.false_ne_true
  have hlong : ¬ Builtin.List.listTooLong (its.toArray.size * k.toNat) = true := by
    rw [notLongL hlen]
    exact Bool.false_ne_true
  have hnew : List.foldl (fun x1 x2 => x1 ++ x2) #[] (List.replicate (if its.toArray.isEmpty = true then 0 else k.toNat) its.toArray) = (List.replicate k.toNat its).flatten.toArray := by
    have f0 : ∀ m : Nat, List.foldl (fun x1 x2 => x1 ++ x2) #[] (List.replicate m its.toArray) = (List.replicate m its).flatten.toArray := fun m => by
      have := foldl_rep its m []
      rw [List.nil_append] at this
      exact this
    rw [f0]
    cases its with
    | nil => simp
    | cons a r' => rw [if_neg (by simp)]
  refine wpAny_binaryOp_repeat_ref (T := "list") (U := "int") (by decide) ⟨_, e, rfl⟩ (fun s' => typeIs_int s' k t) noFill_list_mul F.fills_int_mul F.slot_int_rmul repeat_list F.slot_int_index.lookup
    (call_meets F.slot_int_rmul (typeIs_int s k t) F.entry_int_rmul (F.args_int_rmul_2 _ _) (int___rmul___int_list k t l its.toArray n)
      ⟨e, rfl, ⟨_, e, rfl⟩, call_meets F.slot_list_mul ⟨_, e, rfl⟩ F.entry_list_mul (F.args_list_mul_2 _ _) (AutoListH.list___mul___list_int_3 l its.toArray n k t hfit hcap hlong) ⟨e, ?_⟩⟩)
  rw [hnew]
  exact ⟨.ref _, _, I.lnew (t' := s.toks) (r.rep k.toNat) (by rw [len_rep, Nat.mul_comm]; exact hz), rfl, q _ I.fresh⟩

/-! ### del xs[i] -/
theorem del_list {pins : List (Addr × Obj)} {s : Shared} {σ : St} {H : Hp} {l : Addr} {xs : List V} {i : Int} {t : Tok} {k : Nat} {Q : Unit → Shared → Prop} (I : Inv X pins σ H s) (hH : H l = some (.lst xs))
    (h1 : -(2 ^ 63) ≤ i) (h2 : i < 2 ^ 63) (hk : seqIndex? i xs.length = some k) (h : ∀ s', Inv X pins σ (upd H l (.lst (xs.eraseIdx k))) s' → Q () s') :
    wpAny (model X.prog X.w) X.A (delItem (.ref l) (.int i t)) Q X.xe s := by
  obtain ⟨z, its, n, r, hl, e⟩ := I.lstM hH
  refine PySem.P.delItem_list (k := k) e (fitsIndex_both h1 h2) (by rw [List.size_toArray, ← hl]; exact hk) (h _ ?_) (by rw [List.size_toArray]; omega)
  refine I.lset (its' := its.eraseIdx k) (t' := s.toks) hH e ?_ (r.eraseIdx k) ?_
  · show its.toArray.eraseIdxIfInBounds k = (its.eraseIdx k).toArray
    rw [List.eraseIdxIfInBounds_toArray]
  · have := len_erase xs k
    omega
end

/-! ### xs[a:b] = ys -/
section
variable {prog : Program} {w : World} {A : Around} {E : Value → Shared → Prop} {s : Shared}
theorem splice_eq (its its2 : List Value) (a c : Nat) : its.toArray.extract 0 a ++ its2.toArray ++ its.toArray.extract c its.toArray.size = (its.take a ++ its2 ++ its.drop c).toArray := by
  apply Array.toList_inj.mp
  first
    | (simp
       exact List.take_of_length_le (by simp))
    | simp [List.take_of_length_le]
    | simp
theorem bounds_run {a c n : Nat} (hac : a ≤ c) (hc : c ≤ n) : sliceBounds (some (a : Int)) (some (c : Int)) none n = ((a : Int), (c : Int), 1) := by
  simp only [sliceBounds, Option.getD_none]
  have h1 : ¬ ((a : Int) < 0) := by omega
  have h2 : ¬ ((c : Int) < 0) := by omega
  simp only [h1, h2, if_false, show (1 : Int) > 0 by decide, if_true]
  congr 1
  · omega
  · congr 1; omega
set_option maxRecDepth 100000 in
/-- list.__setitem__ with a slice of step one and another list -/
theorem setItem_slice {l b sl : Addr} {items new : Array Value} {n n2 : Nat} {vl vu : Value} {a c : Nat} {Q : Unit → Shared → Prop}
    (e : s.heap.get? l = some { cls := .type "list", data := .seq items n }) (e2 : s.heap.get? b = some { cls := .type "list", data := .seq new n2 }) (hne : l ≠ b)
    (hs : s.heap.IsSliceOf sl vl vu .none) (pl : IsPart vl (some (a : Int))) (pu : IsPart vu (some (c : Int))) (hac : a ≤ c) (hc : c ≤ items.size)
    (hsz : items.size + new.size ≤ sizeLine) (h : Q () { s with heap := s.heap.update l (Obj.mapSeq fun xs => xs.extract 0 a ++ new ++ xs.extract c xs.size) }) :
    wpAny (model prog w) A (setItem (.ref l) (.ref sl) (.ref b)) Q E s := by
  have hl : s.heap.IsList l items := PySem.IsL.isList e
  have hb : s.heap.IsList b new := PySem.IsL.isList e2
  obtain ⟨os, hos, hcs, hds⟩ := id hs
  have hTs : s.TypeIs (.ref sl) "slice" := ⟨os, hos, hcs⟩
  have hstep : ¬ ((rawPart none == rawInt 0) = true) := Bool.false_ne_true
  have hsame : Builtin.List.listSameRef (.ref l) (.ref b) = false := by
    unfold Builtin.List.listSameRef
    exact beq_eq_false_iff_ne.mpr hne
  have hmax : (max (a : Int) (c : Int)).toNat = c := by omega
  have hz' : ((fun xs : Array Value => xs.extract 0 a ++ new ++ xs.extract c xs.size) items).size ≤ sizeLine + 1 := by
    simp only [Array.size_append, Array.size_extract]
    omega
  unfold setItem
  try with_reducible refine wpAny_holding ?_
  first | refine wpAny_bind (wpAny_pure ?_) | skip
  refine wpAny_bind (wpAny_sequenceKey hl.typeIs (by decide) ?_)
  refine wpAny_bind (wpAny_callSpecial?_slot (name := Str.ofString "__setitem__") hl.typeIs slot_list_setitem
    (wpAny_call_entry slot_list_setitem hl.typeIs entry_list_setitem ?_ (args_list_setitem _ _ _)))
  show wpAny _ _ (Builtin.List.listSubscript? (.ref sl) >>= _) _ _ s
  refine wpAny_bind ?_
  unfold Builtin.List.listSubscript?
  refine wpAny_bind (wpAny_specialOf hTs slice_no_index ?_)
  simp only [Option.isNone_none, if_true]
  refine wpAny_pure ?_
  show wpAny _ _ (typeOf (.ref sl) >>= _) _ _ s
  refine wpAny_bind (wpAny_typeOf hTs ?_)
  first
    | rw [if_neg (by decide)]
    | refine PySem.W.KFB.if_not (by decide) ?_
  rw [listSliceParts_eq]
  refine wpAny_bind (wpAny_bind (wpAny_field hos hds (x := .none) rfl (wpAny_bind (wpAny_listPart .none ?_))))
  rw [if_neg hstep]
  refine wpAny_bind (wpAny_field hos hds (x := vl) rfl (wpAny_bind (wpAny_listPart pl ?_)))
  refine wpAny_bind (wpAny_field hos hds (x := vu) rfl (wpAny_bind (wpAny_listPart pu (wpAny_pure ?_))))
  first
    | simp only [hsame, Bool.false_eq_true, if_false]
    | refine PySem.W.KFB.if_not hsame ?_
    | (dsimp only
       rw [if_neg (by rw [hsame]; exact Bool.false_ne_true)])
  refine wpAny_bind (m := Builtin.List.listAllItems (.ref b) "must assign iterable to extended slice") ?_
  unfold Builtin.List.listAllItems
  refine wpAny_bind (wpAny_typeOf hb.typeIs ?_)
  first
    | refine PySem.W.KFB.if_so (by decide) ?_
    | rw [if_pos (by decide)]
    | simp only [beq_self_eq_true, Bool.true_or, if_true]
  unfold Builtin.List.listItems
  refine wpAny_bind (wpAny_seqItems e2 rfl (wpAny_pure ?_))
  refine wpAny_bind (wpAny_bind (wpAny_seqItems e rfl (wpAny_pure ?_)))
  refine wpAny_bind (wpAny_of_eq ((sliceIndices_raw (some (a : Int)) (some (c : Int)) none items.size (by simp)).trans (congrArg (pure : Int × Int × Int → Sem (Int × Int × Int)) (bounds_run hac hc))) ?_)
  show wpAny _ _ (if ((1 : Int) == 1) = true then _ else _) _ _ s
  rw [if_pos (by decide)]
  refine wpAny_bind (wpAny_rule ?_)
  first
    | simp only [notLongL hsz, Bool.false_eq_true, if_false]
    | refine PySem.W.KFB.if_not (notLongL hsz) ?_
  first | refine wpAny_bind (wpAny_pure ?_) | skip
  show wpAny _ _ (updateSeq l (fun xs => xs.extract 0 ((a : Int)).toNat ++ new ++ xs.extract (max (a : Int) (c : Int)).toNat xs.size) >>= _) _ _ s
  rw [hmax, Int.toNat_natCast]
  refine wpAny_bind (wpAny_updateSeq (hz := Nat.le_trans (Nat.le_add_right _ _) hsz) (_hz' := hz') e rfl ?_)
  refine wpAny_bind (wpAny_letGo ?_)
  first
    | exact wpAny_bind (wpAny_pure (wpAny_pure ⟨.none, rfl, wpAny_pure h⟩))
    | exact wpAny_pure ⟨.none, rfl, wpAny_pure h⟩
end

section
variable {X : Cx}
/-- xs[a:c] = ys of another list, at the value level: sl is the slice object that was just made -/
theorem set_slice {pins : List (Addr × Obj)} {s : Shared} {σ : St} {H : Hp} {l b sl : Addr} {xs ys : List V} {a c : Int} {vl vu : Value} {Q : Unit → Shared → Prop} (I : Inv X pins σ H s)
    (hH : H l = some (.lst xs)) (hB : H b = some (.lst ys)) (hne : l ≠ b) (hs : s.heap.IsSliceOf sl vl vu .none) (ra : RelV (.int a) vl) (rc : RelV (.int c) vu) (h0 : 0 ≤ a) (hac : a ≤ c) (hc : c ≤ xs.length)
    (hz : xs.length + ys.length ≤ sizeLine) (h : ∀ s', Inv X pins σ (upd H l (.lst (xs.take a.toNat ++ ys ++ xs.drop c.toNat))) s' → Q () s') :
    wpAny (model X.prog X.w) X.A (setItem (.ref l) (.ref sl) (.ref b)) Q X.xe s := by
  obtain ⟨ta, rfl⟩ := ra
  obtain ⟨tc, rfl⟩ := rc
  obtain ⟨z, its, n, r, hl, e⟩ := I.lstM hH
  obtain ⟨z2, its2, n2, r2, hl2, e2⟩ := I.lstM hB
  obtain ⟨a', rfl⟩ := Int.eq_ofNat_of_zero_le h0
  obtain ⟨c', rfl⟩ := Int.eq_ofNat_of_zero_le (Int.le_trans h0 hac)
  simp only [Int.toNat_natCast] at h
  refine setItem_slice (a := a') (c := c') e e2 hne hs (.int _ _) (.int _ _) (by omega) (by rw [List.size_toArray]; omega) (by rw [List.size_toArray, List.size_toArray]; omega) (h _ ?_)
  refine I.lset (its' := its.take a' ++ its2 ++ its.drop c') (t' := s.toks) hH e ?_ (Vals.append (Vals.append (r.take _) r2) (r.drop _)) ?_
  · exact splice_eq its its2 a' c'
  · rw [List.length_append, List.length_append, List.length_take, List.length_drop]
    omega
end
end L2

namespace Att
open PySem PySem.W PySem.Calls PyProof.Rows

/-! ### the script -/
theorem ints_of_wellAll {P : Params} {h : Heap} : ∀ (ns : List Int) (vs : List Value), WellAll P h vs (ns.map WData.int) → IntsAre vs ns := by
  intro ns
  induction ns with
  | nil =>
    intro vs w
    rw [List.map_nil] at w
    cases w
    exact .nil
  | cons n ns ih =>
    intro vs w
    rw [List.map_cons] at w
    cases w with
    | cons a b =>
      cases a
      exact .cons _ _ (ih _ b)

theorem script_of {l : OpenLaw} {n : Nat} (hn : l.most = some n) {P : Params} {h : Heap} {args : List WData} {vals : List Value}
    (hpre : l.row.toRowW.claim.pre args = true) (hwl : WellAll P h vals args) :
    ∃ a vs ns, vals = [Value.ref a] ∧ args = [WData.list (ns.map WData.int)] ∧ h.get? a = some { cls := .type "list", data := .seq vs.toArray } ∧ IntsAre vs ns ∧ ns.length ≤ n := by
  have hsh : WShape.hasAll [] args [.list .int] = true := (pre_splitW hpre).1
  have hc : l.pre.holds [] { args := args } = true := (pre_splitW hpre).2
  obtain ⟨d, r, rfl, h1, h2⟩ := hasAllW_cons hsh
  obtain rfl := hasAllW_nil h2
  obtain ⟨xs, rfl, h3⟩ := hasW_list h1
  obtain ⟨ns, rfl⟩ := items_int h3
  have hlen : ns.length ≤ n := by
    unfold OpenLaw.pre at hc
    have h4 : (WTm.not (.lt (.lit (.int (n : Int))) (.len (.arg 0)))).holds [] { args := [.list (ns.map .int)] } = true := by
      have h4 := (holds_andW hc).1
      rw [hn] at h4
      exact h4
    have h5 := condW_of h4 (w_not (w_lt w_lit (w_len_list (w_arg rfl))))
    rw [List.length_map] at h5
    refine Nat.le_of_not_lt fun q => ?_
    have q' : (n : Int) < ((ns.length : Nat) : Int) := by omega
    first
      | (rw [decide_eq_true q'] at h5; exact absurd h5 (by decide))
      | (simp at h5; omega)
  cases hwl with
  | cons w1 w2 =>
    cases w2
    cases w1 with
    | list ho hall => exact ⟨_, _, ns, rfl, rfl, ho, ints_of_wellAll ns _ hall, hlen⟩

theorem post_true (l : OpenLaw) (args : List WData) : l.row.toRowW.claim.post args (.bool true) args = true :=
  postW_of (r := l.row.toRowW) (X := (true == true))
    (show WShape.has [] (.bool true) .bool = true by first | rfl | decide | simp [WShape.has, WShape.arms, WShape.armsAll])
    (show (WTm.eq .res (.lit (.bool true))).value [] { args := args, res := some (.bool true), after := args } = some (.bool (true == true)) from w_eq_bool (w_res rfl) w_lit) rfl

/-! ### the attachment: holds_open's last premise (the goal 'hc' behind k_head) from a wpAny of the law's body -/
theorem attach {l : OpenLaw} {n : Nat} {q : Program} {loose : List Str} {XP : (Str → Option Value) → Heap → Prop} {YP : World → Heap → Prop} {d : DefRec} {x : Str}
    (hn : l.most = some n) (hdf : d.params.defaults = [])
    (hbind : ∀ pm cd doc v : Value, bindArgs (docDef d.name d.params d.body d.scope pm cd doc) ⟨[v], []⟩ = pure [(x, v)])
    (hx : d.scope.names.lookup x = some .local ∨ d.scope.names.lookup x = some .cell)
    (hk : d.scope.kind = .function) (hco : d.scope.isCoroutine = false) (hgen : d.scope.isGenerator = false)
    (body : ∀ (w : World) (s₀ s₁ s : Shared) (mg mb : Str → Option Value) (fa : Addr) (o : Obj) (pm cd doc : Value) (a : Addr) (vs : List Value) (ns : List Int),
      Ground q loose [] XP w s₀ mg mb s₁.heap → YP w s₁.heap →
      s₁.heap.get? fa = some o → o.data = .func (docDef d.name d.params d.body d.scope pm cd doc) → s₁.heap.CodeRec cd d.name → mg d.name = some (.ref fa) →
      s₁.heap.get? a = some { cls := .type "list", data := .seq vs.toArray } → IntsAre vs ns → ns.length ≤ n →
      s.gens = #[] → s.os = s₁.os →
      Fr s₁.heap s₁.heap.objs.size s.heap (bindL (envOfC d.name d.scope s₁.heap.objs.size fa cd).kindOf [(x, .ref a)] fun _ => none) →
      Cl s₁.heap.objs.size (cellsFrom (s₁.heap.objs.size + 1) d.scope.names []) s.heap (bindC (envOfC d.name d.scope s₁.heap.objs.size fa cd).kindOf [(x, .ref a)] fun _ => none) →
      wpAny (model l.prog w) (callerA.deeper (envOfC d.name d.scope s₁.heap.objs.size fa cd)) (execs d.body (envOfC d.name d.scope s₁.heap.objs.size fa cd))
        (fun f s' => f = .ret (.bool true) ∧ OldK s₁.heap s'.heap ∧ s'.os = s₁.os ∧ AllBare s'.gens) (fun _ _ => False) s) :
    WalkO q loose XP YP l.row.toRowW d [] (fun f vs => PySem.call f vs) := by
  intro w s₀ s₁ mg mb G Y fa o pm cd doc dV kV ho hd hcd hD hmg hg args vals as hpre hlay hrd hwl hlo
  obtain rfl : dV = .none := Dflts.none hD hdf
  obtain rfl : kV = .none := Dflts.noKw hD
  obtain ⟨a, vs, ns, rfl, rfl, hobj, hints, hlen⟩ := script_of hn hpre hwl
  refine enter_call ?_
  refine call_cells_ret (o := o) (by rw [depth_caller]; decide) ho (fd_plain hd) G.T.nolimit hcd (hbind pm cd doc (.ref a)) (fun y hy => ?_) (fun h₁ tk F X => ?_) hco hgen hk
  · obtain rfl : y = (x, Value.ref a) := List.mem_singleton.mp hy
    rcases hx with e | e
    · exact .inl e
    · exact .inr ⟨e, cellsFrom_some _ _ _ (.inl e)⟩
  · refine wpAny_mono (body w s₀ s₁ { s₁ with heap := h₁, toks := tk } mg mb fa o pm cd doc a vs ns G Y ho (fd_plain hd) hcd hmg hobj hints hlen hg rfl F X) (fun f s' hq => ?_) (fun _ _ hq => hq)
    obtain ⟨rfl, h2, h3, h4⟩ := hq
    exact ⟨.inl ⟨.bool true, .bool true, [], rfl, fun _ => rfl, .bool true, post_true l _, fun _ => ⟨List.Pairwise.nil, fun _ hm => (nomatch hm)⟩⟩, h2, h3, h4⟩

/-- the same from a codeAny of the CALL (for a layer whose function contracts speak of calls) -/
theorem attach_call {l : OpenLaw} {n : Nat} {q : Program} {loose : List Str} {XP : (Str → Option Value) → Heap → Prop} {YP : World → Heap → Prop} {d : DefRec}
    (hn : l.most = some n) (hdf : d.params.defaults = [])
    (call : ∀ (w : World) (s₀ s₁ : Shared) (mg mb : Str → Option Value) (fa : Addr) (o : Obj) (pm cd doc : Value) (a : Addr) (vs : List Value) (ns : List Int),
      Ground q loose [] XP w s₀ mg mb s₁.heap → YP w s₁.heap →
      s₁.heap.get? fa = some o → o.data = .func (docDef d.name d.params d.body d.scope pm cd doc) → s₁.heap.CodeRec cd d.name → mg d.name = some (.ref fa) →
      s₁.heap.get? a = some { cls := .type "list", data := .seq vs.toArray } → IntsAre vs ns → ns.length ≤ n → s₁.gens = #[] →
      codeAny (model l.prog w) callerA (.call (.ref fa) ⟨[.ref a], []⟩) (fun r s' => r = .ok (.ret (.bool true)) ∧ OldK s₁.heap s'.heap ∧ s'.os = s₁.os ∧ AllBare s'.gens) s₁) :
    WalkO q loose XP YP l.row.toRowW d [] (fun f vs => PySem.call f vs) := by
  intro w s₀ s₁ mg mb G Y fa o pm cd doc dV kV ho hd hcd hD hmg hg args vals as hpre hlay hrd hwl hlo
  obtain rfl : dV = .none := Dflts.none hD hdf
  obtain rfl : kV = .none := Dflts.noKw hD
  obtain ⟨a, vs, ns, rfl, rfl, hobj, hints, hlen⟩ := script_of hn hpre hwl
  refine enter_call (codeAny_mono (call w s₀ s₁ mg mb fa o pm cd doc a vs ns G Y ho (fd_plain hd) hcd hmg hobj hints hlen hg) fun r s' hq => ?_)
  obtain ⟨rfl, h2, h3, h4⟩ := hq
  exact ⟨.inl ⟨.bool true, .bool true, [], rfl, fun _ => rfl, .bool true, post_true l _, fun _ => ⟨List.Pairwise.nil, fun _ hm => (nomatch hm)⟩⟩, h2, h3, h4⟩

/-- the same where the top left finished generators (o_head chose holds_openN): nothing may have changed at all and no generator may be left -/
theorem attachN {l : OpenLaw} {n : Nat} {q : Program} {loose : List Str} {XP : (Str → Option Value) → Heap → Prop} {YP : World → Heap → Prop} {d : DefRec} {x : Str}
    (hn : l.most = some n) (hdf : d.params.defaults = [])
    (hbind : ∀ pm cd doc v : Value, bindArgs (docDef d.name d.params d.body d.scope pm cd doc) ⟨[v], []⟩ = pure [(x, v)])
    (hx : d.scope.names.lookup x = some .local ∨ d.scope.names.lookup x = some .cell)
    (hk : d.scope.kind = .function) (hco : d.scope.isCoroutine = false) (hgen : d.scope.isGenerator = false)
    (body : ∀ (w : World) (s₀ s₁ s : Shared) (mg mb : Str → Option Value) (fa : Addr) (o : Obj) (pm cd doc : Value) (a : Addr) (vs : List Value) (ns : List Int),
      Ground q loose [] XP w s₀ mg mb s₁.heap → YP w s₁.heap →
      s₁.heap.get? fa = some o → o.data = .func (docDef d.name d.params d.body d.scope pm cd doc) → s₁.heap.CodeRec cd d.name → mg d.name = some (.ref fa) →
      s₁.heap.get? a = some { cls := .type "list", data := .seq vs.toArray } → IntsAre vs ns → ns.length ≤ n →
      s.gens = #[] → s.os = s₁.os →
      Fr s₁.heap s₁.heap.objs.size s.heap (bindL (envOfC d.name d.scope s₁.heap.objs.size fa cd).kindOf [(x, .ref a)] fun _ => none) →
      Cl s₁.heap.objs.size (cellsFrom (s₁.heap.objs.size + 1) d.scope.names []) s.heap (bindC (envOfC d.name d.scope s₁.heap.objs.size fa cd).kindOf [(x, .ref a)] fun _ => none) →
      wpAny (model l.prog w) (callerA.deeper (envOfC d.name d.scope s₁.heap.objs.size fa cd)) (execs d.body (envOfC d.name d.scope s₁.heap.objs.size fa cd))
        (fun f s' => f = .ret (.bool true) ∧ (∀ b o, s₁.heap.get? b = some o → s'.heap.get? b = some o) ∧ s'.os = s₁.os ∧ s'.gens = #[]) (fun _ _ => False) s) :
    WalkN q loose XP YP l.row.toRowW d [] (fun f vs => PySem.call f vs) := by
  intro w s₀ s₁ mg mb G Y fa o pm cd doc dV kV ho hd hcd hD hmg hg args vals as hpre hlay hrd hwl hlo
  obtain rfl : dV = .none := Dflts.none hD hdf
  obtain rfl : kV = .none := Dflts.noKw hD
  obtain ⟨a, vs, ns, rfl, rfl, hobj, hints, hlen⟩ := script_of hn hpre hwl
  refine enter_callW ?_
  refine call_cells_ret (o := o) (by rw [depth_caller]; decide) ho (fd_plain hd) G.T.nolimit hcd (hbind pm cd doc (.ref a)) (fun y hy => ?_) (fun h₁ tk F X => ?_) hco hgen hk
  · obtain rfl : y = (x, Value.ref a) := List.mem_singleton.mp hy
    rcases hx with e | e
    · exact .inl e
    · exact .inr ⟨e, cellsFrom_some _ _ _ (.inl e)⟩
  · refine wpAny_mono (body w s₀ s₁ { s₁ with heap := h₁, toks := tk } mg mb fa o pm cd doc a vs ns G Y ho (fd_plain hd) hcd hmg hobj hints hlen hg rfl F X) (fun f s' hq => ?_) (fun _ _ hq => hq)
    obtain ⟨rfl, h2, h3, h4⟩ := hq
    exact ⟨.inl ⟨.bool true, .bool true, [], rfl, fun _ => rfl, .bool true, post_true l _, fun _ => ⟨List.Pairwise.nil, fun _ hm => (nomatch hm)⟩⟩, h2, h3, h4⟩

/-! ### rules over ANY heap (no ledger) from facts about the written part K: the library's own take a ledger (News) for what they write -/
section
variable {prog : Program} {w : World} {A : Around} {E : Value → Shared → Prop} {s : Shared} {K : Frag}

/-- a def of the module, or a method (qual 'C.m'), entered: the frame is the next address; cells behind it -/
theorem call_fn {R : Result → Shared → Prop} {name qual : Str} {params : Arguments} {body : List Stmt} {scope : Scope} {dV kV doc pm cdv ct oc : Value} {an od : Option Addr} {osl : Array (Option Value)} {f : Addr} {args : Args} {binds : List (Str × Value)}
    (X : K.In s.heap) (hlim : s.heap.NoLimit) (ho : K.lookup f = some ⟨oc, od, .func (fnOf name qual params body scope dV kV doc pm an cdv ct), osl⟩) (hcd : codeIn K cdv qual = true) (hroom : A.depth < recursionLimit)
    (hbind : BindsTo s (fnOf name qual params body scope dV kV doc pm an cdv ct) args binds)
    (hkind : (binds.all fun y => scope.names.lookup y.1 == some .local || scope.names.lookup y.1 == some .cell) = true)
    (h : ∀ s₁, InCallC s s.heap.objs.size (bindL (envOfC qual scope s.heap.objs.size f cdv).kindOf binds fun _ => none) (cellsFrom (s.heap.objs.size + 1) scope.names [])
        (bindC (envOfC qual scope s.heap.objs.size f cdv).kindOf binds fun _ => none) s₁ →
      wpAny (model prog w) (A.deeper (envOfC qual scope s.heap.objs.size f cdv)) (execs body (envOfC qual scope s.heap.objs.size f cdv))
        (fun fl s' => R (.ok (.ret (match fl with | .ret v => v | _ => .none))) s')
        (fun e s' => wpAny (model prog w) (A.deeper (envOfC qual scope s.heap.objs.size f cdv)) (leaving (envOfC qual scope s.heap.objs.size f cdv) e) (fun _ s'' => R (.error e) s'') (fun e' s'' => R (.error e') s'') s') s₁)
    (hco : scope.isCoroutine = false) (hgen : scope.isGenerator = false) (hk : scope.kind = .function) : codeAny (model prog w) A (.call (.ref f) args) R s := by
  refine codeAny_call_function hroom (X _ _ ho) rfl hco hgen rfl (codeRec_of X hcd) (hbind _ _ _ _ ?_)
  refine wpAny_newFunctionEnv_cells hk (kindsX hkind _) fun env he s₁ x => ?_
  subst he
  exact ⟨hlim.keeps x.toInCall.keep, codeAny_func (h s₁ x)⟩

/-- C(..): dict at size, instance at size + 1, then __init__ -/
theorem make_obj {R : Result → Shared → Prop} {C fI : Addr} {rest : List Value} {kw : List (Str × Value)}
    (X : K.In s.heap) (hm : makesIn K C = true) (hi : findIn K (.ref C) "__init__" = some (some (.ref fI))) (hf : isFn K (.ref fI) = true)
    (h : codeAny (model prog w) (A.under (.builtin "type.__call__" ⟨.ref C :: rest, kw⟩)) (.call (.ref fI) ⟨.ref (s.heap.objs.size + 1) :: rest, kw⟩) (InitBack (s.heap.objs.size + 1) R)
      { s with heap := (s.heap.push emptyDict).push (instObj C s.heap.objs.size) }) : codeAny (model prog w) A (.call (.ref C) ⟨rest, kw⟩) R s := by
  obtain ⟨hh, g, d, t, os⟩ := s
  exact make_core (makes_of X hm) (looks_findIn X hi) (fun self => bind_fn X self (beq_iff_eq.mp hf)) (.inl rfl) h

/-- x.name where the instance's dict holds the name and the class does not -/
theorem get_field {x C : Addr} {ox : Obj} {es : List DictEntry} {n : Nat} {name : Str} {expr : Bool} {v : Value} {Q : Value → Shared → Prop}
    (X : K.In s.heap) (I : PySem.W.InstAt s.heap x ox C (some (dictOf es n))) (hg : plainGet K C name = true) (hh : hasDictIn K C = true) (ha : findIn K (.ref C) name = some none)
    (hl : getL name es = some (some v)) (hv : handedIn v = true) (h : Q v { s with toks := s.toks + 1 }) : wpAny (model prog w) A (getAttr (.ref x) name expr) Q E s :=
  get_value X I (plainGet_of hg).1 (findObj_own hh ha rfl hl) hv h

/-- x.m(..): the method found in the class -/
theorem get_method {x C f : Addr} {ox : Obj} {es : List DictEntry} {n : Nat} {name : Str} {pl : Sem Bool} {Q : Value × List Value → Shared → Prop}
    (X : K.In s.heap) (I : PySem.W.InstAt s.heap x ox C (some (dictOf es n))) (hg : plainGet K C name = true) (hf : findIn K (.ref C) name = some (some (.ref f))) (ht : isFn K (.ref f) = true)
    (hl : getL name es = some none) (h : Q (.ref f, [.ref x]) s) : wpAny (model prog w) A (getMethod (.ref x) name pl) Q E s :=
  method_fn X I (plainGet_of hg).1 (plainGet_of hg).2 hf (beq_iff_eq.mp ht) (by show (lookIn name (dictOf es n)).map _ = _; rw [lookIn_dict, hl]; rfl) h

/-! the whole heap as the ledger: makes every rule that writes through a ledger a rule over any heap -/
def noObjs (h : Heap) : Heap := { h with objs := #[] }
theorem noObjs_get (h : Heap) (b : Addr) : (noObjs h).get? b = none := by
  cases e : (noObjs h).get? b with
  | none => rfl
  | some o => exact absurd (Heap.lt_size e) (Nat.not_lt_zero _)
def ledger (h : Heap) (L d : Addr) : List (Addr × Obj) := (List.range h.objs.size).filterMap fun a => if a = L ∨ a = d then none else (h.get? a).map fun o => (a, o)
theorem mem_ledger {h : Heap} {L d a : Addr} {o : Obj} : (a, o) ∈ ledger h L d ↔ a ≠ L ∧ a ≠ d ∧ h.get? a = some o := by
  unfold ledger
  rw [List.mem_filterMap]
  constructor
  · rintro ⟨b, _, e⟩
    split at e
    · cases e
    · rename_i hb
      obtain ⟨o', ho, e'⟩ := Option.map_eq_some_iff.mp e
      cases e'
      exact ⟨fun q => hb (.inl q), fun q => hb (.inr q), ho⟩
  · rintro ⟨n1, n2, ho⟩
    refine ⟨a, List.mem_range.mpr (Heap.lt_size ho), ?_⟩
    rw [if_neg (show ¬ (a = L ∨ a = d) from fun q => q.elim n1 n2), ho] <;> rfl
theorem news_ledger {h : Heap} {L d : Addr} {od : Obj} (hne : d ≠ L) (ho : h.get? d = some od) : News (noObjs h) L h ([] ++ (d, od) :: ledger h L d) := by
  rintro ⟨a, o⟩ hp
  rcases List.mem_cons.mp hp with e | hp
  · cases e
    exact ⟨ho, hne, noObjs_get _ _⟩
  · obtain ⟨n1, n2, e⟩ := mem_ledger.mp hp
    exact ⟨e, n1, noObjs_get _ _⟩
theorem fr_all {h : Heap} {L : Addr} {m : Str → Option Value} (n : h.Ns L m) : Fr (noObjs h) L h m :=
  ⟨n, fun b o e => (by rw [noObjs_get] at e; cases e), Nat.zero_le _⟩
/-- Upd of the head entry (for append_K, setItem_K ..) -/
theorem upd_ledger {h : Heap} {L d : Addr} {o o' : Obj} : Upd d o o' ((d, o) :: ledger h L d) ((d, o') :: ledger h L d) :=
  .head fun ⟨_, _⟩ hp => (mem_ledger.mp hp).2.1

/-- x.name = v over any heap: L is any namespace of the heap (the frame's, say): its map stays, its object is not told; all else but the dict stays -/
theorem set_field {x C dx L : Addr} {ox : Obj} {m : Str → Option Value} {es es' : List DictEntry} {n n' : Nat} {name : Str} {v : Value} {Q : Unit → Shared → Prop}
    (X : K.In s.heap) (I : PySem.W.InstAt s.heap x ox C (some (dictOf es n))) (hd : ox.dict = some dx) (hL : s.heap.Ns L m) (hne : dx ≠ L)
    (hs : findIn K (.ref C) "__setattr__" = some (some (.builtin "object.__setattr__"))) (hp : plainOver K C = true) (ht : takerIn K C name = some none) (hh : hasDictIn K C = true) (hl : (getL name es).isSome = true)
    (e : (putL name (PyData.keyHash w.params name) (.str name (s.toks + 1)) v es, putN name es n) = (es', n')) (hz : es'.length ≤ 1000)
    (h : ∀ h' : Heap, h'.Ns L m → h'.get? dx = some (dictOf es' n') → (∀ b o, b ≠ dx → b ≠ L → s.heap.get? b = some o → h'.get? b = some o) → Q () { s with heap := h', toks := s.toks + 2 }) :
    wpAny (model prog w) A (setAttr (.ref x) name v) Q E s := by
  obtain ⟨e1, e2⟩ := Prod.mk.inj e
  have hdx : s.heap.get? dx = some (dictOf es n) := by
    have := I.dict
    rw [hd] at this
    exact this
  refine set_plain X I hs (osa_dict (s := { s with toks := s.toks + 1 }) (h₀ := noObjs s.heap) (L := L) (m := m) (od := dictOf es n) (od' := dictOf es' n') (es := es') (n := n') (pre := []) (post := ledger s.heap L dx)
    (fr_all hL) (news_ledger hne hdx) X I hd hp ht hh hl (fun _ q => nomatch q) (fun ⟨_, _⟩ q => (mem_ledger.mp q).2.1) (by rw [putName_dict, e1, e2]) rfl hz fun h' F' N' => ?_)
  exact h h' F'.ns (N'.get (List.Mem.head _)) fun b o n1 n2 ho => N'.get (List.Mem.tail _ (mem_ledger.mpr ⟨n2, n1, ho⟩))
end
end Att

namespace L2
open PySem PySem.Spec PyProof.Rows

theorem vals_ints : ∀ {vs : List Value} {ns : List Int}, IntsAre vs ns → Vals (ns.map V.int) vs
  | _, _, .nil => .nil
  | _, _, .cons n t h => .cons ⟨t, rfl⟩ (vals_ints h)

/-- nothing is tracked but the script, known to the object (or it is an object of the module) -/
def Only (H : Hp) : Prop := ∀ b, H b = none ∨ ∃ o xs, H b = some (.frz o (.lst xs))

/-- THE HEAD: the law's promise, at the heap behind the top. F, the promise of the law's def, may use that base is part of the heap (so K.In base, base.Ns mainGlobals mg stand in Mod) -/
theorem law_call {P : Program} {w : World} {K : PySem.W.Frag} {mg mb : Str → Option Value} {CX : CXT} {k : Nat} {fa a : Addr} {fd : FuncData} {x : Str} {sp : Sp} {s₁ : Shared} {vs : List Value} {ns : List Int}
    (KX : K.In s₁.heap) (hns : s₁.heap.Ns mainGlobals mg) (hb : s₁.heap.Ns builtinsNs mb) (hbb : ∀ x : Str, x ≠ "__name__" → mb x = bootBuiltins x) (hlim : s₁.heap.NoLimit) (hg : s₁.gens = #[])
    (ha : s₁.heap.get? a = some { cls := .type "list", data := .seq vs.toArray }) (hi : IntsAre vs ns) (hl : ns.length ≤ sizeLine) (hr : Room k callerA)
    (F : ∀ base : Heap, K.In base → base.Ns mainGlobals mg → FnOk P w K mg base CX k fa fd [x] sp) (hbind : ∀ (s : Shared) (u : Value), BindsTo s fd ⟨[u], []⟩ [(x, u)])
    (hsp : ∀ H : Hp, Only H → SqL K H a (ns.map V.int) → sp [.ref a] H (fun v _ => v = .bl true) fun _ _ _ => False)
    (hCX : ∀ H e s', CX [] H s₁ (fun _ _ _ => False) e s' → False) :
    codeAny (model P w) callerA (.call (.ref fa) ⟨[.ref a], []⟩) (fun r s' => r = .ok (.ret (.bool true)) ∧ OldK s₁.heap s'.heap ∧ s'.os = s₁.os ∧ AllBare s'.gens) s₁ := by
  have rv := vals_ints hi
  have lenV := hi.length
  -- from an abstract heap in which nothing but the script may be tracked
  have core : ∀ H : Hp, Only H → SqL K H a (ns.map V.int) → HOk P w H s₁.heap → (∀ b, H b ≠ none → b = a) → (H a ≠ none → K.lookup a = none) →
      codeAny (model P w) callerA (.call (.ref fa) ⟨[.ref a], []⟩) (fun r s' => r = .ok (.ret (.bool true)) ∧ OldK s₁.heap s'.heap ∧ s'.os = s₁.os ∧ AllBare s'.gens) s₁ := by
    intro H hO hS hok hA hK
    have base_of : ∀ {b : Addr} {o : Obj}, s₁.heap.get? b = some o → H b = none → (hidT s₁.heap H).get? b = some o := fun e n => hidT_get e n
    have noA : ∀ {b : Addr} {o : Obj} {es : Array DictEntry} {ep : Nat}, s₁.heap.get? b = some o → o.data = .dict es ep → H b = none := fun {b o es ep} e d => by
      cases q : H b with
      | none => rfl
      | some u =>
        have e' : b = a := hA b (by rw [q]; simp)
        subst e'
        rw [ha] at e; cases e
        have d' : Data.seq vs.toArray _ = Data.dict es ep := d
        cases d'
    have nsK : ∀ {b : Addr} {m : Str → Option Value}, s₁.heap.Ns b m → (hidT s₁.heap H).Ns b m := fun {b m} ⟨o, es, ep, e, d, r⟩ => ⟨o, es, ep, base_of e (noA e d), d, r⟩
    have hKb : K.In (hidT s₁.heap H) := fun b o e => base_of (KX b o e) (by
      cases q : H b with
      | none => rfl
      | some u =>
        have e' : b = a := hA b (by rw [q]; simp)
        subst e'
        rw [hK (by rw [q]; simp)] at e; cases e)
    have hM : Mod K mg (hidT s₁.heap H) := ⟨hKb, nsK hns, ⟨mb, nsK hb, hbb⟩, let ⟨mc, h1, h2⟩ := hlim; ⟨mc, nsK h1, h2⟩⟩
    have e0 : Env0 P w K mg (hidT s₁.heap H) callerA [] s₁ H := ⟨rfl, hM, fun b o e => of_hidT e, Nat.le_of_eq (hidT_size _ _), trivial, fun b hb => absurd (show b ∈ ([] : List Addr) from hb) (by simp), hok, .of_eq hg⟩
    refine codeAny_mono ((F _ hKb (nsK hns)).run callerA [] s₁ H ⟨[.ref a], []⟩ [.ref a] [.ref a] _ _ hr e0 (hbind s₁ (.ref a)) (.cons rfl .nil) (hsp H hO hS)) fun r s' h => ?_
    cases r with
    | error e => exact (hCX H e s' h).elim
    | ok fl =>
      cases fl with
      | next => exact False.elim h
      | brk => exact False.elim h
      | cont => exact False.elim h
      | ret u =>
        obtain ⟨v, H', os, bare, un, hok', r', q⟩ := h
        have q' : v = .bl true := q
        subst q'
        obtain rfl : u = Value.bool true := r'
        refine ⟨rfl, OldK.of_keep fun b o e => ?_, os, bare⟩
        cases q : H b with
        | none => exact un.keep b o e q (by intro z; exact absurd (show b ∈ ([] : List Addr) from z) (by simp)) (by simp)
        | some u =>
          rcases hO b with z | ⟨ob, xs, z⟩
          · rw [q] at z; cases z
          · have z2 := un.frzs b ob _ z
            obtain ⟨e1, _⟩ := hok b _ z
            obtain ⟨e2, _⟩ := hok' b _ z2
            rw [e] at e1; cases e1
            exact e2
  cases hk : K.lookup a with
  | some o =>
    -- the script is one of the module's own objects
    have e := KX a o hk
    rw [ha] at e
    cases e
    refine core (fun _ => none) (fun _ => .inl rfl) (.inr ⟨_, vs.toArray, _, hk, rfl, rfl, rfl, by rw [List.size_toArray, lenV]; exact hl, by simpa using rv⟩) (fun b u z => by have z' : (none : Option HO) = some u := z; cases z') (fun b z => absurd rfl z) fun z => absurd rfl z
  | none =>
    refine core (fun b => if b = a then some (.frz { cls := .type "list", data := .seq vs.toArray } (.lst (ns.map V.int))) else none) (fun b => ?_) (.inl (.inr ⟨{ cls := .type "list", data := .seq vs.toArray }, if_pos rfl⟩)) (fun b u z => ?_) (fun b z => ?_) fun _ => hk
    · by_cases hb : b = a
      · exact .inr ⟨_, _, if_pos hb⟩
      · exact .inl (if_neg hb)
    · by_cases hb : b = a
      · have z' := (if_pos hb).symm.trans z
        cases z'
        subst hb
        exact ⟨ha, by rw [List.length_map]; exact hl, vs, _, rv, ha⟩
      · have z' := (if_neg hb).symm.trans z
        cases z'
    · by_cases hb : b = a
      · exact hb
      · exact absurd (if_neg hb) z
end L2

namespace L2
open PySem PySem.Spec PyProof.Rows

abbrev KOf {K : PySem.W.Frag} {h : Heap} (_ : K.In h) : PySem.W.Frag := K

/-- the goal that k_head leaves (case hc), from the law's promise. F gives the function object fd (K's own) once, then the promise over every base -/
theorem walk_of {l : PySem.W.OpenLaw} {n k : Nat} {q : Program} {loose : List Str} {XP : (Str → Option Value) → Heap → Prop} {YP : World → Heap → Prop} {d : DefRec} {K : Params → PySem.W.Frag} {CX : World → CXT} {sp : World → Sp} {x : Str}
    (hn : l.most = some n) (hn2 : n ≤ sizeLine) (hdf : d.params.defaults = []) (hr : Room k callerA)
    (hY : ∀ (w : World) (h : Heap), YP w h → (K w.params).In h)
    (F : ∀ (w : World) (mg : Str → Option Value) (fa : Addr) (h : Heap), (K w.params).In h → h.Ns mainGlobals mg → mg d.name = some (.ref fa) →
      ∃ fd : FuncData, (∀ (s : Shared) (u : Value), BindsTo s fd ⟨[u], []⟩ [(x, u)]) ∧
        ∀ base : Heap, (K w.params).In base → base.Ns mainGlobals mg → FnOk l.prog w (K w.params) mg base (CX w) k fa fd [x] (sp w))
    (hsp : ∀ (w : World) (H : Hp) (a : Addr) (ns : List Int), ns.length ≤ n → Only H → SqL (K w.params) H a (ns.map V.int) → sp w [.ref a] H (fun v _ => v = .bl true) fun _ _ _ => False)
    (hCX : ∀ (w : World) (H : Hp) (s : Shared) (e : Value) (s' : Shared), CX w [] H s (fun _ _ _ => False) e s' → False) :
    PySem.W.WalkO q loose XP YP l.row.toRowW d [] (fun f vs => PySem.call f vs) := by
  refine Att.attach_call hn hdf fun w s₀ s₁ mg mb fa o pm cd doc a vs ns G Y ho hd hcd hmg hobj hints hlen hg => ?_
  have KX := hY w _ Y
  obtain ⟨fd, hb, hF⟩ := F w mg fa _ KX G.T.g hmg
  exact law_call KX G.T.g G.T.b G.T.builtins G.T.nolimit hg hobj hints (Nat.le_trans hlen hn2) hr hF hb (fun H hO hS => hsp w H a ns hlen hO hS) fun H e s' => hCX w H s₁ e s'
/-- the same where the promise hangs on the written part alone: (sp := My.sp_law), no hole under a binder -/
theorem walk_ofK {l : PySem.W.OpenLaw} {n k : Nat} {q : Program} {loose : List Str} {XP : (Str → Option Value) → Heap → Prop} {YP : World → Heap → Prop} {d : DefRec} {K : Params → PySem.W.Frag} {CX : CXT} {sp : PySem.W.Frag → Sp} {x : Str}
    (hn : l.most = some n) (hn2 : n ≤ sizeLine) (hdf : d.params.defaults = []) (hr : Room k callerA)
    (hY : ∀ (w : World) (h : Heap), YP w h → (K w.params).In h)
    (F : ∀ (w : World) (mg : Str → Option Value) (fa : Addr) (h : Heap), (K w.params).In h → h.Ns mainGlobals mg → mg d.name = some (.ref fa) →
      ∃ fd : FuncData, (∀ (s : Shared) (u : Value), BindsTo s fd ⟨[u], []⟩ [(x, u)]) ∧
        ∀ base : Heap, (K w.params).In base → base.Ns mainGlobals mg → FnOk l.prog w (K w.params) mg base CX k fa fd [x] (sp (K w.params)))
    (hsp : ∀ (K : PySem.W.Frag) (H : Hp) (a : Addr) (ns : List Int), ns.length ≤ n → Only H → SqL K H a (ns.map V.int) → sp K [.ref a] H (fun v _ => v = .bl true) fun _ _ _ => False)
    (hCX : ∀ (H : Hp) (s : Shared) (e : Value) (s' : Shared), CX [] H s (fun _ _ _ => False) e s' → False) :
    PySem.W.WalkO q loose XP YP l.row.toRowW d [] (fun f vs => PySem.call f vs) :=
  walk_of (K := K) (CX := fun _ => CX) (sp := fun w => sp (K w.params)) hn hn2 hdf hr hY F (fun w H a ns h1 h2 h3 => hsp (K w.params) H a ns h1 h2 h3) fun _ H s e s' => hCX H s e s'
end L2


/-! SHORT WORDS over the layer: a def of the text, its body, what a loop and a test want. -/
namespace L2
open PySem PySem.Spec PyProof.Rows

/-! ### the text by places -/
/-- the j-th statement of a class's body -/
def inClass (s : Stmt) (j : Nat) : Stmt := match s with
  | .ClassDef _ _ _ body _ _ _ _ _ _ _ => body.getD j (.Pass ⟨0, 0, 0, 0⟩)
  | _ => .Pass ⟨0, 0, 0, 0⟩
def defArgs (s : Stmt) : Arguments := match s with
  | .FunctionDef _ a _ _ _ _ _ _ _ _ => a
  | _ => { posonlyargs := [], args := [], vararg := none, kwonlyargs := [], kw_defaults := [], kwarg := none, defaults := [] }
def defBody (s : Stmt) : List Stmt := match s with
  | .FunctionDef _ _ b _ _ _ _ _ _ _ => b
  | _ => []
def defScope (s : Stmt) : Scope := match s with
  | .FunctionDef _ _ _ _ _ _ sc _ _ _ => sc
  | _ => { kind := .function, names := [], isGenerator := false, isCoroutine := false }

/-! ### no exception leaves a def -/
abbrev CX0 : CXT := fun _ _ _ _ _ _ => False
abbrev E0 : XK := fun _ _ _ => False
theorem pass0 {X : Cx} : Passes CX0 X E0 := fun _ _ _ _ _ _ _ h => h.elim

/-! ### a def (or method) of the text as it stands behind the top -/
structure Fun (K : PySem.W.Frag) (x qual : Str) (st : Stmt) (f : Addr) (fd : FuncData) : Prop where
  ex : ∃ (oc : Value) (od : Option Addr) (kV doc pm : Value) (an : Option Addr) (cdv ct : Value) (osl : Array (Option Value)),
    fd = PySem.W.fnOf x qual (defArgs st) (defBody st) (defScope st) .none kV doc pm an cdv ct ∧ K.lookup f = some ⟨oc, od, .func fd, osl⟩ ∧ PySem.W.codeIn K cdv qual = true
  kp : PySem.W.keepIn K (.ref f) = true
section
variable {P : Program} {w : World} {K : PySem.W.Frag} {mg : Str → Option Value} {base : Heap}
/-- THE RULE for a def: its body as a term of rules, and the reading of that term -/
theorem Fun.ok {x qual : Str} {st : Stmt} {f : Addr} {fd : FuncData} {N ps : List Str} {k : Nat} {sp : Sp} (F : Fun K x qual st f fd) (S : FnScope N ps (defScope st)) (len : ∀ vs H Q E, sp vs H Q E → vs.length = ps.length)
    (hbody : ∀ (cdv : Value) (A : Around) (outer : List Env) (s : Shared) (H : Hp) (vs : List V) (Q : VK) (E : XK), Room k (A.deeper (envOfC qual (defScope st) s.heap.objs.size f cdv)) → sp vs H Q E →
      ∃ t, PSs (cxOf CX0 P w K mg base N qual (defScope st) f cdv A outer s H E).nox (defBody st) t ∧ t { nx := fun _ H' => Q .non H', rt := Q } (start N vs) H) : FnOk P w K mg base CX0 (k + 1) f fd ps sp := by
  obtain ⟨oc, od, kV, doc, pm, an, cdv, ct, osl, rfl, lk, hcd⟩ := F.ex
  refine fn_of lk hcd S len fun A outer s H vs Q E hr hsp => ?_
  obtain ⟨t, h, q⟩ := hbody cdv A outer s H vs Q E hr hsp
  exact ⟨t, h.nox, q⟩
/-- how its arguments bind (no defaults): h is «fun _ _ _ _ _ _ us hl => match us, hl with | [_, _], _ => rfl», one _ a parameter -/
theorem Fun.binds {x qual : Str} {st : Stmt} {f : Addr} {fd : FuncData} {ps : List Str} (F : Fun K x qual st f fd)
    (h : ∀ (kV doc pm : Value) (an : Option Addr) (cdv ct : Value) (us : List Value), us.length = ps.length → bindArgs (PySem.W.fnOf x qual (defArgs st) (defBody st) (defScope st) .none kV doc pm an cdv ct) ⟨us, []⟩ = pure (ps.zip us)) : Binds K fd ps [] := by
  obtain ⟨oc, od, kV, doc, pm, an, cdv, ct, osl, rfl, lk, hcd⟩ := F.ex
  exact .all (h kV doc pm an cdv ct)
theorem fun_mk {x qual : Str} {st : Stmt} {f : Addr} {oc : Value} {od an : Option Addr} {osl : Array (Option Value)} {kV doc pm cdv ct : Value} (l : K.lookup f = some ⟨oc, od, .func (PySem.W.fnOf x qual (defArgs st) (defBody st) (defScope st) .none kV doc pm an cdv ct), osl⟩)
    (c : PySem.W.codeIn K cdv qual = true) (k : PySem.W.keepIn K (.ref f) = true) : Fun K x qual st f (PySem.W.fnOf x qual (defArgs st) (defBody st) (defScope st) .none kV doc pm an cdv ct) := ⟨⟨oc, od, kV, doc, pm, an, cdv, ct, osl, rfl, l, c⟩, k⟩
end
theorem hu_of {A : Around} {k : Nat} (hr : Room k A) : A.units + 1 < cLine := Nat.lt_of_le_of_lt (Nat.add_le_add_left (by decide : 1 ≤ 64) _) hr.units
theorem small1000 {n : Nat} (h : n ≤ 1000) : n < sizeLine := Nat.lt_of_le_of_lt h (by decide)

/-! ### expressions in short: the name that stands in the i-th slot -/
section
variable {X : Cx}
theorem pv (i : Nat) {x : Str} {pos : Pos} (hN : X.N[i]? = some x := by rfl) (hv : Vis X.env.scope x := by first | exact Or.inl rfl | exact Or.inr (Or.inl rfl) | exact Or.inr (Or.inr rfl)) (hd : (x == ("__debug__" : Str)) = false := by decide)
    (hcd : (x == ("__classdict__" : Str)) = false := by decide) : PE X (.Name x pos) (tVar i) := pe_var hN hv hd hcd
end

/-! ### tests -/
theorem iteF {A B : Prop} (h : B) : if false = true then A else B := by
  rw [if_neg Bool.false_ne_true]
  exact h
theorem iteT {A B : Prop} (h : A) : if true = true then A else B := by
  rw [if_pos rfl]
  exact h
theorem ite2 {c A B : Prop} [Decidable c] (h1 : c → A) (h2 : ¬ c → B) : if c then A else B := by
  by_cases h : c
  · rw [if_pos h]
    exact h1 h
  · rw [if_neg h]
    exact h2 h
theorem iteNS {c A B : Prop} [Decidable c] (hc : c) (h : B) : if (!decide c) = true then A else B := by
  rw [decide_eq_true hc]
  exact iteF h

/-! ### heaps -/
/-- all that was tracked is as it was -/
def Same (H H' : Hp) : Prop := ∀ b o, H b = some o → H' b = some o
theorem Same.refl (H : Hp) : Same H H := fun _ _ h => h
theorem Same.trans {H H1 H2 : Hp} (a : Same H H1) (b : Same H1 H2) : Same H H2 := fun c o h => b c o (a c o h)
theorem Same.free {H H' : Hp} (e : Same H H') {l : Addr} (h : H' l = Option.none) : H l = Option.none := by
  cases q : H l with
  | none => rfl
  | some o =>
    rw [e l o q] at h
    cases h
theorem Same.seq {K : PySem.W.Frag} {H H' : Hp} {a : Addr} {xs : List V} (e : Same H H') (h : SqL K H a xs) : SqL K H' a xs := by
  rcases h with (h | ⟨o, h⟩) | h
  · exact .inl (.inl (e _ _ h))
  · exact .inl (.inr ⟨o, e _ _ h⟩)
  · exact .inr h

end L2

namespace EV
open PySem PySem.Spec PyProof.Rows L2

/-! ### quick looks at the text -/
def notStar : Expr → Bool
  | .Starred _ _ => false
  | _ => true
theorem star_of {e : Expr} {es : List Expr} {env : Env} (h : notStar e = true) : starEach (e :: es) env = (false, eval e env) :: starEach es env := by
  cases e <;> first | rfl | (cases h)
theorem plain_of {pos : Pos} {env : Env} : ∀ {es : List Expr}, es.all notStar = true → (backTo pos (starEach es env)).any (·.1) = false
  | [], _ => rfl
  | e :: es, h => by
    rw [List.all_cons, Bool.and_eq_true] at h
    rw [star_of h.1]
    have := plain_of (pos := pos) (env := env) h.2
    simpa [backTo] using this
def noComp : Expr → Bool
  | .ListComp .. => false
  | .SetComp .. => false
  | .DictComp .. => false
  | _ => true
theorem swaps_of {v : Expr} {t : Option Expr} {l : Nat} {env : Env} (h : noComp v = true) : swapsWith v t l env = pure false := by
  cases v <;> first | rfl | (cases h)
/-! ### plain data, and how a value of the abstract heap stands for it -/
inductive D where
  | non
  | bl (b : Bool)
  | int (i : Int)
  | str (x : Str)
  | tup (xs : List D)
  | lst (xs : List D)
  | obj (C : Addr) (ns : List Str) (fs : List D)
  | adr (a : Addr)

mutual
def Is (K : PySem.W.Frag) (H : Hp) : D → V → Prop
  | .non, v => v = .non
  | .bl b, v => v = .bl b
  | .int i, v => v = .int i
  | .str x, v => v = .str x
  | .tup ds, v => ∃ a xs, v = .ref a ∧ SqT K H a xs ∧ IsL K H ds xs
  | .lst ds, v => ∃ a xs, v = .ref a ∧ SqL K H a xs ∧ IsL K H ds xs
  | .obj C ns fs, v => ∃ a dx vs, v = .ref a ∧ H a = some (.ins C dx (ns.zip vs)) ∧ ns.length = fs.length ∧ IsL K H fs vs
  | .adr a, v => v = .ref a
def IsL (K : PySem.W.Frag) (H : Hp) : List D → List V → Prop
  | [], vs => vs = []
  | d :: ds, vs => ∃ v r, vs = v :: r ∧ Is K H d v ∧ IsL K H ds r
end

theorem seqT {K : PySem.W.Frag} {H H' : Hp} {a : Addr} {xs : List V} (e : Same H H') (h : SqT K H a xs) : SqT K H' a xs := by
  rcases h with (h | ⟨o, h⟩) | h
  · exact .inl (.inl (e _ _ h))
  · exact .inl (.inr ⟨o, e _ _ h⟩)
  · exact .inr h

mutual
theorem Is.mono {K : PySem.W.Frag} {H H' : Hp} (s : Same H H') : ∀ (d : D) {v : V}, Is K H d v → Is K H' d v
  | .non, _, h => by unfold Is at *; exact h
  | .bl _, _, h => by unfold Is at *; exact h
  | .int _, _, h => by unfold Is at *; exact h
  | .str _, _, h => by unfold Is at *; exact h
  | .tup ds, _, h => by
    unfold Is at *
    obtain ⟨a, xs, e, q, r⟩ := h
    exact ⟨a, xs, e, seqT s q, IsL.mono s ds r⟩
  | .lst ds, _, h => by
    unfold Is at *
    obtain ⟨a, xs, e, q, r⟩ := h
    exact ⟨a, xs, e, s.seq q, IsL.mono s ds r⟩
  | .obj C ns fs, _, h => by
    unfold Is at *
    obtain ⟨a, dx, vs, e, q, l, r⟩ := h
    exact ⟨a, dx, vs, e, s _ _ q, l, IsL.mono s fs r⟩
  | .adr _, _, h => by unfold Is at *; exact h
theorem IsL.mono {K : PySem.W.Frag} {H H' : Hp} (s : Same H H') : ∀ (ds : List D) {vs : List V}, IsL K H ds vs → IsL K H' ds vs
  | [], _, h => by unfold IsL at *; exact h
  | d :: ds, _, h => by
    unfold IsL at *
    obtain ⟨v, r, e, q, z⟩ := h
    exact ⟨v, r, e, Is.mono s d q, IsL.mono s ds z⟩
end

theorem IsL.len {K : PySem.W.Frag} {H : Hp} : ∀ {ds : List D} {vs : List V}, IsL K H ds vs → ds.length = vs.length
  | [], _, h => by unfold IsL at h; subst h; rfl
  | d :: ds, _, h => by
    unfold IsL at h
    obtain ⟨v, r, rfl, _, z⟩ := h
    rw [List.length_cons, List.length_cons, IsL.len z]
theorem IsL.get {K : PySem.W.Frag} {H : Hp} : ∀ {ds : List D} {vs : List V} {i : Nat} {d : D}, IsL K H ds vs → ds[i]? = some d → ∃ v, vs[i]? = some v ∧ Is K H d v
  | [], _, _, _, _, e => by simp at e
  | d :: ds, _, 0, _, h, e => by
    unfold IsL at h
    obtain ⟨v, r, rfl, q, _⟩ := h
    simp at e
    subst e
    exact ⟨v, rfl, q⟩
  | d :: ds, _, i + 1, d', h, e => by
    unfold IsL at h
    obtain ⟨v, r, rfl, _, z⟩ := h
    obtain ⟨u, e2, q⟩ := IsL.get (i := i) (d := d') z (by simpa using e)
    exact ⟨u, by simpa using e2, q⟩
theorem IsL.back {K : PySem.W.Frag} {H : Hp} : ∀ {ds : List D} {vs : List V} {i : Nat} {v : V}, IsL K H ds vs → vs[i]? = some v → ∃ d, ds[i]? = some d ∧ Is K H d v
  | [], _, _, _, h, e => by unfold IsL at h; subst h; simp at e
  | d :: ds, _, 0, _, h, e => by
    unfold IsL at h
    obtain ⟨v, r, rfl, q, _⟩ := h
    simp at e
    subst e
    exact ⟨d, rfl, q⟩
  | d :: ds, _, i + 1, v', h, e => by
    unfold IsL at h
    obtain ⟨v, r, rfl, _, z⟩ := h
    obtain ⟨u, e2, q⟩ := IsL.back (i := i) (v := v') z (by simpa using e)
    exact ⟨u, by simpa using e2, q⟩
theorem IsL.append {K : PySem.W.Frag} {H : Hp} : ∀ {ds es : List D} {vs us : List V}, IsL K H ds vs → IsL K H es us → IsL K H (ds ++ es) (vs ++ us)
  | [], _, _, _, h, g => by unfold IsL at h; subst h; simpa using g
  | d :: ds, es, _, us, h, g => by
    unfold IsL at h
    obtain ⟨v, r, rfl, q, z⟩ := h
    show IsL K H (d :: (ds ++ es)) (v :: (r ++ us))
    unfold IsL
    exact ⟨v, r ++ us, rfl, q, IsL.append z g⟩
theorem IsL.drop {K : PySem.W.Frag} {H : Hp} : ∀ {ds : List D} {vs : List V} (n : Nat), IsL K H ds vs → IsL K H (ds.drop n) (vs.drop n)
  | _, _, 0, h => by simpa using h
  | [], _, n + 1, h => by unfold IsL at h; subst h; simp [IsL]
  | d :: ds, _, n + 1, h => by
    unfold IsL at h
    obtain ⟨v, r, rfl, _, z⟩ := h
    simpa using IsL.drop n z
theorem IsL.take {K : PySem.W.Frag} {H : Hp} : ∀ {ds : List D} {vs : List V} (n : Nat), IsL K H ds vs → IsL K H (ds.take n) (vs.take n)
  | _, _, 0, h => by simp [IsL]
  | [], _, n + 1, h => by unfold IsL at h; subst h; simp [IsL]
  | d :: ds, _, n + 1, h => by
    unfold IsL at h
    obtain ⟨v, r, rfl, q, z⟩ := h
    rw [List.take_succ_cons, List.take_succ_cons]
    unfold IsL
    exact ⟨v, r.take n, rfl, q, IsL.take n z⟩
theorem IsL.at {K : PySem.W.Frag} {H : Hp} {ds : List D} {vs : List V} {i : Int} {d : D} (h : IsL K H ds vs) (e : atI ds i = some d) : ∃ v, atI vs i = some v ∧ Is K H d v := by
  unfold atI at e ⊢
  rw [← h.len]
  cases q : ixN ds.length i with
  | none => rw [q] at e; cases e
  | some j =>
    rw [q] at e
    exact IsL.get h e
theorem IsL.ints {K : PySem.W.Frag} {H : Hp} : ∀ (ns : List Int), IsL K H (ns.map D.int) (ns.map V.int)
  | [] => by simp [IsL]
  | n :: ns => by
    rw [List.map_cons, List.map_cons]
    unfold IsL
    exact ⟨_, _, rfl, by unfold Is; rfl, IsL.ints ns⟩
theorem zip_look {K : PySem.W.Frag} {H : Hp} {f : Str} {d : D} : ∀ {ns : List Str} {fs : List D} {vs : List V}, ns.length = fs.length → IsL K H fs vs → (ns.zip fs).lookup f = some d → ∃ v, (ns.zip vs).lookup f = some v ∧ Is K H d v
  | [], _, _, _, _, e => by simp at e
  | n :: ns, [], _, l, _, _ => by simp at l
  | n :: ns, x :: fs, _, l, h, e => by
    unfold IsL at h
    obtain ⟨v, r, rfl, q, z⟩ := h
    rw [List.zip_cons_cons, List.lookup_cons] at e ⊢
    cases b : f == n with
    | true => rw [b] at e; cases e; exact ⟨v, rfl, q⟩
    | false => rw [b] at e; exact zip_look (by simpa using l) z e
theorem zip_none {f : Str} : ∀ {ns : List Str} {vs : List V}, f ∉ ns → (ns.zip vs).lookup f = none
  | [], _, _ => by simp
  | n :: ns, [], _ => by simp
  | n :: ns, v :: vs, h => by
    rw [List.zip_cons_cons, List.lookup_cons]
    have hb : (f == n) = false := by
      apply beq_eq_false_iff_ne.mpr
      intro e; exact h (by rw [e]; exact List.mem_cons_self)
    rw [hb]
    exact zip_none fun z => h (List.mem_cons_of_mem _ z)

/-! ### a frame's names -/
abbrev Sd := List (Option D)
def IsS (K : PySem.W.Frag) (H : Hp) (δ : Sd) (σ : L2.St) : Prop := σ.length = δ.length ∧ ∀ (i : Nat) (d : D), δ[i]? = some (some d) → ∃ v, σ[i]? = some (some v) ∧ Is K H d v
theorem IsS.mono {K : PySem.W.Frag} {H H' : Hp} {δ : Sd} {σ : L2.St} (h : IsS K H δ σ) (s : Same H H') : IsS K H' δ σ :=
  ⟨h.1, fun i d e => let ⟨v, e2, q⟩ := h.2 i d e; ⟨v, e2, Is.mono s d q⟩⟩
theorem IsS.set {K : PySem.W.Frag} {H : Hp} {δ : Sd} {σ : L2.St} (h : IsS K H δ σ) (i : Nat) {d : D} {v : V} (q : Is K H d v) : IsS K H (δ.set i (some d)) (σ.set i (some v)) := by
  refine ⟨by simp [h.1], fun j e hj => ?_⟩
  by_cases c : i = j
  · subst c
    rw [List.getElem?_set_self'] at hj
    cases hd : δ[i]? with
    | none => rw [hd] at hj; simp at hj
    | some z =>
      rw [hd] at hj
      simp at hj
      subst hj
      have hi : i < σ.length := by
        rw [h.1]
        exact (List.getElem?_eq_some_iff.mp hd).1
      exact ⟨v, List.getElem?_set_self hi, q⟩
  · rw [List.getElem?_set_ne c] at hj
    obtain ⟨u, e2, q2⟩ := h.2 j e hj
    exact ⟨u, by rw [List.getElem?_set_ne c]; exact e2, q2⟩

/-! ### the judgements -/
def rE (K : PySem.W.Frag) (δ : Sd) (d : D) : TE := fun σ H Q => IsS K H δ σ ∧ ∀ v H', Same H H' → Is K H' d v → Q v H'
structure EV (X : Cx) (e : Expr) (δ : Sd) (d : D) : Prop where
  run : PE X e (rE X.K δ d)
def rA (K : PySem.W.Frag) (δ : Sd) (ds : List D) : TA := fun σ H Q => IsS K H δ σ ∧ ∀ vs H', Same H H' → IsL K H' ds vs → Q vs H'
structure EA (X : Cx) (es : List Expr) (δ : Sd) (ds : List D) : Prop where
  run : PA X es (rA X.K δ ds)
def rT (K : PySem.W.Frag) (δ : Sd) (b : Bool) : TT := fun σ H Q => IsS K H δ σ ∧ ∀ H', Same H H' → Q b H'
structure ET (X : Cx) (e : Expr) (δ : Sd) (b : Bool) : Prop where
  run : PT X e (rT X.K δ b)
structure EW (X : Cx) (e : Expr) (δ : Sd) (b : Bool) : Prop where
  run : PW X e (rT X.K δ b)
inductive O where
  | nx (δ : Sd) | rt (d : D) | bk (δ : Sd) | ct (δ : Sd)
def rO (K : PySem.W.Frag) (o : O) (D : Ends) (H : Hp) : Prop := match o with
  | .nx δ => ∀ σ' H', Same H H' → IsS K H' δ σ' → D.nx σ' H'
  | .rt d => ∀ v H', Same H H' → Is K H' d v → D.rt v H'
  | .bk δ => ∀ σ' H', Same H H' → IsS K H' δ σ' → D.bk σ' H'
  | .ct δ => ∀ σ' H', Same H H' → IsS K H' δ σ' → D.ct σ' H'
theorem rO.mono {K : PySem.W.Frag} {o : O} {D : Ends} {H H1 : Hp} (h : rO K o D H) (s : Same H H1) : rO K o D H1 := by
  cases o with
  | nx δ => exact fun σ' H' s' S => h σ' H' (s.trans s') S
  | rt d => exact fun v H' s' S => h v H' (s.trans s') S
  | bk δ => exact fun σ' H' s' S => h σ' H' (s.trans s') S
  | ct δ => exact fun σ' H' s' S => h σ' H' (s.trans s') S
def rS (K : PySem.W.Frag) (δ : Sd) (o : O) : TS := fun D σ H => IsS K H δ σ ∧ rO K o D H
structure ST (X : Cx) (st : Stmt) (δ : Sd) (o : O) : Prop where
  run : PS X st (rS X.K δ o)
structure SS (X : Cx) (sts : List Stmt) (δ : Sd) (o : O) : Prop where
  run : PSs X sts (rS X.K δ o)

theorem PE_imp {X : Cx} {e : Expr} {t t' : TE} (h : PE X e t) (i : ∀ σ H Q, t' σ H Q → t σ H Q) : PE X e t' := fun pins s σ H Q I q => h pins s σ H Q I (i σ H Q q)
theorem PT_imp {X : Cx} {e : Expr} {t t' : TT} (h : PT X e t) (i : ∀ σ H Q, t' σ H Q → t σ H Q) : PT X e t' := fun pins s σ H Q I q => h pins s σ H Q I (i σ H Q q)
theorem PW_imp {X : Cx} {e : Expr} {t t' : TT} (h : PW X e t) (i : ∀ σ H Q, t' σ H Q → t σ H Q) : PW X e t' := fun wh pins s σ H Q I q => h wh pins s σ H Q I (i σ H Q q)
theorem PA_imp {X : Cx} {e : List Expr} {t t' : TA} (h : PA X e t) (i : ∀ σ H Q, t' σ H Q → t σ H Q) : PA X e t' := fun pos pins s σ H Q I q => h pos pins s σ H Q I (i σ H Q q)
theorem PS_imp {X : Cx} {e : Stmt} {t t' : TS} (h : PS X e t) (i : ∀ D σ H, t' D σ H → t D σ H) : PS X e t' := fun pins s σ H D I q => h pins s σ H D I (i D σ H q)
theorem PSs_imp {X : Cx} {e : List Stmt} {t t' : TS} (h : PSs X e t) (i : ∀ D σ H, t' D σ H → t D σ H) : PSs X e t' := fun pins s σ H D I q => h pins s σ H D I (i D σ H q)

theorem EV_imp {X : Cx} {e : Expr} {δ : Sd} {d : D} {t : TE} (h : PE X e t) (i : ∀ σ H Q, rE X.K δ d σ H Q → t σ H Q) : EV X e δ d := ⟨PE_imp h i⟩
theorem ET_imp {X : Cx} {e : Expr} {δ : Sd} {d : Bool} {t : TT} (h : PT X e t) (i : ∀ σ H Q, rT X.K δ d σ H Q → t σ H Q) : ET X e δ d := ⟨PT_imp h i⟩
theorem EW_imp {X : Cx} {e : Expr} {δ : Sd} {d : Bool} {t : TT} (h : PW X e t) (i : ∀ σ H Q, rT X.K δ d σ H Q → t σ H Q) : EW X e δ d := ⟨PW_imp h i⟩
theorem EA_imp {X : Cx} {e : List Expr} {δ : Sd} {d : List D} {t : TA} (h : PA X e t) (i : ∀ σ H Q, rA X.K δ d σ H Q → t σ H Q) : EA X e δ d := ⟨PA_imp h i⟩
theorem ST_imp {X : Cx} {e : Stmt} {δ : Sd} {d : O} {t : TS} (h : PS X e t) (i : ∀ D σ H, rS X.K δ d D σ H → t D σ H) : ST X e δ d := ⟨PS_imp h i⟩
theorem SS_imp {X : Cx} {e : List Stmt} {δ : Sd} {d : O} {t : TS} (h : PSs X e t) (i : ∀ D σ H, rS X.K δ d D σ H → t D σ H) : SS X e δ d := ⟨PSs_imp h i⟩
theorem EV.conv {X : Cx} {e : Expr} {δ : Sd} {d d' : D} (h : EV X e δ d) (q : d = d') : EV X e δ d' := q ▸ h
theorem ET.conv {X : Cx} {e : Expr} {δ : Sd} {d d' : Bool} (h : ET X e δ d) (q : d = d') : ET X e δ d' := q ▸ h
theorem ST.conv {X : Cx} {e : Stmt} {δ : Sd} {d d' : O} (h : ST X e δ d) (q : d = d') : ST X e δ d' := q ▸ h
theorem SS.conv {X : Cx} {e : List Stmt} {δ : Sd} {d d' : O} (h : SS X e δ d) (q : d = d') : SS X e δ d' := q ▸ h

/-- what is not wanted any more is forgotten -/
theorem SS.forget {X : Cx} {sts : List Stmt} {δ δ1 δ2 : Sd} (h : SS X sts δ (.nx δ1)) (hl : δ1.length = δ2.length) (hf : ∀ (i : Nat) (d : D), δ2[i]? = some (some d) → δ1[i]? = some (some d)) : SS X sts δ (.nx δ2) :=
  ⟨PSs_imp h.run fun D σ H ⟨S, k⟩ => ⟨S, fun σ' H' s' S' => k σ' H' s' ⟨S'.1.trans hl, fun i d q => S'.2 i d (hf i d q)⟩⟩⟩
/-- a while's test and body, out of the text -/
def whT : Stmt → Expr
  | .While t _ _ _ => t
  | _ => .Constant .none 0 ⟨0, 0, 0, 0⟩
def whB : Stmt → List Stmt
  | .While _ b _ _ => b
  | _ => []
section
variable {X : Cx} {a b c e : Expr} {es : List Expr} {δ δ1 δ2 : Sd} {d d1 d2 : D} {ds : List D} {i j : Int} {p q : Bool} {pos pos' : Pos} {st : Stmt} {rest th el body : List Stmt} {o o1 : O}

/-! ### names, constants, displays -/
theorem ev_var (k : Nat) {x : Str} (hd : δ[k]? = some (some d)) (hN : X.N[k]? = some x := by rfl) (hv : Vis X.env.scope x := by first | exact Or.inl rfl | exact Or.inr (Or.inl rfl) | exact Or.inr (Or.inr rfl)) (h1 : (x == ("__debug__" : Str)) = false := by decide)
    (h2 : (x == ("__classdict__" : Str)) = false := by decide) : EV X (.Name x pos) δ d :=
  EV_imp (pe_var hN hv h1 h2) fun σ H Q ⟨S, q⟩ => let ⟨v, e, r⟩ := S.2 k d hd; ⟨v, e, q v H (Same.refl H) r⟩
theorem ev_int {k : Int} {n} : EV X (.Constant (.int k) n pos) δ (.int k) := EV_imp pe_int fun _ H _ ⟨_, q⟩ => q _ H (Same.refl H) (by unfold Is; rfl)
theorem ev_bl {k : Bool} {n} : EV X (.Constant (.bool k) n pos) δ (.bl k) := EV_imp pe_bl fun _ H _ ⟨_, q⟩ => q _ H (Same.refl H) (by unfold Is; rfl)
theorem ev_non {n} : EV X (.Constant .none n pos) δ .non := EV_imp pe_non fun _ H _ ⟨_, q⟩ => q _ H (Same.refl H) (by unfold Is; rfl)
theorem ev_str {x : Str} {n} : EV X (.Constant (.str x) n pos) δ (.str x) := EV_imp pe_str fun _ H _ ⟨_, q⟩ => q _ H (Same.refl H) (by unfold Is; rfl)
theorem ea_nil : EA X [] δ [] := EA_imp pa_nil fun _ H _ ⟨_, q⟩ => q _ H (Same.refl H) (by unfold IsL; rfl)
theorem ea_cons (ha : EV X e δ d) (hr : EA X es δ ds) (hs : starEach (e :: es) X.env = (false, eval e X.env) :: starEach es X.env := by exact star_of rfl) : EA X (e :: es) δ (d :: ds) :=
  EA_imp (pa_cons ha.run hr.run hs) fun _ H Q ⟨S, q⟩ => ⟨S, fun v H1 s1 r1 => ⟨S.mono s1, fun vs H2 s2 r2 => q (v :: vs) H2 (s1.trans s2) (by unfold IsL; exact ⟨v, vs, rfl, Is.mono s2 d r1, r2⟩)⟩⟩
theorem same_new {H : Hp} {p : Addr} (h : H p = none) (o : HO) : Same H (upd H p o) := fun b u q => by rw [upd_ne (ne_of_none q h)]; exact q
theorem le_line {n : Nat} (h : n ≤ 1000) : n ≤ sizeLine := Nat.le_of_lt (small1000 h)
theorem ev_tup {n} (h : EA X es δ ds) (hz : ds.length ≤ 1000 := by exact Nat.le_of_ble_eq_true rfl) : EV X (.Tuple es n pos) δ (.tup ds) :=
  EV_imp (pe_tup h.run) fun _ H Q ⟨S, q⟩ => ⟨S, fun vs H1 s1 r1 => ⟨by rw [← r1.len]; exact le_line hz, fun p hp => q _ _ (s1.trans (same_new hp _)) (by unfold Is; exact ⟨p, vs, rfl, SqT.of upd_same, IsL.mono (same_new hp _) ds r1⟩)⟩⟩
theorem ev_lst (h : EA X es δ ds) (hz : ds.length ≤ 1000 := by exact Nat.le_of_ble_eq_true rfl) : EV X (.List es pos) δ (.lst ds) :=
  EV_imp (pe_lst h.run) fun _ H Q ⟨S, q⟩ => ⟨S, fun vs H1 s1 r1 => ⟨by rw [← r1.len]; exact le_line hz, fun p hp => q _ _ (s1.trans (same_new hp _)) (by unfold Is; exact ⟨p, vs, rfl, SqL.of upd_same, IsL.mono (same_new hp _) ds r1⟩)⟩⟩

/-! ### arithmetic -/
theorem ev_opI {op : Operator} {g : Int → Int → Int} (ho : OpR X (binaryOp op) (rI0 fun i j => .int (g i j))) (ha : EV X a δ (.int i)) (hb : EV X b δ (.int j)) : EV X (.BinOp a op b pos) δ (.int (g i j)) :=
  EV_imp (pe_op ho ha.run hb.run) fun _ H Q ⟨S, q⟩ => ⟨S, fun v H1 s1 r1 => ⟨S.mono s1, fun w H2 s2 r2 => ⟨i, j, by unfold Is at r1; exact r1, by unfold Is at r2; exact r2, q _ H2 (s1.trans s2) (by unfold Is; rfl)⟩⟩⟩
theorem ev_opC {op : Operator} {C : Int → Int → Prop} {g : Int → Int → Int} (ho : OpR X (binaryOp op) (rI C fun i j => .int (g i j))) (ha : EV X a δ (.int i)) (hb : EV X b δ (.int j)) (hc : C i j) : EV X (.BinOp a op b pos) δ (.int (g i j)) :=
  EV_imp (pe_op ho ha.run hb.run) fun _ H Q ⟨S, q⟩ => ⟨S, fun v H1 s1 r1 => ⟨S.mono s1, fun w H2 s2 r2 => ⟨i, j, by unfold Is at r1; exact r1, by unfold Is at r2; exact r2, hc, q _ H2 (s1.trans s2) (by unfold Is; rfl)⟩⟩⟩
theorem ev_add (ha : EV X a δ (.int i)) (hb : EV X b δ (.int j)) : EV X (.BinOp a .Add b pos) δ (.int (i + j)) := ev_opI (g := fun i j => i + j) op_add ha hb
theorem ev_sub (ha : EV X a δ (.int i)) (hb : EV X b δ (.int j)) : EV X (.BinOp a .Sub b pos) δ (.int (i - j)) := ev_opI (g := fun i j => i - j) op_sub ha hb
theorem op_mulOk : OpR X (binaryOp .Mult) (rI IntMulOk fun i j => .int (i * j)) := opI fun _ _ _ _ _ _ _ hc q => mul_int q hc
theorem ev_mul (ha : EV X a δ (.int i)) (hb : EV X b δ (.int j)) (hc : IntMulOk i j) : EV X (.BinOp a .Mult b pos) δ (.int (i * j)) := ev_opC (g := fun i j => i * j) op_mulOk ha hb hc
theorem ev_mod (ha : EV X a δ (.int i)) (hb : EV X b δ (.int j)) (hc : 0 < j) : EV X (.BinOp a .Mod b pos) δ (.int (i % j)) := ev_opC (g := fun i j => i % j) (C := fun _ j => 0 < j) op_mod ha hb hc
theorem ev_fdiv (ha : EV X a δ (.int i)) (hb : EV X b δ (.int j)) (hc : 0 < j ∧ j < 1073741824) : EV X (.BinOp a .FloorDiv b pos) δ (.int (i / j)) := ev_opC (g := fun i j => i / j) (C := CDiv) op_fdiv ha hb hc
theorem ev_pow (ha : EV X a δ (.int i)) (hb : EV X b δ (.int j)) (hc : 0 ≤ j ∧ j ≤ 1000000 ∧ i.natAbs < 2 ^ 64) : EV X (.BinOp a .Pow b pos) δ (.int (i ^ j.toNat)) := ev_opC (g := fun i j => i ^ j.toNat) (C := CPow) op_pow ha hb hc
theorem ev_neg (ha : EV X a δ (.int i)) : EV X (.UnaryOp .USub a pos) δ (.int (-i)) :=
  EV_imp (pe_un un_neg ha.run) fun _ H Q ⟨S, q⟩ => ⟨S, fun v H1 s1 r1 => ⟨i, by unfold Is at r1; exact r1, q _ H1 s1 (by unfold Is; rfl)⟩⟩

/-! ### comparisons -/
theorem ev_cmpI {op : CmpOp} {g : Int → Int → Bool} (ho : OpR X (compareOp op) (rI0 fun i j => .bl (g i j))) (ha : EV X a δ (.int i)) (hb : EV X b δ (.int j)) (hm : behindInMarks op b = false) : EV X (.Compare a [op] [b] pos) δ (.bl (g i j)) :=
  EV_imp (pe_cmpR ho ha.run hb.run hm) fun _ H Q ⟨S, q⟩ => ⟨S, fun v H1 s1 r1 => ⟨S.mono s1, fun w H2 s2 r2 => ⟨i, j, by unfold Is at r1; exact r1, by unfold Is at r2; exact r2, q _ H2 (s1.trans s2) (by unfold Is; rfl)⟩⟩⟩
theorem ev_lt (ha : EV X a δ (.int i)) (hb : EV X b δ (.int j)) : EV X (.Compare a [.Lt] [b] pos) δ (.bl (decide (i < j))) := ev_cmpI (g := fun i j => decide (i < j)) op_lt ha hb (nomark b)
theorem ev_le (ha : EV X a δ (.int i)) (hb : EV X b δ (.int j)) : EV X (.Compare a [.LtE] [b] pos) δ (.bl (decide (i ≤ j))) := ev_cmpI (g := fun i j => decide (i ≤ j)) op_le ha hb (nomark b)
theorem ev_gt (ha : EV X a δ (.int i)) (hb : EV X b δ (.int j)) : EV X (.Compare a [.Gt] [b] pos) δ (.bl (decide (j < i))) := ev_cmpI (g := fun i j => decide (j < i)) op_gt ha hb (nomark b)
theorem ev_ge (ha : EV X a δ (.int i)) (hb : EV X b δ (.int j)) : EV X (.Compare a [.GtE] [b] pos) δ (.bl (decide (j ≤ i))) := ev_cmpI (g := fun i j => decide (j ≤ i)) op_ge ha hb (nomark b)

mutual
def toPy : D → PyData
  | .non => .none
  | .bl b => .bool b
  | .int i => .int i
  | .str x => .str x
  | .tup ds => .tuple (toPyL ds)
  | .lst ds => .list (toPyL ds)
  | .obj _ _ _ => .dict []
  | .adr _ => .dict []
def toPyL : List D → List PyData
  | [] => []
  | d :: ds => toPy d :: toPyL ds
end
mutual
theorem Is.reads {pins : List (Addr × Obj)} {σ : L2.St} {H : Hp} {s : Shared} (I : Inv X pins σ H s) : ∀ (d : D) {x : V} {u : Value}, Is X.K H d x → RelV x u → (toPy d).canLay0 = true → ∃ as, Reads s.heap u (toPy d) as
  | .non, _, _, h, r, _ => by unfold Is at h; subst h; cases (show _ = Value.none from r); exact ⟨_, .none⟩
  | .bl b, _, _, h, r, _ => by unfold Is at h; subst h; cases (show _ = Value.bool b from r); exact ⟨_, .bool b⟩
  | .int i, _, _, h, r, _ => by unfold Is at h; subst h; obtain ⟨t, rfl⟩ := (show ∃ t, _ = Value.int i t from r); exact ⟨_, .int i t⟩
  | .str x, _, _, h, r, _ => by unfold Is at h; subst h; obtain ⟨t, rfl⟩ := (show ∃ t, _ = Value.str x t from r); exact ⟨_, .str x t⟩
  | .tup ds, _, _, h, r, c => by
    unfold Is at h
    obtain ⟨a, xs, rfl, q, l⟩ := h
    cases (show _ = Value.ref a from r)
    obtain ⟨its, rv, ⟨o, h1, h2, n, h3⟩, _⟩ := I.tuple q
    obtain ⟨as, ra⟩ := IsL.reads I ds l rv (by simpa [toPy, PyData.canLay0] using c)
    exact ⟨as, by unfold toPy; exact .tuple h1 h2 h3 (by simpa using ra)⟩
  | .lst ds, _, _, h, r, c => by
    unfold Is at h
    obtain ⟨a, xs, rfl, q, l⟩ := h
    cases (show _ = Value.ref a from r)
    obtain ⟨its, rv, pl, _⟩ := I.list q
    obtain ⟨as, ra⟩ := IsL.reads I ds l rv (by simpa [toPy, PyData.canLay0] using c)
    obtain ⟨o, n, h1, h2, h3, h4⟩ := pl
    exact ⟨a :: as, by unfold toPy; exact .list h1 h2 h4 (by simpa using ra)⟩
  | .obj _ _ _, _, _, _, _, c => by simp [toPy, PyData.canLay0] at c
  | .adr _, _, _, _, _, c => by simp [toPy, PyData.canLay0] at c
theorem IsL.reads {pins : List (Addr × Obj)} {σ : L2.St} {H : Hp} {s : Shared} (I : Inv X pins σ H s) : ∀ (ds : List D) {xs : List V} {us : List Value}, IsL X.K H ds xs → Vals xs us → PyData.canLayAll0 (toPyL ds) = true → ∃ as, ReadsAll s.heap us (toPyL ds) as
  | [], _, _, h, r, _ => by unfold IsL at h; subst h; cases r; exact ⟨_, .nil⟩
  | d :: ds, _, _, h, r, c => by
    unfold IsL at h
    obtain ⟨v, z, rfl, q, l⟩ := h
    cases r with
    | cons r1 r2 =>
      rw [toPyL, PyData.canLayAll0, Bool.and_eq_true] at c
      obtain ⟨as, ra⟩ := Is.reads I d q r1 c.1
      obtain ⟨bs, rb⟩ := IsL.reads I ds l r2 c.2
      exact ⟨as ++ bs, by unfold toPyL; exact .cons ra rb⟩
end
def shD (d : D) : Bool := SeqAt.shaped (toPy d)
def eqD (d1 d2 : D) : Bool := PyData.eqv (toPy d1) (toPy d2)
def rEqD (K : PySem.W.Frag) (neg : Bool) (d1 d2 : D) : R2 := fun x y H Q => Is K H d1 x ∧ Is K H d2 y ∧ shD d1 = true ∧ shD d2 = true ∧ Q (.bl (if neg then !eqD d1 d2 else eqD d1 d2)) H
theorem op_eqD {k : Nat} (hr : Room k X.A) : OpR X (compareOp .Eq) (rEqD X.K false d1 d2) := by
  intro pins s σ H x y v u Q I rx ry ⟨h1, h2, c1, c2, q⟩
  obtain ⟨as, ra⟩ := Is.reads I d1 h1 rx (SeqAt.canLay_of_shaped c1)
  obtain ⟨bs, rb⟩ := Is.reads I d2 h2 ry (SeqAt.canLay_of_shaped c2)
  exact SeqAt.compareEq_shaped ra rb c1 c2 hr.units ⟨.bl (eqD d1 d2), H, I, rfl, q⟩
theorem op_neD {k : Nat} (hr : Room k X.A) : OpR X (compareOp .NotEq) (rEqD X.K true d1 d2) := by
  intro pins s σ H x y v u Q I rx ry ⟨h1, h2, c1, c2, q⟩
  obtain ⟨as, ra⟩ := Is.reads I d1 h1 rx (SeqAt.canLay_of_shaped c1)
  obtain ⟨bs, rb⟩ := Is.reads I d2 h2 ry (SeqAt.canLay_of_shaped c2)
  exact SeqAt.compareNe_shaped ra rb c1 c2 hr.units ⟨.bl (!eqD d1 d2), H, I, rfl, q⟩
theorem ev_eq {k : Nat} (hr : Room k X.A) (ha : EV X a δ d1) (hb : EV X b δ d2) (c1 : shD d1 = true := by rfl) (c2 : shD d2 = true := by rfl) : EV X (.Compare a [.Eq] [b] pos) δ (.bl (eqD d1 d2)) :=
  EV_imp (pe_cmpR (op_eqD hr) ha.run hb.run (nomark b)) fun _ H Q ⟨S, q⟩ => ⟨S, fun v H1 s1 r1 => ⟨S.mono s1, fun w H2 s2 r2 => ⟨Is.mono s2 d1 r1, r2, c1, c2, q _ H2 (s1.trans s2) (by unfold Is; rfl)⟩⟩⟩
theorem ev_ne {k : Nat} (hr : Room k X.A) (ha : EV X a δ d1) (hb : EV X b δ d2) (c1 : shD d1 = true := by rfl) (c2 : shD d2 = true := by rfl) : EV X (.Compare a [.NotEq] [b] pos) δ (.bl (!eqD d1 d2)) :=
  EV_imp (pe_cmpR (op_neD hr) ha.run hb.run (nomark b)) fun _ H Q ⟨S, q⟩ => ⟨S, fun v H1 s1 r1 => ⟨S.mono s1, fun w H2 s2 r2 => ⟨Is.mono s2 d1 r1, r2, c1, c2, q _ H2 (s1.trans s2) (by unfold Is; rfl)⟩⟩⟩
/-- i op j op k -/
theorem ev_chain {op op' : CmpOp} {g g' : Int → Int → Bool} {k : Int} (ho : OpR X (compareOp op) (rI0 fun i j => .bl (g i j))) (ho' : OpR X (compareOp op') (rI0 fun i j => .bl (g' i j))) (ha : EV X a δ (.int i)) (hb : EV X b δ (.int j)) (hc : EV X c δ (.int k))
    (hm : lastMarks [op, op'] [b, c] = false) : EV X (.Compare a [op, op'] [b, c] pos) δ (.bl (g i j && g' j k)) :=
  EV_imp (pe_chain ho ho' ha.run hb.run hc.run hm) fun _ H Q ⟨S, q⟩ => ⟨S, fun v H1 s1 r1 => ⟨S.mono s1, fun w H2 s2 r2 => by
    unfold Is at r1 r2
    subst r1 r2
    refine ⟨i, j, rfl, rfl, _, rfl, ?_⟩
    cases hg : g i j with
    | false =>
      refine iteF ?_
      have := q (.bl false) H2 (s1.trans s2)
      rw [hg] at this
      exact this (by unfold Is; rfl)
    | true =>
      refine iteT ⟨(S.mono s1).mono s2, fun z H3 s3 r3 => ?_⟩
      unfold Is at r3
      subst r3
      refine ⟨j, k, rfl, rfl, ?_⟩
      have := q (.bl (g' j k)) H3 ((s1.trans s2).trans s3)
      rw [hg] at this
      exact this (by unfold Is; rfl)⟩⟩

/-! ### tests -/
theorem et_val (h : EV X e δ (.bl p)) (he : ∀ whole, isTrue e X.env whole = (do let v ← whole; standAt e.pos; holding [v] (truthy v)) := by intro _; rfl) : ET X e δ p :=
  ET_imp (pt_val h.run he) fun _ H Q ⟨S, q⟩ => ⟨S, fun v H1 s1 r1 => ⟨p, by unfold Is at r1; exact r1, q H1 s1⟩⟩
theorem et_cmpI {op : CmpOp} {g : Int → Int → Bool} (ho : OpR X (compareOp op) (rI0 fun i j => .bl (g i j))) (ha : EV X a δ (.int i)) (hb : EV X b δ (.int j)) (hm : behindInMarks op b = false) : ET X (.Compare a [op] [b] pos) δ (g i j) :=
  ET_imp (pt_cmpR ho ha.run hb.run hm) fun _ H Q ⟨S, q⟩ => ⟨S, fun v H1 s1 r1 => ⟨S.mono s1, fun w H2 s2 r2 => ⟨i, j, by unfold Is at r1; exact r1, by unfold Is at r2; exact r2, _, rfl, q H2 (s1.trans s2)⟩⟩⟩
theorem et_lt (ha : EV X a δ (.int i)) (hb : EV X b δ (.int j)) : ET X (.Compare a [.Lt] [b] pos) δ (decide (i < j)) := et_cmpI (g := fun i j => decide (i < j)) op_lt ha hb (nomark b)
theorem et_le (ha : EV X a δ (.int i)) (hb : EV X b δ (.int j)) : ET X (.Compare a [.LtE] [b] pos) δ (decide (i ≤ j)) := et_cmpI (g := fun i j => decide (i ≤ j)) op_le ha hb (nomark b)
theorem et_gt (ha : EV X a δ (.int i)) (hb : EV X b δ (.int j)) : ET X (.Compare a [.Gt] [b] pos) δ (decide (j < i)) := et_cmpI (g := fun i j => decide (j < i)) op_gt ha hb (nomark b)
theorem et_ge (ha : EV X a δ (.int i)) (hb : EV X b δ (.int j)) : ET X (.Compare a [.GtE] [b] pos) δ (decide (j ≤ i)) := et_cmpI (g := fun i j => decide (j ≤ i)) op_ge ha hb (nomark b)
theorem et_eq {k : Nat} (hr : Room k X.A) (ha : EV X a δ d1) (hb : EV X b δ d2) (c1 : shD d1 = true := by rfl) (c2 : shD d2 = true := by rfl) : ET X (.Compare a [.Eq] [b] pos) δ (eqD d1 d2) :=
  ET_imp (pt_cmpR (op_eqD hr) ha.run hb.run (nomark b)) fun _ H Q ⟨S, q⟩ => ⟨S, fun v H1 s1 r1 => ⟨S.mono s1, fun w H2 s2 r2 => ⟨Is.mono s2 d1 r1, r2, c1, c2, _, rfl, q H2 (s1.trans s2)⟩⟩⟩
theorem et_ne {k : Nat} (hr : Room k X.A) (ha : EV X a δ d1) (hb : EV X b δ d2) (c1 : shD d1 = true := by rfl) (c2 : shD d2 = true := by rfl) : ET X (.Compare a [.NotEq] [b] pos) δ (!eqD d1 d2) :=
  ET_imp (pt_cmpR (op_neD hr) ha.run hb.run (nomark b)) fun _ H Q ⟨S, q⟩ => ⟨S, fun v H1 s1 r1 => ⟨S.mono s1, fun w H2 s2 r2 => ⟨Is.mono s2 d1 r1, r2, c1, c2, _, rfl, q H2 (s1.trans s2)⟩⟩⟩
theorem et_not (h : ET X e δ p) : ET X (.UnaryOp .Not e pos) δ (!p) := ET_imp (pt_not h.run) fun _ H Q ⟨S, q⟩ => ⟨S, fun H1 s1 => q H1 s1⟩
theorem EW.et (h : EW X e δ p) : ET X e δ p := ⟨PW.pt h.run⟩
theorem ew_and1 (h : ET X a δ p) : EW X (.BoolOp .And [a] pos) δ p := ⟨pw_and1 h.run⟩
theorem ew_or1 (h : ET X a δ p) : EW X (.BoolOp .Or [a] pos) δ p := ⟨pw_or1 h.run⟩
theorem ew_and {pos : Pos} {r : List Expr} (ha : ET X a δ p) (hb : p = true → EW X (.BoolOp .And (b :: r) pos) δ q) : EW X (.BoolOp .And (a :: b :: r) pos) δ (p && q) := by
  cases p with
  | false =>
    have hb' : PW X (.BoolOp .And (b :: r) pos) (fun _ _ _ => False) := fun _ _ _ _ _ _ _ h => h.elim
    exact EW_imp (pw_and ha.run hb') fun _ H Q ⟨S, k⟩ => ⟨S, fun H1 s1 => iteF (k H1 s1)⟩
  | true => exact EW_imp (pw_and ha.run (hb rfl).run) fun _ H Q ⟨S, k⟩ => ⟨S, fun H1 s1 => iteT ⟨S.mono s1, fun H2 s2 => k H2 (s1.trans s2)⟩⟩
theorem ew_or {pos : Pos} {r : List Expr} (ha : ET X a δ p) (hb : p = false → EW X (.BoolOp .Or (b :: r) pos) δ q) : EW X (.BoolOp .Or (a :: b :: r) pos) δ (p || q) := by
  cases p with
  | true =>
    have hb' : PW X (.BoolOp .Or (b :: r) pos) (fun _ _ _ => False) := fun _ _ _ _ _ _ _ h => h.elim
    exact EW_imp (pw_or ha.run hb') fun _ H Q ⟨S, k⟩ => ⟨S, fun H1 s1 => iteT (k H1 s1)⟩
  | false => exact EW_imp (pw_or ha.run (hb rfl).run) fun _ H Q ⟨S, k⟩ => ⟨S, fun H1 s1 => iteF ⟨S.mono s1, fun H2 s2 => k H2 (s1.trans s2)⟩⟩
theorem ev_and1 {op} (h : EV X a δ d) : EV X (.BoolOp op [a] pos) δ d := ⟨pe_one h.run⟩
theorem ev_and {r : List Expr} (ha : EV X a δ (.bl p)) (hb : p = true → EV X (.BoolOp .And (b :: r) pos) δ (.bl q)) : EV X (.BoolOp .And (a :: b :: r) pos) δ (.bl (p && q)) := by
  cases p with
  | false =>
    have hb' : PE X (.BoolOp .And (b :: r) pos) (fun _ _ _ => False) := fun _ _ _ _ _ _ h => h.elim
    exact EV_imp (pe_and ha.run hb') fun _ H Q ⟨S, k⟩ => ⟨S, fun v H1 s1 r1 => ⟨false, by unfold Is at r1; exact r1, iteF (k _ H1 s1 (by unfold Is; rfl))⟩⟩
  | true => exact EV_imp (pe_and ha.run (hb rfl).run) fun _ H Q ⟨S, k⟩ => ⟨S, fun v H1 s1 r1 => ⟨true, by unfold Is at r1; exact r1, iteT ⟨S.mono s1, fun v2 H2 s2 r2 => k _ H2 (s1.trans s2) r2⟩⟩⟩
theorem ev_or {r : List Expr} (ha : EV X a δ (.bl p)) (hb : p = false → EV X (.BoolOp .Or (b :: r) pos) δ (.bl q)) : EV X (.BoolOp .Or (a :: b :: r) pos) δ (.bl (p || q)) := by
  cases p with
  | true =>
    have hb' : PE X (.BoolOp .Or (b :: r) pos) (fun _ _ _ => False) := fun _ _ _ _ _ _ h => h.elim
    exact EV_imp (pe_or ha.run hb') fun _ H Q ⟨S, k⟩ => ⟨S, fun v H1 s1 r1 => ⟨true, by unfold Is at r1; exact r1, iteT (k _ H1 s1 (by unfold Is; rfl))⟩⟩
  | false => exact EV_imp (pe_or ha.run (hb rfl).run) fun _ H Q ⟨S, k⟩ => ⟨S, fun v H1 s1 r1 => ⟨false, by unfold Is at r1; exact r1, iteF ⟨S.mono s1, fun v2 H2 s2 r2 => k _ H2 (s1.trans s2) r2⟩⟩⟩
theorem ev_not (ha : EV X a δ (.bl p)) : EV X (.UnaryOp .Not a pos) δ (.bl (!p)) :=
  EV_imp (pe_not ha.run) fun _ H Q ⟨S, k⟩ => ⟨S, fun v H1 s1 r1 => ⟨p, by unfold Is at r1; exact r1, k _ H1 s1 (by unfold Is; rfl)⟩⟩
theorem ev_ifE (hc : ET X c δ p) (ha : p = true → EV X a δ d1) (hb : p = false → EV X b δ d2) : EV X (.IfExp c a b pos) δ (if p = true then d1 else d2) := by
  have no : ∀ e, PE X e (fun _ _ _ => False) := fun _ _ _ _ _ _ _ h => h.elim
  cases p with
  | true => exact EV_imp (pe_ifExp hc.run (ha rfl).run (no b)) fun _ H Q ⟨S, k⟩ => ⟨S, fun H1 s1 => iteT ⟨S.mono s1, fun v H2 s2 r2 => k v H2 (s1.trans s2) r2⟩⟩
  | false => exact EV_imp (pe_ifExp hc.run (no a) (hb rfl).run) fun _ H Q ⟨S, k⟩ => ⟨S, fun H1 s1 => iteF ⟨S.mono s1, fun v H2 s2 r2 => k v H2 (s1.trans s2) r2⟩⟩

/-! ### items, fields -/
theorem ev_ixT (ha : EV X a δ (.tup ds)) (hb : EV X b δ (.int i)) (hd : atI ds i = some d) (hs : PlainIx b := by intro _ _; rfl) : EV X (.Subscript a b pos) δ d :=
  EV_imp (pe_ix ix_tup ha.run hb.run hs) fun _ H Q ⟨S, k⟩ => ⟨S, fun v H1 s1 r1 => ⟨S.mono s1, fun w H2 s2 r2 => by
    unfold Is at r1 r2
    obtain ⟨p, xs, rfl, q, l⟩ := r1
    obtain ⟨z, e, r⟩ := (IsL.mono s2 ds l).at hd
    exact ⟨p, xs, i, z, rfl, r2, seqT s2 q, e, k z H2 (s1.trans s2) r⟩⟩⟩
theorem ev_ixL (ha : EV X a δ (.lst ds)) (hb : EV X b δ (.int i)) (hd : atI ds i = some d) (hs : PlainIx b := by intro _ _; rfl) : EV X (.Subscript a b pos) δ d :=
  EV_imp (pe_ix ix_list ha.run hb.run hs) fun _ H Q ⟨S, k⟩ => ⟨S, fun v H1 s1 r1 => ⟨S.mono s1, fun w H2 s2 r2 => by
    unfold Is at r1 r2
    obtain ⟨p, xs, rfl, q, l⟩ := r1
    obtain ⟨z, e, r⟩ := (IsL.mono s2 ds l).at hd
    exact ⟨p, xs, i, z, rfl, r2, s2.seq q, e, k z H2 (s1.trans s2) r⟩⟩⟩
theorem ev_fld {C : Addr} {ns : List Str} {f : Str} (ha : EV X a δ (.obj C ns ds)) (cl : Cls X.K C) (na : NoAttr X.K C f) (hd : (ns.zip ds).lookup f = some d) (hb : attributeBase a f X.env (eval a X.env) = eval a X.env := by rfl) : EV X (.Attribute a f pos) δ d :=
  EV_imp (pe_fld ha.run hb) fun _ H Q ⟨S, k⟩ => ⟨S, fun v H1 s1 r1 => by
    unfold Is at r1
    obtain ⟨p, dx, vs, rfl, q, l, r⟩ := r1
    obtain ⟨z, e, rz⟩ := zip_look l r hd
    exact ⟨p, C, dx, _, z, rfl, q, cl, na, e, k z H1 s1 rz⟩⟩

/-! ### statements -/
theorem ss_nil : SS X [] δ (.nx δ) := SS_imp pss_nil fun D σ H ⟨S, k⟩ => k σ H (Same.refl H) S
theorem ss_cons (h1 : ST X st δ (.nx δ1)) (h2 : SS X rest δ1 o) : SS X (st :: rest) δ o :=
  SS_imp (pss_cons h1.run h2.run) fun D σ H ⟨S, k⟩ => ⟨S, fun σ' H' s' S' => ⟨S', k.mono s'⟩⟩
theorem ss_ret (h1 : ST X st δ (.rt d)) : SS X (st :: rest) δ (.rt d) := SS_imp (pss_cons h1.run pss_never) fun D σ H ⟨S, k⟩ => ⟨S, k⟩
theorem ss_bk (h1 : ST X st δ (.bk δ1)) : SS X (st :: rest) δ (.bk δ1) := SS_imp (pss_cons h1.run pss_never) fun D σ H ⟨S, k⟩ => ⟨S, k⟩
theorem ss_ct (h1 : ST X st δ (.ct δ1)) : SS X (st :: rest) δ (.ct δ1) := SS_imp (pss_cons h1.run pss_never) fun D σ H ⟨S, k⟩ => ⟨S, k⟩
theorem ss_one (h1 : ST X st δ o) : SS X [st] δ o := SS_imp (pss_one h1.run) fun D σ H h => h
theorem st_pass : ST X (.Pass pos) δ (.nx δ) := ST_imp ps_pass fun D σ H ⟨S, k⟩ => k σ H (Same.refl H) S
theorem st_break : ST X (.Break pos) δ (.bk δ) := ST_imp ps_break fun D σ H ⟨S, k⟩ => k σ H (Same.refl H) S
theorem st_cont : ST X (.Continue pos) δ (.ct δ) := ST_imp ps_continue fun D σ H ⟨S, k⟩ => k σ H (Same.refl H) S
theorem st_ret (h : EV X e δ d) : ST X (.Return (some e) pos) δ (.rt d) := ST_imp (ps_ret h.run) fun D σ H ⟨S, k⟩ => ⟨S, fun v H1 s1 r1 => k v H1 s1 r1⟩
theorem st_set (k : Nat) {x : Str} (h : EV X e δ d) (nd : X.N.Nodup) (hi : X.N[k]? = some x := by rfl) (hx : Loc X.env.scope x := by first | exact Or.inl rfl | exact Or.inr rfl)
    (hs : swapsWith e (some (.Name x pos')) pos.line X.env = pure false := by exact swaps_of rfl) (hf : X.fn x = true ∨ X.env.scope.names.lookup x = some .local := by first | exact .inl rfl | exact .inr rfl) :
    ST X (.Assign [.Name x pos'] e pos) δ (.nx (δ.set k (some d))) :=
  ST_imp (ps_set nd hi hx h.run hs hf) fun D σ H ⟨S, g⟩ => ⟨S, fun v H1 s1 r1 => g _ H1 s1 ((S.mono s1).set k r1)⟩
theorem st_expr (h : EV X e δ d) (hs : swapsWith e none pos.line X.env = pure false := by exact swaps_of rfl) : ST X (.Expr e pos) δ (.nx δ) :=
  ST_imp (ps_expr h.run hs) fun D σ H ⟨S, g⟩ => ⟨S, fun v H1 s1 r1 => g σ H1 s1 (S.mono s1)⟩
theorem st_if (hc : ET X c δ p) (ht : p = true → SS X th δ o) (hf : p = false → SS X el δ o) : ST X (.If c th el pos) δ o := by
  cases p with
  | true => exact ST_imp (ps_if hc.run (ht rfl).run pss_never) fun D σ H ⟨S, g⟩ => ⟨S, fun H1 s1 => iteT ⟨S.mono s1, g.mono s1⟩⟩
  | false => exact ST_imp (ps_if hc.run pss_never (hf rfl).run) fun D σ H ⟨S, g⟩ => ⟨S, fun H1 s1 => iteF ⟨S.mono s1, g.mono s1⟩⟩
theorem st_ifT (hc : ET X c δ p) (hp : p = true) (ht : SS X th δ o) : ST X (.If c th el pos) δ o := st_if hc (fun _ => ht) fun h => by rw [hp] at h; cases h
theorem st_ifF (hc : ET X c δ p) (hp : p = false) (ht : SS X el δ o) : ST X (.If c th el pos) δ o := st_if hc (fun h => by rw [hp] at h; cases h) fun _ => ht
/-- if c: .. return d1, then the rest returns d2 -/
theorem ss_ifR (hc : ET X c δ p) (ht : p = true → SS X th δ (.rt d1)) (hf : p = false → SS X rest δ (.rt d2)) : SS X (.If c th [] pos :: rest) δ (.rt (if p = true then d1 else d2)) := by
  cases p with
  | true => exact ss_ret (st_ifT hc rfl (ht rfl))
  | false => exact ss_cons (st_ifF hc rfl ss_nil) (hf rfl)
theorem ss_if2 (hc : ET X c δ p) (ht : p = true → SS X th δ (.rt d)) (hf : p = false → SS X rest δ (.rt d)) : SS X (.If c th [] pos :: rest) δ (.rt d) := by
  cases p with
  | true => exact ss_ret (st_ifT hc rfl (ht rfl))
  | false => exact ss_cons (st_ifF hc rfl ss_nil) (hf rfl)
/-- .. where the test is false -/
theorem ss_skip (hc : ET X c δ p) (hp : p = false) (h : SS X rest δ o) : SS X (.If c th [] pos :: rest) δ o := ss_cons (st_ifF hc hp ss_nil) h
theorem set_same {k : Nat} (h : δ[k]? = some (some d)) : δ.set k (some d) = δ := by
  apply List.ext_getElem?
  intro n
  by_cases c : k = n
  · subst c
    rw [List.getElem?_set_self', h]
    rfl
  · rw [List.getElem?_set_ne c]
/-- if c: x = .. -/
theorem st_ifS (k : Nat) (h0 : δ[k]? = some (some d2)) (hc : ET X c δ p) (ht : p = true → SS X th δ (.nx (δ.set k (some d1)))) : ST X (.If c th [] pos) δ (.nx (δ.set k (some (if p = true then d1 else d2)))) := by
  cases p with
  | true => exact st_ifT hc rfl (ht rfl)
  | false => exact st_ifF hc rfl (by rw [if_neg Bool.false_ne_true, set_same h0]; exact ss_nil)
theorem st_ifS2 (k l : Nat) {d3 d4 : D} (hkl : k ≠ l) (h0 : δ[k]? = some (some d2)) (h1 : δ[l]? = some (some d4)) (hc : ET X c δ p) (ht : p = true → SS X th δ (.nx ((δ.set k (some d1)).set l (some d3)))) :
    ST X (.If c th [] pos) δ (.nx ((δ.set k (some (if p = true then d1 else d2))).set l (some (if p = true then d3 else d4)))) := by
  cases p with
  | true => exact st_ifT hc rfl (ht rfl)
  | false =>
    refine st_ifF hc rfl ?_
    rw [if_neg Bool.false_ne_true, if_neg Bool.false_ne_true, set_same h0, set_same h1]
    exact ss_nil
theorem st_ifSI (k : Nat) {x y : Int} (h0 : δ[k]? = some (some (.int y))) (hc : ET X c δ p) (ht : p = true → SS X th δ (.nx (δ.set k (some (.int x))))) : ST X (.If c th [] pos) δ (.nx (δ.set k (some (.int (if p = true then x else y))))) := by
  cases p with
  | true => exact st_ifT hc rfl (ht rfl)
  | false => exact st_ifF hc rfl (by rw [if_neg Bool.false_ne_true, set_same h0]; exact ss_nil)
theorem st_ifSI2 (k l : Nat) {x y x' y' : Int} (hkl : k ≠ l) (h0 : δ[k]? = some (some (.int y))) (h1 : δ[l]? = some (some (.int y'))) (hc : ET X c δ p) (ht : p = true → SS X th δ (.nx ((δ.set k (some (.int x))).set l (some (.int x'))))) :
    ST X (.If c th [] pos) δ (.nx ((δ.set k (some (.int (if p = true then x else y)))).set l (some (.int (if p = true then x' else y'))))) := by
  cases p with
  | true => exact st_ifT hc rfl (ht rfl)
  | false =>
    refine st_ifF hc rfl ?_
    rw [if_neg Bool.false_ne_true, if_neg Bool.false_ne_true, set_same h0, set_same h1]
    exact ss_nil
theorem st_ifSN (k : Nat) {x y x' y' : Int} (h0 : δ[k]? = some (some (.tup [.int y, .int y']))) (hc : ET X c δ p) (ht : p = true → SS X th δ (.nx (δ.set k (some (.tup [.int x, .int x']))))) :
    ST X (.If c th [] pos) δ (.nx (δ.set k (some (.tup [.int (if p = true then x else y), .int (if p = true then x' else y')])))) := by
  cases p with
  | true => exact st_ifT hc rfl (ht rfl)
  | false => exact st_ifF hc rfl (by rw [if_neg Bool.false_ne_true, if_neg Bool.false_ne_true, set_same h0]; exact ss_nil)
/-- .. and the number is forgotten but for P -/
theorem ss_ifgen (k : Nat) {x y : Int} (h0 : δ[k]? = some (some (.int y))) (hc : ET X c δ p) (ht : p = true → SS X th δ (.nx (δ.set k (some (.int x))))) (Pn : Int → Prop) (hx : Pn x) (hy : Pn y) (h : ∀ z, Pn z → SS X rest (δ.set k (some (.int z))) o) :
    SS X (.If c th [] pos :: rest) δ o := ss_cons (st_ifSI k h0 hc ht) (h _ (by split <;> assumption))
/-- two numbers that an if may change, forgotten but for P -/
theorem ss_ifgAB (k l : Nat) {x0 y0 : Int} (h0 : δ[k]? = some (some (.int x0))) (h1 : δ[l]? = some (some (.int y0))) (hc : ET X c δ p) (Pn : Int → Int → Prop)
    (ht : p = true → ∃ x y, Pn x y ∧ SS X th δ (.nx ((δ.set k (some (.int x))).set l (some (.int y))))) (hy : p = false → Pn x0 y0) (h : ∀ x y, Pn x y → SS X rest ((δ.set k (some (.int x))).set l (some (.int y))) o) : SS X (.If c th [] pos :: rest) δ o := by
  cases p with
  | true =>
    obtain ⟨x, y, hp, hs⟩ := ht rfl
    exact ss_cons (st_ifT hc rfl hs) (h x y hp)
  | false =>
    have q := h x0 y0 (hy rfl)
    rw [set_same h0, set_same h1] at q
    exact ss_cons (st_ifF hc rfl ss_nil) q
/-- a, b = a tuple of two -/
theorem st_unpack (k l : Nat) {x y : Str} {px py pt : Pos} {kt : Nat} (hc : X.calm = true) (nd : X.N.Nodup) (h : EV X e δ (.tup [d1, d2])) (hi : X.N[k]? = some x := by rfl) (hj : X.N[l]? = some y := by rfl)
    (hx : Loc X.env.scope x := by first | exact Or.inl rfl | exact Or.inr rfl) (hy : Loc X.env.scope y := by first | exact Or.inl rfl | exact Or.inr rfl)
    (hf : X.fn x = true ∨ X.env.scope.names.lookup x = some .local := by first | exact .inl rfl | exact .inr rfl) (hf' : X.fn y = true ∨ X.env.scope.names.lookup y = some .local := by first | exact .inl rfl | exact .inr rfl)
    (hs : swapsWithSole [.Tuple [.Name x px, .Name y py] kt pt] e pos.line X.env = pure false := by rfl) (hw : swappedStores [.Tuple [.Name x px, .Name y py] kt pt] e X.env = pure none := by rfl) :
    ST X (.Assign [.Tuple [.Name x px, .Name y py] kt pt] e pos) δ (.nx ((δ.set k (some d1)).set l (some d2))) :=
  ST_imp (ps_asg h.run (pg_tup (n := 2) hc (pgs_cons (pg_name nd hi hx hf) (pgs_cons (pg_name nd hj hy hf') pgs_nil))) hs hw) fun D σ H ⟨S, g⟩ => ⟨S, fun v H1 s1 r1 => by
    unfold Is at r1
    obtain ⟨p, xs, rfl, q, r⟩ := r1
    unfold IsL at r
    obtain ⟨v1, r2, rfl, q1, r⟩ := r
    unfold IsL at r
    obtain ⟨v2, r3, rfl, q2, r⟩ := r
    unfold IsL at r
    subst r
    exact ⟨p, _, rfl, q, rfl, v1, _, rfl, v2, _, rfl, rfl, g _ H1 s1 (((S.mono s1).set k q1).set l q2)⟩⟩
/-- a, b = x, y -/
theorem st_par (k l : Nat) {x y : Str} {px py pt pt2 : Pos} {kt k2 : Nat} (hkl : k ≠ l) (hc : X.calm = true) (nd : X.N.Nodup) (h : EA X [a, b] δ [d1, d2]) (hi : X.N[k]? = some x := by rfl) (hj : X.N[l]? = some y := by rfl)
    (hx : X.env.scope.names.lookup x = some .local := by rfl) (hy : X.env.scope.names.lookup y = some .local := by rfl)
    (hw : swappedStores [.Tuple [.Name x px, .Name y py] kt pt] (.Tuple [a, b] k2 pt2) X.env = pure (some [x, y]) := by rfl)
    (hs : swapsWithSole [.Tuple [.Name x px, .Name y py] kt pt] (.Tuple [a, b] k2 pt2) pos.line X.env = pure false := by rfl) :
    ST X (.Assign [.Tuple [.Name x px, .Name y py] kt pt] (.Tuple [a, b] k2 pt2) pos) δ (.nx ((δ.set k (some d1)).set l (some d2))) :=
  ST_imp (ps_par hc nd hi hj hkl hx hy h.run hw hs) fun D σ H ⟨S, g⟩ => ⟨S, fun vs H1 s1 r1 => by
    unfold IsL at r1
    obtain ⟨v1, r2, rfl, q1, r⟩ := r1
    unfold IsL at r
    obtain ⟨v2, r3, rfl, q2, r⟩ := r
    unfold IsL at r
    subst r
    exact ⟨v1, v2, rfl, g _ H1 s1 (((S.mono s1).set k q1).set l q2)⟩⟩

/-! ### loops -/
inductive ForL (X : Cx) (i : Nat) (body : List Stmt) : List D → Sd → O → Prop where
  | nil {δ : Sd} : ForL X i body [] δ (.nx δ)
  | cons {d : D} {ds : List D} {δ δ1 : Sd} {o : O} : SS X body (δ.set i (some d)) (.nx δ1) → ForL X i body ds δ1 o → ForL X i body (d :: ds) δ o
  | cont {d : D} {ds : List D} {δ δ1 : Sd} {o : O} : SS X body (δ.set i (some d)) (.ct δ1) → ForL X i body ds δ1 o → ForL X i body (d :: ds) δ o
  | brk {d : D} {ds : List D} {δ δ1 : Sd} : SS X body (δ.set i (some d)) (.bk δ1) → ForL X i body (d :: ds) δ (.nx δ1)
  | ret {d r : D} {ds : List D} {δ : Sd} : SS X body (δ.set i (some d)) (.rt r) → ForL X i body (d :: ds) δ (.rt r)
def tAny (X : Cx) (body : List Stmt) : TS := fun D σ H => ∃ δ o, SS X body δ o ∧ rS X.K δ o D σ H
theorem pss_any : PSs X body (tAny X body) := fun pins s σ H D I ⟨_, _, h, q⟩ => h.run pins s σ H D I q
/-- one turn of a for -/
theorem for_turn {k : Nat} {ds : List D} {D : Ends} {σ : L2.St} {H H1 : Hp} {v : V} {Nx : L2.St → Hp → Prop} {o : O} (hL : ForL X k body (d :: ds) δ o) (S : IsS X.K H δ σ) (r : Is X.K H d v) (s1 : Same H1 H) (g : rO X.K o D H1)
    (hN : ∀ σ' H' δ', Same H1 H' → Same H H' → IsS X.K H' δ' σ' → ForL X k body ds δ' o → Nx σ' H') : tAny X body { D with nx := Nx, ct := Nx, bk := D.nx } (σ.set k (some v)) H := by
  cases hL with
  | cons h1 h2 => exact ⟨_, _, h1, S.set k r, fun σ' H' s' S' => hN σ' H' _ (s1.trans s') s' S' h2⟩
  | cont h1 h2 => exact ⟨_, _, h1, S.set k r, fun σ' H' s' S' => hN σ' H' _ (s1.trans s') s' S' h2⟩
  | brk h1 => exact ⟨_, _, h1, S.set k r, fun σ' H' s' S' => g σ' H' (s1.trans s') S'⟩
  | ret h1 => exact ⟨_, _, h1, S.set k r, fun v' H' s' S' => g v' H' (s1.trans s') S'⟩
theorem for_end {k : Nat} {D : Ends} {σ : L2.St} {H H1 : Hp} (hL : ForL X k body [] δ o) (S : IsS X.K H δ σ) (s1 : Same H1 H) (g : rO X.K o D H1) : D.nx σ H := by
  cases hL
  exact g σ H s1 S
theorem st_forL (k : Nat) {x : Str} {p2 : Pos} (hp : PassesOwn (model X.prog X.w) X.A X.env X.xe) (hc : X.calm = true) (nd : X.N.Nodup) (hit : EV X e δ (.lst ds)) (hL : ForL X k body ds δ o) (hi : X.N[k]? = some x := by rfl)
    (hx : Loc X.env.scope x := by first | exact Or.inl rfl | exact Or.inr rfl) (hf : X.fn x = true ∨ X.env.scope.names.lookup x = some .local := by first | exact .inl rfl | exact .inr rfl)
    (hs : ∀ x, foldedSetIterable e X.env x = pure x := by intro _; rfl) : ST X (.For (.Name x p2) e body [] pos) δ o :=
  ST_imp (ps_for hp hc (pi_list hit.run) (pg_name nd hi hx hf) pss_any hs) fun D σ H ⟨S, g⟩ => ⟨S, fun v H1 s1 r1 => by
    unfold Is at r1
    obtain ⟨a, xs, rfl, q, l⟩ := r1
    refine ⟨a, rfl, ⟨xs, q⟩, for_list (xs := xs) (fun n σ' H' => Same H1 H' ∧ ∃ δ', IsS X.K H' δ' σ' ∧ ForL X k body (ds.drop n) δ' o) ⟨Same.refl H1, δ, S.mono s1, by simpa using hL⟩ (fun n σ' H' _ h => h.1.seq q) ?_ ?_⟩
    · rintro n y σ' H' hn ⟨s2, δ', S', hL'⟩
      obtain ⟨z, hz, rz⟩ := IsL.back (IsL.mono s2 ds l) hn
      have hlt : n < ds.length := (List.getElem?_eq_some_iff.mp hz).1
      have hdr : ds.drop n = z :: ds.drop (n + 1) := by
        rw [List.drop_eq_getElem_cons hlt]
        rw [List.getElem?_eq_getElem hlt] at hz
        rw [Option.some.inj hz]
      rw [hdr] at hL'
      exact for_turn hL' S' rz s2 (g.mono s1) fun σ2 H2 δ2 s3 _ S2 hL2 => ⟨s3, δ2, S2, hL2⟩
    · rintro σ' H' ⟨s2, δ', S', hL'⟩
      rw [← l.len, List.drop_length] at hL'
      exact for_end hL' S' s2 (g.mono s1)⟩
theorem st_forT (k : Nat) {x : Str} {p2 : Pos} (hp : PassesOwn (model X.prog X.w) X.A X.env X.xe) (hc : X.calm = true) (nd : X.N.Nodup) (hit : EV X e δ (.tup ds)) (hL : ForL X k body ds δ o) (hi : X.N[k]? = some x := by rfl)
    (hx : Loc X.env.scope x := by first | exact Or.inl rfl | exact Or.inr rfl) (hf : X.fn x = true ∨ X.env.scope.names.lookup x = some .local := by first | exact .inl rfl | exact .inr rfl)
    (hs : ∀ x, foldedSetIterable e X.env x = pure x := by intro _; rfl) : ST X (.For (.Name x p2) e body [] pos) δ o :=
  ST_imp (ps_for hp hc (pi_tup hit.run) (pg_name nd hi hx hf) pss_any hs) fun D σ H ⟨S, g⟩ => ⟨S, fun v H1 s1 r1 => by
    unfold Is at r1
    obtain ⟨a, xs, rfl, q, l⟩ := r1
    refine ⟨a, rfl, ⟨xs, q⟩, for_tup (xs := xs) (fun n σ' H' => Same H1 H' ∧ ∃ δ', IsS X.K H' δ' σ' ∧ ForL X k body (ds.drop n) δ' o) ⟨Same.refl H1, δ, S.mono s1, by simpa using hL⟩ (fun n σ' H' _ h => seqT h.1 q) ?_ ?_⟩
    · rintro n y σ' H' hn ⟨s2, δ', S', hL'⟩
      obtain ⟨z, hz, rz⟩ := IsL.back (IsL.mono s2 ds l) hn
      have hlt : n < ds.length := (List.getElem?_eq_some_iff.mp hz).1
      have hdr : ds.drop n = z :: ds.drop (n + 1) := by
        rw [List.drop_eq_getElem_cons hlt]
        rw [List.getElem?_eq_getElem hlt] at hz
        rw [Option.some.inj hz]
      rw [hdr] at hL'
      exact for_turn hL' S' rz s2 (g.mono s1) fun σ2 H2 δ2 s3 _ S2 hL2 => ⟨s3, δ2, S2, hL2⟩
    · rintro σ' H' ⟨s2, δ', S', hL'⟩
      rw [← l.len, List.drop_length] at hL'
      exact for_end hL' S' s2 (g.mono s1)⟩
def rangeD (n : Nat) : List D := (List.range n).map fun (k : Nat) => D.int (k : Int)
theorem rangeD_drop {n k : Nat} (h : k < n) : (rangeD n).drop k = D.int (k : Int) :: (rangeD n).drop (k + 1) := by
  have hl : k < (rangeD n).length := by simp [rangeD, h]
  rw [List.drop_eq_getElem_cons hl]
  simp [rangeD]
theorem st_forR (k : Nat) {x : Str} {p2 pr pc : Pos} {n : Int} (hp : PassesOwn (model X.prog X.w) X.A X.env X.xe) (hc : X.calm = true) (nd : X.N.Nodup) (hg : Gl X "range") (hm : X.mg "range" = none) (ha : EV X a δ (.int n)) (hn : -(2 ^ 62) ≤ n ∧ n < 2 ^ 62)
    (hL : ForL X k body (rangeD n.toNat) δ o) (hi : X.N[k]? = some x := by rfl)
    (hx : Loc X.env.scope x := by first | exact Or.inl rfl | exact Or.inr rfl) (hf : X.fn x = true ∨ X.env.scope.names.lookup x = some .local := by first | exact .inl rfl | exact .inr rfl) (hst : starEach [a] X.env = [(false, eval a X.env)] := by exact star_of rfl)
    (hs : ∀ x, foldedSetIterable (.Call (.Name "range" pr) [a] [] pc) X.env x = pure x := by intro _; rfl) : ST X (.For (.Name x p2) (.Call (.Name "range" pr) [a] [] pc) body [] pos) δ o :=
  ST_imp (ps_for hp hc (pi_range1 hg hm (ea_cons ha ea_nil hst).run hst) (pg_name nd hi hx hf) pss_any hs) fun D σ H ⟨S, g⟩ => ⟨S, fun vs H1 s1 r1 => by
    unfold IsL at r1
    obtain ⟨v1, r2, rfl, q1, r⟩ := r1
    unfold IsL at r
    subst r
    unfold Is at q1
    subst q1
    refine ⟨n, rfl, hn.1, hn.2, for_range (lo := 0) (n := n.toNat) (fun m σ' H' => Same H1 H' ∧ ∃ δ', IsS X.K H' δ' σ' ∧ ForL X k body ((rangeD n.toNat).drop m) δ' o) ⟨Same.refl H1, δ, S.mono s1, by simpa using hL⟩ ?_ ?_⟩
    · rintro m σ' H' hm' ⟨s2, δ', S', hL'⟩
      rw [rangeD_drop hm'] at hL'
      exact for_turn hL' S' (by unfold Is; rw [Int.zero_add]) s2 (g.mono s1) fun σ2 H2 δ2 s3 _ S2 hL2 => ⟨s3, δ2, S2, hL2⟩
    · rintro σ' H' ⟨s2, δ', S', hL'⟩
      have hl : (rangeD n.toNat).length = n.toNat := by simp [rangeD]
      rw [List.drop_eq_nil_of_le (by omega)] at hL'
      exact for_end hL' S' s2 (g.mono s1)⟩
theorem forR_fold {k : Nat} (g : Nat → Sd) (n : Nat) (h : ∀ m < n, SS X body ((g m).set k (some (.int (m : Int)))) (.nx (g (m + 1)))) : ForL X k body (rangeD n) (g 0) (.nx (g n)) := by
  have : ∀ j m : Nat, m + j = n → ForL X k body ((rangeD n).drop m) (g m) (.nx (g n)) := by
    intro j
    induction j with
    | zero =>
      intro m hm
      have e : m = n := by omega
      subst e
      have hl : (rangeD m).length = m := by simp [rangeD]
      rw [show (rangeD m).drop m = [] from List.drop_eq_nil_of_le (by omega)]
      exact .nil
    | succ j ih =>
      intro m hm
      rw [rangeD_drop (by omega)]
      exact .cons (h m (by omega)) (ih (m + 1) (by omega))
  simpa using this n 0 (by omega)
/-- the loop's own name behind k turns -/
def lastI : Nat → Option D
  | 0 => none
  | k + 1 => some (.int (k : Int))
inductive WhileR (X : Cx) (c : Expr) (body : List Stmt) : Nat → Sd → O → Prop where
  | stop {n : Nat} {δ : Sd} : ET X c δ false → WhileR X c body n δ (.nx δ)
  | turn {n : Nat} {δ δ1 : Sd} {o : O} : ET X c δ true → SS X body δ (.nx δ1) → WhileR X c body n δ1 o → WhileR X c body (n + 1) δ o
  | cont {n : Nat} {δ δ1 : Sd} {o : O} : ET X c δ true → SS X body δ (.ct δ1) → WhileR X c body n δ1 o → WhileR X c body (n + 1) δ o
  | brk {n : Nat} {δ δ1 : Sd} : ET X c δ true → SS X body δ (.bk δ1) → WhileR X c body (n + 1) δ (.nx δ1)
  | ret {n : Nat} {δ : Sd} {d : D} : ET X c δ true → SS X body δ (.rt d) → WhileR X c body (n + 1) δ (.rt d)
theorem st_while {n : Nat} (hp : PassesOwn (model X.prog X.w) X.A X.env X.xe) (h : WhileR X c body n δ o) : ST X (.While c body [] pos) δ o := by
  have hc : PT X c (fun σ H Q => ∃ δ p, ET X c δ p ∧ rT X.K δ p σ H Q) := fun pins s σ H Q I ⟨_, _, h, q⟩ => h.run pins s σ H Q I q
  refine ST_imp (ps_while hp hc (pss_any (body := body))) fun D σ H ⟨S, g⟩ => ?_
  refine ⟨fun m σ' H' => Same H H' ∧ ∃ δ', IsS X.K H' δ' σ' ∧ WhileR X c body m δ' o, ⟨n, Same.refl H, δ, S, h⟩, ?_⟩
  rintro m σ' H' ⟨s1, δ', S', w⟩
  cases w with
  | stop h1 => exact ⟨_, _, h1, S', fun H2 s2 => iteF (g σ' H2 (s1.trans s2) (S'.mono s2))⟩
  | turn h1 h2 h3 => exact ⟨_, _, h1, S', fun H2 s2 => iteT ⟨fun σ3 H3 => Same H H3 ∧ ∃ δ3, IsS X.K H3 δ3 σ3 ∧ WhileR X c body _ δ3 o, fun σ3 H3 h => ⟨_, Nat.lt_succ_self _, h⟩, _, _, h2, S'.mono s2, fun σ3 H3 s3 S3 => ⟨(s1.trans s2).trans s3, _, S3, h3⟩⟩⟩
  | cont h1 h2 h3 => exact ⟨_, _, h1, S', fun H2 s2 => iteT ⟨fun σ3 H3 => Same H H3 ∧ ∃ δ3, IsS X.K H3 δ3 σ3 ∧ WhileR X c body _ δ3 o, fun σ3 H3 h => ⟨_, Nat.lt_succ_self _, h⟩, _, _, h2, S'.mono s2, fun σ3 H3 s3 S3 => ⟨(s1.trans s2).trans s3, _, S3, h3⟩⟩⟩
  | brk h1 h2 => exact ⟨_, _, h1, S', fun H2 s2 => iteT ⟨fun σ3 H3 => False, fun _ _ h => h.elim, _, _, h2, S'.mono s2, fun σ3 H3 s3 S3 => g σ3 H3 ((s1.trans s2).trans s3) S3⟩⟩
  | ret h1 h2 => exact ⟨_, _, h1, S', fun H2 s2 => iteT ⟨fun σ3 H3 => False, fun _ _ h => h.elim, _, _, h2, S'.mono s2, fun v H3 s3 r3 => g v H3 ((s1.trans s2).trans s3) r3⟩⟩
end

/-! ### defs -/
def spD (K : PySem.W.Frag) (n : Nat) (R : List D → D → Prop) : Sp := fun vs H Q _ => ∃ ds d, ds.length = n ∧ IsL K H ds vs ∧ R ds d ∧ ∀ v H', Same H H' → Is K H' d v → Q v H'
/-- the def x of the module keeps R: its arguments ds, its answer d -/
structure DefD (P : Program) (w : World) (K : PySem.W.Frag) (mg : Str → Option Value) (base : Heap) (k : Nat) (x : Str) (ps : List Str) (R : List D → D → Prop) : Prop where
  ex : ∃ f fd, FnOk P w K mg base CX0 k f fd ps (spD K ps.length R) ∧ mg x = some (.ref f) ∧ PySem.W.keepIn K (.ref f) = true ∧ Binds K fd ps []
/-- the method m of the class at C -/
structure MethD (P : Program) (w : World) (K : PySem.W.Frag) (mg : Str → Option Value) (base : Heap) (k : Nat) (C : Addr) (m : Str) (ps : List Str) (R : List D → D → Prop) : Prop where
  cl : Cls K C
  ex : ∃ f fd, FnOk P w K mg base CX0 k f fd ps (spD K ps.length R) ∧ Meth K C m f ∧ Binds K fd ps []
def startD (N : List Str) (ds : List D) : Sd := ds.map some ++ List.replicate (N.length - ds.length) none
theorem start_is {K : PySem.W.Frag} {H : Hp} {N : List Str} {ds : List D} {vs : List V} (h : IsL K H ds vs) : IsS K H (startD N ds) (L2.start N vs) := by
  refine ⟨by simp [L2.start, startD, h.len], fun i d e => ?_⟩
  unfold startD at e
  unfold L2.start
  rcases Nat.lt_or_ge i ds.length with c | c
  · rw [List.getElem?_append_left (by simpa using c), List.getElem?_map] at e
    cases z : ds[i]? with
    | none => rw [z] at e; cases e
    | some y =>
      rw [z] at e
      cases e
      obtain ⟨v, e2, q⟩ := IsL.get h z
      refine ⟨v, ?_, q⟩
      rw [List.getElem?_append_left (by rw [List.length_map, ← h.len]; exact c), List.getElem?_map, e2]
      rfl
  · rw [List.getElem?_append_right (by simpa using c), List.getElem?_replicate] at e
    split at e <;> cases e
theorem def_ok {P : Program} {w : World} {K : PySem.W.Frag} {mg : Str → Option Value} {base : Heap} {x qual : Str} {st : Stmt} {f : Addr} {fd : FuncData} {N ps : List Str} {k : Nat} {R : List D → D → Prop} (F : Fun K x qual st f fd) (S : FnScope N ps (defScope st))
    (h : ∀ (cdv : Value) (A : Around) (outer : List Env) (s : Shared) (H : Hp) (E : XK) (ds : List D) (d : D), Room k (A.deeper (envOfC qual (defScope st) s.heap.objs.size f cdv)) → ds.length = ps.length → R ds d →
      SS (cxOf CX0 P w K mg base N qual (defScope st) f cdv A outer s H E).nox (defBody st) (startD N ds) (.rt d)) : FnOk P w K mg base CX0 (k + 1) f fd ps (spD K ps.length R) := by
  refine F.ok S (fun vs H Q E ⟨ds, d, hl, r, _⟩ => by rw [← r.len]; exact hl) (fun cdv A outer s H vs Q E hr ⟨ds, d, hl, r, hR, q⟩ => ?_)
  exact ⟨_, (h cdv A outer s H E ds d hr hl hR).run, start_is r, fun v H' s' r' => q v H' s' r'⟩
section
variable {X : Cx} {e a : Expr} {es : List Expr} {δ : Sd} {d : D} {ds fs : List D} {k : Nat} {x m : Str} {ps ns : List Str} {R : List D → D → Prop} {p pos apos : Pos} {C : Addr}
theorem ev_call (G : DefD X.prog X.w X.K X.mg X.base k x ps R) (hr : Room k X.A) (hg : Gl X x) (ha : EA X (e :: es) δ ds) (hl : ds.length = ps.length) (hR : R ds d) (hdb : (x == ("__debug__" : Str)) = false := by decide)
    (he : starEach (e :: es) X.env = (false, eval e X.env) :: starEach es X.env := by exact star_of rfl) (hpl : (backTo pos (starEach es X.env)).any (·.1) = false := by exact plain_of rfl) : EV X (.Call (.Name x p) (e :: es) [] pos) δ d := by
  obtain ⟨f, fd, F, hm, hk, hb⟩ := G.ex
  exact EV_imp (pe_call F hr hg hm hk hb .nil pass0 ha.run hdb he hpl) fun _ H Q ⟨S, q⟩ => ⟨S, fun vs H1 s1 r1 => by
    show spD X.K ps.length R (vs ++ []) H1 Q E0
    rw [List.append_nil]
    exact ⟨ds, d, hl, r1, hR, fun v H' s' r' => q v H' (s1.trans s') r'⟩⟩
theorem ev_meth {pl : Sem Bool} (G : MethD X.prog X.w X.K X.mg X.base k C m ps R) (hr : Room k X.A) (ho : EV X a δ (.obj C ns fs)) (ha : EA X (e :: es) δ ds) (hn : m ∉ ns) (hl : (D.obj C ns fs :: ds).length = ps.length) (hR : R (.obj C ns fs :: ds) d)
    (he : starEach (e :: es) X.env = (false, eval e X.env) :: starEach es X.env := by exact star_of rfl) (hpl : (backTo pos (starEach es X.env)).any (·.1) = false := by exact plain_of rfl)
    (ht : eval (.Call (.Attribute a m apos) (e :: es) [] pos) X.env = (do
      let ov ← eval a X.env
      standAt apos.atName
      let (f, first) ← holding [ov] (getMethod ov m pl)
      callWith pos f first (backTo pos (starEach (e :: es) X.env)) (backToKw pos (keywordEach [] X.env))) := by rfl) : EV X (.Call (.Attribute a m apos) (e :: es) [] pos) δ d := by
  obtain ⟨f, fd, F, hm, hb⟩ := G.ex
  exact EV_imp (pe_meth (pl := pl) ho.run G.cl hm F hr hb .nil pass0 ha.run he hpl ht) fun _ H Q ⟨S, q⟩ => ⟨S, fun v H1 s1 r1 => by
    have r0 := r1
    unfold Is at r1
    obtain ⟨b, dx, vs, rfl, hb, l, r⟩ := r1
    refine ⟨b, dx, _, rfl, hb, zip_none hn, S.mono s1, fun us H2 s2 r2 => ?_⟩
    show spD X.K ps.length R (.ref b :: (us ++ [])) H2 Q E0
    rw [List.append_nil]
    exact ⟨_, d, hl, by unfold IsL; exact ⟨_, _, rfl, Is.mono s2 _ r0, r2⟩, hR, fun v H' s' r' => q v H' ((s1.trans s2).trans s') r'⟩⟩
theorem ev_meth0 {pl : Sem Bool} (G : MethD X.prog X.w X.K X.mg X.base k C m ps R) (hr : Room k X.A) (ho : EV X a δ (.obj C ns fs)) (hn : m ∉ ns) (hl : [D.obj C ns fs].length = ps.length) (hR : R [.obj C ns fs] d)
    (ht : eval (.Call (.Attribute a m apos) [] [] pos) X.env = (do
      let ov ← eval a X.env
      standAt apos.atName
      let (f, first) ← holding [ov] (getMethod ov m pl)
      callWith pos f first (backTo pos (starEach [] X.env)) (backToKw pos (keywordEach [] X.env))) := by rfl) : EV X (.Call (.Attribute a m apos) [] [] pos) δ d := by
  obtain ⟨f, fd, F, hm, hb⟩ := G.ex
  exact EV_imp (pe_meth0 (pl := pl) ho.run G.cl hm F hr hb .nil pass0 ht) fun _ H Q ⟨S, q⟩ => ⟨S, fun v H1 s1 r1 => by
    have r0 := r1
    unfold Is at r1
    obtain ⟨b, dx, vs, rfl, hb, l, r⟩ := r1
    exact ⟨b, dx, _, rfl, hb, zip_none hn, _, d, hl, by unfold IsL; exact ⟨_, _, rfl, r0, by unfold IsL; rfl⟩, hR, fun v H' s' r' => q v H' (s1.trans s') r'⟩⟩
/-- C(..): what __init__ promises of the new instance -/
def spI (K : PySem.W.Frag) (C : Addr) (n : Nat) (ns : List Str) (R : List D → List D → Prop) : Sp := fun vs H Q _ => ∃ b dx rest ds fs, vs = .ref b :: rest ∧ H b = some (.ins C dx []) ∧ (ds.length + 1 = n) ∧ IsL K H ds rest ∧ R ds fs ∧
  ∀ H', (∀ z o, H z = some o → z ≠ b → H' z = some o) → (∃ us, H' b = some (.ins C dx (ns.zip us)) ∧ IsL K H' fs us) → Q .non H'
structure MakeD (P : Program) (w : World) (K : PySem.W.Frag) (mg : Str → Option Value) (base : Heap) (k : Nat) (x : Str) (C : Addr) (ps ns : List Str) (R : List D → List D → Prop) : Prop where
  ex : ∃ f fd, FnOk P w K mg base CX0 k f fd ps (spI K C ps.length ns R) ∧ Mk K C f ∧ mg x = some (.ref C) ∧ Binds K fd ps []
theorem ev_make {R : List D → List D → Prop} (G : MakeD X.prog X.w X.K X.mg X.base k x C ps ns R) (hr : Room (k + 1) X.A) (hg : Gl X x) (ha : EA X (e :: es) δ ds) (hl : ds.length + 1 = ps.length) (hf : ns.length = fs.length) (hR : R ds fs) (hdb : (x == ("__debug__" : Str)) = false := by decide)
    (he : starEach (e :: es) X.env = (false, eval e X.env) :: starEach es X.env := by exact star_of rfl) (hpl : (backTo pos (starEach es X.env)).any (·.1) = false := by exact plain_of rfl) : EV X (.Call (.Name x p) (e :: es) [] pos) δ (.obj C ns fs) := by
  obtain ⟨f, fd, F, M, hm, hb⟩ := G.ex
  exact EV_imp (pe_make M F hr hg hm hb .nil pass0 ha.run hdb he hpl) fun _ H Q ⟨S, q⟩ => ⟨S, fun vs H1 s1 r1 z dz hz hdz hne => by
    rw [List.append_nil]
    have s2 : Same H1 (upd (upd H1 dz (.own z)) z (.ins C dz [])) := fun b o e => by
      rw [upd_ne (ne_of_none e hz), upd_ne (ne_of_none e hdz)]
      exact e
    refine ⟨z, dz, vs, ds, fs, rfl, upd_same, hl, IsL.mono s2 ds r1, hR, fun H' kp ⟨us, hu, ru⟩ => ⟨rfl, q _ H' ?_ ?_⟩⟩
    · intro b o e
      have e1 := s1 b o e
      exact kp b o (s2 b o e1) (ne_of_none e1 hz)
    · unfold Is
      exact ⟨z, dz, us, rfl, hu, hf, ru⟩⟩
end

/-! ### builtins -/
section
variable {X : Cx} {e a b : Expr} {es : List Expr} {δ : Sd} {d : D} {ds : List D} {i j : Int} {q : Bool} {p pos : Pos}
theorem ev_callB {x : Str} {id : String} {r : List V → Hp → VK → Prop} (hc : CallR X (.builtin id) r) (hg : Gl X x) (hm : X.mg x = none) (hv : bootBuiltins x = some (.builtin id)) (ha : EA X (e :: es) δ ds)
    (hr : ∀ vs H (Q : VK), IsL X.K H ds vs → (∀ v H', Same H H' → Is X.K H' d v → Q v H') → r vs H Q) (hn : x ≠ "__name__" := by decide) (hdb : (x == ("__debug__" : Str)) = false := by decide)
    (he : starEach (e :: es) X.env = (false, eval e X.env) :: starEach es X.env := by exact star_of rfl) (hpl : (backTo pos (starEach es X.env)).any (·.1) = false := by exact plain_of rfl) : EV X (.Call (.Name x p) (e :: es) [] pos) δ d :=
  EV_imp (pe_callB hc hg hm hv ha.run hn hdb he hpl) fun _ H Q ⟨S, g⟩ => ⟨S, fun vs H1 s1 r1 => hr vs H1 Q r1 fun v H' s' r' => g v H' (s1.trans s') r'⟩
theorem ev_callTy {x : Str} {T : String} {r : List V → Hp → VK → Prop} (hc : CallR X (.type T) r) (hg : Gl X x) (hm : X.mg x = none) (hv : bootBuiltins x = some (.type T)) (ha : EA X (e :: es) δ ds)
    (hr : ∀ vs H (Q : VK), IsL X.K H ds vs → (∀ v H', Same H H' → Is X.K H' d v → Q v H') → r vs H Q) (hn : x ≠ "__name__" := by decide) (hdb : (x == ("__debug__" : Str)) = false := by decide)
    (he : starEach (e :: es) X.env = (false, eval e X.env) :: starEach es X.env := by exact star_of rfl) (hpl : (backTo pos (starEach es X.env)).any (·.1) = false := by exact plain_of rfl) : EV X (.Call (.Name x p) (e :: es) [] pos) δ d :=
  EV_imp (pe_callTy hc hg hm hv ha.run hn hdb he hpl) fun _ H Q ⟨S, g⟩ => ⟨S, fun vs H1 s1 r1 => hr vs H1 Q r1 fun v H' s' r' => g v H' (s1.trans s') r'⟩
theorem isL_one {K : PySem.W.Frag} {H : Hp} {vs : List V} (h : IsL K H [d] vs) : ∃ v, vs = [v] ∧ Is K H d v := by
  unfold IsL at h
  obtain ⟨v, r, rfl, q, z⟩ := h
  unfold IsL at z
  subst z
  exact ⟨v, rfl, q⟩
theorem isL_two {K : PySem.W.Frag} {H : Hp} {d' : D} {vs : List V} (h : IsL K H [d, d'] vs) : ∃ v w, vs = [v, w] ∧ Is K H d v ∧ Is K H d' w := by
  unfold IsL at h
  obtain ⟨v, r, rfl, q, z⟩ := h
  obtain ⟨w, rfl, q'⟩ := isL_one z
  exact ⟨v, w, rfl, q, q'⟩
theorem ev_lenL (hg : Gl X "len") (hm : X.mg "len" = none) (ha : EV X e δ (.lst ds)) (hst : starEach [e] X.env = [(false, eval e X.env)] := by exact star_of rfl) : EV X (.Call (.Name "len" p) [e] [] pos) δ (.int ds.length) :=
  ev_callB call_len_seq hg hm PySem.boot_len (ea_cons ha ea_nil hst) (fun vs H Q h k => by
    obtain ⟨v, rfl, q⟩ := isL_one h
    unfold Is at q
    obtain ⟨b, xs, rfl, q, l⟩ := q
    refine ⟨b, xs, rfl, .inl q, k _ H (Same.refl H) ?_⟩
    unfold Is
    rw [l.len]) (he := hst) (hpl := rfl)
theorem ev_lenT (hg : Gl X "len") (hm : X.mg "len" = none) (ha : EV X e δ (.tup ds)) (hst : starEach [e] X.env = [(false, eval e X.env)] := by exact star_of rfl) : EV X (.Call (.Name "len" p) [e] [] pos) δ (.int ds.length) :=
  ev_callB call_len_seq hg hm PySem.boot_len (ea_cons ha ea_nil hst) (fun vs H Q h k => by
    obtain ⟨v, rfl, q⟩ := isL_one h
    unfold Is at q
    obtain ⟨b, xs, rfl, q, l⟩ := q
    refine ⟨b, xs, rfl, .inr q, k _ H (Same.refl H) ?_⟩
    unfold Is
    rw [l.len]) (he := hst) (hpl := rfl)
theorem ev_abs (hg : Gl X "abs") (hm : X.mg "abs" = none) (ha : EV X e δ (.int i)) (hst : starEach [e] X.env = [(false, eval e X.env)] := by exact star_of rfl) : EV X (.Call (.Name "abs" p) [e] [] pos) δ (.int (if i < 0 then -i else i)) :=
  ev_callB call_abs hg hm (by rfl) (ea_cons ha ea_nil hst) (fun vs H Q h k => by
    obtain ⟨v, rfl, q⟩ := isL_one h
    unfold Is at q
    subst q
    exact ⟨i, rfl, k _ H (Same.refl H) (by unfold Is; rfl)⟩) (he := hst) (hpl := rfl)
theorem ev_max (hc : X.calm = true) (hg : Gl X "max") (hm : X.mg "max" = none) (ha : EA X [a, b] δ [.int i, .int j]) (he : starEach [a, b] X.env = (false, eval a X.env) :: starEach [b] X.env := by exact star_of rfl) (hpl : (backTo pos (starEach [b] X.env)).any (·.1) = false := by exact plain_of rfl) :
    EV X (.Call (.Name "max" p) [a, b] [] pos) δ (.int (if j > i then j else i)) :=
  ev_callB (call_max2 hc) hg hm (by rfl) ha (fun vs H Q h k => by
    obtain ⟨v, w, rfl, q, q'⟩ := isL_two h
    unfold Is at q q'
    subst q q'
    exact ⟨i, j, rfl, k _ H (Same.refl H) (by unfold Is; rfl)⟩) (he := he) (hpl := hpl)
theorem ev_intB (hg : Gl X "int") (hm : X.mg "int" = none) (ha : EV X e δ (.bl q)) (hst : starEach [e] X.env = [(false, eval e X.env)] := by exact star_of rfl) : EV X (.Call (.Name "int" p) [e] [] pos) δ (.int (if q = true then 1 else 0)) :=
  ev_callTy call_int1 hg hm (by rfl) (ea_cons ha ea_nil hst) (fun vs H Q h k => by
    obtain ⟨v, rfl, r⟩ := isL_one h
    unfold Is at r
    subst r
    exact .inr ⟨q, rfl, k _ H (Same.refl H) (by unfold Is; rfl)⟩) (he := hst) (hpl := rfl)
/-- the built-in type of a datum -/
def tyD : D → Option String
  | .non => some "NoneType"
  | .bl _ => some "bool"
  | .int _ => some "int"
  | .str _ => some "str"
  | .tup _ => some "tuple"
  | .lst _ => some "list"
  | .obj _ _ _ => none
  | .adr _ => none
theorem call_isinst {T : String} {t : String} (ht : tyD d = some t) (hk : PySem.W.kitOne X.K (.type t) (.type T) = some q) : CallR X (.builtin "isinstance") (fun xs H Q => ∃ x, xs = [x, .ty T] ∧ Is X.K H d x ∧ Q (.bl q) H) := by
  intro pins s σ H xs us Q I rv ⟨x, ex, hx, k⟩
  subst ex
  obtain ⟨u, w', rfl, r1, r2⟩ := vals2 rv
  obtain rfl : w' = Value.type T := r2
  have fin : ∀ tk, EP X pins σ Q (.bool q) { s with toks := tk } := fun tk => ⟨.bl q, H, I.tok tk, rfl, k⟩
  cases d with
  | non => cases ht; unfold Is at hx; subst hx; cases (show u = Value.none from r1); exact PySem.W.kia_one PySem.W.kitx_none I.kIn True.intro hk (fun z => nomatch z) fin
  | bl y => cases ht; unfold Is at hx; subst hx; cases (show u = Value.bool y from r1); exact PySem.W.kia_one PySem.W.kitx_bool I.kIn True.intro hk (fun z => nomatch z) fin
  | int i => cases ht; unfold Is at hx; subst hx; obtain ⟨t, z⟩ := (show ∃ t, u = Value.int i t from r1); cases z; exact PySem.W.kia_one PySem.W.kitx_int I.kIn True.intro hk (fun z => nomatch z) fin
  | str y => cases ht; unfold Is at hx; subst hx; obtain ⟨t, z⟩ := (show ∃ t, u = Value.str y t from r1); cases z; exact PySem.W.kia_one PySem.W.kitx_str I.kIn True.intro hk (fun z => nomatch z) fin
  | tup ds =>
    cases ht
    unfold Is at hx
    obtain ⟨a, xs, rfl, z, l⟩ := hx
    cases (show u = Value.ref a from r1)
    obtain ⟨its, rv, ⟨o, h1, h2, n, h3⟩, _⟩ := I.tuple z
    exact PySem.W.kia_one PySem.W.kitx_tuple I.kIn ⟨o, h1, h2⟩ hk (fun z => nomatch z) fin
  | lst ds =>
    cases ht
    unfold Is at hx
    obtain ⟨a, xs, rfl, z, l⟩ := hx
    cases (show u = Value.ref a from r1)
    obtain ⟨its, rv, pl, _⟩ := I.list z
    obtain ⟨o, n, h1, h2, h3, h4⟩ := pl
    exact PySem.W.kia_one PySem.W.kitx_list I.kIn ⟨o, h1, h2⟩ hk (fun z => nomatch z) fin
  | obj C ns fs => cases ht
  | adr _ => cases ht
/-- isinstance(e, T) of a built-in type -/
theorem ev_isinst {t T : String} {y : Str} {p2 : Pos} (hg : Gl X "isinstance") (hm : X.mg "isinstance" = none) (ha : EV X e δ d) (hgT : Gl X y) (hmT : X.mg y = none) (hbT : bootBuiltins y = some (.type T)) (ht : tyD d = some t) (hk : PySem.W.kitOne X.K (.type t) (.type T) = some q)
    (hst : starEach [e, .Name y p2] X.env = (false, eval e X.env) :: starEach [.Name y p2] X.env := by exact star_of rfl) (hst2 : starEach [.Name y p2] X.env = [(false, eval (.Name y p2) X.env)] := by exact star_of rfl) (hn : y ≠ "__name__" := by decide) (hd : (y == ("__debug__" : Str)) = false := by decide) :
    EV X (.Call (.Name "isinstance" p) [e, .Name y p2] [] pos) δ (.bl q) := by
  have hT : PE X (.Name y p2) (tC (.ty T)) := pe_bltn hgT hmT hbT rfl hn hd
  refine EV_imp (pe_callB (call_isinst ht hk) hg hm (by rfl) (pa_cons ha.run (pa_cons hT pa_nil hst2) hst) (by decide) (by decide) hst (by rw [hst2]; rfl)) fun _ H Q ⟨S, g⟩ => ⟨S, fun v H1 s1 r1 => ?_⟩
  exact ⟨v, rfl, r1, g _ H1 s1 (by unfold Is; rfl)⟩
end
end EV

set_option maxHeartbeats 4000000
namespace EV
open PySem PySem.Spec PyProof.Rows L2
/-! ### a dict of the module's top: whole numbers to things -/
def entI (e : Int × Tok × Value) : DictEntry := ⟨hashInt e.1, .int e.1 e.2.1, e.2.2⟩
structure KD (K : PySem.W.Frag) (mg : Str → Option Value) (x : Str) (ents : List (Int × Tok × Value)) : Prop where
  ex : ∃ a ep, mg x = some (.ref a) ∧ (a == sysModules) = false ∧ K.lookup a = some ⟨.type "dict", none, .dict (ents.map entI).toArray ep, #[]⟩
  nd : (ents.map (·.1)).Nodup
def pairI (e : Int × Tok × Value) : Int × Value := (e.1, e.2.2)
theorem pairs_ent {P : Program} {w : World} : ∀ ents : List (Int × Tok × Value), Pairs (intKind P w) (ents.map entI) (ents.map pairI)
  | [] => .nil
  | e :: r => .cons (by show Value.isInt e.1 (.int e.1 e.2.1) = true; simp [Value.isInt]) rfl (pairs_ent r)
theorem kd_dict {P : Program} {w : World} {h : Heap} {K : PySem.W.Frag} {a : Addr} {ep : Nat} {ents : List (Int × Tok × Value)} (X : K.In h) (hk : K.lookup a = some ⟨.type "dict", none, .dict (ents.map entI).toArray ep, #[]⟩) (nd : (ents.map (·.1)).Nodup) :
    h.DictOf (intKind P w) a (ents.map pairI) := by
  refine ⟨_, (ents.map entI).toArray, ep, X a _ hk, ⟨rfl, rfl, rfl⟩, rfl, ?_, by simpa using pairs_ent ents, ?_⟩
  · intro e he
    simp only [List.mem_toArray, List.mem_map] at he
    obtain ⟨z, _, rfl⟩ := he
    exact ⟨z.1, by show Value.isInt z.1 (.int z.1 z.2.1) = true; simp [Value.isInt], rfl⟩
  · have : (ents.map pairI).map (·.1) = ents.map (·.1) := by rw [List.map_map]; rfl
    rw [this]
    exact nd
section
variable {X : Cx} {a b : Expr} {δ : Sd} {d : D} {i : Int} {x : Str} {ents : List (Int × Tok × Value)} {pos p2 : Pos}
theorem ev_inKD (D0 : KD X.K X.mg x ents) (hg : Gl X x) (ha : EV X a δ (.int i)) (hm : behindInMarks .In (.Name x p2) = false := by with_unfolding_all rfl) (hd : (x == ("__debug__" : Str)) = false := by decide) :
    EV X (.Compare a [.In] [.Name x p2] pos) δ (.bl (valueAt (ents.map pairI) i).isSome) := by
  obtain ⟨l, ep, hmg, hsm, hk⟩ := D0.ex
  have hT : PE X (.Name x p2) (tC (.ref l)) := pe_glob hg hmg rfl hd
  have ho : OpR X (compareOp .In) (fun x y H Q => x = .int i ∧ y = .ref l ∧ Q (.bl (valueAt (ents.map pairI) i).isSome) H) := by
    intro pins s σ H x y v u Q I rx ry ⟨ex, ey, q⟩
    subst ex ey
    obtain ⟨t, rfl⟩ := (show ∃ t, v = Value.int i t from rx)
    obtain rfl : u = Value.ref l := ry
    exact wpAny_in_of (knd := intKind X.prog X.w) (k := i) (by show Value.isInt i (.int i t) = true; simp [Value.isInt]) hsm (kd_dict I.kIn hk D0.nd).mapOf ⟨.bl _, H, I.tok _, rfl, q⟩
  exact EV_imp (pe_cmpR ho ha.run hT hm) fun _ H Q ⟨S, q⟩ => ⟨S, fun v H1 s1 r1 => ⟨by unfold Is at r1; exact r1, rfl, q _ H1 s1 (by unfold Is; rfl)⟩⟩
/-- a tuple of two whole numbers of the module's top -/
structure GT (K : PySem.W.Frag) (mg : Str → Option Value) (x : Str) (a b : Int) : Prop where
  ex : ∃ z, mg x = some (.ref z) ∧ ∀ H, SqT K H z [.int a, .int b]
theorem ev_globT {i j : Int} (Z : GT X.K X.mg x i j) (hg : Gl X x) (hd : (x == ("__debug__" : Str)) = false := by decide) : EV X (.Name x pos) δ (.tup [.int i, .int j]) := by
  obtain ⟨z, hm, hz⟩ := Z.ex
  refine EV_imp (pe_glob (v := .ref z) hg hm rfl hd) fun _ H Q ⟨S, q⟩ => q _ H (Same.refl H) ?_
  unfold Is
  refine ⟨z, _, rfl, hz H, ?_⟩
  unfold IsL
  refine ⟨_, _, rfl, by unfold Is; rfl, ?_⟩
  unfold IsL
  exact ⟨_, _, rfl, by unfold Is; rfl, by unfold IsL; rfl⟩
/-- a point of noughts at the module's top -/
structure GP (K : PySem.W.Frag) (mg : Str → Option Value) (x : Str) : Prop where
  ex : ∃ o z, mg x = some (.ref o) ∧ (∀ H, SqT K H o [.ref z, .ref z]) ∧ ∀ H, SqT K H z [.int 0, .int 0]
theorem ev_globP (Z : GP X.K X.mg x) (hg : Gl X x) (hd : (x == ("__debug__" : Str)) = false := by decide) : EV X (.Name x pos) δ (.tup [.tup [.int 0, .int 0], .tup [.int 0, .int 0]]) := by
  obtain ⟨o, z, hm, ho, hz⟩ := Z.ex
  refine EV_imp (pe_glob (v := .ref o) hg hm rfl hd) fun _ H Q ⟨S, q⟩ => q _ H (Same.refl H) ?_
  have hi : Is X.K H (.tup [.int 0, .int 0]) (.ref z) := by
    unfold Is
    refine ⟨z, _, rfl, hz H, ?_⟩
    unfold IsL
    refine ⟨_, _, rfl, by unfold Is; rfl, ?_⟩
    unfold IsL
    exact ⟨_, _, rfl, by unfold Is; rfl, by unfold IsL; rfl⟩
  unfold Is
  refine ⟨o, _, rfl, ho H, ?_⟩
  unfold IsL
  refine ⟨_, _, rfl, hi, ?_⟩
  unfold IsL
  exact ⟨_, _, rfl, hi, by unfold IsL; rfl⟩
/-- x[i], as the layer reads it -/
theorem pe_getKD {k : Nat} {v : V} {u : Value} (D0 : KD X.K X.mg x ents) (hg : Gl X x) (ha : PE X a (tVar k)) (hv : valueAt (ents.map pairI) i = some u) (rv : RelV v u) (hs : ∀ ov iv, subscripted a false ov iv = operate [ov, iv] (getItem ov iv) := by intro _ _; rfl) (hd : (x == ("__debug__" : Str)) = false := by decide) :
    PE X (.Subscript (.Name x p2) a pos) (fun σ H Q => σ[k]? = some (some (.int i)) ∧ Q v H) := by
  obtain ⟨l, ep, hmg, hsm, hk⟩ := D0.ex
  have hT : PE X (.Name x p2) (tC (.ref l)) := pe_glob hg hmg rfl hd
  have hi : IxR X (fun x y H Q => x = .ref l ∧ y = .int i ∧ Q v H) := by
    intro value slice pins s σ H x y vx vy Q I rx ry ⟨ex, ey, q⟩ hsub
    subst ex ey
    obtain rfl : vx = Value.ref l := rx
    obtain ⟨t, rfl⟩ := (show ∃ t, vy = Value.int i t from ry)
    have dd := kd_dict (P := X.prog) (w := X.w) I.kIn hk D0.nd
    exact tail_any dd.typeIs PySem.F.slot_dict_getitem.lookup (wpAny_getItem_of (knd := intKind X.prog X.w) (k := i) (by show Value.isInt i (.int i t) = true; simp [Value.isInt]) dd.mapOf hv ⟨v, H, I.tok _, rv, q⟩) hsub
  exact PE_imp (pe_ix hi hT ha hs) fun σ H Q ⟨h1, h2⟩ => ⟨_, h1, rfl, rfl, h2⟩
end
end EV

namespace Mt
/-! signs of c + b r, r the root of a whole number Δ that is no square -/
def sg (x : Int) : Int := if x > 0 then 1 else if x < 0 then -1 else 0
theorem sg_mul (x y : Int) : sg (x * y) = sg x * sg y := by
  unfold sg
  rcases Int.lt_trichotomy x 0 with h | h | h <;> rcases Int.lt_trichotomy y 0 with g | g | g
  · have := Int.mul_pos_of_neg_of_neg h g
    rw [if_pos this, if_neg (by omega), if_pos h, if_neg (by omega), if_pos g]; rfl
  · subst g; simp
  · have := Int.mul_neg_of_neg_of_pos h g
    rw [if_neg (by omega), if_pos this, if_neg (by omega), if_pos h, if_pos g]; rfl
  · subst h; simp
  · subst h; simp
  · subst h; simp
  · have := Int.mul_neg_of_pos_of_neg h g
    rw [if_neg (by omega), if_pos this, if_pos h, if_neg (by omega), if_pos g]; rfl
  · subst g; simp
  · have := Int.mul_pos h g
    rw [if_pos this, if_pos h, if_pos g]; rfl
theorem sq_lt {u v : Int} (h : u * u < v * v) : u.natAbs < v.natAbs := by
  rw [← Int.natAbs_mul_self' u, ← Int.natAbs_mul_self' v] at h
  have h' : u.natAbs * u.natAbs < v.natAbs * v.natAbs := by exact_mod_cast h
  exact Nat.mul_self_lt_mul_self_iff.mp h'
/-- the greater one of two tells the sign -/
theorem sg_add {u v : Int} (h : u.natAbs < v.natAbs) : sg (u + v) = sg v := by
  unfold sg
  rcases Int.lt_trichotomy v 0 with g | g | g
  · rw [if_neg (by omega), if_pos (by omega), if_neg (by omega), if_pos g]
  · subst g; simp at h
  · rw [if_pos (by omega), if_pos g]
theorem mul_lt_mul' {a b c d : Int} (h1 : a < b) (h2 : c < d) (ha : 0 ≤ a) (hc : 0 ≤ c) : a * c < b * d := by
  have hb : 0 < b := by omega
  have h3 : a * c ≤ b * c := Int.mul_le_mul_of_nonneg_right (by omega) hc
  have h4 : b * c < b * d := Int.mul_lt_mul_of_pos_left h2 hb
  omega
theorem sq_nn (a : Int) : 0 ≤ a * a := by
  rcases Int.le_total 0 a with h | h
  · exact Int.mul_nonneg h h
  · exact Int.mul_nonneg_of_nonpos_of_nonpos h h
/-- the norm -/
def nm (Δ c b : Int) : Int := c * c - Δ * b * b
def sn (Δ c b : Int) : Int := if nm Δ c b > 0 then sg c else if nm Δ c b < 0 then sg b else 0
theorem nm_mul (Δ c b e f : Int) : nm Δ (c * e + Δ * (b * f)) (c * f + b * e) = nm Δ c b * nm Δ e f := by
  unfold nm; grind
/-- the sign of a product -/
theorem sn_mul {Δ : Int} (hΔ : 0 ≤ Δ) (c b e f : Int) : sn Δ (c * e + Δ * (b * f)) (c * f + b * e) = sn Δ c b * sn Δ e f := by
  have hN := nm_mul Δ c b e f
  have q1 := sq_nn c; have q2 := sq_nn b; have q3 := sq_nn e; have q4 := sq_nn f
  have p2 : 0 ≤ Δ * b * b := by rw [Int.mul_assoc]; exact Int.mul_nonneg hΔ q2
  have p4 : 0 ≤ Δ * f * f := by rw [Int.mul_assoc]; exact Int.mul_nonneg hΔ q4
  unfold sn
  rw [hN]
  rcases Int.lt_trichotomy (nm Δ c b) 0 with h | h | h <;> rcases Int.lt_trichotomy (nm Δ e f) 0 with g | g | g
  · have hp := Int.mul_pos_of_neg_of_neg h g
    rw [if_pos hp, if_neg (by omega), if_pos h, if_neg (by omega), if_pos g]
    have k1 : c * c < Δ * b * b := by unfold nm at h; omega
    have k2 : e * e < Δ * f * f := by unfold nm at g; omega
    have k3 : (c * e) * (c * e) < (Δ * (b * f)) * (Δ * (b * f)) := by
      have := mul_lt_mul' k1 k2 q1 q3
      have e1 : c * c * (e * e) = (c * e) * (c * e) := by grind
      have e2 : Δ * b * b * (Δ * f * f) = (Δ * (b * f)) * (Δ * (b * f)) := by grind
      rw [e1, e2] at this; exact this
    rw [sg_add (sq_lt k3)]
    have hd : 0 < Δ := by
      rcases Int.lt_or_lt_of_ne (show Δ ≠ 0 from fun z => by rw [z] at k1; simp at k1; omega) with z | z
      · omega
      · exact z
    rw [sg_mul Δ, sg_mul b f]
    have : sg Δ = 1 := by unfold sg; rw [if_pos hd]
    rw [this, Int.one_mul]
  · rw [g, Int.mul_zero]; simp
  · have hp := Int.mul_neg_of_neg_of_pos h g
    rw [if_neg (by omega), if_pos hp, if_neg (by omega), if_pos h, if_pos g]
    have k1 : c * c < Δ * b * b := by unfold nm at h; omega
    have k2 : Δ * f * f < e * e := by unfold nm at g; omega
    have hd : 0 < Δ := by
      rcases Int.lt_or_lt_of_ne (show Δ ≠ 0 from fun z => by rw [z] at k1; simp at k1; omega) with z | z
      · omega
      · exact z
    have k3 : (c * f) * (c * f) < (b * e) * (b * e) := by
      have := mul_lt_mul' k1 k2 q1 p4
      have e1 : c * c * (Δ * f * f) = Δ * ((c * f) * (c * f)) := by grind
      have e2 : Δ * b * b * (e * e) = Δ * ((b * e) * (b * e)) := by grind
      rw [e1, e2] at this
      exact Int.lt_of_mul_lt_mul_left this (by omega)
    rw [sg_add (sq_lt k3), sg_mul]
  · rw [h, Int.zero_mul]; simp
  · rw [h, Int.zero_mul]; simp
  · rw [h, Int.zero_mul]; simp
  · have hp := Int.mul_neg_of_pos_of_neg h g
    rw [if_neg (by omega), if_pos hp, if_pos h, if_neg (by omega), if_pos g]
    have k1 : Δ * b * b < c * c := by unfold nm at h; omega
    have k2 : e * e < Δ * f * f := by unfold nm at g; omega
    have hd : 0 < Δ := by
      rcases Int.lt_or_lt_of_ne (show Δ ≠ 0 from fun z => by rw [z] at k2; simp at k2; omega) with z | z
      · omega
      · exact z
    have k3 : (b * e) * (b * e) < (c * f) * (c * f) := by
      have := mul_lt_mul' k1 k2 p2 q3
      have e1 : Δ * b * b * (e * e) = Δ * ((b * e) * (b * e)) := by grind
      have e2 : c * c * (Δ * f * f) = Δ * ((c * f) * (c * f)) := by grind
      rw [e1, e2] at this
      exact Int.lt_of_mul_lt_mul_left this (by omega)
    rw [Int.add_comm, sg_add (sq_lt k3), sg_mul]
  · rw [g, Int.mul_zero]; simp
  · have hp := Int.mul_pos h g
    rw [if_pos hp, if_pos h, if_pos g]
    have k1 : Δ * b * b < c * c := by unfold nm at h; omega
    have k2 : Δ * f * f < e * e := by unfold nm at g; omega
    have k3 : (Δ * (b * f)) * (Δ * (b * f)) < (c * e) * (c * e) := by
      have := mul_lt_mul' k1 k2 p2 p4
      have e1 : c * c * (e * e) = (c * e) * (c * e) := by grind
      have e2 : Δ * b * b * (Δ * f * f) = (Δ * (b * f)) * (Δ * (b * f)) := by grind
      rw [e1, e2] at this; exact this
    rw [Int.add_comm, sg_add (sq_lt k3), sg_mul]

theorem lt_or_ge (a b : Int) : a < b ∨ b ≤ a := by omega
theorem sq0 {k b : Nat} (hk : 0 < k) (e : 0 = k * b * b) : b = 0 := by
  rcases Nat.eq_zero_or_pos b with h | h
  · exact h
  · have := Nat.mul_pos (Nat.mul_pos hk h) h
    omega
theorem abs_mul_lt {Δ p q r s : Int} (hΔ : 0 ≤ Δ) (h1 : Δ * q * q ≤ p * p) (h2 : Δ * s * s ≤ r * r) (hp : 0 ≤ p) (hr : 0 ≤ r) : Δ * (q * s) ≤ p * r := by
  have a1 : 0 ≤ Δ * q * q := by rw [Int.mul_assoc]; exact Int.mul_nonneg hΔ (sq_nn q)
  have a2 : 0 ≤ Δ * s * s := by rw [Int.mul_assoc]; exact Int.mul_nonneg hΔ (sq_nn s)
  have h3 : (Δ * (q * s)) * (Δ * (q * s)) ≤ (p * r) * (p * r) := by
    have i1 : Δ * q * q * (Δ * s * s) ≤ p * p * (Δ * s * s) := Int.mul_le_mul_of_nonneg_right h1 a2
    have i2 : p * p * (Δ * s * s) ≤ p * p * (r * r) := Int.mul_le_mul_of_nonneg_left h2 (sq_nn p)
    have e1 : Δ * q * q * (Δ * s * s) = (Δ * (q * s)) * (Δ * (q * s)) := by grind
    have e2 : p * p * (r * r) = (p * r) * (p * r) := by grind
    rw [e1] at i1; rw [e2] at i2; omega
  have h4 : 0 ≤ p * r := Int.mul_nonneg hp hr
  rcases lt_or_ge (p * r) (Δ * (q * s)) with g | g
  · have := mul_lt_mul' g g h4 h4
    omega
  · exact g
/-- p > q r, r < s r (as far as the root goes) -/
theorem split1 {Δ p q r s : Int} (hΔ : 0 ≤ Δ) (hp : 0 ≤ p) (hq : 0 ≤ q) (hr : 0 ≤ r) (hs : 0 ≤ s) (h1 : Δ * q * q < p * p) (h2 : r * r < Δ * s * s) (h3 : p ≤ r) : q < s ∧ (r - p) * (r - p) < Δ * (s - q) * (s - q) := by
  have hpr : p * p ≤ r * r := Int.mul_le_mul h3 h3 hp hr
  have hqs : q < s := by
    rcases lt_or_ge q s with g | g
    · exact g
    · have a : s * s ≤ q * q := Int.mul_le_mul g g hs hq
      have b : Δ * (s * s) ≤ Δ * (q * q) := Int.mul_le_mul_of_nonneg_left a hΔ
      rw [← Int.mul_assoc, ← Int.mul_assoc] at b
      omega
  refine ⟨hqs, ?_⟩
  rcases lt_or_ge ((r - p) * (r - p)) (Δ * (s - q) * (s - q)) with g | g
  · exact g
  · exfalso
    have k := abs_mul_lt (Δ := Δ) (p := p) (q := q) (r := r - p) (s := s - q) hΔ (by omega) g hp (by omega)
    have e1 : Δ * s * s = Δ * q * q + 2 * (Δ * (q * (s - q))) + Δ * (s - q) * (s - q) := by grind
    have e2 : r * r = p * p + 2 * (p * (r - p)) + (r - p) * (r - p) := by grind
    omega
theorem split2 {Δ p q r s : Int} (hΔ : 0 ≤ Δ) (hp : 0 ≤ p) (hq : 0 ≤ q) (hr : 0 ≤ r) (hs : 0 ≤ s) (h1 : Δ * q * q < p * p) (h2 : r * r < Δ * s * s) (h3 : s ≤ q) : r < p ∧ Δ * (q - s) * (q - s) < (p - r) * (p - r) := by
  have a : s * s ≤ q * q := Int.mul_le_mul h3 h3 hs hq
  have b : Δ * (s * s) ≤ Δ * (q * q) := Int.mul_le_mul_of_nonneg_left a hΔ
  rw [← Int.mul_assoc, ← Int.mul_assoc] at b
  have hrp : r < p := by
    rcases lt_or_ge r p with g | g
    · exact g
    · have c : p * p ≤ r * r := Int.mul_le_mul g g hp hr
      omega
  refine ⟨hrp, ?_⟩
  rcases lt_or_ge (Δ * (q - s) * (q - s)) ((p - r) * (p - r)) with g | g
  · exact g
  · exfalso
    have k : r * (p - r) ≤ Δ * (s * (q - s)) := by
      have h4 : (r * (p - r)) * (r * (p - r)) ≤ (Δ * (s * (q - s))) * (Δ * (s * (q - s))) := by
        have i1 : r * r * ((p - r) * (p - r)) ≤ Δ * s * s * ((p - r) * (p - r)) := Int.mul_le_mul_of_nonneg_right (by omega) (sq_nn _)
        have i2 : Δ * s * s * ((p - r) * (p - r)) ≤ Δ * s * s * (Δ * (q - s) * (q - s)) := Int.mul_le_mul_of_nonneg_left g (by rw [Int.mul_assoc]; exact Int.mul_nonneg hΔ (sq_nn s))
        have e1 : r * r * ((p - r) * (p - r)) = (r * (p - r)) * (r * (p - r)) := by grind
        have e2 : Δ * s * s * (Δ * (q - s) * (q - s)) = (Δ * (s * (q - s))) * (Δ * (s * (q - s))) := by grind
        rw [e1] at i1; rw [e2] at i2; omega
      have n1 : 0 ≤ Δ * (s * (q - s)) := Int.mul_nonneg hΔ (Int.mul_nonneg hs (by omega))
      rcases lt_or_ge (Δ * (s * (q - s))) (r * (p - r)) with z | z
      · have := mul_lt_mul' z z n1 n1
        omega
      · exact z
    have e1 : p * p = r * r + 2 * (r * (p - r)) + (p - r) * (p - r) := by grind
    have e2 : Δ * q * q = Δ * s * s + 2 * (Δ * (s * (q - s))) + Δ * (q - s) * (q - s) := by grind
    omega
def Pos (Δ c b : Int) : Prop := (0 < c ∧ Δ * b * b < c * c) ∨ (0 < b ∧ c * c < Δ * b * b)
theorem sn_pos {Δ c b : Int} : sn Δ c b = 1 ↔ Pos Δ c b := by
  unfold sn nm sg Pos
  constructor
  · intro h
    split at h
    · split at h
      · exact .inl (by omega)
      · split at h <;> omega
    · split at h
      · split at h
        · exact .inr (by omega)
        · split at h <;> omega
      · omega
  · rintro (⟨h1, h2⟩ | ⟨h1, h2⟩)
    · rw [if_pos (by omega), if_pos (by omega)]
    · rw [if_neg (by omega), if_pos (by omega), if_pos (by omega)]
theorem absx (a : Int) : ∃ x : Int, 0 ≤ x ∧ x * x = a * a ∧ a ≤ x ∧ -a ≤ x ∧ (x = a ∨ x = -a) := by
  rcases Int.le_total 0 a with h | h
  · exact ⟨a, h, rfl, by omega, by omega, .inl rfl⟩
  · exact ⟨-a, by omega, by grind, by omega, by omega, .inr rfl⟩
def NoSq (Δ : Int) : Prop := ∀ c b : Int, c * c = Δ * b * b → c = 0 ∧ b = 0
theorem sqx {Δ a x : Int} (h : x * x = a * a) : Δ * x * x = Δ * a * a := by rw [Int.mul_assoc, h, Int.mul_assoc]
theorem pos_ab {Δ : Int} (hΔ : 0 ≤ Δ) (hn : NoSq Δ) {c1 b1 c2 b2 : Int} (h1 : 0 < c1) (h2 : Δ * b1 * b1 < c1 * c1) (h3 : 0 < b2) (h4 : c2 * c2 < Δ * b2 * b2) : Pos Δ (c1 + c2) (b1 + b2) := by
  obtain ⟨x, x0, xx, xa, xb, xc⟩ := absx b1
  obtain ⟨y, y0, yy, ya, yb, yc⟩ := absx c2
  have k1 : Δ * x * x < c1 * c1 := by rw [sqx xx]; exact h2
  have k2 : y * y < Δ * b2 * b2 := by rw [yy]; exact h4
  rcases Int.lt_trichotomy ((c1 + c2) * (c1 + c2)) (Δ * (b1 + b2) * (b1 + b2)) with g | g | g
  · refine .inr ⟨?_, g⟩
    rcases lt_or_ge 0 (b1 + b2) with z | z
    · exact z
    · exfalso
      obtain ⟨m1, m2⟩ := split2 hΔ (Int.le_of_lt h1) x0 y0 (Int.le_of_lt h3) k1 k2 (by omega)
      have e : x = -b1 := by omega
      subst e
      have e2 : Δ * (-b1 - b2) * (-b1 - b2) = Δ * (b1 + b2) * (b1 + b2) := by grind
      rw [e2] at m2
      have m3 : (c1 - y) * (c1 - y) ≤ (c1 + c2) * (c1 + c2) := Int.mul_le_mul (by omega) (by omega) (by omega) (by omega)
      omega
  · obtain ⟨z1, z2⟩ := hn _ _ g
    exfalso
    have e1 : c2 = -c1 := by omega
    have e2 : b1 = -b2 := by omega
    subst e1 e2
    have e3 : Δ * -b2 * -b2 = Δ * b2 * b2 := by grind
    have e4 : -c1 * -c1 = c1 * c1 := by grind
    omega
  · refine .inl ⟨?_, g⟩
    rcases lt_or_ge 0 (c1 + c2) with z | z
    · exact z
    · exfalso
      obtain ⟨m1, m2⟩ := split1 hΔ (Int.le_of_lt h1) x0 y0 (Int.le_of_lt h3) k1 k2 (by omega)
      have e : y = -c2 := by omega
      subst e
      have e2 : (-c2 - c1) * (-c2 - c1) = (c1 + c2) * (c1 + c2) := by grind
      rw [e2] at m2
      have m3 : (b2 - x) * (b2 - x) ≤ (b1 + b2) * (b1 + b2) := Int.mul_le_mul (by omega) (by omega) (by omega) (by omega)
      have m4 : Δ * ((b2 - x) * (b2 - x)) ≤ Δ * ((b1 + b2) * (b1 + b2)) := Int.mul_le_mul_of_nonneg_left m3 hΔ
      rw [← Int.mul_assoc, ← Int.mul_assoc] at m4
      omega
theorem pos_add {Δ : Int} (hΔ : 0 ≤ Δ) (hn : NoSq Δ) {c1 b1 c2 b2 : Int} (h1 : Pos Δ c1 b1) (h2 : Pos Δ c2 b2) : Pos Δ (c1 + c2) (b1 + b2) := by
  rcases h1 with ⟨h1, h2'⟩ | ⟨h1, h2'⟩ <;> rcases h2 with ⟨h3, h4⟩ | ⟨h3, h4⟩
  · refine .inl ⟨by omega, ?_⟩
    have k := abs_mul_lt (q := b1) (s := b2) hΔ (Int.le_of_lt h2') (Int.le_of_lt h4) (Int.le_of_lt h1) (Int.le_of_lt h3)
    have e1 : Δ * (b1 + b2) * (b1 + b2) = Δ * b1 * b1 + Δ * b2 * b2 + 2 * (Δ * (b1 * b2)) := by grind
    have e2 : (c1 + c2) * (c1 + c2) = c1 * c1 + c2 * c2 + 2 * (c1 * c2) := by grind
    omega
  · exact pos_ab hΔ hn h1 h2' h3 h4
  · rw [Int.add_comm c1, Int.add_comm b1]; exact pos_ab hΔ hn h3 h4 h1 h2'
  · refine .inr ⟨by omega, ?_⟩
    have k : c1 * c2 ≤ Δ * (b1 * b2) := by
      have h5 : (c1 * c2) * (c1 * c2) ≤ (Δ * (b1 * b2)) * (Δ * (b1 * b2)) := by
        have i1 : c1 * c1 * (c2 * c2) ≤ Δ * b1 * b1 * (c2 * c2) := Int.mul_le_mul_of_nonneg_right (by omega) (sq_nn _)
        have i2 : Δ * b1 * b1 * (c2 * c2) ≤ Δ * b1 * b1 * (Δ * b2 * b2) := Int.mul_le_mul_of_nonneg_left (by omega) (by rw [Int.mul_assoc]; exact Int.mul_nonneg hΔ (sq_nn _))
        have e1 : c1 * c1 * (c2 * c2) = (c1 * c2) * (c1 * c2) := by grind
        have e2 : Δ * b1 * b1 * (Δ * b2 * b2) = (Δ * (b1 * b2)) * (Δ * (b1 * b2)) := by grind
        rw [e1] at i1; rw [e2] at i2; omega
      have n1 : 0 ≤ Δ * (b1 * b2) := Int.mul_nonneg hΔ (Int.mul_nonneg (by omega) (by omega))
      rcases lt_or_ge (Δ * (b1 * b2)) (c1 * c2) with z | z
      · have := mul_lt_mul' z z n1 n1
        omega
      · exact z
    have e1 : Δ * (b1 + b2) * (b1 + b2) = Δ * b1 * b1 + Δ * b2 * b2 + 2 * (Δ * (b1 * b2)) := by grind
    have e2 : (c1 + c2) * (c1 + c2) = c1 * c1 + c2 * c2 + 2 * (c1 * c2) := by grind
    omega
theorem sg_neg (x : Int) : sg (-x) = - sg x := by
  unfold sg
  rcases Int.lt_trichotomy x 0 with h | h | h
  · rw [if_pos (by omega), if_neg (by omega), if_pos h]; rfl
  · subst h; simp
  · rw [if_neg (by omega), if_pos (by omega), if_pos h]
theorem sn_neg (Δ c b : Int) : sn Δ (-c) (-b) = - sn Δ c b := by
  have e : nm Δ (-c) (-b) = nm Δ c b := by unfold nm; grind
  unfold sn
  rw [e, sg_neg, sg_neg]
  split
  · rfl
  · split
    · rfl
    · rfl
theorem sg_cases (x : Int) : sg x = 1 ∨ sg x = 0 ∨ sg x = -1 := by
  unfold sg; split
  · exact .inl rfl
  · split
    · exact .inr (.inr rfl)
    · exact .inr (.inl rfl)
theorem sn_cases (Δ c b : Int) : sn Δ c b = 1 ∨ sn Δ c b = 0 ∨ sn Δ c b = -1 := by
  unfold sn; split
  · exact sg_cases c
  · split
    · exact sg_cases b
    · exact .inr (.inl rfl)
theorem sn_zero {Δ : Int} (hn : NoSq Δ) (hΔ : 0 ≤ Δ) {c b : Int} (h : sn Δ c b = 0) : c = 0 ∧ b = 0 := by
  unfold sn at h
  split at h
  · rename_i g
    have : c = 0 := by
      unfold sg at h
      split at h
      · omega
      · split at h <;> omega
    subst this
    unfold nm at g
    have := Int.mul_nonneg hΔ (sq_nn b)
    rw [← Int.mul_assoc] at this
    omega
  · split at h
    · rename_i g
      have : b = 0 := by
        unfold sg at h
        split at h
        · omega
        · split at h <;> omega
      subst this
      unfold nm at g
      have := sq_nn c
      simp at g
      omega
    · refine hn c b ?_
      unfold nm at *
      omega
/-- no square: by the rest that a prime leaves again and again -/
theorem noSq_of {Δ : Int} (h : ∀ n : Nat, ∀ c b : Nat, c ≤ n → c * c = Δ.toNat * b * b → c = 0 ∧ b = 0) (hΔ : 0 ≤ Δ) : NoSq Δ := by
  intro c b e
  have e2 : (c.natAbs : Int) * c.natAbs = Δ * b.natAbs * b.natAbs := by
    rw [Int.natAbs_mul_self' c, Int.mul_assoc, Int.natAbs_mul_self' b, ← Int.mul_assoc]; exact e
  have e3 : c.natAbs * c.natAbs = Δ.toNat * b.natAbs * b.natAbs := by
    have : (Δ.toNat : Int) = Δ := Int.toNat_of_nonneg hΔ
    rw [← this] at e2
    exact_mod_cast e2
  have := h c.natAbs c.natAbs b.natAbs (Nat.le_refl _) e3
  omega
theorem par2 (c : Nat) (h : c * c % 2 = 0) : c % 2 = 0 := by
  rcases Nat.mod_two_eq_zero_or_one c with g | g
  · exact g
  · rw [Nat.mul_mod, g] at h; simp at h
theorem par3 (c : Nat) (h : c * c % 3 = 0) : c % 3 = 0 := by
  have : c % 3 = 0 ∨ c % 3 = 1 ∨ c % 3 = 2 := by omega
  rcases this with g | g | g
  · exact g
  · rw [Nat.mul_mod, g] at h; simp at h
  · rw [Nat.mul_mod, g] at h; simp at h
theorem par5 (c : Nat) (h : c * c % 5 = 0) : c % 5 = 0 := by
  have : c % 5 = 0 ∨ c % 5 = 1 ∨ c % 5 = 2 ∨ c % 5 = 3 ∨ c % 5 = 4 := by omega
  rcases this with g | g | g | g | g
  · exact g
  all_goals rw [Nat.mul_mod, g] at h; simp at h
theorem nosq2 : ∀ n c b : Nat, c ≤ n → c * c = 2 * b * b → c = 0 ∧ b = 0
  | 0, c, b, hc, e => by
    have : c = 0 := by omega
    subst this
    exact ⟨rfl, sq0 (k := 2) (by decide) (by simpa only [Nat.mul_zero] using e)⟩
  | n + 1, c, b, hc, e => by
    have h1 : c % 2 = 0 := par2 c (by rw [e, Nat.mul_assoc]; omega)
    obtain ⟨k, rfl⟩ : ∃ k, c = 2 * k := ⟨c / 2, by omega⟩
    have e2 : b * b = 2 * k * k := by grind
    have h2 : b % 2 = 0 := par2 b (by rw [e2, Nat.mul_assoc]; omega)
    obtain ⟨l, rfl⟩ : ∃ l, b = 2 * l := ⟨b / 2, by omega⟩
    have e3 : k * k = 2 * l * l := by grind
    have := nosq2 n k l (by omega) e3
    omega
theorem nosq3 : ∀ n c b : Nat, c ≤ n → c * c = 3 * b * b → c = 0 ∧ b = 0
  | 0, c, b, hc, e => by
    have : c = 0 := by omega
    subst this
    exact ⟨rfl, sq0 (k := 3) (by decide) (by simpa only [Nat.mul_zero] using e)⟩
  | n + 1, c, b, hc, e => by
    have h1 : c % 3 = 0 := par3 c (by rw [e, Nat.mul_assoc]; omega)
    obtain ⟨k, rfl⟩ : ∃ k, c = 3 * k := ⟨c / 3, by omega⟩
    have e2 : b * b = 3 * k * k := by grind
    have h2 : b % 3 = 0 := par3 b (by rw [e2, Nat.mul_assoc]; omega)
    obtain ⟨l, rfl⟩ : ∃ l, b = 3 * l := ⟨b / 3, by omega⟩
    have e3 : k * k = 3 * l * l := by grind
    have := nosq3 n k l (by omega) e3
    omega
theorem nosq5 : ∀ n c b : Nat, c ≤ n → c * c = 5 * b * b → c = 0 ∧ b = 0
  | 0, c, b, hc, e => by
    have : c = 0 := by omega
    subst this
    exact ⟨rfl, sq0 (k := 5) (by decide) (by simpa only [Nat.mul_zero] using e)⟩
  | n + 1, c, b, hc, e => by
    have h1 : c % 5 = 0 := par5 c (by rw [e, Nat.mul_assoc]; omega)
    obtain ⟨k, rfl⟩ : ∃ k, c = 5 * k := ⟨c / 5, by omega⟩
    have e2 : b * b = 5 * k * k := by grind
    have h2 : b % 5 = 0 := par5 b (by rw [e2, Nat.mul_assoc]; omega)
    obtain ⟨l, rfl⟩ : ∃ l, b = 5 * l := ⟨b / 5, by omega⟩
    have e3 : k * k = 5 * l * l := by grind
    have := nosq5 n k l (by omega) e3
    omega
theorem NoSq2 : NoSq 2 := noSq_of nosq2 (by decide)
theorem NoSq3 : NoSq 3 := noSq_of nosq3 (by decide)
theorem NoSq5 : NoSq 5 := noSq_of nosq5 (by decide)
theorem NoSq8 : NoSq 8 := fun c b e => by
  have := NoSq2 c (2 * b) (by grind)
  omega
theorem NoSq12 : NoSq 12 := fun c b e => by
  have := NoSq3 c (2 * b) (by grind)
  omega
end Mt

namespace My
open PySem L2 EV
/-! ### sizes -/
structure Bd (n : Nat) (i : Int) : Prop where
  lt : i.natAbs < 2 ^ n
theorem Bd.mono {n m : Nat} {i : Int} (h : Bd n i) (g : n ≤ m) : Bd m i := ⟨Nat.lt_of_lt_of_le h.lt (Nat.pow_le_pow_right (by decide) g)⟩
theorem Bd.mul {n m : Nat} {i j : Int} (h : Bd n i) (g : Bd m j) : Bd (n + m) (i * j) := by
  constructor
  rw [Int.natAbs_mul, Nat.pow_add]
  exact Nat.mul_lt_mul'' h.lt g.lt
theorem Bd.add {n m : Nat} {i j : Int} (h : Bd n i) (g : Bd m j) : Bd (max n m + 1) (i + j) := by
  have h' := (h.mono (Nat.le_max_left n m)).lt
  have g' := (g.mono (Nat.le_max_right n m)).lt
  constructor
  rw [Nat.pow_succ]
  omega
theorem Bd.sub {n m : Nat} {i j : Int} (h : Bd n i) (g : Bd m j) : Bd (max n m + 1) (i - j) := by
  have h' := (h.mono (Nat.le_max_left n m)).lt
  have g' := (g.mono (Nat.le_max_right n m)).lt
  constructor
  rw [Nat.pow_succ]
  omega
theorem Bd.neg {n : Nat} {i : Int} (h : Bd n i) : Bd n (-i) := ⟨by rw [Int.natAbs_neg]; exact h.lt⟩
theorem Bd.ite {n m : Nat} {i j : Int} {c : Prop} [Decidable c] (h : Bd n i) (g : Bd m j) : Bd (max n m) (if c then i else j) := by
  split
  · exact h.mono (Nat.le_max_left n m)
  · exact g.mono (Nat.le_max_right n m)
theorem Bd.emod {n : Nat} {i j : Int} (hj : 0 < j) (g : Bd n j) : Bd n (i % j) := by
  have h1 := Int.emod_nonneg i (Int.ne_of_gt hj)
  have h2 := Int.emod_lt_of_pos i hj
  have h3 := g.lt
  constructor
  omega
theorem Bd.bits {n : Nat} {i : Int} (h : Bd n i) : Builtin.Int.intBits i ≤ n := by
  unfold Builtin.Int.intBits
  split
  · exact Nat.zero_le _
  · rename_i z
    have z' : i.natAbs ≠ 0 := by
      intro e
      apply z
      simp
      omega
    have := (Nat.log2_lt z').mpr h.lt
    omega
theorem Bd.ediv {n : Nat} {i : Int} (j : Int) (h : Bd n i) : Bd n (i / j) := ⟨Nat.lt_of_le_of_lt (Int.natAbs_ediv_le_natAbs i j) h.lt⟩
theorem bd0 : Bd 1 0 := ⟨by decide⟩
theorem bd1 : Bd 1 1 := ⟨by decide⟩
theorem bdm1 : Bd 1 (-1) := ⟨by decide⟩
theorem bd2 : Bd 2 2 := ⟨by decide⟩
theorem bd3 : Bd 2 3 := ⟨by decide⟩
theorem bd4 : Bd 3 4 := ⟨by decide⟩
theorem mulOk {n m : Nat} {i j : Int} (h : Bd n i) (g : Bd m j) (k : n + m ≤ 100000000) : IntMulOk i j := by
  unfold IntMulOk
  have b1 := h.bits
  have b2 := g.bits
  have : Builtin.Int.intTooBig ((Builtin.Int.intBits i : Int) + (Builtin.Int.intBits j : Int)) = false := by
    unfold Builtin.Int.intTooBig
    apply decide_eq_false
    have : (bitsLine : Int) = 134217728 := by decide
    rw [this]
    omega
  rw [this]
  simp
/-! ### the reader of the script -/
def cellF (a b c e : Int) (ns : List Int) (k : Int) : Int :=
  if decide (k < (ns.length : Int)) = true then ns.getD k.toNat 0
  else if eqD (.int (ns.length : Int)) (.int 0) = true then k * k * a + b
  else ns.getD (k * 3 % (ns.length : Int)).toNat 0 % 2147483629 * c + k * k * e
inductive R_cell (a b c e : Int) : List D → D → Prop where
  | mk (ns : List Int) (k : Int) (h0 : 0 ≤ k) (h1 : k ≤ 1000) : R_cell a b c e [.lst (ns.map .int), .int k] (.int (cellF a b c e ns k))
theorem getD_bd {n : Nat} {ns : List Int} (hn : ∀ x ∈ ns, x.natAbs < 2 ^ n) (i : Nat) : Bd n (ns.getD i 0) := by
  rw [List.getD_eq_getElem?_getD]
  cases e : ns[i]? with
  | none => exact ⟨Nat.two_pow_pos n⟩
  | some x => exact ⟨hn x (List.mem_of_getElem? e)⟩
theorem cellF_bd {n : Nat} {a b c e k : Int} {ns : List Int} (hn : ∀ x ∈ ns, x.natAbs < 2 ^ n) (h200 : 200 ≤ n) (ha : Bd 40 a) (hb : Bd 40 b) (hc : Bd 40 c) (he : Bd 40 e) (h0 : 0 ≤ k) (h1 : k ≤ 1000) : Bd n (cellF a b c e ns k) := by
  have hk : Bd 10 k := ⟨by have : (2 : Nat) ^ 10 = 1024 := (by decide); omega⟩
  have hm : Bd 31 2147483629 := ⟨by decide⟩
  unfold cellF
  split
  · exact getD_bd hn _
  · split
    · exact (((hk.mul hk).mul ha).add hb).mono (by omega)
    · exact (((Bd.emod (by decide) hm).mul hc).add ((hk.mul hk).mul he)).mono (by omega)
theorem ix_ints {ns : List Int} {k : Int} (h0 : 0 ≤ k) (h1 : k < (ns.length : Int)) : atI (ns.map D.int) k = some (.int (ns.getD k.toNat 0)) := by
  have hk : k.toNat < ns.length := by omega
  have ek : k = ((k.toNat : Nat) : Int) := by omega
  have q : atI (ns.map D.int) ((k.toNat : Nat) : Int) = some (.int (ns.getD k.toNat 0)) := atI_nat (by rw [List.getElem?_map, List.getElem?_eq_getElem hk, List.getD_eq_getElem?_getD, List.getElem?_eq_getElem hk]; rfl)
  rw [← ek] at q
  exact q
/-! ### frames -/
def m5 (r : Int) : Int := if r = 0 then 4 else if r = 1 then 6 else if r = 2 then 8 else if r = 3 then 10 else 12
theorem ix5 {r : Int} (h0 : 0 ≤ r) (h1 : r < 5) : atI [D.int 4, .int 6, .int 8, .int 10, .int 12] r = some (.int (m5 r)) := by
  have : r = 0 ∨ r = 1 ∨ r = 2 ∨ r = 3 ∨ r = 4 := by omega
  rcases this with rfl | rfl | rfl | rfl | rfl <;> rfl
def OkM (m : Int) : Prop := m = 4 ∨ m = 6 ∨ m = 8 ∨ m = 10 ∨ m = 12
theorem okM5 (r : Int) : OkM (m5 r) := by
  unfold OkM m5
  split
  · exact .inl rfl
  · split
    · exact .inr (.inl rfl)
    · split
      · exact .inr (.inr (.inl rfl))
      · split
        · exact .inr (.inr (.inr (.inl rfl)))
        · exact .inr (.inr (.inr (.inr rfl)))
/-- w w = p + q w -/
def sqP (m : Int) : Int := if m = 6 then 1 else if m = 8 then 2 else if m = 10 then 1 else if m = 12 then 3 else 0
def sqQ (m : Int) : Int := if m = 10 then 1 else 0
def FrD (C : Addr) (m : Int) : D := .obj C ["m", "square"] [.int m, .tup [.int (sqP m), .int (sqQ m)]]
inductive R_frame : List D → List D → Prop where
  | mk (m : Int) (h : OkM m) : R_frame [.int m] [.int m, .tup [.int (sqP m), .int (sqQ m)]]
inductive R_size (C : Addr) : List D → D → Prop where
  | mk (m : Int) (h : OkM m) : R_size C [FrD C m] (.int m)
abbrev nD (a b : Int) : D := .tup [.int a, .int b]
def nA (m a b : Int) : Int := if m = 6 then a + b else a
def nB (m b : Int) : Int := if m = 4 then 0 else if m = 6 then 0 else b
inductive R_number (C : Addr) : List D → D → Prop where
  | mk (m a b : Int) (h : OkM m) : R_number C [FrD C m, .int a, .int b] (nD (nA m a b) (nB m b))
inductive R_isw : List D → D → Prop where
  | mk (x : Int) : R_isw [.int x] (.bl true)
inductive R_okm : List D → D → Prop where
  | mk (m : Int) (h : OkM m) : R_okm [.int m] (.bl true)
inductive R_plus : List D → D → Prop where
  | mk (a b c d : Int) : R_plus [nD a b, nD c d] (nD (a + c) (b + d))
inductive R_minus : List D → D → Prop where
  | mk (a b c d : Int) : R_minus [nD a b, nD c d] (nD (a - c) (b - d))
inductive R_law : List D → D → Prop where
  | mk (ns : List Int) (h : ns.length ≤ 63) : R_law [.lst (ns.map .int)] (.bl true)
/-! ### products, powers, signs -/
theorem sqP_bd (m : Int) : Bd 2 (sqP m) := by
  constructor
  unfold sqP
  split
  · decide
  · split
    · decide
    · split
      · decide
      · split <;> decide
theorem sqQ_bd (m : Int) : Bd 2 (sqQ m) := by
  constructor
  unfold sqQ
  split <;> decide
theorem nA_bd {n k : Nat} {m a b : Int} (ha : Bd n a) (hb : Bd k b) : Bd (max n k + 1) (nA m a b) := by
  unfold nA
  split
  · exact ha.add hb
  · exact ha.mono (by omega)
theorem nB_bd {n : Nat} {m b : Int} (hb : Bd n b) : Bd n (nB m b) := by
  unfold nB
  have h0 : Bd n 0 := ⟨Nat.two_pow_pos n⟩
  split
  · exact h0
  · split
    · exact h0
    · exact hb
abbrev BB (i : Int) : Prop := Bd 100000 i
def tX (m a b c d : Int) : Int := a * c + b * d * sqP m
def tY (m a b c d : Int) : Int := a * d + b * c + b * d * sqQ m
def tA (m a b c d : Int) : Int := nA m (tX m a b c d) (tY m a b c d)
def tB (m a b c d : Int) : Int := nB m (tY m a b c d)
theorem tX_bd {n k : Nat} {m a b c d : Int} (ha : Bd n a) (hb : Bd n b) (hc : Bd k c) (hd : Bd k d) : Bd (n + k + 3) (tX m a b c d) :=
  ((ha.mul hc).add ((hb.mul hd).mul (sqP_bd m))).mono (by omega)
theorem tY_bd {n k : Nat} {m a b c d : Int} (ha : Bd n a) (hb : Bd n b) (hc : Bd k c) (hd : Bd k d) : Bd (n + k + 4) (tY m a b c d) :=
  (((ha.mul hd).add (hb.mul hc)).add ((hb.mul hd).mul (sqQ_bd m))).mono (by omega)
theorem tA_bd {n k : Nat} {m a b c d : Int} (ha : Bd n a) (hb : Bd n b) (hc : Bd k c) (hd : Bd k d) : Bd (n + k + 5) (tA m a b c d) :=
  (nA_bd (tX_bd ha hb hc hd) (tY_bd ha hb hc hd)).mono (by omega)
theorem tB_bd {n k : Nat} {m a b c d : Int} (ha : Bd n a) (hb : Bd n b) (hc : Bd k c) (hd : Bd k d) : Bd (n + k + 5) (tB m a b c d) :=
  (nB_bd (tY_bd ha hb hc hd)).mono (by omega)
inductive R_times (C : Addr) : List D → D → Prop where
  | mk (m a b c d : Int) (h : OkM m) (ha : BB a) (hb : BB b) (hc : BB c) (hd : BB d) : R_times C [FrD C m, nD a b, nD c d] (nD (tA m a b c d) (tB m a b c d))
def pw (m a b : Int) : Nat → Int × Int
  | 0 => (1, 0)
  | k + 1 => (tA m (pw m a b k).1 (pw m a b k).2 a b, tB m (pw m a b k).1 (pw m a b k).2 a b)
theorem pw_bd {n : Nat} {m a b : Int} (ha : Bd n a) (hb : Bd n b) : ∀ k : Nat, Bd (1 + k * (n + 5)) (pw m a b k).1 ∧ Bd (1 + k * (n + 5)) (pw m a b k).2
  | 0 => ⟨by show Bd _ 1; exact bd1.mono (by omega), by show Bd _ 0; exact bd0.mono (by omega)⟩
  | k + 1 => by
    obtain ⟨h1, h2⟩ := pw_bd (m := m) ha hb k
    refine ⟨(tA_bd h1 h2 ha hb).mono ?_, (tB_bd h1 h2 ha hb).mono ?_⟩ <;> (rw [Nat.succ_mul]; omega)
inductive R_power (C : Addr) : List D → D → Prop where
  | mk (m a b : Int) (n : Int) (h : OkM m) (h0 : 0 ≤ n) (h1 : n ≤ 60) (ha : Bd 1000 a) (hb : Bd 1000 b) : R_power C [FrD C m, nD a b, .int n] (nD (pw m a b n.toNat).1 (pw m a b n.toNat).2)
inductive R_ws : List D → D → Prop where
  | mk (x : Int) : R_ws [.int x] (.int (Mt.sg x))
def sgn (m a b : Int) : Int := Mt.sn (sqQ m * sqQ m + 4 * sqP m) (2 * a + sqQ m * b) b
inductive R_sign (C : Addr) : List D → D → Prop where
  | mk (m a b : Int) (h : OkM m) (ha : BB a) (hb : BB b) : R_sign C [FrD C m, nD a b] (.int (sgn m a b))
inductive R_less (C : Addr) : List D → D → Prop where
  | mk (m a b c d : Int) (h : OkM m) (ha : Bd 90000 a) (hb : Bd 90000 b) (hc : Bd 90000 c) (hd : Bd 90000 d) : R_less C [FrD C m, nD a b, nD c d] (.bl (eqD (.int (sgn m (c - a) (d - b))) (.int 1)))
/-! ### the laws' own products -/
def lX (m a b c d : Int) : Int := if m = 8 then a * c + 2 * (b * d) else if m = 10 then a * c + b * d else if m = 12 then a * c + 3 * (b * d) else a * c
def lY (m a b c d : Int) : Int := if m = 10 then a * d + b * c + b * d else a * d + b * c
inductive R_ltimes : List D → D → Prop where
  | mk (m a b c d : Int) (h : OkM m) (ha : BB a) (hb : BB b) (hc : BB c) (hd : BB d) : R_ltimes [.int m, nD a b, nD c d] (nD (lX m a b c d) (lY m a b c d))
theorem lX_bd {n k : Nat} {m a b c d : Int} (ha : Bd n a) (hb : Bd n b) (hc : Bd k c) (hd : Bd k d) : Bd (n + k + 5) (lX m a b c d) := by
  have h2 := bd2
  have h3 := bd3
  unfold lX
  split
  · exact ((ha.mul hc).add (h2.mul (hb.mul hd))).mono (by omega)
  · split
    · exact ((ha.mul hc).add (hb.mul hd)).mono (by omega)
    · split
      · exact ((ha.mul hc).add (h3.mul (hb.mul hd))).mono (by omega)
      · exact (ha.mul hc).mono (by omega)
theorem lY_bd {n k : Nat} {m a b c d : Int} (ha : Bd n a) (hb : Bd n b) (hc : Bd k c) (hd : Bd k d) : Bd (n + k + 5) (lY m a b c d) := by
  unfold lY
  split
  · exact (((ha.mul hd).add (hb.mul hc)).add (hb.mul hd)).mono (by omega)
  · exact ((ha.mul hd).add (hb.mul hc)).mono (by omega)
/-- in the frames 4 and 6 the second place is 0 -/
def Z2 (m b : Int) : Prop := m < 8 → b = 0
theorem lt_eq {m a b c d : Int} (hm : OkM m) (hb : Z2 m b) (hd : Z2 m d) : lX m a b c d = tA m a b c d ∧ lY m a b c d = tB m a b c d := by
  rcases hm with rfl | rfl | rfl | rfl | rfl
  · obtain rfl := hb (by decide); obtain rfl := hd (by decide); simp [lX, lY, tA, tB, tX, tY, nA, nB]
  · obtain rfl := hb (by decide); obtain rfl := hd (by decide); simp [lX, lY, tA, tB, tX, tY, nA, nB]
  all_goals (simp [lX, lY, tA, tB, tX, tY, nA, nB, sqP, sqQ]; try grind)
theorem tB_z {m a b c d : Int} (hm : OkM m) : Z2 m (tB m a b c d) := by
  intro h
  rcases hm with rfl | rfl | rfl | rfl | rfl <;> first | omega | simp [tB, nB]
theorem t_comm {m a b c d : Int} (hm : OkM m) : tA m c d a b = tA m a b c d ∧ tB m c d a b = tB m a b c d := by
  rcases hm with rfl | rfl | rfl | rfl | rfl <;> (simp [tA, tB, tX, tY, nA, nB, sqP, sqQ]; try grind)
theorem t_add {m a b c d e f : Int} (hm : OkM m) : tA m a b (c + e) (d + f) = tA m a b c d + tA m a b e f ∧ tB m a b (c + e) (d + f) = tB m a b c d + tB m a b e f := by
  rcases hm with rfl | rfl | rfl | rfl | rfl <;> (simp [tA, tB, tX, tY, nA, nB, sqP, sqQ]; try grind)
theorem t_assoc {m a b c d e f : Int} (hm : OkM m) (hb : Z2 m b) (hd : Z2 m d) (hf : Z2 m f) : tA m (tA m a b c d) (tB m a b c d) e f = tA m a b (tA m c d e f) (tB m c d e f) ∧ tB m (tA m a b c d) (tB m a b c d) e f = tB m a b (tA m c d e f) (tB m c d e f) := by
  rcases hm with rfl | rfl | rfl | rfl | rfl
  · obtain rfl := hb (by decide); obtain rfl := hd (by decide); obtain rfl := hf (by decide); simp [tA, tB, tX, tY, nA, nB, sqP, sqQ]; try grind
  · obtain rfl := hb (by decide); obtain rfl := hd (by decide); obtain rfl := hf (by decide); simp [tA, tB, tX, tY, nA, nB, sqP, sqQ]; try grind
  all_goals (simp [tA, tB, tX, tY, nA, nB, sqP, sqQ]; try grind)
def lp (m a b : Int) : Nat → Int × Int
  | 0 => (1, 0)
  | k + 1 => (lX m (lp m a b k).1 (lp m a b k).2 a b, lY m (lp m a b k).1 (lp m a b k).2 a b)
theorem lp_bd {n : Nat} {m a b : Int} (ha : Bd n a) (hb : Bd n b) : ∀ k : Nat, Bd (1 + k * (n + 5)) (lp m a b k).1 ∧ Bd (1 + k * (n + 5)) (lp m a b k).2
  | 0 => ⟨by show Bd _ 1; exact bd1.mono (by omega), by show Bd _ 0; exact bd0.mono (by omega)⟩
  | k + 1 => by
    obtain ⟨h1, h2⟩ := lp_bd (m := m) ha hb k
    refine ⟨(lX_bd h1 h2 ha hb).mono ?_, (lY_bd h1 h2 ha hb).mono ?_⟩ <;> (rw [Nat.succ_mul]; omega)
theorem lp_eq {m a b : Int} (hm : OkM m) (hb : Z2 m b) : ∀ k, lp m a b k = pw m a b k ∧ Z2 m (pw m a b k).2
  | 0 => ⟨rfl, fun _ => rfl⟩
  | k + 1 => by
    obtain ⟨h1, h2⟩ := lp_eq (a := a) hm hb k
    refine ⟨?_, tB_z hm⟩
    show (lX m (lp m a b k).1 (lp m a b k).2 a b, lY m (lp m a b k).1 (lp m a b k).2 a b) = (tA m (pw m a b k).1 (pw m a b k).2 a b, tB m (pw m a b k).1 (pw m a b k).2 a b)
    rw [h1, (lt_eq (a := (pw m a b k).1) (c := a) hm h2 hb).1, (lt_eq (a := (pw m a b k).1) (c := a) hm h2 hb).2]
theorem if_int {p : Prop} [Decidable p] (x y : Int) : (if p then D.int x else D.int y) = D.int (if p then x else y) := by split <;> rfl
theorem if_bl {p : Prop} [Decidable p] (x y : Bool) : (if p then D.bl x else D.bl y) = D.bl (if p then x else y) := by split <;> rfl
theorem eqD_int (a b : Int) : eqD (.int a) (.int b) = (a == b) := rfl
theorem eqD_n (a b c d : Int) : eqD (nD a b) (nD c d) = (a == c && (b == d && true)) := rfl
end My

namespace My
open PySem L2 EV
/-! ### signs of numbers of a frame -/
theorem sn_two (Δ c b : Int) : Mt.sn Δ (2 * c) (2 * b) = Mt.sn Δ c b := by
  have e : Mt.nm Δ (2 * c) (2 * b) = 4 * Mt.nm Δ c b := by unfold Mt.nm; grind
  have s2 : ∀ x : Int, Mt.sg (2 * x) = Mt.sg x := fun x => by rw [Mt.sg_mul]; show 1 * Mt.sg x = _; omega
  unfold Mt.sn
  rw [e, s2, s2]
  by_cases h : Mt.nm Δ c b > 0
  · rw [if_pos h, if_pos (by omega)]
  · by_cases g : Mt.nm Δ c b < 0
    · rw [if_neg h, if_pos g, if_neg (by omega), if_pos (by omega)]
    · rw [if_neg h, if_neg g, if_neg (by omega), if_neg (by omega)]
theorem sn_b0 (Δ c : Int) : Mt.sn Δ c 0 = Mt.sg c := by
  unfold Mt.sn Mt.nm
  have q := Mt.sq_nn c
  by_cases h : c = 0
  · subst h; simp [Mt.sg]
  · have : 0 < c * c := by
      rcases Int.lt_or_gt_of_ne h with z | z
      · exact Int.mul_pos_of_neg_of_neg z z
      · exact Int.mul_pos z z
    rw [if_pos (by simp; exact this)]
theorem sgn_cases (m a b : Int) : sgn m a b = 1 ∨ sgn m a b = 0 ∨ sgn m a b = -1 := Mt.sn_cases _ _ _
theorem sgn_bd (m a b : Int) : Bd 1 (sgn m a b) := by
  constructor
  rcases sgn_cases m a b with h | h | h <;> rw [h] <;> decide
theorem t_plain {m a b c d : Int} (hm : OkM m) (hb : Z2 m b) (hd : Z2 m d) : tA m a b c d = tX m a b c d ∧ tB m a b c d = tY m a b c d := by
  rcases hm with rfl | rfl | rfl | rfl | rfl
  · obtain rfl := hb (by decide); obtain rfl := hd (by decide); simp [tA, tB, tX, tY, nA, nB]
  · obtain rfl := hb (by decide); obtain rfl := hd (by decide); simp [tA, tB, tX, tY, nA, nB]
  all_goals simp [tA, tB, nA, nB]
theorem sq_nn' (m : Int) : 0 ≤ sqQ m * sqQ m + 4 * sqP m := by
  have h1 := Mt.sq_nn (sqQ m)
  have h2 : 0 ≤ sqP m := by
    unfold sqP
    split
    · decide
    · split
      · decide
      · split
        · decide
        · split <;> decide
  omega
/-- the sign of a product -/
theorem sgn_mul {m a b c d : Int} (hm : OkM m) (hb : Z2 m b) (hd : Z2 m d) : sgn m (tA m a b c d) (tB m a b c d) = sgn m a b * sgn m c d := by
  rw [(t_plain hm hb hd).1, (t_plain hm hb hd).2]
  unfold sgn
  rw [← Mt.sn_mul (sq_nn' m), ← sn_two]
  congr 1
  · unfold tX tY; grind
  · unfold tY; grind
theorem sgn_neg (m a b : Int) : sgn m (-a) (-b) = - sgn m a b := by
  unfold sgn
  rw [← Mt.sn_neg]
  congr 1
  grind
theorem nosq {m : Int} (h : m = 8 ∨ m = 10 ∨ m = 12) : Mt.NoSq (sqQ m * sqQ m + 4 * sqP m) := by
  rcases h with rfl | rfl | rfl
  · exact Mt.NoSq8
  · exact Mt.NoSq5
  · exact Mt.NoSq12
theorem sg_two (x : Int) : Mt.sg (2 * x) = Mt.sg x := by rw [Mt.sg_mul]; show 1 * Mt.sg x = _; omega
theorem okM_split {m : Int} (hm : OkM m) : (m < 8) ∨ (m = 8 ∨ m = 10 ∨ m = 12) := by
  rcases hm with rfl | rfl | rfl | rfl | rfl <;> omega
theorem sgn_small {m a b : Int} (h : m < 8) (hb : Z2 m b) : sgn m a b = Mt.sg a := by
  obtain rfl := hb h
  unfold sgn
  rw [sn_b0, Int.mul_zero, Int.add_zero, sg_two]
/-- two above 0 -/
theorem sgn_add1 {m a b c d : Int} (hm : OkM m) (hb : Z2 m b) (hd : Z2 m d) (h1 : sgn m a b = 1) (h2 : sgn m c d = 1) : sgn m (a + c) (b + d) = 1 := by
  rcases okM_split hm with h | h
  · rw [sgn_small h hb] at h1
    rw [sgn_small h hd] at h2
    rw [sgn_small h (fun z => by rw [hb z, hd z]; rfl)]
    have p1 : a > 0 := by unfold Mt.sg at h1; split at h1; · assumption
                          · split at h1 <;> omega
    have p2 : c > 0 := by unfold Mt.sg at h2; split at h2; · assumption
                          · split at h2 <;> omega
    unfold Mt.sg
    rw [if_pos (by omega)]
  · unfold sgn at *
    rw [Mt.sn_pos] at *
    have := Mt.pos_add (sq_nn' m) (nosq h) h1 h2
    have e : 2 * (a + c) + sqQ m * (b + d) = 2 * a + sqQ m * b + (2 * c + sqQ m * d) := by grind
    rw [e]
    exact this
theorem sgn_zero {m a b : Int} (hm : OkM m) (hb : Z2 m b) (h0 : sgn m a b = 0) : a = 0 ∧ b = 0 := by
  rcases okM_split hm with h | h
  · have e := hb h
    rw [sgn_small h hb] at h0
    refine ⟨?_, e⟩
    unfold Mt.sg at h0
    split at h0
    · omega
    · split at h0 <;> omega
  · unfold sgn at h0
    have := Mt.sn_zero (nosq h) (sq_nn' m) h0
    have e := this.2
    subst e
    omega
theorem z2_neg {m b : Int} (h : Z2 m b) : Z2 m (-b) := fun z => by rw [h z]; rfl
theorem z2_add {m b d : Int} (h : Z2 m b) (g : Z2 m d) : Z2 m (b + d) := fun z => by rw [h z, g z]; rfl
theorem z2_sub {m b d : Int} (h : Z2 m b) (g : Z2 m d) : Z2 m (b - d) := fun z => by rw [h z, g z]; rfl
theorem sgn_00 (m : Int) : sgn m 0 0 = 0 := by unfold sgn; rw [sn_b0]; simp [Mt.sg]
/-- two of one sign -/
theorem sgn_add {m a b c d : Int} (hm : OkM m) (hb : Z2 m b) (hd : Z2 m d) (h : sgn m a b = sgn m c d) : sgn m (a + c) (b + d) = sgn m a b := by
  rcases sgn_cases m a b with g | g | g
  · rw [g]; exact sgn_add1 hm hb hd g (h ▸ g)
  · obtain ⟨rfl, rfl⟩ := sgn_zero hm hb g
    obtain ⟨rfl, rfl⟩ := sgn_zero hm hd (h ▸ g)
    rw [g]; simpa using g
  · have g2 : sgn m c d = -1 := h ▸ g
    have k1 : sgn m (-a) (-b) = 1 := by rw [sgn_neg, g]; rfl
    have k2 : sgn m (-c) (-d) = 1 := by rw [sgn_neg, g2]; rfl
    have k := sgn_add1 hm (z2_neg hb) (z2_neg hd) k1 k2
    have e1 : -a + -c = -(a + c) := by omega
    have e2 : -b + -d = -(b + d) := by omega
    rw [e1, e2, sgn_neg] at k
    omega
theorem sgn_one {m : Int} (hm : OkM m) : sgn m 1 0 = 1 := by rcases hm with rfl | rfl | rfl | rfl | rfl <;> decide
theorem sgn_pw {m a b : Int} (hm : OkM m) (hb : Z2 m b) : ∀ k : Nat, sgn m (pw m a b (k + 1)).1 (pw m a b (k + 1)).2 = sgn m (pw m a b k).1 (pw m a b k).2 * sgn m a b := fun k =>
  sgn_mul hm (lp_eq hm hb k).2 hb
theorem t_sub {m a b c d e f : Int} (hm : OkM m) : tA m (c - a) (d - b) e f = tA m c d e f - tA m a b e f ∧ tB m (c - a) (d - b) e f = tB m c d e f - tB m a b e f := by
  rcases hm with rfl | rfl | rfl | rfl | rfl <;> (simp [tA, tB, tX, tY, nA, nB, sqP, sqQ]; try grind)
end My

namespace My
open PySem L2 EV
/-! ### points -/
abbrev pD (a b c d : Int) : D := .tup [nD a b, nD c d]
/-- x + w y -/
def aA (m a c d : Int) : Int := a + tA m (nA m 0 1) (nB m 1) c d
def aB (m b c d : Int) : Int := b + tB m (nA m 0 1) (nB m 1) c d
theorem w_bd (m : Int) : Bd 2 (nA m 0 1) ∧ Bd 2 (nB m 1) := ⟨nA_bd bd0 bd1, (nB_bd bd1).mono (by decide)⟩
theorem aA_bd {n : Nat} {m a c d : Int} (ha : Bd n a) (hc : Bd n c) (hd : Bd n d) : Bd (n + 8) (aA m a c d) :=
  (ha.add (tA_bd (w_bd m).1 (w_bd m).2 hc hd)).mono (by omega)
theorem aB_bd {n : Nat} {m b c d : Int} (hb : Bd n b) (hc : Bd n c) (hd : Bd n d) : Bd (n + 8) (aB m b c d) :=
  (hb.add (tB_bd (w_bd m).1 (w_bd m).2 hc hd)).mono (by omega)
inductive R_along (C : Addr) : List D → D → Prop where
  | mk (m a b c d : Int) (h : OkM m) (ha : Bd 50000 a) (hb : Bd 50000 b) (hc : Bd 50000 c) (hd : Bd 50000 d) : R_along C [FrD C m, pD a b c d] (nD (aA m a c d) (aB m b c d))
inductive R_once (C : Addr) : List D → D → Prop where
  | mk (m a b c d : Int) (h : OkM m) (ha : Bd 50000 a) (hb : Bd 50000 b) (hc : Bd 50000 c) (hd : Bd 50000 d) : R_once C [FrD C m, pD a b c d] (pD (0 - c) (0 - d) (aA m a c d) (aB m b c d))
structure P4 where
  a : Int
  b : Int
  c : Int
  d : Int
abbrev P4.D (p : P4) : D := pD p.a p.b p.c p.d
def P4.once (m : Int) (p : P4) : P4 := ⟨0 - p.c, 0 - p.d, aA m p.a p.c p.d, aB m p.b p.c p.d⟩
def P4.turn (m : Int) (p : P4) : Nat → P4
  | 0 => p
  | k + 1 => (P4.turn m p k).once m
structure P4.B (n : Nat) (p : P4) : Prop where
  a : Bd n p.a
  b : Bd n p.b
  c : Bd n p.c
  d : Bd n p.d
theorem P4.B.mono {n k : Nat} {p : P4} (h : p.B n) (g : n ≤ k) : p.B k := ⟨h.a.mono g, h.b.mono g, h.c.mono g, h.d.mono g⟩
theorem P4.once_B {n : Nat} {m : Int} {p : P4} (h : p.B n) : (p.once m).B (n + 8) :=
  ⟨(bd0.sub h.c).mono (by omega), (bd0.sub h.d).mono (by omega), aA_bd h.a h.c h.d, aB_bd h.b h.c h.d⟩
theorem P4.turn_B {n : Nat} {m : Int} {p : P4} (h : p.B n) : ∀ k, (p.turn m k).B (n + 8 * k)
  | 0 => h.mono (by omega)
  | k + 1 => (P4.once_B (P4.turn_B h k)).mono (by omega)
inductive R_turned (C : Addr) : List D → D → Prop where
  | mk (m r : Int) (p : P4) (h : OkM m) (hp : p.B 40000) : R_turned C [FrD C m, pD p.a p.b p.c p.d, .int r] (P4.D (p.turn m (r % m).toNat))
def P4.mir (m : Int) (p : P4) : P4 := ⟨aA m p.a p.c p.d, aB m p.b p.c p.d, 0 - p.c, 0 - p.d⟩
inductive R_mirrored (C : Addr) : List D → D → Prop where
  | mk (m : Int) (p : P4) (h : OkM m) (hp : p.B 40000) : R_mirrored C [FrD C m, pD p.a p.b p.c p.d] (P4.D (p.mir m))
def P4.plus (p q : P4) : P4 := ⟨p.a + q.a, p.b + q.b, p.c + q.c, p.d + q.d⟩
inductive R_added : List D → D → Prop where
  | mk (p q : P4) : R_added [pD p.a p.b p.c p.d, pD q.a q.b q.c q.d] (P4.D (p.plus q))
def P4.scal (m e f : Int) (p : P4) : P4 := ⟨tA m p.a p.b e f, tB m p.a p.b e f, tA m p.c p.d e f, tB m p.c p.d e f⟩
inductive R_scaled (C : Addr) : List D → D → Prop where
  | mk (m e f : Int) (p : P4) (h : OkM m) (hp : p.B 40000) (he : BB e) (hf : BB f) : R_scaled C [FrD C m, pD p.a p.b p.c p.d, nD e f] (P4.D (p.scal m e f))
def crA (m : Int) (p q : P4) : Int := tA m p.a p.b q.c q.d - tA m p.c p.d q.a q.b
def crB (m : Int) (p q : P4) : Int := tB m p.a p.b q.c q.d - tB m p.c p.d q.a q.b
inductive R_cross (C : Addr) : List D → D → Prop where
  | mk (m : Int) (p q : P4) (h : OkM m) (hp : p.B 100000) (hq : q.B 100000) : R_cross C [FrD C m, pD p.a p.b p.c p.d, pD q.a q.b q.c q.d] (nD (crA m p q) (crB m p q))
/-- the second places are 0 in the frames 4 and 6 -/
structure P4.Z (m : Int) (p : P4) : Prop where
  b : Z2 m p.b
  d : Z2 m p.d
theorem P4.once_Z {m : Int} {p : P4} (hm : OkM m) (h : p.Z m) : (p.once m).Z m :=
  ⟨z2_sub (fun _ => rfl) h.d, z2_add h.b (tB_z hm)⟩
theorem P4.mir_Z {m : Int} {p : P4} (hm : OkM m) (h : p.Z m) : (p.mir m).Z m :=
  ⟨z2_add h.b (tB_z hm), z2_sub (fun _ => rfl) h.d⟩
theorem P4.turn_Z {m : Int} {p : P4} (hm : OkM m) (h : p.Z m) : ∀ k, (p.turn m k).Z m
  | 0 => h
  | k + 1 => P4.once_Z hm (P4.turn_Z hm h k)
theorem P4.ext' {p q : P4} (h1 : p.a = q.a) (h2 : p.b = q.b) (h3 : p.c = q.c) (h4 : p.d = q.d) : p = q := by cases p; cases q; simp_all
/-- a cross stays when both are turned -/
theorem cr_once {m : Int} {p q : P4} (hm : OkM m) (hp : p.Z m) (hq : q.Z m) : crA m (p.once m) (q.once m) = crA m p q ∧ crB m (p.once m) (q.once m) = crB m p q := by
  obtain ⟨a, b, c, d⟩ := p
  obtain ⟨e, f, g, h⟩ := q
  rcases hm with rfl | rfl | rfl | rfl | rfl
  · obtain rfl : b = 0 := hp.b (by decide); obtain rfl : d = 0 := hp.d (by decide); obtain rfl : f = 0 := hq.b (by decide); obtain rfl : h = 0 := hq.d (by decide)
    simp [crA, crB, P4.once, aA, aB, tA, tB, tX, tY, nA, nB, sqP, sqQ]; try grind
  · obtain rfl : b = 0 := hp.b (by decide); obtain rfl : d = 0 := hp.d (by decide); obtain rfl : f = 0 := hq.b (by decide); obtain rfl : h = 0 := hq.d (by decide)
    simp [crA, crB, P4.once, aA, aB, tA, tB, tX, tY, nA, nB, sqP, sqQ]; try grind
  all_goals (simp [crA, crB, P4.once, aA, aB, tA, tB, tX, tY, nA, nB, sqP, sqQ]; try grind)
theorem cr_turn {m : Int} {p q : P4} (hm : OkM m) (hp : p.Z m) (hq : q.Z m) : ∀ k, crA m (p.turn m k) (q.turn m k) = crA m p q ∧ crB m (p.turn m k) (q.turn m k) = crB m p q
  | 0 => ⟨rfl, rfl⟩
  | k + 1 => by
    have h := cr_once hm (P4.turn_Z hm hp k) (P4.turn_Z hm hq k)
    have g := cr_turn hm hp hq k
    exact ⟨h.1.trans g.1, h.2.trans g.2⟩
theorem cr_mir {m : Int} {p q : P4} (hm : OkM m) (hp : p.Z m) (hq : q.Z m) : crA m (p.mir m) (q.mir m) = - crA m p q ∧ crB m (p.mir m) (q.mir m) = - crB m p q := by
  obtain ⟨a, b, c, d⟩ := p
  obtain ⟨e, f, g, h⟩ := q
  rcases hm with rfl | rfl | rfl | rfl | rfl
  · obtain rfl : b = 0 := hp.b (by decide); obtain rfl : d = 0 := hp.d (by decide); obtain rfl : f = 0 := hq.b (by decide); obtain rfl : h = 0 := hq.d (by decide)
    simp [crA, crB, P4.mir, aA, aB, tA, tB, tX, tY, nA, nB, sqP, sqQ]; try grind
  · obtain rfl : b = 0 := hp.b (by decide); obtain rfl : d = 0 := hp.d (by decide); obtain rfl : f = 0 := hq.b (by decide); obtain rfl : h = 0 := hq.d (by decide)
    simp [crA, crB, P4.mir, aA, aB, tA, tB, tX, tY, nA, nB, sqP, sqQ]; try grind
  all_goals (simp [crA, crB, P4.mir, aA, aB, tA, tB, tX, tY, nA, nB, sqP, sqQ]; try grind)
theorem cr_add {m : Int} {p q r : P4} (hm : OkM m) : crA m p (q.plus r) = crA m p q + crA m p r ∧ crB m p (q.plus r) = crB m p q + crB m p r := by
  obtain ⟨a, b, c, d⟩ := p
  obtain ⟨e, f, g, h⟩ := q
  obtain ⟨i, j, k, l⟩ := r
  rcases hm with rfl | rfl | rfl | rfl | rfl <;> (simp [crA, crB, P4.plus, tA, tB, tX, tY, nA, nB, sqP, sqQ]; try grind)
theorem cr_swap {m : Int} {p q : P4} (hm : OkM m) : crA m q p = - crA m p q ∧ crB m q p = - crB m p q := by
  obtain ⟨a, b, c, d⟩ := p
  obtain ⟨e, f, g, h⟩ := q
  rcases hm with rfl | rfl | rfl | rfl | rfl <;> (simp [crA, crB, tA, tB, tX, tY, nA, nB, sqP, sqQ]; try grind)
theorem cr_scal {m e f : Int} {p q : P4} (hm : OkM m) (hp : p.Z m) (hq : q.Z m) (hf : Z2 m f) : crA m (p.scal m e f) q = tA m (crA m p q) (crB m p q) e f ∧ crB m (p.scal m e f) q = tB m (crA m p q) (crB m p q) e f := by
  obtain ⟨a, b, c, d⟩ := p
  obtain ⟨x, y, z, t⟩ := q
  rcases hm with rfl | rfl | rfl | rfl | rfl
  · obtain rfl : b = 0 := hp.b (by decide); obtain rfl : d = 0 := hp.d (by decide); obtain rfl : y = 0 := hq.b (by decide); obtain rfl : t = 0 := hq.d (by decide); obtain rfl : f = 0 := hf (by decide)
    simp [crA, crB, P4.scal, tA, tB, tX, tY, nA, nB, sqP, sqQ]; try grind
  · obtain rfl : b = 0 := hp.b (by decide); obtain rfl : d = 0 := hp.d (by decide); obtain rfl : y = 0 := hq.b (by decide); obtain rfl : t = 0 := hq.d (by decide); obtain rfl : f = 0 := hf (by decide)
    simp [crA, crB, P4.scal, tA, tB, tX, tY, nA, nB, sqP, sqQ]; try grind
  all_goals (simp [crA, crB, P4.scal, tA, tB, tX, tY, nA, nB, sqP, sqQ]; try grind)
theorem P4.mir_B {n : Nat} {m : Int} {p : P4} (h : p.B n) : (p.mir m).B (n + 8) :=
  ⟨aA_bd h.a h.c h.d, aB_bd h.b h.c h.d, (bd0.sub h.c).mono (by omega), (bd0.sub h.d).mono (by omega)⟩
theorem P4.plus_B {n k : Nat} {p q : P4} (h : p.B n) (g : q.B k) : (p.plus q).B (n + k + 1) :=
  ⟨(h.a.add g.a).mono (by omega), (h.b.add g.b).mono (by omega), (h.c.add g.c).mono (by omega), (h.d.add g.d).mono (by omega)⟩
theorem P4.scal_B {n k : Nat} {m e f : Int} {p : P4} (h : p.B n) (he : Bd k e) (hf : Bd k f) : (p.scal m e f).B (n + k + 5) :=
  ⟨tA_bd h.a h.b he hf, tB_bd h.a h.b he hf, tA_bd h.c h.d he hf, tB_bd h.c h.d he hf⟩
theorem crA_bd {n k : Nat} {m : Int} {p q : P4} (h : p.B n) (g : q.B k) : Bd (n + k + 6) (crA m p q) :=
  ((tA_bd h.a h.b g.c g.d).sub (tA_bd h.c h.d g.a g.b)).mono (by omega)
theorem crB_bd {n k : Nat} {m : Int} {p q : P4} (h : p.B n) (g : q.B k) : Bd (n + k + 6) (crB m p q) :=
  ((tB_bd h.a h.b g.c g.d).sub (tB_bd h.c h.d g.a g.b)).mono (by omega)
inductive R_lcross : List D → D → Prop where
  | mk (m : Int) (p q : P4) (h : OkM m) (hp : p.B 1000) (hq : q.B 1000) (zp : p.Z m) (zq : q.Z m) : R_lcross [.int m, pD p.a p.b p.c p.d, pD q.a q.b q.c q.d] (nD (crA m p q) (crB m p q))
theorem okM_pos {m : Int} (hm : OkM m) : 0 < m ∧ m ≤ 12 := by rcases hm with rfl | rfl | rfl | rfl | rfl <;> omega
theorem turns_le {m : Int} (hm : OkM m) (r : Int) : (r % m).toNat ≤ 12 := by
  have h := okM_pos hm
  have h1 := Int.emod_lt_of_pos r h.1
  omega
end My

namespace My
open PySem L2 EV
/-! ### whole and half turns, mirrors -/
def P4.neg (p : P4) : P4 := ⟨-p.a, -p.b, -p.c, -p.d⟩
theorem P4.turn_add (m : Int) (p : P4) (j : Nat) : ∀ k, (p.turn m j).turn m k = p.turn m (j + k)
  | 0 => rfl
  | k + 1 => by
    show ((p.turn m j).turn m k).once m = (p.turn m (j + k)).once m
    rw [P4.turn_add m p j k]
theorem half_turn {m : Int} {p : P4} (hm : OkM m) (hp : p.Z m) : p.turn m (m / 2).toNat = p.neg := by
  obtain ⟨a, b, c, d⟩ := p
  rcases hm with rfl | rfl | rfl | rfl | rfl
  · obtain rfl : b = 0 := hp.b (by decide); obtain rfl : d = 0 := hp.d (by decide)
    show P4.turn 4 _ 2 = _
    simp [P4.turn, P4.once, P4.neg, aA, aB, tA, tB, tX, tY, nA, nB, sqP, sqQ]
  · obtain rfl : b = 0 := hp.b (by decide); obtain rfl : d = 0 := hp.d (by decide)
    show P4.turn 6 _ 3 = _
    simp [P4.turn, P4.once, P4.neg, aA, aB, tA, tB, tX, tY, nA, nB, sqP, sqQ]
    try omega
  · show P4.turn 8 _ 4 = _
    apply P4.ext' <;> (simp [P4.turn, P4.once, P4.neg, aA, aB, tA, tB, tX, tY, nA, nB, sqP, sqQ]; try omega)
  · show P4.turn 10 _ 5 = _
    apply P4.ext' <;> (simp [P4.turn, P4.once, P4.neg, aA, aB, tA, tB, tX, tY, nA, nB, sqP, sqQ]; try omega)
  · show P4.turn 12 _ 6 = _
    apply P4.ext' <;> (simp [P4.turn, P4.once, P4.neg, aA, aB, tA, tB, tX, tY, nA, nB, sqP, sqQ]; try omega)
theorem P4.neg_neg (p : P4) : p.neg.neg = p := by cases p; simp [P4.neg]
theorem P4.neg_Z {m : Int} {p : P4} (h : p.Z m) : p.neg.Z m := ⟨z2_neg h.b, z2_neg h.d⟩
theorem full_turn {m : Int} {p : P4} (hm : OkM m) (hp : p.Z m) : p.turn m m.toNat = p := by
  have e : m.toNat = (m / 2).toNat + (m / 2).toNat := by rcases hm with rfl | rfl | rfl | rfl | rfl <;> rfl
  rw [e, ← P4.turn_add, half_turn hm hp, half_turn hm (P4.neg_Z hp), P4.neg_neg]
theorem turn_per {m : Int} {p : P4} (hm : OkM m) (hp : p.Z m) (k : Nat) : p.turn m (k + m.toNat) = p.turn m k := by
  rw [← P4.turn_add, full_turn hm (P4.turn_Z hm hp k)]
/-- turned so often and then otherwise -/
theorem turn_two {m r s : Int} {p : P4} (hm : OkM m) (hp : p.Z m) : (p.turn m (r % m).toNat).turn m (s % m).toNat = p.turn m ((r + s) % m).toNat := by
  have h := okM_pos hm
  have r1 := Int.emod_nonneg r (Int.ne_of_gt h.1)
  have r2 := Int.emod_lt_of_pos r h.1
  have s1 := Int.emod_nonneg s (Int.ne_of_gt h.1)
  have s2 := Int.emod_lt_of_pos s h.1
  rw [P4.turn_add, Int.add_emod]
  rcases (by omega : r % m + s % m < m ∨ m ≤ r % m + s % m) with c | c
  · have e : (r % m + s % m) % m = r % m + s % m := Int.emod_eq_of_lt (by omega) c
    rw [e]
    congr 1
    omega
  · have e : (r % m + s % m) % m = r % m + s % m - m := by
      rw [← Int.sub_emod_right, Int.emod_eq_of_lt (by omega) (by omega)]
    rw [e]
    have e2 : (r % m).toNat + (s % m).toNat = (r % m + s % m - m).toNat + m.toNat := by omega
    rw [e2, turn_per hm hp]
theorem mir_mir {m : Int} {p : P4} (hm : OkM m) (hp : p.Z m) : (p.mir m).mir m = p := by
  obtain ⟨a, b, c, d⟩ := p
  rcases hm with rfl | rfl | rfl | rfl | rfl
  · obtain rfl : b = 0 := hp.b (by decide); obtain rfl : d = 0 := hp.d (by decide)
    apply P4.ext' <;> (simp [P4.mir, aA, aB, tA, tB, tX, tY, nA, nB, sqP, sqQ]; try omega)
  · obtain rfl : b = 0 := hp.b (by decide); obtain rfl : d = 0 := hp.d (by decide)
    apply P4.ext' <;> (simp [P4.mir, aA, aB, tA, tB, tX, tY, nA, nB, sqP, sqQ]; try omega)
  all_goals (apply P4.ext' <;> (simp [P4.mir, aA, aB, tA, tB, tX, tY, nA, nB, sqP, sqQ]; try omega))
theorem mir_once {m : Int} {p : P4} (hm : OkM m) (hp : p.Z m) : ((p.once m).mir m).once m = p.mir m := by
  obtain ⟨a, b, c, d⟩ := p
  rcases hm with rfl | rfl | rfl | rfl | rfl
  · obtain rfl : b = 0 := hp.b (by decide); obtain rfl : d = 0 := hp.d (by decide)
    apply P4.ext' <;> (simp [P4.mir, P4.once, aA, aB, tA, tB, tX, tY, nA, nB, sqP, sqQ]; try omega)
  · obtain rfl : b = 0 := hp.b (by decide); obtain rfl : d = 0 := hp.d (by decide)
    apply P4.ext' <;> (simp [P4.mir, P4.once, aA, aB, tA, tB, tX, tY, nA, nB, sqP, sqQ]; try omega)
  all_goals (apply P4.ext' <;> (simp [P4.mir, P4.once, aA, aB, tA, tB, tX, tY, nA, nB, sqP, sqQ]; try omega))
theorem once_turn (m : Int) (p : P4) : ∀ k, (p.once m).turn m k = (p.turn m k).once m
  | 0 => rfl
  | k + 1 => by
    show ((p.once m).turn m k).once m = _
    rw [once_turn m p k]; rfl
theorem mir_turn {m : Int} {p : P4} (hm : OkM m) (hp : p.Z m) : ∀ k, ((p.turn m k).mir m).turn m k = p.mir m
  | 0 => rfl
  | k + 1 => by
    show (((p.turn m k).once m).mir m).turn m (k + 1) = _
    show ((((p.turn m k).once m).mir m).turn m k).once m = _
    rw [← once_turn, mir_once hm (P4.turn_Z hm hp k), mir_turn hm hp k]
/-- a mirror turns the other way -/
theorem mir_back {m r : Int} {p : P4} (hm : OkM m) (hp : p.Z m) : (p.turn m (r % m).toNat).mir m = (p.mir m).turn m ((-r) % m).toNat := by
  have hz : ((p.turn m (r % m).toNat).mir m).Z m := P4.mir_Z hm (P4.turn_Z hm hp _)
  rw [← mir_turn hm hp (r % m).toNat, turn_two (s := -r) hm hz]
  have e : r + -r = 0 := by omega
  rw [e]
  rfl
theorem zero_turn {m : Int} (hm : OkM m) : ∀ k, P4.turn m ⟨0, 0, 0, 0⟩ k = ⟨0, 0, 0, 0⟩
  | 0 => rfl
  | k + 1 => by
    show (P4.turn m ⟨0, 0, 0, 0⟩ k).once m = _
    rw [zero_turn hm k]
    rcases hm with rfl | rfl | rfl | rfl | rfl <;> rfl
def bX (m c d : Int) : Int := if m = 4 then 0 else if m = 6 then c else if m = 8 then 2 * d else if m = 10 then d else 3 * d
def bY (m c d : Int) : Int := if m = 4 then 0 else if m = 6 then 0 else if m = 8 then c else if m = 10 then c + d else c
theorem b_eq {m a b c d : Int} (hm : OkM m) (hd : Z2 m d) : a + bX m c d = aA m a c d ∧ b + bY m c d = aB m b c d := by
  rcases hm with rfl | rfl | rfl | rfl | rfl
  · obtain rfl := hd (by decide); simp [bX, bY, aA, aB, tA, tB, tX, tY, nA, nB, sqP, sqQ]
  · obtain rfl := hd (by decide); simp [bX, bY, aA, aB, tA, tB, tX, tY, nA, nB, sqP, sqQ]
  all_goals (simp [bX, bY, aA, aB, tA, tB, tX, tY, nA, nB, sqP, sqQ]; try omega)
inductive R_by_w : List D → D → Prop where
  | mk (m c d : Int) (h : OkM m) : R_by_w [.int m, nD c d] (nD (bX m c d) (bY m c d))
inductive R_lonce : List D → D → Prop where
  | mk (m : Int) (p : P4) (h : OkM m) (hz : p.Z m) : R_lonce [.int m, pD p.a p.b p.c p.d] (P4.D (p.once m))
inductive R_psame : List D → D → Prop where
  | mk (p q : P4) : R_psame [pD p.a p.b p.c p.d, pD q.a q.b q.c q.d] (.bl (eqD (P4.D p) (P4.D q)))
theorem eqD_p (p : P4) : eqD (P4.D p) (P4.D p) = true := by
  show (((p.a == p.a) && ((p.b == p.b) && true)) && (((p.c == p.c) && ((p.d == p.d) && true)) && true)) = true
  simp
end My

namespace My
open PySem L2 EV
/-! ### the greatest whole number that is not above b w (k04, k05): what the laws' halving finds, and the sign by it -/
def abv (m b x : Int) : Bool := if m = 8 then decide (2 * b * b < x * x) else if m = 12 then decide (3 * b * b < x * x) else decide (b * b + x * b < x * x)
theorem abv_mono {m b x y : Int} (hb : 0 ≤ b) (hx : 0 ≤ x) (hxy : x ≤ y) (h : abv m b x = true) : abv m b y = true := by
  have q : x * x ≤ y * y := Int.mul_le_mul hxy hxy hx (by omega)
  unfold abv at *
  split at h
  · rename_i e
    rw [if_pos e]
    have := of_decide_eq_true h
    exact decide_eq_true (by omega)
  · rename_i e
    rw [if_neg e]
    split at h
    · rename_i e2
      rw [if_pos e2]
      have := of_decide_eq_true h
      exact decide_eq_true (by omega)
    · rename_i e2
      rw [if_neg e2]
      have h1 := of_decide_eq_true h
      have hbx : b < x := by
        rcases Mt.lt_or_ge b x with z | z
        · exact z
        · exfalso
          have : x * x ≤ x * b := Int.mul_le_mul_of_nonneg_left z hx
          have := Mt.sq_nn b
          omega
      refine decide_eq_true ?_
      obtain ⟨d, rfl⟩ : ∃ d, y = x + d := ⟨y - x, by omega⟩
      have hd : 0 ≤ d := by omega
      have k1 : 0 ≤ d * (x - b) := Int.mul_nonneg hd (by omega)
      have k2 := Mt.sq_nn d
      have k3 : 0 ≤ d * x := Int.mul_nonneg hd hx
      have e1 : (x + d) * (x + d) = x * x + d * x + d * x + d * d := by grind
      have e2 : (x + d) * b = x * b + d * b := by grind
      have e3 : d * (x - b) = d * x - d * b := by grind
      omega
structure IsF (m b f : Int) : Prop where
  nn : 0 ≤ f
  no : abv m b f = false
  yes : abv m b (f + 1) = true
theorem abv_zero {m b : Int} (hb : 0 ≤ b) : abv m b 0 = false := by
  have q := Mt.sq_nn b
  unfold abv
  split
  · exact decide_eq_false (by rw [Int.mul_assoc]; omega)
  · split
    · exact decide_eq_false (by rw [Int.mul_assoc]; omega)
    · exact decide_eq_false (by omega)
theorem abv_top {m b : Int} (hb : 0 ≤ b) : abv m b (2 * b + 1) = true := by
  have q := Mt.sq_nn b
  have e : (2 * b + 1) * (2 * b + 1) = 4 * (b * b) + 4 * b + 1 := by grind
  have e2 : (2 * b + 1) * b = 2 * (b * b) + b := by grind
  unfold abv
  split
  · exact decide_eq_true (by rw [e, Int.mul_assoc]; omega)
  · split
    · exact decide_eq_true (by rw [e, Int.mul_assoc]; omega)
    · exact decide_eq_true (by rw [e, e2]; omega)
theorem isF_ex {m b : Int} (hb : 0 ≤ b) : ∃ f, IsF m b f ∧ f ≤ 2 * b := by
  have key : ∀ (n : Nat) (lo hi : Int), (hi - lo).toNat ≤ n → 0 ≤ lo → lo < hi → hi ≤ 2 * b + 1 → abv m b lo = false → abv m b hi = true → ∃ f, IsF m b f ∧ f ≤ 2 * b := by
    intro n
    induction n with
    | zero => intro lo hi h1 _ h2; omega
    | succ n ih =>
      intro lo hi h1 h0 h2 h3 h4 h5
      by_cases c : hi = lo + 1
      · subst c; exact ⟨lo, ⟨h0, h4, h5⟩, by omega⟩
      · cases z : abv m b (lo + 1) with
        | true => exact ⟨lo, ⟨h0, h4, z⟩, by omega⟩
        | false => exact ih (lo + 1) hi (by omega) (by omega) (by omega) h3 z h5
  exact key (2 * b + 1).toNat 0 (2 * b + 1) (by omega) (by omega) (by omega) (by omega) (abv_zero hb) (abv_top hb)
/-- above 0 just where a + floor is not below 0 -/
theorem sgn_floor {m a b f : Int} (hm : m = 8 ∨ m = 10 ∨ m = 12) (hb : 0 < b) (hf : IsF m b f) : sgn m a b = if a + f ≥ 0 then 1 else -1 := by
  have key : ∀ x : Int, 0 ≤ x → (abv m b x = true ↔ Mt.nm (sqQ m * sqQ m + 4 * sqP m) (2 * (-x) + sqQ m * b) b > 0) := by
    intro x _
    unfold Mt.nm
    rcases hm with rfl | rfl | rfl
    · simp only [abv, sqQ, sqP]; simp; constructor <;> intro h <;> (first | grind | skip)
    · simp only [abv, sqQ, sqP]; simp; constructor <;> intro h <;> (first | grind | skip)
    · simp only [abv, sqQ, sqP]; simp; constructor <;> intro h <;> (first | grind | skip)
  have hq : 0 ≤ sqQ m ∧ sqQ m ≤ 1 := by rcases hm with rfl | rfl | rfl <;> decide
  rcases Mt.lt_or_ge a 0 with ha | ha
  · obtain ⟨x, rfl⟩ : ∃ x, a = -x := ⟨-a, by omega⟩
    by_cases c : x ≤ f
    · rw [if_pos (by omega)]
      have n1 : ¬ (abv m b x = true) := fun z => by
        have := abv_mono (Int.le_of_lt hb) (by omega) c z
        rw [hf.no] at this
        cases this
      have n2 : ¬ (Mt.nm (sqQ m * sqQ m + 4 * sqP m) (2 * -x + sqQ m * b) b > 0) := fun z => n1 ((key x (by omega)).mpr z)
      unfold sgn Mt.sn
      rw [if_neg n2]
      have n3 : Mt.nm (sqQ m * sqQ m + 4 * sqP m) (2 * -x + sqQ m * b) b ≠ 0 := fun z => by
        have := nosq hm (2 * -x + sqQ m * b) b (by unfold Mt.nm at z; omega)
        omega
      rw [if_pos (by omega)]
      unfold Mt.sg
      rw [if_pos hb]
    · rw [if_neg (by omega)]
      have y1 := abv_mono (Int.le_of_lt hb) (by have := hf.nn; omega) (show f + 1 ≤ x by omega) hf.yes
      have y2 := (key x (by omega)).mp y1
      unfold sgn Mt.sn
      rw [if_pos y2]
      have : 2 * -x + sqQ m * b < 0 := by
        rcases hm with rfl | rfl | rfl
        · show 2 * -x + 0 * b < 0; omega
        · show 2 * -x + 1 * b < 0
          have h1 : b * b + x * b < x * x := by simpa [abv] using y1
          rcases Mt.lt_or_ge b (2 * x) with z | z
          · omega
          · exfalso
            have : x * x ≤ x * b := Int.mul_le_mul_of_nonneg_left (by omega) (by omega)
            have := Mt.sq_nn b
            omega
        · show 2 * -x + 0 * b < 0; omega
      unfold Mt.sg
      rw [if_neg (by omega), if_pos this]
  · have := hf.nn
    rw [if_pos (by omega)]
    unfold sgn
    rw [Mt.sn_pos]
    have hqb : 0 ≤ sqQ m * b := Int.mul_nonneg hq.1 (by omega)
    rcases Int.lt_trichotomy ((2 * a + sqQ m * b) * (2 * a + sqQ m * b)) ((sqQ m * sqQ m + 4 * sqP m) * b * b) with g | g | g
    · exact .inr ⟨hb, g⟩
    · have := nosq hm _ _ g
      omega
    · refine .inl ⟨?_, g⟩
      rcases Mt.lt_or_ge 0 (2 * a + sqQ m * b) with z | z
      · exact z
      · exfalso
        have e : 2 * a + sqQ m * b = 0 := by omega
        rw [e] at g
        have h2 := Int.mul_nonneg (sq_nn' m) (Mt.sq_nn b)
        rw [← Int.mul_assoc] at h2
        omega
end My

namespace My
open PySem PySem.Spec PyProof.Rows L2 EV
/-! ### the table of squares, Frame's __init__, size, number, is_frame_size, plus, minus -/
structure Sq (K : PySem.W.Frag) (mg : Str → Option Value) (ents : List (Int × Tok × Value)) : Prop where
  kd : KD K mg "SQUARES" ents
  at_ : ∀ m, OkM m → ∃ b, valueAt (ents.map pairI) m = some (.ref b) ∧ ∀ H, SqT K H b [.int (sqP m), .int (sqQ m)]
structure Cl (K : PySem.W.Frag) (C : Addr) : Prop where
  cl : Cls K C
  n_m : NoAttr K C "m"
  n_square : NoAttr K C "square"
theorem kne : ¬ (("m" : Str) = "square") := by decide +kernel
theorem flds_eq (x y : V) : putF "square" y (putF "m" x []) = (["m", "square"] : List Str).zip [x, y] := by
  show (if ("m" : Str) = "square" then [(("m" : Str), y)] else (("m" : Str), x) :: putF "square" y []) = _
  rw [if_neg kne]
  rfl
theorem tupK {K : PySem.W.Frag} {b : Addr} {oc : Value} {dd : Option Addr} {n : Nat} {t u : Tok} {x y : Int} {sl : Array (Option Value)} (h : K.lookup b = some ⟨.type "tuple", dd, .seq #[.int x t, .int y u] n, sl⟩) : ∀ H, SqT K H b [.int x, .int y] :=
  fun H => .inr ⟨_, _, n, h, rfl, rfl, by show 2 ≤ sizeLine; decide, .cons ⟨t, rfl⟩ (.cons ⟨u, rfl⟩ .nil)⟩
theorem refK {K : PySem.W.Frag} {b x y : Addr} {dd : Option Addr} {n : Nat} {sl : Array (Option Value)} (h : K.lookup b = some ⟨.type "tuple", dd, .seq #[.ref x, .ref y] n, sl⟩) : ∀ H, SqT K H b [.ref x, .ref y] :=
  fun H => .inr ⟨_, _, n, h, rfl, rfl, by show 2 ≤ sizeLine; decide, .cons rfl (.cons rfl .nil)⟩
theorem sq_mk {K : PySem.W.Frag} {mg : Str → Option Value} {a b4 b6 b8 b10 b12 : Addr} {ep : Nat} {t4 t6 t8 t10 t12 : Tok} (hm : mg "SQUARES" = some (.ref a)) (hs : (a == sysModules) = false)
    (hk : K.lookup a = some ⟨.type "dict", none, .dict #[⟨4, .int 4 t4, .ref b4⟩, ⟨6, .int 6 t6, .ref b6⟩, ⟨8, .int 8 t8, .ref b8⟩, ⟨10, .int 10 t10, .ref b10⟩, ⟨12, .int 12 t12, .ref b12⟩] ep, #[]⟩)
    (h4 : ∀ H, SqT K H b4 [.int 0, .int 0]) (h6 : ∀ H, SqT K H b6 [.int 1, .int 0]) (h8 : ∀ H, SqT K H b8 [.int 2, .int 0]) (h10 : ∀ H, SqT K H b10 [.int 1, .int 1]) (h12 : ∀ H, SqT K H b12 [.int 3, .int 0]) :
    Sq K mg [(4, t4, .ref b4), (6, t6, .ref b6), (8, t8, .ref b8), (10, t10, .ref b10), (12, t12, .ref b12)] := by
  refine ⟨⟨⟨a, ep, hm, hs, hk⟩, (by decide : ([4, 6, 8, 10, 12] : List Int).Nodup)⟩, fun m h => ?_⟩
  rcases h with rfl | rfl | rfl | rfl | rfl
  · exact ⟨b4, rfl, h4⟩
  · exact ⟨b6, rfl, h6⟩
  · exact ⟨b8, rfl, h8⟩
  · exact ⟨b10, rfl, h10⟩
  · exact ⟨b12, rfl, h12⟩
theorem sq_some {K : PySem.W.Frag} {mg : Str → Option Value} {ents : List (Int × Tok × Value)} (S : Sq K mg ents) {m : Int} (h : OkM m) : (valueAt (ents.map pairI) m).isSome = true := by
  obtain ⟨b, e, _⟩ := S.at_ m h
  rw [e]; rfl
theorem len_pos {ns : List Int} (h : eqD (.int ((ns.map D.int).length : Int)) (.int 0) = false) : (0 : Int) < ((ns.map D.int).length : Int) := by
  have : ¬ (((ns.map D.int).length : Int) = 0) := by simpa [eqD_int] using h
  omega
theorem len_ix {ns : List Int} {k : Int} (h : eqD (.int ((ns.map D.int).length : Int)) (.int 0) = false) : atI (ns.map D.int) (k % ((ns.map D.int).length : Int)) = some (.int (ns.getD (k % (ns.length : Int)).toNat 0)) := by
  have g := len_pos h
  rw [List.length_map] at g ⊢
  exact ix_ints (Int.emod_nonneg _ (by omega)) (Int.emod_lt_of_pos _ g)
end My

namespace EVL
open PySem PySem.W PySem.Calls PyProof.Rows Att
/-- the bits of the script's ints, out of what may be laid -/
theorem bits_of {ns : List Int} (h : WData.layableAll [WData.list (ns.map WData.int)] = true) : ∀ n ∈ ns, n.natAbs < 2 ^ 1048576 := by
  have h1 : (WData.list (ns.map WData.int)).layable = true := by
    unfold WData.layableAll at h
    rw [List.all_cons, Bool.and_eq_true] at h
    exact h.1
  have h2 : WData.weight (.list (ns.map WData.int)) ≤ 2 ^ 20 := by
    unfold WData.layable at h1
    rw [Bool.and_eq_true, Bool.and_eq_true] at h1
    exact of_decide_eq_true h1.2
  have h3 : WData.weightAll (ns.map WData.int) ≤ 2 ^ 20 := by
    rw [WData.weight] at h2
    exact h2
  have key : ∀ (xs : List Int), WData.weightAll (xs.map WData.int) ≤ 2 ^ 20 → ∀ n ∈ xs, n.natAbs < 2 ^ 1048576 := by
    intro xs
    induction xs with
    | nil => intro _ n hn; cases hn
    | cons x xs ih =>
      intro hx n hn
      rw [List.map_cons, WData.weightAll] at hx
      rcases List.mem_cons.mp hn with rfl | hn
      · have hw : WData.weight (.int n) ≤ 2 ^ 20 := by omega
        rw [WData.weight] at hw
        by_cases z : n = 0
        · subst z
          exact Nat.two_pow_pos _
        · have zb : (n == 0) = false := beq_eq_false_iff_ne.mpr z
          rw [zb] at hw
          have zn : n.natAbs ≠ 0 := by omega
          have hl : n.natAbs.log2 < 1048576 := by
            have : n.natAbs.log2 + 1 ≤ 2 ^ 20 := by simpa using hw
            omega
          exact (Nat.log2_lt zn).mp hl
      · exact ih (by omega) n hn
  exact key ns h3
theorem attach_callB {l : OpenLaw} {n : Nat} {q : Program} {loose : List Str} {XP : (Str → Option Value) → Heap → Prop} {YP : World → Heap → Prop} {d : DefRec}
    (hn : l.most = some n) (hdf : d.params.defaults = [])
    (call : ∀ (w : World) (s₀ s₁ : Shared) (mg mb : Str → Option Value) (fa : Addr) (o : Obj) (pm cd doc : Value) (a : Addr) (vs : List Value) (ns : List Int),
      Ground q loose [] XP w s₀ mg mb s₁.heap → YP w s₁.heap →
      s₁.heap.get? fa = some o → o.data = .func (docDef d.name d.params d.body d.scope pm cd doc) → s₁.heap.CodeRec cd d.name → mg d.name = some (.ref fa) →
      s₁.heap.get? a = some { cls := .type "list", data := .seq vs.toArray } → IntsAre vs ns → ns.length ≤ n → (∀ k ∈ ns, k.natAbs < 2 ^ 1048576) → s₁.gens = #[] →
      codeAny (model l.prog w) callerA (.call (.ref fa) ⟨[.ref a], []⟩) (fun r s' => r = .ok (.ret (.bool true)) ∧ OldK s₁.heap s'.heap ∧ s'.os = s₁.os ∧ AllBare s'.gens) s₁) :
    WalkO q loose XP YP l.row.toRowW d [] (fun f vs => PySem.call f vs) := by
  intro w s₀ s₁ mg mb G Y fa o pm cd doc dV kV ho hd hcd hD hmg hg args vals as hpre hlay hrd hwl hlo
  obtain rfl : dV = .none := Dflts.none hD hdf
  obtain rfl : kV = .none := Dflts.noKw hD
  obtain ⟨a, vs, ns, rfl, rfl, hobj, hints, hlen⟩ := script_of hn hpre hwl
  refine enter_call (codeAny_mono (call w s₀ s₁ mg mb fa o pm cd doc a vs ns G Y ho (fd_plain hd) hcd hmg hobj hints hlen (bits_of hlay) hg) fun r s' hq => ?_)
  obtain ⟨rfl, h2, h3, h4⟩ := hq
  exact ⟨.inl ⟨.bool true, .bool true, [], rfl, fun _ => rfl, .bool true, post_true l _, fun _ => ⟨List.Pairwise.nil, fun _ hm => (nomatch hm)⟩⟩, h2, h3, h4⟩
end EVL
namespace EVL
open PySem PySem.Spec PyProof.Rows L2
theorem walk_ofB {l : PySem.W.OpenLaw} {n k : Nat} {q : Program} {loose : List Str} {XP : (Str → Option Value) → Heap → Prop} {YP : World → Heap → Prop} {d : DefRec} {K : Params → PySem.W.Frag} {CX : World → CXT} {sp : World → Sp} {x : Str}
    (hn : l.most = some n) (hn2 : n ≤ sizeLine) (hdf : d.params.defaults = []) (hr : Room k callerA)
    (hY : ∀ (w : World) (h : Heap), YP w h → (K w.params).In h)
    (F : ∀ (w : World) (mg : Str → Option Value) (fa : Addr) (h : Heap), (K w.params).In h → h.Ns mainGlobals mg → mg d.name = some (.ref fa) →
      ∃ fd : FuncData, (∀ (s : Shared) (u : Value), BindsTo s fd ⟨[u], []⟩ [(x, u)]) ∧
        ∀ base : Heap, (K w.params).In base → base.Ns mainGlobals mg → FnOk l.prog w (K w.params) mg base (CX w) k fa fd [x] (sp w))
    (hsp : ∀ (w : World) (H : Hp) (a : Addr) (ns : List Int), ns.length ≤ n → (∀ k ∈ ns, k.natAbs < 2 ^ 1048576) → Only H → SqL (K w.params) H a (ns.map V.int) → sp w [.ref a] H (fun v _ => v = .bl true) fun _ _ _ => False)
    (hCX : ∀ (w : World) (H : Hp) (s : Shared) (e : Value) (s' : Shared), CX w [] H s (fun _ _ _ => False) e s' → False) :
    PySem.W.WalkO q loose XP YP l.row.toRowW d [] (fun f vs => PySem.call f vs) := by
  refine attach_callB hn hdf fun w s₀ s₁ mg mb fa o pm cd doc a vs ns G Y ho hd hcd hmg hobj hints hlen hbits hg => ?_
  have KX := hY w _ Y
  obtain ⟨fd, hb, hF⟩ := F w mg fa _ KX G.T.g hmg
  exact law_call KX G.T.g G.T.b G.T.builtins G.T.nolimit hg hobj hints (Nat.le_trans hlen hn2) hr hF hb (fun H hO hS => hsp w H a ns hlen hbits hO hS) fun H e s' => hCX w H s₁ e s'
end EVL

set_option maxHeartbeats 4000000
namespace My
open PySem PySem.Spec PyProof.Rows L2 EV
def top (i : Nat) : Stmt := PySem.Challenge.pw_inflate_k06_numbers_in_order.main.body.getD i (.Pass ⟨0, 0, 0, 0⟩)
abbrev s_plus : Stmt := top 6
theorem sc_plus : FnScope ["one", "other"] ["one", "other"] (defScope s_plus) := ⟨rfl, rfl, rfl, by decide +kernel, rfl, by decide +kernel, by decide +kernel⟩
abbrev s_minus : Stmt := top 7
theorem sc_minus : FnScope ["one", "other"] ["one", "other"] (defScope s_minus) := ⟨rfl, rfl, rfl, by decide +kernel, rfl, by decide +kernel, by decide +kernel⟩
abbrev s_whole_sign : Stmt := top 8
theorem sc_whole_sign : FnScope ["whole"] ["whole"] (defScope s_whole_sign) := ⟨rfl, rfl, rfl, by decide +kernel, rfl, by decide +kernel, by decide +kernel⟩
abbrev s_is_whole : Stmt := top 9
theorem sc_is_whole : FnScope ["value"] ["value"] (defScope s_is_whole) := ⟨rfl, rfl, rfl, by decide +kernel, rfl, by decide +kernel, by decide +kernel⟩
abbrev s_is_frame_size : Stmt := top 10
theorem sc_is_frame_size : FnScope ["m"] ["m"] (defScope s_is_frame_size) := ⟨rfl, rfl, rfl, by decide +kernel, rfl, by decide +kernel, by decide +kernel⟩
abbrev s_Frame_init : Stmt := inClass (top 11) 0
theorem sc_Frame_init : FnScope ["self", "m"] ["self", "m"] (defScope s_Frame_init) := ⟨rfl, rfl, rfl, by decide +kernel, rfl, by decide +kernel, by decide +kernel⟩
abbrev s_Frame_number : Stmt := inClass (top 11) 2
theorem sc_Frame_number : FnScope ["self", "a", "b"] ["self", "a", "b"] (defScope s_Frame_number) := ⟨rfl, rfl, rfl, by decide +kernel, rfl, by decide +kernel, by decide +kernel⟩
abbrev s_Frame_times : Stmt := inClass (top 11) 3
theorem sc_Frame_times : FnScope ["self", "one", "other", "both", "a", "b"] ["self", "one", "other"] (defScope s_Frame_times) := ⟨rfl, rfl, rfl, by decide +kernel, rfl, by decide +kernel, by decide +kernel⟩
abbrev s_Frame_power : Stmt := inClass (top 11) 4
theorem sc_Frame_power : FnScope ["self", "one", "n", "answer", "step"] ["self", "one", "n"] (defScope s_Frame_power) := ⟨rfl, rfl, rfl, by decide +kernel, rfl, by decide +kernel, by decide +kernel⟩
abbrev s_Frame_sign : Stmt := inClass (top 11) 6
theorem sc_Frame_sign : FnScope ["self", "one", "p", "q", "b", "c", "ahead"] ["self", "one"] (defScope s_Frame_sign) := ⟨rfl, rfl, rfl, by decide +kernel, rfl, by decide +kernel, by decide +kernel⟩
abbrev s_Frame_less : Stmt := inClass (top 11) 7
theorem sc_Frame_less : FnScope ["self", "one", "other"] ["self", "one", "other"] (defScope s_Frame_less) := ⟨rfl, rfl, rfl, by decide +kernel, rfl, by decide +kernel, by decide +kernel⟩
abbrev s_cell : Stmt := top 13
theorem sc_cell : FnScope ["_law_script", "_law_k"] ["_law_script", "_law_k"] (defScope s_cell) := ⟨rfl, rfl, rfl, by decide +kernel, rfl, by decide +kernel, by decide +kernel⟩
abbrev s_whole : Stmt := top 14
theorem sc_whole : FnScope ["_law_cell_here"] ["_law_cell_here"] (defScope s_whole) := ⟨rfl, rfl, rfl, by decide +kernel, rfl, by decide +kernel, by decide +kernel⟩
abbrev s_number : Stmt := top 15
theorem sc_number : FnScope ["_law_script", "_law_k", "_law_m"] ["_law_script", "_law_k", "_law_m"] (defScope s_number) := ⟨rfl, rfl, rfl, by decide +kernel, rfl, by decide +kernel, by decide +kernel⟩
abbrev s_signs : Stmt := top 16
theorem sc_signs : FnScope ["_law_frame", "_law_one", "_law_other", "_law_first", "_law_second"] ["_law_frame", "_law_one", "_law_other"] (defScope s_signs) := ⟨rfl, rfl, rfl, by decide +kernel, rfl, by decide +kernel, by decide +kernel⟩
abbrev s_order : Stmt := top 17
theorem sc_order : FnScope ["_law_frame", "_law_one", "_law_two", "_law_three", "_law_side", "_law_due"] ["_law_frame", "_law_one", "_law_two", "_law_three"] (defScope s_order) := ⟨rfl, rfl, rfl, by decide +kernel, rfl, by decide +kernel, by decide +kernel⟩
abbrev s_law : Stmt := top 18
theorem sc_law : FnScope ["_law_script", "_law_m", "_law_frame", "_law_one", "_law_two", "_law_three", "_law_w", "_law_pair"] ["_law_script"] (defScope s_law) := ⟨rfl, rfl, rfl, by decide +kernel, rfl, by decide +kernel, by decide +kernel⟩

def wholeF (c : Int) : Int := if eqD (.int (c % 4)) (.int 1) = true then c / 4 * 982451653 % (2 * 10 ^ 18 - 1) - 10 ^ 18 + 1 else c / 4 % 21 - 10
inductive R_whole : List D → D → Prop where
  | mk (c : Int) : R_whole [.int c] (.int (wholeF c))
theorem wholeF_bd (c : Int) : Bd 62 (wholeF c) := by
  constructor
  unfold wholeF
  rw [show ((2 : Int) * 10 ^ 18 - 1) = 1999999999999999999 by decide, show ((10 : Int) ^ 18) = 1000000000000000000 by decide]
  have e : (2 ^ 62 : Nat) = 4611686018427387904 := by decide
  split <;> omega

abbrev C0 := cellF 53 29 48271 7877
def numX (ns : List Int) (k : Int) : Int := wholeF (C0 ns k)
def numY (ns : List Int) (k m : Int) : Int := wholeF (C0 ns (k + 1)) * (if decide (6 < m) = true then 1 else 0)
theorem one_bd (m : Int) : Bd 1 (if decide (6 < m) = true then 1 else 0) := by
  split
  · exact bd1
  · exact bd0
inductive R_numb : List D → D → Prop where
  | mk (ns : List Int) (k m : Int) (h0 : 0 ≤ k) (h1 : k ≤ 900) : R_numb [.lst (ns.map .int), .int k, .int m] (nD (numX ns k) (numY ns k m))
theorem numX_bd (ns : List Int) (k : Int) : Bd 63 (numX ns k) := (wholeF_bd _).mono (by decide)
theorem numY_bd (ns : List Int) (k m : Int) : Bd 63 (numY ns k m) := (wholeF_bd _).mul (one_bd m)
theorem numY_z (ns : List Int) (k m : Int) (hm : OkM m) : Z2 m (numY ns k m) := by
  intro h
  have h6 : ¬ (6 < m) := by rcases hm with rfl | rfl | rfl | rfl | rfl <;> omega
  unfold numY
  simp only [decide_eq_true_eq, if_neg h6, Int.mul_zero]
theorem ixw {m : Int} (hm : OkM m) : atI [nD 0 0, nD 1 0, nD 2 0, nD 1 1, nD 3 0] (m / 2 - 2) = some (nD (sqP m) (sqQ m)) := by
  rcases hm with rfl | rfl | rfl | rfl | rfl <;> rfl
inductive R_signs (C : Addr) : List D → D → Prop where
  | mk (m a b c d : Int) (hm : OkM m) (zb : Z2 m b) (zd : Z2 m d) (ha : Bd 900 a) (hb : Bd 900 b) (hc : Bd 900 c) (hd : Bd 900 d) : R_signs C [FrD C m, nD a b, nD c d] (.bl true)
inductive R_order (C : Addr) : List D → D → Prop where
  | mk (m a b c d e f : Int) (hm : OkM m) (zb : Z2 m b) (zd : Z2 m d) (zf : Z2 m f) (ha : Bd 900 a) (hb : Bd 900 b) (hc : Bd 900 c) (hd : Bd 900 d) (he : Bd 900 e) (hf : Bd 900 f) : R_order C [FrD C m, nD a b, nD c d, nD e f] (.bl true)
def pick3 (x y : Bool) (s : Int) : Bool := if s = 0 then false else if s = 1 then x else y
theorem ix3 {x y : Bool} {s : Int} (h : s = 1 ∨ s = 0 ∨ s = -1) : atI [D.bl false, .bl x, .bl y] s = some (.bl (pick3 x y s)) := by
  rcases h with rfl | rfl | rfl <;> rfl
theorem eqD_bl (x y : Bool) : eqD (.bl x) (.bl y) = (x == y) := rfl
theorem pw2 {m a b : Int} (hm : OkM m) (hb : Z2 m b) : sgn m (pw m a b 2).1 (pw m a b 2).2 = sgn m a b * sgn m a b := by
  rw [sgn_pw hm hb 1, sgn_pw hm hb 0]
  show sgn m 1 0 * _ * _ = _
  rw [sgn_one hm, Int.one_mul]
theorem pw3 {m a b : Int} (hm : OkM m) (hb : Z2 m b) : sgn m (pw m a b 3).1 (pw m a b 3).2 = sgn m a b := by
  rw [sgn_pw hm hb 2, pw2 hm hb]
  rcases sgn_cases m a b with h | h | h <;> rw [h] <;> rfl


local macro_rules | `(tactic| walk_at "ix") => `(tactic| first | rfl | exact ix5 (by omega) (by omega) | (refine ix_ints ?_ ?_ <;> first | assumption | omega))
local macro_rules | `(tactic| walk_at "Bd") => `(tactic| first | assumption | exact bd0 | exact bd1 | exact bdm1 | exact bd2 | exact bd3 | exact bd4 | exact sqP_bd _ | exact sqQ_bd _ | exact wholeF_bd _ | exact sgn_bd _ _ _ | exact P4.B.a (by assumption) | exact P4.B.b (by assumption) | exact P4.B.c (by assumption) | exact P4.B.d (by assumption) | exact crA_bd (by assumption) (by assumption) | exact crB_bd (by assumption) (by assumption) | exact aA_bd (by walk_at "Bd") (by walk_at "Bd") (by walk_at "Bd") | exact aB_bd (by walk_at "Bd") (by walk_at "Bd") (by walk_at "Bd") | exact (w_bd _).1 | exact (w_bd _).2 | exact one_bd _ | exact tA_bd (by walk_at "Bd") (by walk_at "Bd") (by walk_at "Bd") (by walk_at "Bd") | exact tB_bd (by walk_at "Bd") (by walk_at "Bd") (by walk_at "Bd") (by walk_at "Bd") | exact lX_bd (by walk_at "Bd") (by walk_at "Bd") (by walk_at "Bd") (by walk_at "Bd") | exact lY_bd (by walk_at "Bd") (by walk_at "Bd") (by walk_at "Bd") (by walk_at "Bd") | exact nA_bd (by walk_at "Bd") (by walk_at "Bd") | exact nB_bd (by walk_at "Bd") | exact Bd.mul (by walk_at "Bd") (by walk_at "Bd") | exact Bd.add (by walk_at "Bd") (by walk_at "Bd") | exact Bd.sub (by walk_at "Bd") (by walk_at "Bd") | exact Bd.neg (by walk_at "Bd") | exact Bd.ite (by walk_at "Bd") (by walk_at "Bd"))
local macro_rules | `(tactic| walk_at "bd") => `(tactic| first | exact IntMulOk.of_right (by decide) | exact IntMulOk.of_left (by decide) | exact IntMulOk.of_right (intBits_le_64 (by omega) (by omega)) | exact mulOk (by walk_at "Bd") (by walk_at "Bd") (by decide))
local macro_rules | `(tactic| walk_at "pos") => `(tactic| first | decide | omega)
local macro_rules | `(tactic| walk_at "div") => `(tactic| first | decide | omega)
local macro_rules | `(tactic| walk_at "pow") => `(tactic| first | decide | omega)
local macro_rules | `(tactic| walk_at "norm") => `(tactic| (try dsimp only [List.set]))
local macro_rules | `(tactic| walk_at "kit") => `(tactic| first | rfl)
local macro_rules | `(tactic| walk_at "PB") => `(tactic| first | exact P4.B.mono (by assumption) (by decide) | exact P4.B.mono (P4.turn_B (by assumption) _) (by omega) | exact P4.B.mono (P4.mir_B (by assumption)) (by decide) | exact P4.B.mono (P4.plus_B (by assumption) (by assumption)) (by decide) | exact P4.B.mono (P4.scal_B (by assumption) (by assumption) (by assumption)) (by decide))
local macro_rules | `(tactic| walk_at "R") => `(tactic| (constructor <;> first | assumption | exact okM5 _ | walk_at "PB" | omega | exact tB_z (by assumption) | (exact z2_sub (by assumption) (by assumption)) | exact Bd.mono (by walk_at "Bd") (by decide)))

section
variable {P : Program} {w : World} {K : PySem.W.Frag} {mg : Str → Option Value} {base : Heap} {f C : Addr} {fd : FuncData} {ents : List (Int × Tok × Value)}
theorem ok_plus (F : Fun K "plus" "plus" s_plus f fd)  : FnOk P w K mg base CX0 1 f fd ["one", "other"] (spD K 2 (R_plus)) := by
  refine def_ok F sc_plus fun cdv A outer s H E ds d hr hl h => ?_
  cases h with
  | mk a b c d =>
  refine SS.conv (ss_ret (st_ret (ev_tup (ea_cons (ev_add (ev_ixT (ev_var 0 rfl) ev_int (by walk_at "ix")) (ev_ixT (ev_var 1 rfl) ev_int (by walk_at "ix"))) (ea_cons (ev_add (ev_ixT (ev_var 0 rfl) ev_int (by walk_at "ix")) (ev_ixT (ev_var 1 rfl) ev_int (by walk_at "ix"))) ea_nil))))) ?eq
  rfl
theorem ok_minus (F : Fun K "minus" "minus" s_minus f fd)  : FnOk P w K mg base CX0 1 f fd ["one", "other"] (spD K 2 (R_minus)) := by
  refine def_ok F sc_minus fun cdv A outer s H E ds d hr hl h => ?_
  cases h with
  | mk a b c d =>
  refine SS.conv (ss_ret (st_ret (ev_tup (ea_cons (ev_sub (ev_ixT (ev_var 0 rfl) ev_int (by walk_at "ix")) (ev_ixT (ev_var 1 rfl) ev_int (by walk_at "ix"))) (ea_cons (ev_sub (ev_ixT (ev_var 0 rfl) ev_int (by walk_at "ix")) (ev_ixT (ev_var 1 rfl) ev_int (by walk_at "ix"))) ea_nil))))) ?eq
  rfl
theorem ok_whole_sign (F : Fun K "whole_sign" "whole_sign" s_whole_sign f fd)  : FnOk P w K mg base CX0 1 f fd ["whole"] (spD K 1 (R_ws)) := by
  refine def_ok F sc_whole_sign fun cdv A outer s H E ds d hr hl h => ?_
  cases h with
  | mk x =>
  refine SS.conv (ss_ifR (et_gt (ev_var 0 rfl) ev_int) (fun _ => (ss_ret (st_ret ev_int))) (fun _ => 
    (ss_ifR (et_lt (ev_var 0 rfl) ev_int) (fun _ => (ss_ret (st_ret (ev_neg ev_int)))) (fun _ => 
    (ss_ret (st_ret ev_int)))))) ?eq
  show O.rt (if decide (0 < x) = true then D.int 1 else if decide (x < 0) = true then D.int (-1) else D.int 0) = _
  unfold Mt.sg
  simp only [decide_eq_true_eq]
  split
  · rfl
  · split <;> rfl
theorem ok_is_whole (F : Fun K "is_whole" "is_whole" s_is_whole f fd) (m_isinstance : mg "isinstance" = none) (m_int : mg "int" = none) (m_bool : mg "bool" = none) : FnOk P w K mg base CX0 1 f fd ["value"] (spD K 1 (R_isw)) := by
  refine def_ok F sc_is_whole fun cdv A outer s H E ds d hr hl h => ?_
  cases h with
  | mk x =>
  refine SS.conv (ss_ret (st_ret (ev_and (ev_isinst rfl m_isinstance (ev_var 0 rfl) rfl m_int (by rfl) rfl (by walk_at "kit")) (fun _ => (ev_and1 (ev_not (ev_isinst rfl m_isinstance (ev_var 0 rfl) rfl m_bool (by rfl) rfl (by walk_at "kit")))))))) ?eq
  rfl
theorem ok_is_frame_size (F : Fun K "is_frame_size" "is_frame_size" s_is_frame_size f fd) (G_is_whole : DefD P w K mg base 1 "is_whole" ["value"] (R_isw)) (S : Sq K mg ents) : FnOk P w K mg base CX0 2 f fd ["m"] (spD K 1 (R_okm)) := by
  refine def_ok F sc_is_frame_size fun cdv A outer s H E ds d hr hl h => ?_
  cases h with
  | mk m hm =>
  have e := sq_some S hm
  exact ss_ret (st_ret (EV.conv (d := .bl (true && (valueAt (ents.map pairI) m).isSome)) (ev_and (p := true) (ev_call G_is_whole (hr.mono (by decide)) rfl (ea_cons (ev_var 0 rfl) ea_nil) rfl (R_isw.mk m)) (fun _ => (ev_and1 (ev_inKD S.kd rfl (ev_var 0 rfl))))) (by rw [e]; rfl)))
  
theorem ok_Frame_init (F : Fun K "__init__" "Frame.__init__" s_Frame_init f fd) (T : Cl K C) (S : Sq K mg ents) (G_is_frame_size : DefD P w K mg base 2 "is_frame_size" ["m"] (R_okm)) : FnOk P w K mg base CX0 3 f fd ["self", "m"] (spI K C 2 ["m", "square"] R_frame) := by
  refine F.ok sc_Frame_init (fun vs H Q E h => ?_) (fun cdv A outer s H vs Q E hr h => ?_)
  · obtain ⟨b, dx, rest, ds, fs, rfl, _, hl, r, _⟩ := h
    rw [List.length_cons, ← r.len, hl]
    rfl
  · obtain ⟨b, dx, rest, ds, fs, rfl, hb, hl, r, hR, k⟩ := h
    cases hR with
    | mk m hm =>
    obtain ⟨v, rfl, q⟩ := isL_one r
    unfold EV.Is at q
    subst q
    obtain ⟨bq, hv, ht⟩ := S.at_ m hm
    refine ⟨_, pss_cons (ps_if (ET.run (et_not (et_val (ev_call (δ := [none, some (.int m)]) G_is_frame_size (hr.mono (by decide)) rfl (ea_cons (ev_var 1 rfl) ea_nil) rfl (R_okm.mk m hm))))) pss_never pss_nil)
      (pss_cons (ps_fld (pv 0) (pv 1) rfl) (pss_one (ps_fld (pv 0) (pe_getKD (v := .ref bq) S.kd rfl (pv 1) hv rfl) rfl))), ?_⟩
    refine ⟨⟨rfl, fun i d e => ?_⟩, fun H1 s1 => iteF ?_⟩
    · match i, e with
      | 1, e => cases e; exact ⟨_, rfl, by unfold EV.Is; rfl⟩
    refine ⟨_, rfl, _, rfl, b, C, dx, [], rfl, s1 _ _ hb, T.cl, T.n_m, by decide, rfl, _, rfl, b, C, dx, _, rfl, upd_same, T.cl, T.n_square, (by show 1 < 1000; decide), ?_⟩
    refine k _ (fun z o e hz => ?_) ⟨[.int m, .ref bq], ?_, ?_⟩
    · rw [upd_ne hz, upd_ne hz]
      exact s1 _ _ e
    · rw [upd_same, flds_eq]
    · unfold EV.IsL
      refine ⟨_, _, rfl, by unfold EV.Is; rfl, ?_⟩
      unfold EV.IsL
      refine ⟨_, _, rfl, ?_, by unfold EV.IsL; rfl⟩
      unfold EV.Is
      refine ⟨bq, _, rfl, ht _, ?_⟩
      unfold EV.IsL
      refine ⟨_, _, rfl, by unfold EV.Is; rfl, ?_⟩
      unfold EV.IsL
      exact ⟨_, _, rfl, by unfold EV.Is; rfl, by unfold EV.IsL; rfl⟩
theorem ok_Frame_number (F : Fun K "number" "Frame.number" s_Frame_number f fd) (T : Cl K C) : FnOk P w K mg base CX0 1 f fd ["self", "a", "b"] (spD K 3 (R_number C)) := by
  refine def_ok F sc_Frame_number fun cdv A outer s H E ds d hr hl h => ?_
  cases h with
  | mk m a b hm =>
  refine SS.conv (ss_ifR (et_eq hr (ev_fld (ev_var 0 rfl) T.cl T.n_m rfl) ev_int) (fun _ => (ss_ret (st_ret (ev_tup (ea_cons (ev_var 1 rfl) (ea_cons ev_int ea_nil)))))) (fun _ => 
    (ss_ifR (et_eq hr (ev_fld (ev_var 0 rfl) T.cl T.n_m rfl) ev_int) (fun _ => (ss_ret (st_ret (ev_tup (ea_cons (ev_add (ev_var 1 rfl) (ev_var 2 rfl)) (ea_cons ev_int ea_nil)))))) (fun _ => 
    (ss_ret (st_ret (ev_tup (ea_cons (ev_var 1 rfl) (ea_cons (ev_var 2 rfl) ea_nil))))))))) ?eq
  rcases hm with rfl | rfl | rfl | rfl | rfl <;> rfl
theorem ok_Frame_times (F : Fun K "times" "Frame.times" s_Frame_times f fd) (T : Cl K C) (G_Frame_number : MethD P w K mg base 1 C "number" ["self", "a", "b"] (R_number C)) : FnOk P w K mg base CX0 2 f fd ["self", "one", "other"] (spD K 3 (R_times C)) := by
  refine def_ok F sc_Frame_times fun cdv A outer s H E ds d hr hl h => ?_
  cases h with
  | mk m a b c d hm ha hb hc hd =>
  refine SS.conv (ss_cons (st_set 3 (ev_mul (ev_ixT (ev_var 1 rfl) ev_int (by walk_at "ix")) (ev_ixT (ev_var 2 rfl) ev_int (by walk_at "ix")) (by walk_at "bd")) sc_Frame_times.nd)
    (ss_cons (st_set 4 (ev_add (ev_mul (ev_ixT (ev_var 1 rfl) ev_int (by walk_at "ix")) (ev_ixT (ev_var 2 rfl) ev_int (by walk_at "ix")) (by walk_at "bd")) (ev_mul (ev_var 3 rfl) (ev_ixT (ev_fld (ev_var 0 rfl) T.cl T.n_square rfl) ev_int (by walk_at "ix")) (by walk_at "bd"))) sc_Frame_times.nd)
    (ss_cons (st_set 5 (ev_add (ev_add (ev_mul (ev_ixT (ev_var 1 rfl) ev_int (by walk_at "ix")) (ev_ixT (ev_var 2 rfl) ev_int (by walk_at "ix")) (by walk_at "bd")) (ev_mul (ev_ixT (ev_var 1 rfl) ev_int (by walk_at "ix")) (ev_ixT (ev_var 2 rfl) ev_int (by walk_at "ix")) (by walk_at "bd"))) (ev_mul (ev_var 3 rfl) (ev_ixT (ev_fld (ev_var 0 rfl) T.cl T.n_square rfl) ev_int (by walk_at "ix")) (by walk_at "bd"))) sc_Frame_times.nd)
    (ss_ret (st_ret (ev_meth G_Frame_number (hr.mono (by decide)) (ev_var 0 rfl) (ea_cons (ev_var 4 rfl) (ea_cons (ev_var 5 rfl) ea_nil)) (by decide +kernel) rfl (by walk_at "R"))))))) ?eq
  rfl
theorem ok_Frame_power (F : Fun K "power" "Frame.power" s_Frame_power f fd) (T : Cl K C) (G_Frame_times : MethD P w K mg base 2 C "times" ["self", "one", "other"] (R_times C)) (m_range : mg "range" = none) : FnOk P w K mg base CX0 3 f fd ["self", "one", "n"] (spD K 3 (R_power C)) := by
  refine def_ok F sc_Frame_power fun cdv A outer s H E ds d hr hl h => ?_
  cases h with
  | mk m a b n hm h0 h1 ha hb =>
  show SS _ _ [some (FrD C m), some (nD a b), some (.int n), none, none] _
  refine ss_cons (st_set 3 (ev_tup (ea_cons ev_int (ea_cons ev_int ea_nil))) sc_Frame_power.nd) ?_
  let g : Nat → Sd := fun k => [some (FrD C m), some (nD a b), some (.int n), some (nD (pw m a b k).1 (pw m a b k).2), lastI k]
  refine ss_cons (δ1 := g n.toNat) (st_forR 4 PassesOwn.never rfl sc_Frame_power.nd rfl m_range (ev_var 2 rfl) (by omega) (forR_fold g n.toNat fun k hk => ?_)) ?_
  · show SS _ _ [some (FrD C m), some (nD a b), some (.int n), some (nD (pw m a b k).1 (pw m a b k).2), some (.int (k : Int))] (.nx [some (FrD C m), some (nD a b), some (.int n), some (nD (pw m a b (k + 1)).1 (pw m a b (k + 1)).2), some (.int (k : Int))])
    have hk' : k ≤ 60 := by omega
    have hp := pw_bd (m := m) ha hb k
    have hz : 1 + k * (1000 + 5) ≤ 100000 := by omega
    exact ss_cons (st_set 3 (ev_meth G_Frame_times (hr.mono (by decide)) (ev_var 0 rfl) (ea_cons (ev_var 3 rfl) (ea_cons (ev_var 1 rfl) ea_nil)) (by decide +kernel) rfl (R_times.mk m _ _ _ _ hm (hp.1.mono hz) (hp.2.mono hz) (ha.mono (by decide)) (hb.mono (by decide)))) sc_Frame_power.nd) ss_nil
  · exact ss_ret (st_ret (ev_var 3 rfl))
theorem ok_Frame_sign (F : Fun K "sign" "Frame.sign" s_Frame_sign f fd) (T : Cl K C) (G_whole_sign : DefD P w K mg base 1 "whole_sign" ["whole"] (R_ws)) : FnOk P w K mg base CX0 2 f fd ["self", "one"] (spD K 2 (R_sign C)) := by
  refine def_ok F sc_Frame_sign fun cdv A outer s H E ds d hr hl h => ?_
  cases h with
  | mk m a b hm ha hb =>
  refine SS.conv (ss_cons (st_set 2 (ev_ixT (ev_fld (ev_var 0 rfl) T.cl T.n_square rfl) ev_int (by walk_at "ix")) sc_Frame_sign.nd)
    (ss_cons (st_set 3 (ev_ixT (ev_fld (ev_var 0 rfl) T.cl T.n_square rfl) ev_int (by walk_at "ix")) sc_Frame_sign.nd)
    (ss_cons (st_set 4 (ev_ixT (ev_var 1 rfl) ev_int (by walk_at "ix")) sc_Frame_sign.nd)
    (ss_cons (st_set 5 (ev_add (ev_mul ev_int (ev_ixT (ev_var 1 rfl) ev_int (by walk_at "ix")) (by walk_at "bd")) (ev_mul (ev_var 3 rfl) (ev_var 4 rfl) (by walk_at "bd"))) sc_Frame_sign.nd)
    (ss_cons (st_set 6 (ev_sub (ev_mul (ev_var 5 rfl) (ev_var 5 rfl) (by walk_at "bd")) (ev_mul (ev_mul (ev_add (ev_mul (ev_var 3 rfl) (ev_var 3 rfl) (by walk_at "bd")) (ev_mul ev_int (ev_var 2 rfl) (by walk_at "bd"))) (ev_var 4 rfl) (by walk_at "bd")) (ev_var 4 rfl) (by walk_at "bd"))) sc_Frame_sign.nd)
    (ss_ifR (et_gt (ev_var 6 rfl) ev_int) (fun _ => (ss_ret (st_ret (ev_call G_whole_sign (hr.mono (by decide)) rfl (ea_cons (ev_var 5 rfl) ea_nil) rfl (by walk_at "R"))))) (fun _ => 
    (ss_ifR (et_lt (ev_var 6 rfl) ev_int) (fun _ => (ss_ret (st_ret (ev_call G_whole_sign (hr.mono (by decide)) rfl (ea_cons (ev_var 4 rfl) ea_nil) rfl (by walk_at "R"))))) (fun _ => 
    (ss_ret (st_ret ev_int))))))))))) ?eq
  show O.rt (if decide (0 < Mt.nm (sqQ m * sqQ m + 4 * sqP m) (2 * a + sqQ m * b) b) = true then D.int (Mt.sg (2 * a + sqQ m * b)) else if decide (Mt.nm (sqQ m * sqQ m + 4 * sqP m) (2 * a + sqQ m * b) b < 0) = true then D.int (Mt.sg b) else D.int 0) = _
  unfold sgn Mt.sn
  simp only [decide_eq_true_eq]
  split
  · rfl
  · split <;> rfl
theorem ok_Frame_less (F : Fun K "less" "Frame.less" s_Frame_less f fd) (T : Cl K C) (G_Frame_sign : MethD P w K mg base 2 C "sign" ["self", "one"] (R_sign C)) (G_minus : DefD P w K mg base 1 "minus" ["one", "other"] (R_minus)) : FnOk P w K mg base CX0 3 f fd ["self", "one", "other"] (spD K 3 (R_less C)) := by
  refine def_ok F sc_Frame_less fun cdv A outer s H E ds d hr hl h => ?_
  cases h with
  | mk m a b c d hm ha hb hc hd =>
  refine SS.conv (ss_ret (st_ret (ev_eq hr (ev_meth G_Frame_sign (hr.mono (by decide)) (ev_var 0 rfl) (ea_cons (ev_call G_minus (hr.mono (by decide)) rfl (ea_cons (ev_var 2 rfl) (ea_cons (ev_var 1 rfl) ea_nil)) rfl (by walk_at "R")) ea_nil) (by decide +kernel) rfl (by walk_at "R")) ev_int))) ?eq
  rfl
theorem ok_cell (F : Fun K "_law_cell" "_law_cell" s_cell f fd) (m_len : mg "len" = none) : FnOk P w K mg base CX0 1 f fd ["_law_script", "_law_k"] (spD K 2 (R_cell 53 29 48271 7877)) := by
  refine def_ok F sc_cell fun cdv A outer s H E ds d hr hl h => ?_
  cases h with
  | mk ns k h0 h1 =>
  refine SS.conv (ss_ifR (et_lt (ev_var 1 rfl) (ev_lenL rfl m_len (ev_var 0 rfl))) (fun c1 => (ss_ret (st_ret (ev_ixL (ev_var 0 rfl) (ev_var 1 rfl) (ix_ints h0 (by simpa using c1)))))) (fun c1 => 
    (ss_ifR (et_eq hr (ev_lenL rfl m_len (ev_var 0 rfl)) ev_int) (fun _ => (ss_ret (st_ret (ev_add (ev_mul (ev_mul (ev_var 1 rfl) (ev_var 1 rfl) (by walk_at "bd")) ev_int (by walk_at "bd")) ev_int)))) (fun c2 => 
    (ss_ret (st_ret (ev_add (ev_mul (ev_mod (ev_ixL (ev_var 0 rfl) (ev_mod (ev_mul (ev_var 1 rfl) ev_int (by walk_at "bd")) (ev_lenL rfl m_len (ev_var 0 rfl)) (len_pos c2)) (len_ix c2)) ev_int (by walk_at "pos")) ev_int (by walk_at "bd")) (ev_mul (ev_mul (ev_var 1 rfl) (ev_var 1 rfl) (by walk_at "bd")) ev_int (by walk_at "bd"))))))))) ?eq
  simp only [List.length_map]
  unfold cellF
  split
  · rfl
  · split <;> rfl
theorem ok_whole (F : Fun K "_law_whole" "_law_whole" s_whole f fd)  : FnOk P w K mg base CX0 1 f fd ["_law_cell_here"] (spD K 1 (R_whole)) := by
  refine def_ok F sc_whole fun cdv A outer s H E ds d hr hl h => ?_
  cases h with
  | mk c =>
  refine SS.conv (ss_ifR (et_eq hr (ev_mod (ev_var 0 rfl) ev_int (by walk_at "pos")) ev_int) (fun _ => (ss_ret (st_ret (ev_add (ev_sub (ev_mod (ev_mul (ev_fdiv (ev_var 0 rfl) ev_int (by walk_at "div")) ev_int (by walk_at "bd")) (ev_sub (ev_mul ev_int (ev_pow ev_int ev_int (by walk_at "pow")) (by walk_at "bd")) ev_int) (by walk_at "pos")) (ev_pow ev_int ev_int (by walk_at "pow"))) ev_int)))) (fun _ => 
    (ss_ret (st_ret (ev_sub (ev_mod (ev_fdiv (ev_var 0 rfl) ev_int (by walk_at "div")) ev_int (by walk_at "pos")) ev_int))))) ?eq
  unfold wholeF
  split <;> rfl
theorem ok_number (F : Fun K "_law_number" "_law_number" s_number f fd) (G_cell : DefD P w K mg base 1 "_law_cell" ["_law_script", "_law_k"] (R_cell 53 29 48271 7877)) (G_whole : DefD P w K mg base 1 "_law_whole" ["_law_cell_here"] (R_whole)) (m_int : mg "int" = none) : FnOk P w K mg base CX0 2 f fd ["_law_script", "_law_k", "_law_m"] (spD K 3 (R_numb)) := by
  refine def_ok F sc_number fun cdv A outer s H E ds d hr hl h => ?_
  cases h with
  | mk ns k m h0 h1 =>
  refine SS.conv (ss_ret (st_ret (ev_tup (ea_cons (ev_call G_whole (hr.mono (by decide)) rfl (ea_cons (ev_call G_cell (hr.mono (by decide)) rfl (ea_cons (ev_var 0 rfl) (ea_cons (ev_var 1 rfl) ea_nil)) rfl (by walk_at "R")) ea_nil) rfl (by walk_at "R")) (ea_cons (ev_mul (ev_call G_whole (hr.mono (by decide)) rfl (ea_cons (ev_call G_cell (hr.mono (by decide)) rfl (ea_cons (ev_var 0 rfl) (ea_cons (ev_add (ev_var 1 rfl) ev_int) ea_nil)) rfl (by walk_at "R")) ea_nil) rfl (by walk_at "R")) (ev_intB rfl m_int (ev_gt (ev_var 2 rfl) ev_int)) (by walk_at "bd")) ea_nil))))) ?eq
  rfl
theorem ok_signs (F : Fun K "_law_signs" "_law_signs" s_signs f fd) (G_Frame_sign : MethD P w K mg base 2 C "sign" ["self", "one"] (R_sign C)) (G_Frame_times : MethD P w K mg base 2 C "times" ["self", "one", "other"] (R_times C)) (G_Frame_power : MethD P w K mg base 3 C "power" ["self", "one", "n"] (R_power C)) (G_plus : DefD P w K mg base 1 "plus" ["one", "other"] (R_plus)) : FnOk P w K mg base CX0 4 f fd ["_law_frame", "_law_one", "_law_other"] (spD K 3 (R_signs C)) := by
  refine def_ok F sc_signs fun cdv A outer s H E ds d hr hl h => ?_
  cases h with
  | mk m a b c d hm zb zd ha hb hc hd =>
  show SS _ _ [some (FrD C m), some (nD a b), some (nD c d), none, none] _
  refine ss_cons (st_set 3 (ev_meth G_Frame_sign (hr.mono (by decide)) (ev_var 0 rfl) (ea_cons (ev_var 1 rfl) ea_nil) (by decide +kernel) rfl (by walk_at "R")) sc_signs.nd) ?_
  walk_at "norm"
  refine ss_cons (st_set 4 (ev_meth G_Frame_sign (hr.mono (by decide)) (ev_var 0 rfl) (ea_cons (ev_var 2 rfl) ea_nil) (by decide +kernel) rfl (by walk_at "R")) sc_signs.nd) ?_
  walk_at "norm"
  refine ss_skip (EW.et (ew_and (et_eq hr (ev_var 3 rfl) (ev_var 4 rfl)) (fun _ => (ew_and1 (et_ne hr (ev_meth G_Frame_sign (hr.mono (by decide)) (ev_var 0 rfl) (ea_cons (ev_call G_plus (hr.mono (by decide)) rfl (ea_cons (ev_var 1 rfl) (ea_cons (ev_var 2 rfl) ea_nil)) rfl (by walk_at "R")) ea_nil) (by decide +kernel) rfl (by walk_at "R")) (ev_var 3 rfl)))))) ?c2 ?_
  case c2 => (simp only [eqD_int]; by_cases h : sgn m a b = sgn m c d; (rw [sgn_add hm zb zd h]; simp); simp [h])
  refine ss_skip (et_ne hr (ev_meth G_Frame_sign (hr.mono (by decide)) (ev_var 0 rfl) (ea_cons (ev_meth G_Frame_times (hr.mono (by decide)) (ev_var 0 rfl) (ea_cons (ev_var 1 rfl) (ea_cons (ev_var 2 rfl) ea_nil)) (by decide +kernel) rfl (by walk_at "R")) ea_nil) (by decide +kernel) rfl (by walk_at "R")) (ev_mul (ev_var 3 rfl) (ev_var 4 rfl) (by walk_at "bd"))) ?c3 ?_
  case c3 => (rw [sgn_mul hm zb zd]; simp [eqD_int])
  refine ss_ret (st_ret (EV.conv (ev_and (ev_eq hr (ev_meth G_Frame_sign (hr.mono (by decide)) (ev_var 0 rfl) (ea_cons (ev_meth G_Frame_power (hr.mono (by decide)) (ev_var 0 rfl) (ea_cons (ev_var 1 rfl) (ea_cons ev_int ea_nil)) (by decide +kernel) rfl (by walk_at "R")) ea_nil) (by decide +kernel) rfl (by walk_at "R")) (ev_mul (ev_var 3 rfl) (ev_var 3 rfl) (by walk_at "bd"))) (fun _ => (ev_and1 (ev_eq hr (ev_meth G_Frame_sign (hr.mono (by decide)) (ev_var 0 rfl) (ea_cons (ev_meth G_Frame_power (hr.mono (by decide)) (ev_var 0 rfl) (ea_cons (ev_var 1 rfl) (ea_cons ev_int ea_nil)) (by decide +kernel) rfl (by walk_at "R")) ea_nil) (by decide +kernel) rfl (by walk_at "R")) (ev_var 3 rfl))))) ?ret))
  case ret => (show D.bl (eqD (.int (sgn m (pw m a b 2).1 (pw m a b 2).2)) _ && eqD (.int (sgn m (pw m a b 3).1 (pw m a b 3).2)) _) = _; rw [pw2 hm zb, pw3 hm zb]; simp [eqD_int])
  
theorem ok_order (F : Fun K "_law_order" "_law_order" s_order f fd) (G_Frame_sign : MethD P w K mg base 2 C "sign" ["self", "one"] (R_sign C)) (G_Frame_times : MethD P w K mg base 2 C "times" ["self", "one", "other"] (R_times C)) (G_Frame_less : MethD P w K mg base 3 C "less" ["self", "one", "other"] (R_less C)) (G_plus : DefD P w K mg base 1 "plus" ["one", "other"] (R_plus)) : FnOk P w K mg base CX0 4 f fd ["_law_frame", "_law_one", "_law_two", "_law_three"] (spD K 4 (R_order C)) := by
  refine def_ok F sc_order fun cdv A outer s H E ds d hr hl h => ?_
  cases h with
  | mk m a b c d e f hm zb zd zf ha hb hc hd he hf =>
  show SS _ _ [some (FrD C m), some (nD a b), some (nD c d), some (nD e f), none, none] _
  refine ss_skip (EW.et (ew_and (et_val (ev_meth G_Frame_less (hr.mono (by decide)) (ev_var 0 rfl) (ea_cons (ev_var 1 rfl) (ea_cons (ev_var 2 rfl) ea_nil)) (by decide +kernel) rfl (by walk_at "R"))) (fun _ => (ew_and (et_val (ev_meth G_Frame_less (hr.mono (by decide)) (ev_var 0 rfl) (ea_cons (ev_var 2 rfl) (ea_cons (ev_var 3 rfl) ea_nil)) (by decide +kernel) rfl (by walk_at "R"))) (fun _ => (ew_and1 (et_not (et_val (ev_meth G_Frame_less (hr.mono (by decide)) (ev_var 0 rfl) (ea_cons (ev_var 1 rfl) (ea_cons (ev_var 3 rfl) ea_nil)) (by decide +kernel) rfl (by walk_at "R")))))))))) ?c0 ?_
  case c0 =>
    simp only [eqD_int]
    by_cases h1 : sgn m (c - a) (d - b) = 1
    · by_cases h2 : sgn m (e - c) (f - d) = 1
      · have k := sgn_add1 hm (z2_sub zd zb) (z2_sub zf zd) h1 h2
        have e1 : c - a + (e - c) = e - a := by omega
        have e2 : d - b + (f - d) = f - b := by omega
        rw [e1, e2] at k
        simp [k]
      · simp [h2]
    · simp [h1]
  refine ss_skip (et_ne hr (ev_meth G_Frame_less (hr.mono (by decide)) (ev_var 0 rfl) (ea_cons (ev_call G_plus (hr.mono (by decide)) rfl (ea_cons (ev_var 1 rfl) (ea_cons (ev_var 3 rfl) ea_nil)) rfl (by walk_at "R")) (ea_cons (ev_call G_plus (hr.mono (by decide)) rfl (ea_cons (ev_var 2 rfl) (ea_cons (ev_var 3 rfl) ea_nil)) rfl (by walk_at "R")) ea_nil)) (by decide +kernel) rfl (by walk_at "R")) (ev_meth G_Frame_less (hr.mono (by decide)) (ev_var 0 rfl) (ea_cons (ev_var 1 rfl) (ea_cons (ev_var 2 rfl) ea_nil)) (by decide +kernel) rfl (by walk_at "R"))) ?c1 ?_
  case c1 =>
    have e1 : c + e - (a + e) = c - a := by omega
    have e2 : d + f - (b + f) = d - b := by omega
    rw [e1, e2]
    simp [eqD_bl]
  refine ss_cons (st_set 4 (ev_meth G_Frame_sign (hr.mono (by decide)) (ev_var 0 rfl) (ea_cons (ev_var 3 rfl) ea_nil) (by decide +kernel) rfl (by walk_at "R")) sc_order.nd) ?_
  walk_at "norm"
  refine ss_cons (st_set 5 (ev_ixL (ev_lst (ea_cons ev_bl (ea_cons (ev_meth G_Frame_less (hr.mono (by decide)) (ev_var 0 rfl) (ea_cons (ev_var 1 rfl) (ea_cons (ev_var 2 rfl) ea_nil)) (by decide +kernel) rfl (by walk_at "R")) (ea_cons (ev_meth G_Frame_less (hr.mono (by decide)) (ev_var 0 rfl) (ea_cons (ev_var 2 rfl) (ea_cons (ev_var 1 rfl) ea_nil)) (by decide +kernel) rfl (by walk_at "R")) ea_nil)))) (ev_var 4 rfl) (ix3 (sgn_cases _ _ _))) sc_order.nd) ?_
  walk_at "norm"
  refine ss_ret (st_ret (EV.conv (ev_eq hr (ev_meth G_Frame_less (hr.mono (by decide)) (ev_var 0 rfl) (ea_cons (ev_meth G_Frame_times (hr.mono (by decide)) (ev_var 0 rfl) (ea_cons (ev_var 1 rfl) (ea_cons (ev_var 3 rfl) ea_nil)) (by decide +kernel) rfl (by walk_at "R")) (ea_cons (ev_meth G_Frame_times (hr.mono (by decide)) (ev_var 0 rfl) (ea_cons (ev_var 2 rfl) (ea_cons (ev_var 3 rfl) ea_nil)) (by decide +kernel) rfl (by walk_at "R")) ea_nil)) (by decide +kernel) rfl (by walk_at "R")) (ev_var 5 rfl)) ?ret))
  case ret =>
    rw [← (t_sub hm).1, ← (t_sub hm).2, sgn_mul hm (z2_sub zd zb) zf]
    have e3 : sgn m (a - c) (b - d) = - sgn m (c - a) (d - b) := by rw [← sgn_neg]; congr 1 <;> omega
    rw [e3]
    simp only [eqD_int, eqD_bl, pick3]
    rcases sgn_cases m e f with h | h | h <;> rw [h] <;> rcases sgn_cases m (c - a) (d - b) with g | g | g <;> rw [g] <;> rfl
  
theorem ok_law (F : Fun K "law" "law" s_law f fd) (G_cell : DefD P w K mg base 1 "_law_cell" ["_law_script", "_law_k"] (R_cell 53 29 48271 7877)) (G_Frame : MakeD P w K mg base 3 "Frame" C ["self", "m"] ["m", "square"] R_frame) (G_number : DefD P w K mg base 2 "_law_number" ["_law_script", "_law_k", "_law_m"] (R_numb)) (G_signs : DefD P w K mg base 4 "_law_signs" ["_law_frame", "_law_one", "_law_other"] (R_signs C)) (G_order : DefD P w K mg base 4 "_law_order" ["_law_frame", "_law_one", "_law_two", "_law_three"] (R_order C)) (G_Frame_number : MethD P w K mg base 1 C "number" ["self", "a", "b"] (R_number C)) (G_Frame_times : MethD P w K mg base 2 C "times" ["self", "one", "other"] (R_times C)) (G_Frame_sign : MethD P w K mg base 2 C "sign" ["self", "one"] (R_sign C)) (G_Frame_less : MethD P w K mg base 3 C "less" ["self", "one", "other"] (R_less C)) (G_minus : DefD P w K mg base 1 "minus" ["one", "other"] (R_minus)) : FnOk P w K mg base CX0 5 f fd ["_law_script"] (spD K 1 (R_law)) := by
  refine def_ok F sc_law fun cdv A outer s H E ds d hr hl h => ?_
  cases h with
  | mk ns hns =>
  show SS _ _ [some (.lst (ns.map .int)), none, none, none, none, none, none, none] _
  refine ss_cons (st_set 1 (ev_ixL (ev_lst (ea_cons ev_int (ea_cons ev_int (ea_cons ev_int (ea_cons ev_int (ea_cons ev_int ea_nil)))))) (ev_mod (ev_call G_cell (hr.mono (by decide)) rfl (ea_cons (ev_var 0 rfl) (ea_cons ev_int ea_nil)) rfl (by walk_at "R")) ev_int (by walk_at "pos")) (by walk_at "ix")) sc_law.nd) ?_
  walk_at "norm"
  have hm := okM5 (C0 ns 0 % 5)
  generalize m5 (C0 ns 0 % 5) = m at hm ⊢
  refine ss_cons (st_set 2 (ev_make G_Frame (hr.mono (by decide)) rfl (ea_cons (ev_var 1 rfl) ea_nil) rfl rfl (by walk_at "R")) sc_law.nd) ?_
  walk_at "norm"
  refine ss_cons (st_set 3 (ev_call G_number (hr.mono (by decide)) rfl (ea_cons (ev_var 0 rfl) (ea_cons ev_int (ea_cons (ev_var 1 rfl) ea_nil))) rfl (by walk_at "R")) sc_law.nd) ?_
  walk_at "norm"
  have ha := (numX_bd ns 1).mono (show 63 ≤ 800 by decide)
  have hb := (numY_bd ns 1 m).mono (show 63 ≤ 800 by decide)
  have zb := numY_z ns 1 m hm
  generalize numX ns 1 = a at ha ⊢
  generalize numY ns 1 m = b at hb zb ⊢
  refine ss_cons (st_set 4 (ev_call G_number (hr.mono (by decide)) rfl (ea_cons (ev_var 0 rfl) (ea_cons ev_int (ea_cons (ev_var 1 rfl) ea_nil))) rfl (by walk_at "R")) sc_law.nd) ?_
  walk_at "norm"
  have hc := (numX_bd ns 3).mono (show 63 ≤ 800 by decide)
  have hd := (numY_bd ns 3 m).mono (show 63 ≤ 800 by decide)
  have zd := numY_z ns 3 m hm
  generalize numX ns 3 = c at hc ⊢
  generalize numY ns 3 m = d at hd zd ⊢
  refine ss_cons (st_set 5 (ev_call G_number (hr.mono (by decide)) rfl (ea_cons (ev_var 0 rfl) (ea_cons ev_int (ea_cons (ev_var 1 rfl) ea_nil))) rfl (by walk_at "R")) sc_law.nd) ?_
  walk_at "norm"
  have he := (numX_bd ns 5).mono (show 63 ≤ 800 by decide)
  have hf := (numY_bd ns 5 m).mono (show 63 ≤ 800 by decide)
  have zf := numY_z ns 5 m hm
  generalize numX ns 5 = e at he ⊢
  generalize numY ns 5 m = f at hf zf ⊢
  have zcb := z2_sub zb zd
  refine ss_cons (st_set 6 (ev_meth G_Frame_number (hr.mono (by decide)) (ev_var 2 rfl) (ea_cons ev_int (ea_cons ev_int ea_nil)) (by decide +kernel) rfl (by walk_at "R")) sc_law.nd) ?_
  walk_at "norm"
  refine ss_skip (et_ne hr (ev_meth G_Frame_times (hr.mono (by decide)) (ev_var 2 rfl) (ea_cons (ev_var 6 rfl) (ea_cons (ev_var 6 rfl) ea_nil)) (by decide +kernel) rfl (by walk_at "R")) (ev_ixL (ev_lst (ea_cons (ev_tup (ea_cons ev_int (ea_cons ev_int ea_nil))) (ea_cons (ev_tup (ea_cons ev_int (ea_cons ev_int ea_nil))) (ea_cons (ev_tup (ea_cons ev_int (ea_cons ev_int ea_nil))) (ea_cons (ev_tup (ea_cons ev_int (ea_cons ev_int ea_nil))) (ea_cons (ev_tup (ea_cons ev_int (ea_cons ev_int ea_nil))) ea_nil)))))) (ev_sub (ev_fdiv (ev_var 1 rfl) ev_int (by walk_at "div")) ev_int) (ixw hm))) ?c6 ?_
  case c6 => (rcases hm with rfl | rfl | rfl | rfl | rfl <;> rfl)
  refine ss_skip (EW.et (ew_or (EW.et (ew_and (et_gt (ev_var 1 rfl) ev_int) (fun _ => (ew_and1 (et_ne hr (ev_meth G_Frame_sign (hr.mono (by decide)) (ev_var 2 rfl) (ea_cons (ev_var 6 rfl) ea_nil) (by decide +kernel) rfl (by walk_at "R")) ev_int))))) (fun _ => (ew_or1 (EW.et (ew_and (et_gt (ev_var 1 rfl) ev_int) (fun _ => (ew_and1 (et_not (et_val (ev_meth G_Frame_less (hr.mono (by decide)) (ev_var 2 rfl) (ea_cons (ev_tup (ea_cons ev_int (ea_cons ev_int ea_nil))) (ea_cons (ev_var 6 rfl) ea_nil)) (by decide +kernel) rfl (by walk_at "R")))))))))))) ?c7 ?_
  case c7 => (rcases hm with rfl | rfl | rfl | rfl | rfl <;> decide)
  refine ss_cons (δ1 := [some (.lst (ns.map .int)), some (.int m), some (FrD C m), some (nD a b), some (nD c d), some (nD e f), some (nD (nA m 0 1) (nB m 1)), some (.tup [nD (a - c) (b - d), nD e f])]) (st_forL 7 PassesOwn.never rfl sc_law.nd (ev_lst (ea_cons (ev_tup (ea_cons (ev_var 3 rfl) (ea_cons (ev_var 4 rfl) ea_nil))) (ea_cons (ev_tup (ea_cons (ev_var 4 rfl) (ea_cons (ev_var 5 rfl) ea_nil))) (ea_cons (ev_tup (ea_cons (ev_var 5 rfl) (ea_cons (ev_var 3 rfl) ea_nil))) (ea_cons (ev_tup (ea_cons (ev_call G_minus (hr.mono (by decide)) rfl (ea_cons (ev_var 3 rfl) (ea_cons (ev_var 4 rfl) ea_nil)) rfl (by walk_at "R")) (ea_cons (ev_var 5 rfl) ea_nil))) ea_nil))))) (.cons (ss_skip (et_not (et_val (ev_call G_signs (hr.mono (by decide)) rfl (ea_cons (ev_var 2 rfl) (ea_cons (ev_ixT (ev_var 7 rfl) ev_int (by walk_at "ix")) (ea_cons (ev_ixT (ev_var 7 rfl) ev_int (by walk_at "ix")) ea_nil))) rfl (by walk_at "R")))) rfl ss_nil) (.cons (ss_skip (et_not (et_val (ev_call G_signs (hr.mono (by decide)) rfl (ea_cons (ev_var 2 rfl) (ea_cons (ev_ixT (ev_var 7 rfl) ev_int (by walk_at "ix")) (ea_cons (ev_ixT (ev_var 7 rfl) ev_int (by walk_at "ix")) ea_nil))) rfl (by walk_at "R")))) rfl ss_nil) (.cons (ss_skip (et_not (et_val (ev_call G_signs (hr.mono (by decide)) rfl (ea_cons (ev_var 2 rfl) (ea_cons (ev_ixT (ev_var 7 rfl) ev_int (by walk_at "ix")) (ea_cons (ev_ixT (ev_var 7 rfl) ev_int (by walk_at "ix")) ea_nil))) rfl (by walk_at "R")))) rfl ss_nil) (.cons (ss_skip (et_not (et_val (ev_call G_signs (hr.mono (by decide)) rfl (ea_cons (ev_var 2 rfl) (ea_cons (ev_ixT (ev_var 7 rfl) ev_int (by walk_at "ix")) (ea_cons (ev_ixT (ev_var 7 rfl) ev_int (by walk_at "ix")) ea_nil))) rfl (by walk_at "R")))) rfl ss_nil) .nil))))) ?_
  walk_at "norm"
  show SS _ [_] _ _
  refine ss_ret (st_ret (d := .bl true) ?z)
  case z => exact EV.conv (d := .bl (true && true)) (ev_and (p := true) (q := true) (ev_call G_order (hr.mono (by decide)) rfl (ea_cons (ev_var 2 rfl) (ea_cons (ev_var 3 rfl) (ea_cons (ev_var 4 rfl) (ea_cons (ev_var 5 rfl) ea_nil)))) rfl (by walk_at "R")) (fun _ => ev_and1 (ev_call G_order (hr.mono (by decide)) rfl (ea_cons (ev_var 2 rfl) (ea_cons (ev_var 5 rfl) (ea_cons (ev_var 3 rfl) (ea_cons (ev_var 4 rfl) ea_nil)))) rfl (by walk_at "R")))) rfl
  
end
theorem all_mk {l : PySem.W.OpenLaw} {w : World} {K : PySem.W.Frag} {h : Heap} {mg : Str → Option Value} {fa C S b4 b6 b8 b10 b12 f1 f2 f3 f4 f5 f6 f7 f8 f9 f10 f11 f12 f13 f14 f15 f16 f17 : Addr} (X : K.In h) (G : h.Ns mainGlobals mg) (hfa : mg "law" = some (.ref fa))
    {od1 an1 od2 an2 od3 an3 od4 an4 od5 an5 od6 an6 od7 an7 od8 an8 od9 an9 od10 an10 od11 an11 od12 an12 od13 an13 od14 an14 od15 an15 od16 an16 od17 an17 : Option Addr} {sl1 sl2 sl3 sl4 sl5 sl6 sl7 sl8 sl9 sl10 sl11 sl12 sl13 sl14 sl15 sl16 sl17 : Array (Option Value)} {oc1 kV1 dc1 pm1 cd1 ct1 oc2 kV2 dc2 pm2 cd2 ct2 oc3 kV3 dc3 pm3 cd3 ct3 oc4 kV4 dc4 pm4 cd4 ct4 oc5 kV5 dc5 pm5 cd5 ct5 oc6 kV6 dc6 pm6 cd6 ct6 oc7 kV7 dc7 pm7 cd7 ct7 oc8 kV8 dc8 pm8 cd8 ct8 oc9 kV9 dc9 pm9 cd9 ct9 oc10 kV10 dc10 pm10 cd10 ct10 oc11 kV11 dc11 pm11 cd11 ct11 oc12 kV12 dc12 pm12 cd12 ct12 oc13 kV13 dc13 pm13 cd13 ct13 oc14 kV14 dc14 pm14 cd14 ct14 oc15 kV15 dc15 pm15 cd15 ct15 oc16 kV16 dc16 pm16 cd16 ct16 oc17 kV17 dc17 pm17 cd17 ct17 : Value}
    {t4 t6 t8 t10 t12 u4 u6 u8 u10 u12 v4 v6 v8 v10 v12 : Tok} {epS nn4 nn6 nn8 nn10 nn12 : Nat} {dd4 dd6 dd8 dd10 dd12 : Option Addr} {ss4 ss6 ss8 ss10 ss12 : Array (Option Value)}
    (aC : PySem.W.nsIn K mainGlobals "Frame" = some (some (.ref C)))
    (a1 : PySem.W.nsIn K mainGlobals "plus" = some (some (.ref f1)))
    (l1 : K.lookup f1 = some ⟨oc1, od1, .func (PySem.W.fnOf "plus" "plus" (defArgs s_plus) (defBody s_plus) (defScope s_plus) .none kV1 dc1 pm1 an1 cd1 ct1), sl1⟩) (c1 : PySem.W.codeIn K cd1 "plus" = true) (k1 : PySem.W.keepIn K (.ref f1) = true)
    (a2 : PySem.W.nsIn K mainGlobals "minus" = some (some (.ref f2)))
    (l2 : K.lookup f2 = some ⟨oc2, od2, .func (PySem.W.fnOf "minus" "minus" (defArgs s_minus) (defBody s_minus) (defScope s_minus) .none kV2 dc2 pm2 an2 cd2 ct2), sl2⟩) (c2 : PySem.W.codeIn K cd2 "minus" = true) (k2 : PySem.W.keepIn K (.ref f2) = true)
    (a3 : PySem.W.nsIn K mainGlobals "whole_sign" = some (some (.ref f3)))
    (l3 : K.lookup f3 = some ⟨oc3, od3, .func (PySem.W.fnOf "whole_sign" "whole_sign" (defArgs s_whole_sign) (defBody s_whole_sign) (defScope s_whole_sign) .none kV3 dc3 pm3 an3 cd3 ct3), sl3⟩) (c3 : PySem.W.codeIn K cd3 "whole_sign" = true) (k3 : PySem.W.keepIn K (.ref f3) = true)
    (a4 : PySem.W.nsIn K mainGlobals "is_whole" = some (some (.ref f4)))
    (l4 : K.lookup f4 = some ⟨oc4, od4, .func (PySem.W.fnOf "is_whole" "is_whole" (defArgs s_is_whole) (defBody s_is_whole) (defScope s_is_whole) .none kV4 dc4 pm4 an4 cd4 ct4), sl4⟩) (c4 : PySem.W.codeIn K cd4 "is_whole" = true) (k4 : PySem.W.keepIn K (.ref f4) = true)
    (a5 : PySem.W.nsIn K mainGlobals "is_frame_size" = some (some (.ref f5)))
    (l5 : K.lookup f5 = some ⟨oc5, od5, .func (PySem.W.fnOf "is_frame_size" "is_frame_size" (defArgs s_is_frame_size) (defBody s_is_frame_size) (defScope s_is_frame_size) .none kV5 dc5 pm5 an5 cd5 ct5), sl5⟩) (c5 : PySem.W.codeIn K cd5 "is_frame_size" = true) (k5 : PySem.W.keepIn K (.ref f5) = true)
    (a6 : PySem.W.findIn K (.ref C) "__init__" = some (some (.ref f6))) (i6 : PySem.W.isFn K (.ref f6) = true)
    (l6 : K.lookup f6 = some ⟨oc6, od6, .func (PySem.W.fnOf "__init__" "Frame.__init__" (defArgs s_Frame_init) (defBody s_Frame_init) (defScope s_Frame_init) .none kV6 dc6 pm6 an6 cd6 ct6), sl6⟩) (c6 : PySem.W.codeIn K cd6 "Frame.__init__" = true) (k6 : PySem.W.keepIn K (.ref f6) = true)
    (a7 : PySem.W.findIn K (.ref C) "number" = some (some (.ref f7))) (i7 : PySem.W.isFn K (.ref f7) = true)
    (l7 : K.lookup f7 = some ⟨oc7, od7, .func (PySem.W.fnOf "number" "Frame.number" (defArgs s_Frame_number) (defBody s_Frame_number) (defScope s_Frame_number) .none kV7 dc7 pm7 an7 cd7 ct7), sl7⟩) (c7 : PySem.W.codeIn K cd7 "Frame.number" = true) (k7 : PySem.W.keepIn K (.ref f7) = true)
    (a8 : PySem.W.findIn K (.ref C) "times" = some (some (.ref f8))) (i8 : PySem.W.isFn K (.ref f8) = true)
    (l8 : K.lookup f8 = some ⟨oc8, od8, .func (PySem.W.fnOf "times" "Frame.times" (defArgs s_Frame_times) (defBody s_Frame_times) (defScope s_Frame_times) .none kV8 dc8 pm8 an8 cd8 ct8), sl8⟩) (c8 : PySem.W.codeIn K cd8 "Frame.times" = true) (k8 : PySem.W.keepIn K (.ref f8) = true)
    (a9 : PySem.W.findIn K (.ref C) "power" = some (some (.ref f9))) (i9 : PySem.W.isFn K (.ref f9) = true)
    (l9 : K.lookup f9 = some ⟨oc9, od9, .func (PySem.W.fnOf "power" "Frame.power" (defArgs s_Frame_power) (defBody s_Frame_power) (defScope s_Frame_power) .none kV9 dc9 pm9 an9 cd9 ct9), sl9⟩) (c9 : PySem.W.codeIn K cd9 "Frame.power" = true) (k9 : PySem.W.keepIn K (.ref f9) = true)
    (a10 : PySem.W.findIn K (.ref C) "sign" = some (some (.ref f10))) (i10 : PySem.W.isFn K (.ref f10) = true)
    (l10 : K.lookup f10 = some ⟨oc10, od10, .func (PySem.W.fnOf "sign" "Frame.sign" (defArgs s_Frame_sign) (defBody s_Frame_sign) (defScope s_Frame_sign) .none kV10 dc10 pm10 an10 cd10 ct10), sl10⟩) (c10 : PySem.W.codeIn K cd10 "Frame.sign" = true) (k10 : PySem.W.keepIn K (.ref f10) = true)
    (a11 : PySem.W.findIn K (.ref C) "less" = some (some (.ref f11))) (i11 : PySem.W.isFn K (.ref f11) = true)
    (l11 : K.lookup f11 = some ⟨oc11, od11, .func (PySem.W.fnOf "less" "Frame.less" (defArgs s_Frame_less) (defBody s_Frame_less) (defScope s_Frame_less) .none kV11 dc11 pm11 an11 cd11 ct11), sl11⟩) (c11 : PySem.W.codeIn K cd11 "Frame.less" = true) (k11 : PySem.W.keepIn K (.ref f11) = true)
    (a12 : PySem.W.nsIn K mainGlobals "_law_cell" = some (some (.ref f12)))
    (l12 : K.lookup f12 = some ⟨oc12, od12, .func (PySem.W.fnOf "_law_cell" "_law_cell" (defArgs s_cell) (defBody s_cell) (defScope s_cell) .none kV12 dc12 pm12 an12 cd12 ct12), sl12⟩) (c12 : PySem.W.codeIn K cd12 "_law_cell" = true) (k12 : PySem.W.keepIn K (.ref f12) = true)
    (a13 : PySem.W.nsIn K mainGlobals "_law_whole" = some (some (.ref f13)))
    (l13 : K.lookup f13 = some ⟨oc13, od13, .func (PySem.W.fnOf "_law_whole" "_law_whole" (defArgs s_whole) (defBody s_whole) (defScope s_whole) .none kV13 dc13 pm13 an13 cd13 ct13), sl13⟩) (c13 : PySem.W.codeIn K cd13 "_law_whole" = true) (k13 : PySem.W.keepIn K (.ref f13) = true)
    (a14 : PySem.W.nsIn K mainGlobals "_law_number" = some (some (.ref f14)))
    (l14 : K.lookup f14 = some ⟨oc14, od14, .func (PySem.W.fnOf "_law_number" "_law_number" (defArgs s_number) (defBody s_number) (defScope s_number) .none kV14 dc14 pm14 an14 cd14 ct14), sl14⟩) (c14 : PySem.W.codeIn K cd14 "_law_number" = true) (k14 : PySem.W.keepIn K (.ref f14) = true)
    (a15 : PySem.W.nsIn K mainGlobals "_law_signs" = some (some (.ref f15)))
    (l15 : K.lookup f15 = some ⟨oc15, od15, .func (PySem.W.fnOf "_law_signs" "_law_signs" (defArgs s_signs) (defBody s_signs) (defScope s_signs) .none kV15 dc15 pm15 an15 cd15 ct15), sl15⟩) (c15 : PySem.W.codeIn K cd15 "_law_signs" = true) (k15 : PySem.W.keepIn K (.ref f15) = true)
    (a16 : PySem.W.nsIn K mainGlobals "_law_order" = some (some (.ref f16)))
    (l16 : K.lookup f16 = some ⟨oc16, od16, .func (PySem.W.fnOf "_law_order" "_law_order" (defArgs s_order) (defBody s_order) (defScope s_order) .none kV16 dc16 pm16 an16 cd16 ct16), sl16⟩) (c16 : PySem.W.codeIn K cd16 "_law_order" = true) (k16 : PySem.W.keepIn K (.ref f16) = true)
    (a17 : PySem.W.nsIn K mainGlobals "law" = some (some (.ref f17)))
    (l17 : K.lookup f17 = some ⟨oc17, od17, .func (PySem.W.fnOf "law" "law" (defArgs s_law) (defBody s_law) (defScope s_law) .none kV17 dc17 pm17 an17 cd17 ct17), sl17⟩) (c17 : PySem.W.codeIn K cd17 "law" = true) (k17 : PySem.W.keepIn K (.ref f17) = true)
    (pg : PySem.W.plainGet K C Str.empty = true) (hd : PySem.W.hasDictIn K C = true) (po : PySem.W.plainOver K C = true) (sa : PySem.W.findIn K (.ref C) "__setattr__" = some (some (.builtin "object.__setattr__"))) (mk : PySem.W.makesIn K C = true) (kc : PySem.W.keepIn K (.ref C) = true)
    (n_m : PySem.W.findIn K (.ref C) "m" = some none)
    (n_square : PySem.W.findIn K (.ref C) "square" = some none)
    (z_bool : PySem.W.nsIn K mainGlobals "bool" = some none)
    (z_int : PySem.W.nsIn K mainGlobals "int" = some none)
    (z_isinstance : PySem.W.nsIn K mainGlobals "isinstance" = some none)
    (z_len : PySem.W.nsIn K mainGlobals "len" = some none)
    (z_range : PySem.W.nsIn K mainGlobals "range" = some none)
    (aS : PySem.W.nsIn K mainGlobals "SQUARES" = some (some (.ref S)))
    (lS : K.lookup S = some ⟨.type "dict", none, .dict #[⟨4, .int 4 t4, .ref b4⟩, ⟨6, .int 6 t6, .ref b6⟩, ⟨8, .int 8 t8, .ref b8⟩, ⟨10, .int 10 t10, .ref b10⟩, ⟨12, .int 12 t12, .ref b12⟩] epS, #[]⟩)
    (q4 : K.lookup b4 = some ⟨.type "tuple", dd4, .seq #[.int 0 u4, .int 0 v4] nn4, ss4⟩)
    (q6 : K.lookup b6 = some ⟨.type "tuple", dd6, .seq #[.int 1 u6, .int 0 v6] nn6, ss6⟩)
    (q8 : K.lookup b8 = some ⟨.type "tuple", dd8, .seq #[.int 2 u8, .int 0 v8] nn8, ss8⟩)
    (q10 : K.lookup b10 = some ⟨.type "tuple", dd10, .seq #[.int 1 u10, .int 1 v10] nn10, ss10⟩)
    (q12 : K.lookup b12 = some ⟨.type "tuple", dd12, .seq #[.int 3 u12, .int 0 v12] nn12, ss12⟩)
    (hsS : (S == sysModules) = false)
    : ∃ fd : FuncData, (∀ (s : Shared) (v : Value), BindsTo s fd ⟨[v], []⟩ [("_law_script", v)]) ∧ ∀ base : Heap, K.In base → base.Ns mainGlobals mg → FnOk l.prog w K mg base CX0 5 fa fd ["_law_script"] (spD K 1 R_law) := by
  have e := hfa.symm.trans (PySem.W.mg_of X G a17)
  cases e
  have T : Cl K C := ⟨⟨pg, hd, po, sa⟩, n_m, n_square⟩
  have M := PySem.W.mg_of X G aC
  have m_bool := PySem.W.mg_none_of X G z_bool
  have m_int := PySem.W.mg_none_of X G z_int
  have m_isinstance := PySem.W.mg_none_of X G z_isinstance
  have m_len := PySem.W.mg_none_of X G z_len
  have m_range := PySem.W.mg_none_of X G z_range
  have hS := sq_mk (PySem.W.mg_of X G aS) hsS lS (tupK (oc := .none) q4) (tupK (oc := .none) q6) (tupK (oc := .none) q8) (tupK (oc := .none) q10) (tupK (oc := .none) q12)
  have F1 := fun_mk (st := s_plus) l1 c1 k1
  have B1 := F1.binds (ps := ["one", "other"]) fun _ _ _ _ _ _ us hl => match us, hl with | [_, _], _ => rfl
  have F2 := fun_mk (st := s_minus) l2 c2 k2
  have B2 := F2.binds (ps := ["one", "other"]) fun _ _ _ _ _ _ us hl => match us, hl with | [_, _], _ => rfl
  have F3 := fun_mk (st := s_whole_sign) l3 c3 k3
  have B3 := F3.binds (ps := ["whole"]) fun _ _ _ _ _ _ us hl => match us, hl with | [_], _ => rfl
  have F4 := fun_mk (st := s_is_whole) l4 c4 k4
  have B4 := F4.binds (ps := ["value"]) fun _ _ _ _ _ _ us hl => match us, hl with | [_], _ => rfl
  have F5 := fun_mk (st := s_is_frame_size) l5 c5 k5
  have B5 := F5.binds (ps := ["m"]) fun _ _ _ _ _ _ us hl => match us, hl with | [_], _ => rfl
  have F6 := fun_mk (st := s_Frame_init) l6 c6 k6
  have B6 := F6.binds (ps := ["self", "m"]) fun _ _ _ _ _ _ us hl => match us, hl with | [_, _], _ => rfl
  have F7 := fun_mk (st := s_Frame_number) l7 c7 k7
  have B7 := F7.binds (ps := ["self", "a", "b"]) fun _ _ _ _ _ _ us hl => match us, hl with | [_, _, _], _ => rfl
  have F8 := fun_mk (st := s_Frame_times) l8 c8 k8
  have B8 := F8.binds (ps := ["self", "one", "other"]) fun _ _ _ _ _ _ us hl => match us, hl with | [_, _, _], _ => rfl
  have F9 := fun_mk (st := s_Frame_power) l9 c9 k9
  have B9 := F9.binds (ps := ["self", "one", "n"]) fun _ _ _ _ _ _ us hl => match us, hl with | [_, _, _], _ => rfl
  have F10 := fun_mk (st := s_Frame_sign) l10 c10 k10
  have B10 := F10.binds (ps := ["self", "one"]) fun _ _ _ _ _ _ us hl => match us, hl with | [_, _], _ => rfl
  have F11 := fun_mk (st := s_Frame_less) l11 c11 k11
  have B11 := F11.binds (ps := ["self", "one", "other"]) fun _ _ _ _ _ _ us hl => match us, hl with | [_, _, _], _ => rfl
  have F12 := fun_mk (st := s_cell) l12 c12 k12
  have B12 := F12.binds (ps := ["_law_script", "_law_k"]) fun _ _ _ _ _ _ us hl => match us, hl with | [_, _], _ => rfl
  have F13 := fun_mk (st := s_whole) l13 c13 k13
  have B13 := F13.binds (ps := ["_law_cell_here"]) fun _ _ _ _ _ _ us hl => match us, hl with | [_], _ => rfl
  have F14 := fun_mk (st := s_number) l14 c14 k14
  have B14 := F14.binds (ps := ["_law_script", "_law_k", "_law_m"]) fun _ _ _ _ _ _ us hl => match us, hl with | [_, _, _], _ => rfl
  have F15 := fun_mk (st := s_signs) l15 c15 k15
  have B15 := F15.binds (ps := ["_law_frame", "_law_one", "_law_other"]) fun _ _ _ _ _ _ us hl => match us, hl with | [_, _, _], _ => rfl
  have F16 := fun_mk (st := s_order) l16 c16 k16
  have B16 := F16.binds (ps := ["_law_frame", "_law_one", "_law_two", "_law_three"]) fun _ _ _ _ _ _ us hl => match us, hl with | [_, _, _, _], _ => rfl
  have F17 := fun_mk (st := s_law) l17 c17 k17
  refine ⟨PySem.W.fnOf "law" "law" (defArgs s_law) (defBody s_law) (defScope s_law) .none kV17 dc17 pm17 an17 cd17 ct17, fun s v => .of_eq rfl, fun base _ _ => ?_⟩
  have G_plus : DefD l.prog w K mg base 1 "plus" ["one", "other"] (R_plus) := ⟨⟨f1, _, ok_plus (P := l.prog) (w := w) (base := base) F1 , PySem.W.mg_of X G a1, k1, B1⟩⟩
  have G_minus : DefD l.prog w K mg base 1 "minus" ["one", "other"] (R_minus) := ⟨⟨f2, _, ok_minus (P := l.prog) (w := w) (base := base) F2 , PySem.W.mg_of X G a2, k2, B2⟩⟩
  have G_whole_sign : DefD l.prog w K mg base 1 "whole_sign" ["whole"] (R_ws) := ⟨⟨f3, _, ok_whole_sign (P := l.prog) (w := w) (base := base) F3 , PySem.W.mg_of X G a3, k3, B3⟩⟩
  have G_is_whole : DefD l.prog w K mg base 1 "is_whole" ["value"] (R_isw) := ⟨⟨f4, _, ok_is_whole (P := l.prog) (w := w) (base := base) F4 m_isinstance m_int m_bool, PySem.W.mg_of X G a4, k4, B4⟩⟩
  have G_is_frame_size : DefD l.prog w K mg base 2 "is_frame_size" ["m"] (R_okm) := ⟨⟨f5, _, ok_is_frame_size (P := l.prog) (w := w) (base := base) F5 G_is_whole hS, PySem.W.mg_of X G a5, k5, B5⟩⟩
  have G_Frame : MakeD l.prog w K mg base 3 "Frame" C ["self", "m"] ["m", "square"] R_frame := ⟨⟨f6, _, ok_Frame_init (P := l.prog) (w := w) (base := base) F6 T hS G_is_frame_size, ⟨mk, a6, i6, kc⟩, M, B6⟩⟩
  have G_Frame_number : MethD l.prog w K mg base 1 C "number" ["self", "a", "b"] (R_number C) := ⟨T.cl, ⟨f7, _, ok_Frame_number (P := l.prog) (w := w) (base := base) F7 T, ⟨a7, i7, k7⟩, B7⟩⟩
  have G_Frame_times : MethD l.prog w K mg base 2 C "times" ["self", "one", "other"] (R_times C) := ⟨T.cl, ⟨f8, _, ok_Frame_times (P := l.prog) (w := w) (base := base) F8 T G_Frame_number, ⟨a8, i8, k8⟩, B8⟩⟩
  have G_Frame_power : MethD l.prog w K mg base 3 C "power" ["self", "one", "n"] (R_power C) := ⟨T.cl, ⟨f9, _, ok_Frame_power (P := l.prog) (w := w) (base := base) F9 T G_Frame_times m_range, ⟨a9, i9, k9⟩, B9⟩⟩
  have G_Frame_sign : MethD l.prog w K mg base 2 C "sign" ["self", "one"] (R_sign C) := ⟨T.cl, ⟨f10, _, ok_Frame_sign (P := l.prog) (w := w) (base := base) F10 T G_whole_sign, ⟨a10, i10, k10⟩, B10⟩⟩
  have G_Frame_less : MethD l.prog w K mg base 3 C "less" ["self", "one", "other"] (R_less C) := ⟨T.cl, ⟨f11, _, ok_Frame_less (P := l.prog) (w := w) (base := base) F11 T G_Frame_sign G_minus, ⟨a11, i11, k11⟩, B11⟩⟩
  have G_cell : DefD l.prog w K mg base 1 "_law_cell" ["_law_script", "_law_k"] (R_cell 53 29 48271 7877) := ⟨⟨f12, _, ok_cell (P := l.prog) (w := w) (base := base) F12 m_len, PySem.W.mg_of X G a12, k12, B12⟩⟩
  have G_whole : DefD l.prog w K mg base 1 "_law_whole" ["_law_cell_here"] (R_whole) := ⟨⟨f13, _, ok_whole (P := l.prog) (w := w) (base := base) F13 , PySem.W.mg_of X G a13, k13, B13⟩⟩
  have G_number : DefD l.prog w K mg base 2 "_law_number" ["_law_script", "_law_k", "_law_m"] (R_numb) := ⟨⟨f14, _, ok_number (P := l.prog) (w := w) (base := base) F14 G_cell G_whole m_int, PySem.W.mg_of X G a14, k14, B14⟩⟩
  have G_signs : DefD l.prog w K mg base 4 "_law_signs" ["_law_frame", "_law_one", "_law_other"] (R_signs C) := ⟨⟨f15, _, ok_signs (P := l.prog) (w := w) (base := base) F15 G_Frame_sign G_Frame_times G_Frame_power G_plus, PySem.W.mg_of X G a15, k15, B15⟩⟩
  have G_order : DefD l.prog w K mg base 4 "_law_order" ["_law_frame", "_law_one", "_law_two", "_law_three"] (R_order C) := ⟨⟨f16, _, ok_order (P := l.prog) (w := w) (base := base) F16 G_Frame_sign G_Frame_times G_Frame_less G_plus, PySem.W.mg_of X G a16, k16, B16⟩⟩
  exact ok_law F17 G_cell G_Frame G_number G_signs G_order G_Frame_number G_Frame_times G_Frame_sign G_Frame_less G_minus
theorem walk {l : PySem.W.OpenLaw} {q : Program} {loose : List Str} {XP : (Str → Option Value) → Heap → Prop} {YP : World → Heap → Prop} {d : DefRec} {K : Params → PySem.W.Frag} (hn : l.most = some 63) (hdf : d.params.defaults = [])
    (hY : ∀ (w : World) (h : Heap), YP w h → (K w.params).In h)
    (F : ∀ (w : World) (mg : Str → Option Value) (fa : Addr) (h : Heap), (K w.params).In h → h.Ns mainGlobals mg → mg d.name = some (.ref fa) →
      ∃ fd : FuncData, (∀ (s : Shared) (u : Value), BindsTo s fd ⟨[u], []⟩ [("_law_script", u)]) ∧ ∀ base : Heap, (K w.params).In base → base.Ns mainGlobals mg → FnOk l.prog w (K w.params) mg base CX0 5 fa fd ["_law_script"] (spD (K w.params) 1 R_law)) :
    PySem.W.WalkO q loose XP YP l.row.toRowW d [] (fun f vs => PySem.call f vs) :=
  L2.walk_of (n := 63) (k := 5) (x := "_law_script") (CX := fun _ => CX0) (sp := fun w => spD (K w.params) 1 R_law) hn (by decide) hdf ⟨rfl, by decide, by decide⟩ hY F
    (fun _ _ a ns hl _ hS => ⟨[.lst (ns.map .int)], .bl true, rfl, by unfold EV.IsL; exact ⟨_, _, rfl, by unfold EV.Is; exact ⟨a, _, rfl, hS, EV.IsL.ints ns⟩, by unfold EV.IsL; rfl⟩, .mk ns hl, fun v H' _ r => by unfold EV.Is at r; exact r⟩) fun _ _ _ _ _ z => z
end My
open PySem PySem.W PyProof.Rows
set_option maxRecDepth 100000 in
set_option maxHeartbeats 0 in
theorem PySem.Challenge.cw_inflate_k06_numbers_in_order_holds : PySem.Challenge.rw_inflate_k06_numbers_in_order.Holds := by
  w_on; o_law; k_head; (case hw => w_witness2)
  k_fill
  refine My.walk (l := PySem.Challenge.rw_inflate_k06_numbers_in_order) rfl rfl (fun w h Y => PySem.W.kIn_of Y) ?F
  case F =>
    intro w mg fa h KX G hmg
    refine' My.all_mk KX G hmg ?aC ?a1 ?l1 ?c1 ?k1 ?a2 ?l2 ?c2 ?k2 ?a3 ?l3 ?c3 ?k3 ?a4 ?l4 ?c4 ?k4 ?a5 ?l5 ?c5 ?k5 ?a6 ?i6 ?l6 ?c6 ?k6 ?a7 ?i7 ?l7 ?c7 ?k7 ?a8 ?i8 ?l8 ?c8 ?k8 ?a9 ?i9 ?l9 ?c9 ?k9 ?a10 ?i10 ?l10 ?c10 ?k10 ?a11 ?i11 ?l11 ?c11 ?k11 ?a12 ?l12 ?c12 ?k12 ?a13 ?l13 ?c13 ?k13 ?a14 ?l14 ?c14 ?k14 ?a15 ?l15 ?c15 ?k15 ?a16 ?l16 ?c16 ?k16 ?a17 ?l17 ?c17 ?k17 ?pg ?hd ?po ?sa ?mk ?kc ?n_m ?n_square ?z_bool ?z_int ?z_isinstance ?z_len ?z_range ?aS ?lS ?q4 ?q6 ?q8 ?q10 ?q12 ?hsS
    (case aC => k_is)
    (case a1 => k_is)
    (case l1 => k_is)
    (case c1 => k_is)
    (case k1 => k_is)
    (case a2 => k_is)
    (case l2 => k_is)
    (case c2 => k_is)
    (case k2 => k_is)
    (case a3 => k_is)
    (case l3 => k_is)
    (case c3 => k_is)
    (case k3 => k_is)
    (case a4 => k_is)
    (case l4 => k_is)
    (case c4 => k_is)
    (case k4 => k_is)
    (case a5 => k_is)
    (case l5 => k_is)
    (case c5 => k_is)
    (case k5 => k_is)
    (case a6 => k_is)
    (case i6 => k_is)
    (case l6 => k_is)
    (case c6 => k_is)
    (case k6 => k_is)
    (case a7 => k_is)
    (case i7 => k_is)
    (case l7 => k_is)
    (case c7 => k_is)
    (case k7 => k_is)
    (case a8 => k_is)
    (case i8 => k_is)
    (case l8 => k_is)
    (case c8 => k_is)
    (case k8 => k_is)
    (case a9 => k_is)
    (case i9 => k_is)
    (case l9 => k_is)
    (case c9 => k_is)
    (case k9 => k_is)
    (case a10 => k_is)
    (case i10 => k_is)
    (case l10 => k_is)
    (case c10 => k_is)
    (case k10 => k_is)
    (case a11 => k_is)
    (case i11 => k_is)
    (case l11 => k_is)
    (case c11 => k_is)
    (case k11 => k_is)
    (case a12 => k_is)
    (case l12 => k_is)
    (case c12 => k_is)
    (case k12 => k_is)
    (case a13 => k_is)
    (case l13 => k_is)
    (case c13 => k_is)
    (case k13 => k_is)
    (case a14 => k_is)
    (case l14 => k_is)
    (case c14 => k_is)
    (case k14 => k_is)
    (case a15 => k_is)
    (case l15 => k_is)
    (case c15 => k_is)
    (case k15 => k_is)
    (case a16 => k_is)
    (case l16 => k_is)
    (case c16 => k_is)
    (case k16 => k_is)
    (case a17 => k_is)
    (case l17 => k_is)
    (case c17 => k_is)
    (case k17 => k_is)
    (case pg => k_is)
    (case hd => k_is)
    (case po => k_is)
    (case sa => k_is)
    (case mk => k_is)
    (case kc => k_is)
    (case n_m => k_is)
    (case n_square => k_is)
    (case z_bool => k_is)
    (case z_int => k_is)
    (case z_isinstance => k_is)
    (case z_len => k_is)
    (case z_range => k_is)
    (case aS => k_is)
    (case lS => k_is)
    (case q4 => k_is)
    (case q6 => k_is)
    (case q8 => k_is)
    (case q10 => k_is)
    (case q12 => k_is)
    (case hsS => decide)

