import PyProof.Rows.All
import Wide.All
import OpenK.AllK
import Wide.FinOn
import PyProof.ExcArgsOwn
import PySem.Challenge.RW_inflate_k01_a_frame
set_option Elab.async false
set_option linter.all false
set_option maxRecDepth 100000
section
open PySem
open PySem.W
open PySem.Calls
open PyProof.Rows
open PySem.Builtin
open PySem.Builtin.ObjectAttr
open PySem.Builtin.Getset_descriptor
namespace KX
/-- an exception's object: its class -/
def ExcAt (e C : Addr) (h : Heap) : Prop := ∃ o, h.get? e = some o ∧ o.cls = .ref C
theorem exc_ty {e C : Addr} {M : Model} {h : Heap} (p : ExcAt e C h) : Looks M h (typeOf (.ref e)) (.ref C) := by
  obtain ⟨o, h1, h2⟩ := p
  intro A' Q' E' s' k q
  unfold typeOf
  refine wpAny_bind (wpAny_loadPart (k _ _ h1) (wpAny_pure ?_))
  rw [h2]; exact q
theorem ga_bind (self : Value) : bindSpecial (.builtin "BaseException.__getattribute__") self = pure (.builtin "BaseException.__getattribute__", [self]) := PySem.F.excAttr_ValueError.ga.bind self
abbrev gsG : Value := .builtin "getset_descriptor.__get__"
abbrev ocl : Value := .builtin "object.__class__"
section
variable {prog : Program} {w : World} {A : Around} {E : Value → Shared → Prop} {K : Frag} {e C : Addr} {s : Shared}
theorem exc_find {M : Model} {h : Heap} (X : K.In h) (ha : findIn K (.ref C) "__class__" = some (some ocl)) (hn : specialIn K ocl "__get__" = some (some gsG)) (htk : takesIn K ocl = some true) :
    Looks M h (find (.ref e) (.ref C) "__class__") (.bind gsG ocl) :=
  (looks_findIn X ha).andThen ((show Looks M h (getOf (some ocl)) (some gsG) from looks_specialIn X hn).andThen
    ((show Looks M h (dataDescriptor? (some ocl) (some gsG)) (some (gsG, ocl)) from (looks_takesIn X htk).andThen .now).andThen (Looks.tag .now)))
theorem exc_get {R : Result → Shared → Prop} (X : K.In s.heap) (p : ExcAt e C s.heap) (hm : mroIn K C (.type "object") = some true) (h : R (.ok (.ret (.ref C))) s) :
    codeAny (model prog w) A (.call gsG ⟨[ocl, .ref e, .ref C], []⟩) R s := by
  obtain ⟨hh, g, dr, t, os⟩ := s
  have T0 := exc_ty (M := model prog w) p
  have T1 := looks_mroIn (M := model prog w) X hm
  refine codeAny_call_builtin KF.slot_gs.plain KF.entry_gs (KF.slot_gs.check _ _ _ _ _ _ _ _ KF.type_class (KF.args_gs _ _ _) ?_)
  unfold Builtin.«getset_descriptor.__get__» descrGet
  rw [dga_obj]; refine wpAny_bind (wpAny_pure ?_)
  unfold descrGetter descrCheckInstance descrNameAndClass isInstance; simp only [KF.owner_class]
  repeat lk
  refine ⟨Code.quiet_builtin _ (by decide +kernel), codeAny_builtin KF.entry_class ?_⟩
  unfold Builtin.«object.__class__» shownTypeOf; repeat lk
  exact h
theorem exc_check {M : Model} {nameV : Value} {Q : Unit → Shared → Prop} (X : K.In s.heap) (p : ExcAt e C s.heap) (hb : mroIn K C (.type "BaseException") = some true) (hq : Q () s) :
    wpAny M A (checkBuiltinCall "BaseException.__getattribute__" ⟨[.ref e, nameV], []⟩) Q E s := by
  obtain ⟨hh, g, d, t, os⟩ := s
  have LI : Looks M hh (isInstance (.ref e) (.type "BaseException")) true := (exc_ty p).andThen (looks_mroIn X hb)
  have hk : builtinKind "BaseException.__getattribute__" = some .slot := by decide +kernel
  have hsplit : splitId "BaseException.__getattribute__" = some ("BaseException", "__getattribute__") := by decide +kernel
  have hargs := PySem.F.args_bexc_ga (.ref e) nameV
  simp only [checkBuiltinCall, hk, hsplit]
  refine wpAny_bind (LI.at ?_)
  repeat wp_step
  exact hq
theorem exc_class {Q : Option Value → Shared → Prop} (hga : findIn K (.ref C) "__getattribute__" = some (some (.builtin "BaseException.__getattribute__"))) (hno : findIn K (.ref C) "__getattr__" = some none)
    (ha : findIn K (.ref C) "__class__" = some (some ocl)) (hn : specialIn K ocl "__get__" = some (some gsG)) (htk : takesIn K ocl = some true) (hm : mroIn K C (.type "object") = some true) (hb : mroIn K C (.type "BaseException") = some true)
    (X : K.In s.heap) (p : ExcAt e C s.heap)
    (q : Q (some (.ref C)) { s with toks := s.toks + 1 }) : wpAny (model prog w) A (getAttr? (.ref e) "__class__") Q E s := by
  obtain ⟨hh, g, d, t, os⟩ := s
  have L0 := exc_ty (M := model prog w) p
  have L1 := looks_findIn (M := model prog w) X hga
  have L2 := looks_findIn (M := model prog w) X hno
  have L3 := exc_find (e := e) (M := model prog w) X ha hn htk
  have L4 := looks_mroIn (M := model prog w) X hb
  unfold getAttr? getAttrBy? getAttrBy
  refine wpAny_bind (wpAny_mkText (wpAny_bind (wpAny_attempt (wpAny_holding (wpAny_bind (L0.at (wpAny_bind (L1.at ?_))))))))
  have n1 : (Value.builtin "BaseException.__getattribute__" == Value.builtin "object.__getattribute__") = false := by decide +kernel
  dsimp only
  rw [n1, Bool.and_false, if_neg (by decide)]
  unfold getAttrByItsOwn hookBefore
  rw [if_pos (show onTheHeap (Value.ref C) = true from rfl)]
  refine wpAny_bind (L2.at (wpAny_bind (wpAny_attempt (wpAny_holding ?_))))
  unfold callGetattribute
  rw [if_neg (by decide)]
  unfold boundAndCalled
  rw [ga_bind]
  refine wpAny_bind (wpAny_pure (wpAny_call ?_))
  refine codeAny_call_builtin PySem.F.excAttr_ValueError.ga.plain PySem.F.entry_bexc_ga (exc_check X p hb ?_)
  simp only [List.cons_append, List.nil_append]
  unfold «object.__getattribute__»
  iterate 14 lk
  refine wpAny_bind (L0.at (wpAny_bind (L3.at ?_)))
  dsimp only
  show wpAny _ _ (holding [ocl] (call gsG [ocl, .ref e, .ref C]) >>= ret) _ _ _
  refine wpAny_bind (wpAny_holding (wpAny_call (exc_get X p hm ?_)))
  dsimp only
  refine wpAny_pure ?_
  dsimp only
  exact handed_on rfl (wpAny_pure q)
theorem kitx_exc0 (hd : (clsIn K C).isSome = true) (hga : findIn K (.ref C) "__getattribute__" = some (some (.builtin "BaseException.__getattribute__"))) (hno : findIn K (.ref C) "__getattr__" = some none)
    (ha : findIn K (.ref C) "__class__" = some (some ocl)) (hn : specialIn K ocl "__get__" = some (some gsG)) (htk : takesIn K ocl = some true) (hm : mroIn K C (.type "object") = some true) (hb : mroIn K C (.type "BaseException") = some true) :
    KitX K (.ref e) (.ref C) (ExcAt e C) where
  ty := fun _ _ _ p => exc_ty p
  it := fun _ _ X _ => by
    unfold clsIn at hd
    split at hd
    · rename_i ho
      exact fun A' Q' E' s' k q => wpAny_bind (wpAny_loadPart (k _ _ (X _ _ ho)) (wpAny_pure q))
    · cases hd
  ne := fun h tp dd its n sl X htp => by
    refine Bool.eq_false_iff.mpr fun q => ?_
    obtain rfl : C = tp := Value.ref.inj (beq_iff_eq.mp q)
    unfold clsIn at hd
    split at hd
    · rename_i ho
      cases (X _ _ ho).symm.trans htp
    · cases hd
  ca := fun X p k => exc_class hga hno ha hn htk hm hb X p k
theorem kitx_exc (hd : hasDictIn K C = true) (hga : findIn K (.ref C) "__getattribute__" = some (some (.builtin "BaseException.__getattribute__"))) (hno : findIn K (.ref C) "__getattr__" = some none)
    (ha : findIn K (.ref C) "__class__" = some (some ocl)) (hn : specialIn K ocl "__get__" = some (some gsG)) (htk : takesIn K ocl = some true) (hm : mroIn K C (.type "object") = some true) (hb : mroIn K C (.type "BaseException") = some true) :
    KitX K (.ref e) (.ref C) (ExcAt e C) :=
  kitx_exc0 (by obtain ⟨cd, hc, _⟩ := any_some hd; rw [hc]; rfl) hga hno ha hn htk hm hb
end
theorem led_more {h₀ h : Heap} {L : Addr} {n₂ news : List (Addr × Obj)} {e : Addr} {o : Obj} (N₂ : News h₀ L h n₂) (m : (e, o) ∈ n₂) (N : News h₀ L h news) : News h₀ L h ((e, o) :: news) := fun q hq => by
  rcases List.mem_cons.mp hq with rfl | z
  · exact N₂ _ m
  · exact N _ z
theorem exc_led {h₀ h : Heap} {L e C : Addr} {news : List (Addr × Obj)} {o : Obj} (N : News h₀ L h news) (m : (e, o) ∈ news) (c : o.cls = .ref C) : ExcAt e C h := ⟨o, (N _ m).1, c⟩
theorem got_led {h₀ h : Heap} {L e t : Addr} {n₂ news : List (Addr × Obj)} {cls : Value} {vs : List Value} (G : Got n₂ e t cls vs) (N₂ : News h₀ L h n₂) (N : News h₀ L h news) : ∃ oe : Obj, oe.cls = cls ∧ News h₀ L h ((e, oe) :: news) :=
  let ⟨oe, _, _, _, m1, _, c1, _⟩ := G
  ⟨oe, c1, led_more N₂ m1 N⟩
end KX
end
section
open PySem
open PySem.W
open PySem.Calls
open PyProof.Rows
open PySem.Spec
namespace KX
/-- the entries of a dict of whole numbers -/
def entI (e : Int × Tok × Value) : DictEntry := ⟨hashInt e.1, .int e.1 e.2.1, e.2.2⟩
def pairI (e : Int × Tok × Value) : Int × Value := (e.1, e.2.2)
theorem pairs_ent {P : Program} {w : World} : ∀ ents : List (Int × Tok × Value), Pairs (intKind P w) (ents.map entI) (ents.map pairI)
  | [] => .nil
  | e :: r => .cons (by show Value.isInt e.1 (.int e.1 e.2.1) = true; simp [Value.isInt]) rfl (pairs_ent r)
theorem kd_dict {P : Program} {w : World} {h : Heap} {K : Frag} {a : Addr} {ep : Nat} {ents : List (Int × Tok × Value)} (X : K.In h) (hk : K.lookup a = some ⟨.type "dict", none, .dict (ents.map entI).toArray ep, #[]⟩) (nd : (ents.map (·.1)).Nodup) :
    h.DictOf (intKind P w) a (ents.map pairI) := by
  refine ⟨_, (ents.map entI).toArray, ep, X a _ hk, ⟨rfl, rfl, rfl⟩, rfl, ?_, by simpa using pairs_ent ents, ?_⟩
  · intro e he
    simp only [List.mem_toArray, List.mem_map] at he
    obtain ⟨z, _, rfl⟩ := he
    exact ⟨z.1, by show Value.isInt z.1 (.int z.1 z.2.1) = true; simp [Value.isInt], rfl⟩
  · have : (ents.map pairI).map (·.1) = ents.map (·.1) := by rw [List.map_map]; rfl
    rw [this]
    exact nd
def five (i : Int) : Bool := i == 4 || i == 6 || i == 8 || i == 10 || i == 12
section
variable {prog : Program} {w : World} {A : Around} {E : Value → Shared → Prop} {K : Frag} {a : Addr} {s : Shared} {i : Int} {tk t1 t2 t3 t4 t5 : Tok} {v1 v2 v3 v4 v5 : Value} {ep : Nat} {Q : Value → Shared → Prop}
theorem sq_in (X : K.In s.heap) (hk : K.lookup a = some ⟨.type "dict", none, .dict #[⟨hashInt 4, .int 4 t1, v1⟩, ⟨hashInt 6, .int 6 t2, v2⟩, ⟨hashInt 8, .int 8 t3, v3⟩, ⟨hashInt 10, .int 10 t4, v4⟩, ⟨hashInt 12, .int 12 t5, v5⟩] ep, #[]⟩)
    (hs : (a == sysModules) = false) (q : Q (.bool (five i)) { s with toks := s.toks + 1 }) : wpAny (model prog w) A (compareOp .In (.int i tk) (.ref a)) Q E s := by
  have D := kd_dict (P := prog) (w := w) (ents := [(4, t1, v1), (6, t2, v2), (8, t3, v3), (10, t4, v4), (12, t5, v5)]) X hk (by show ([4, 6, 8, 10, 12] : List Int).Nodup; decide)
  refine wpAny_in_of (knd := intKind prog w) (k := i) (by show Value.isInt i (.int i tk) = true; simp [Value.isInt]) hs D.mapOf ?_
  have e : (valueAt (([(4, t1, v1), (6, t2, v2), (8, t3, v3), (10, t4, v4), (12, t5, v5)] : List (Int × Tok × Value)).map pairI) i).isSome = five i := by
    by_cases h4 : i = 4
    · subst h4; rfl
    by_cases h6 : i = 6
    · subst h6; rfl
    by_cases h8 : i = 8
    · subst h8; rfl
    by_cases h10 : i = 10
    · subst h10; rfl
    by_cases h12 : i = 12
    · subst h12; rfl
    simp [pairI, valueAt, five, h4, h6, h8, h10, h12, Ne.symm h4, Ne.symm h6, Ne.symm h8, Ne.symm h10, Ne.symm h12]
  rw [e]; exact q
theorem sq_get {value slice : Expr} (X : K.In s.heap) (hk : K.lookup a = some ⟨.type "dict", none, .dict #[⟨hashInt 4, .int 4 t1, v1⟩, ⟨hashInt 6, .int 6 t2, v2⟩, ⟨hashInt 8, .int 8 t3, v3⟩, ⟨hashInt 10, .int 10 t4, v4⟩, ⟨hashInt 12, .int 12 t5, v5⟩] ep, #[]⟩)
    (hs : subscripted slice false (.ref a) (.int i tk) = operate [.ref a, .int i tk] (getItem (.ref a) (.int i tk))) (h5 : five i = true)
    (q4 : i = 4 → Q v1 { s with toks := s.toks + 1 }) (q6 : i = 6 → Q v2 { s with toks := s.toks + 1 }) (q8 : i = 8 → Q v3 { s with toks := s.toks + 1 }) (q10 : i = 10 → Q v4 { s with toks := s.toks + 1 }) (q12 : i = 12 → Q v5 { s with toks := s.toks + 1 }) :
    wpAny (model prog w) A (subscriptTail value slice (.ref a) (.int i tk)) Q E s := by
  have D := kd_dict (P := prog) (w := w) (ents := [(4, t1, v1), (6, t2, v2), (8, t3, v3), (10, t4, v4), (12, t5, v5)]) X hk (by show ([4, 6, 8, 10, 12] : List Int).Nodup; decide)
  have go : ∀ u, valueAt (([(4, t1, v1), (6, t2, v2), (8, t3, v3), (10, t4, v4), (12, t5, v5)] : List (Int × Tok × Value)).map pairI) i = some u → Q u { s with toks := s.toks + 1 } → wpAny (model prog w) A (subscriptTail value slice (.ref a) (.int i tk)) Q E s :=
    fun u hv q => PyProof.Rows.tail_any D.typeIs PySem.F.slot_dict_getitem.lookup (wpAny_getItem_of (knd := intKind prog w) (k := i) (by show Value.isInt i (.int i tk) = true; simp [Value.isInt]) D.mapOf hv q) hs
  unfold five at h5
  simp only [Bool.or_eq_true, beq_iff_eq] at h5
  rcases h5 with (((z | z) | z) | z) | z <;> subst z
  · exact go v1 rfl (q4 rfl)
  · exact go v2 rfl (q6 rfl)
  · exact go v3 rfl (q8 rfl)
  · exact go v4 rfl (q10 rfl)
  · exact go v5 rfl (q12 rfl)
end
end KX
end
section
open PySem
open PySem.W
open PySem.Calls
open PyProof.Rows
open PySem.Spec
namespace KX
/-- one of the five -/
structure Fv (i : Int) : Prop where
  out : i = 4 ∨ i = 6 ∨ i = 8 ∨ i = 10 ∨ i = 12
/-- none of the five -/
structure Nv (i : Int) : Prop where
  out : i ≠ 4 ∧ i ≠ 6 ∧ i ≠ 8 ∧ i ≠ 10 ∧ i ≠ 12
theorem fv_five {i : Int} (h : Fv i) : five i = true := by
  unfold five
  rcases h.out with z | z | z | z | z <;> subst z <;> rfl
theorem nv_five {i : Int} (h : Nv i) : five i = false := by
  obtain ⟨h1, h2, h3, h4, h5⟩ := h.out
  unfold five
  simp [h1, h2, h3, h4, h5]
theorem five_fv {i : Int} (h : five i = true) : Fv i := by
  unfold five at h
  simp only [Bool.or_eq_true, beq_iff_eq] at h
  exact ⟨by omega⟩
theorem five_nv {i : Int} (h : five i = false) : Nv i := by
  unfold five at h
  simp only [Bool.or_eq_false_iff, beq_eq_false_iff_ne] at h
  exact ⟨by omega⟩
theorem mem_fv {i : Int} (h : i ∈ ([4, 6, 8, 10, 12] : List Int)) : Fv i := by
  simp only [List.mem_cons, List.not_mem_nil, or_false] at h; exact ⟨h⟩
theorem mem_cut {i : Int} {a b : Nat} (h : i ∈ ([4, 6, 8, 10, 12] : List Int).drop a ++ ([4, 6, 8, 10, 12] : List Int).take b) : Fv i := by
  rcases List.mem_append.mp h with z | z
  · exact mem_fv (List.mem_of_mem_drop z)
  · exact mem_fv (List.mem_of_mem_take z)
theorem any_five (i : Int) : ([4, 6, 8, 10, 12] : List Int).any (fun k => i == k) = five i := by
  simp [five, Bool.or_assoc]
theorem any_five' (i : Int) : ([4, 6, 8, 10, 12] : List Int).any (fun k => k == i) = five i := by
  have e : ∀ k : Int, (k == i) = (i == k) := fun k => by rw [Bool.eq_iff_iff, beq_iff_eq, beq_iff_eq]; exact eq_comm
  simp [five, Bool.or_assoc, e]
section
variable {prog : Program} {w : World} {A : Around} {E : Value → Shared → Prop} {K : Frag} {a : Addr} {s : Shared} {i : Int} {tk t1 t2 t3 t4 t5 : Tok} {v1 v2 v3 v4 v5 : Value} {ep : Nat} {Q : Value → Shared → Prop}
theorem sq_inT (X : K.In s.heap) (hk : K.lookup a = some ⟨.type "dict", none, .dict #[⟨hashInt 4, .int 4 t1, v1⟩, ⟨hashInt 6, .int 6 t2, v2⟩, ⟨hashInt 8, .int 8 t3, v3⟩, ⟨hashInt 10, .int 10 t4, v4⟩, ⟨hashInt 12, .int 12 t5, v5⟩] ep, #[]⟩)
    (hs : (a == sysModules) = false) (h5 : Fv i) (q : Q (.bool true) { s with toks := s.toks + 1 }) : wpAny (model prog w) A (compareOp .In (.int i tk) (.ref a)) Q E s :=
  sq_in X hk hs (by rw [fv_five h5]; exact q)
theorem sq_inF (X : K.In s.heap) (hk : K.lookup a = some ⟨.type "dict", none, .dict #[⟨hashInt 4, .int 4 t1, v1⟩, ⟨hashInt 6, .int 6 t2, v2⟩, ⟨hashInt 8, .int 8 t3, v3⟩, ⟨hashInt 10, .int 10 t4, v4⟩, ⟨hashInt 12, .int 12 t5, v5⟩] ep, #[]⟩)
    (hs : (a == sysModules) = false) (h5 : Nv i) (q : Q (.bool false) { s with toks := s.toks + 1 }) : wpAny (model prog w) A (compareOp .In (.int i tk) (.ref a)) Q E s :=
  sq_in X hk hs (by rw [nv_five h5]; exact q)
/-- whichever of the five tuples it is -/
theorem sq_any {value slice : Expr} (X : K.In s.heap) (hk : K.lookup a = some ⟨.type "dict", none, .dict #[⟨hashInt 4, .int 4 t1, v1⟩, ⟨hashInt 6, .int 6 t2, v2⟩, ⟨hashInt 8, .int 8 t3, v3⟩, ⟨hashInt 10, .int 10 t4, v4⟩, ⟨hashInt 12, .int 12 t5, v5⟩] ep, #[]⟩)
    (hs : subscripted slice false (.ref a) (.int i tk) = operate [.ref a, .int i tk] (getItem (.ref a) (.int i tk))) (h5 : Fv i)
    {p1 p2 p3 p4 p5 : Addr} (e1 : v1 = .ref p1) (e2 : v2 = .ref p2) (e3 : v3 = .ref p3) (e4 : v4 = .ref p4) (e5 : v5 = .ref p5)
    (q : ∀ p : Addr, Q (.ref p) { s with toks := s.toks + 1 }) :
    wpAny (model prog w) A (subscriptTail value slice (.ref a) (.int i tk)) Q E s :=
  sq_get X hk hs (fv_five h5) (fun _ => e1 ▸ q p1) (fun _ => e2 ▸ q p2) (fun _ => e3 ▸ q p3) (fun _ => e4 ▸ q p4) (fun _ => e5 ▸ q p5)
theorem list_out {vs : List Value} (hl : s.heap.IsList a vs.toArray) (hi : IntsAre vs [4, 6, 8, 10, 12]) (qT : Q (.bool false) s) (qF : Nv i → Q (.bool true) s) :
    wpAny (model prog w) A (compareOp .NotIn (.int i tk) (.ref a)) Q E s := by
  refine notin_list_ints hl hi ?_
  first | rw [any_five] | rw [any_five']
  cases e : five i with
  | true => exact qT
  | false => exact qF (five_nv e)
theorem item_five {value slice : PySem.Expr} {vs : List Value} {k : Int} {u : Tok} (hl : s.heap.IsList a vs.toArray) (hi : IntsAre vs [4, 6, 8, 10, 12])
    (h0 : 0 ≤ k) (h1 : k < 5) (h : ∀ x t, Fv x → Q (.int x t) s)
    (hs : subscripted slice false (.ref a) (.int k u) = operate [.ref a, .int k u] (getItem (.ref a) (.int k u))) :
    wpAny (model prog w) A (subscriptTail value slice (.ref a) (.int k u)) Q E s := by
  have h2 : k < (([4, 6, 8, 10, 12] : List Int).length : Int) := h1
  have h3 : k < 2 ^ 63 := Int.lt_trans h1 (by decide)
  refine PyProof.Rows.tail_any hl.typeIs slot_list_getitem.lookup (getItem_intsK hl hi h0 h2 h3 fun t => h _ t (mem_fv ?_)) hs
  clear hs h hl hi
  have hk : k.toNat < ([4, 6, 8, 10, 12] : List Int).length := by show k.toNat < 5; omega
  have e : ([4, 6, 8, 10, 12] : List Int).getD k.toNat 0 = ([4, 6, 8, 10, 12] : List Int)[k.toNat] := by simp only [List.getD, List.getElem?_eq_getElem hk, Option.getD_some]
  rw [e]
  exact List.getElem_mem hk
theorem cut_12 {value slice : PySem.Expr} {k : Int} {u : Tok} {u1 u2 u3 u4 u5 u6 u7 u8 u9 u10 u11 : Value} (hl : s.heap.IsList a [.none, u1, u2, u3, u4, u5, u6, u7, u8, u9, u10, u11].toArray) (h0 : 0 ≤ k) (h1 : k < 12)
    (hs : subscripted slice false (.ref a) (.int k u) = operate [.ref a, .int k u] (getItem (.ref a) (.int k u)))
    (q0 : Q .none s) (q1 : Q u1 s) (q2 : Q u2 s) (q3 : Q u3 s) (q4 : Q u4 s) (q5 : Q u5 s) (q6 : Q u6 s) (q7 : Q u7 s) (q8 : Q u8 s) (q9 : Q u9 s) (q10 : Q u10 s) (q11 : Q u11 s) :
    wpAny (model prog w) A (subscriptTail value slice (.ref a) (.int k u)) Q E s := by
  have z : k = 0 ∨ k = 1 ∨ k = 2 ∨ k = 3 ∨ k = 4 ∨ k = 5 ∨ k = 6 ∨ k = 7 ∨ k = 8 ∨ k = 9 ∨ k = 10 ∨ k = 11 := by omega
  have go : ∀ v, [.none, u1, u2, u3, u4, u5, u6, u7, u8, u9, u10, u11][k.toNat]? = some v → Q v s → wpAny (model prog w) A (subscriptTail value slice (.ref a) (.int k u)) Q E s :=
    fun v hv q => PyProof.Rows.tail_any hl.typeIs slot_list_getitem.lookup (wpAny_getItem_list hl h0 (Int.lt_trans h1 (by decide)) (by simpa using hv) q) hs
  rcases z with z | z | z | z | z | z | z | z | z | z | z | z
  · exact go _ (by rw [z]; rfl) q0
  · exact go _ (by rw [z]; rfl) q1
  · exact go _ (by rw [z]; rfl) q2
  · exact go _ (by rw [z]; rfl) q3
  · exact go _ (by rw [z]; rfl) q4
  · exact go _ (by rw [z]; rfl) q5
  · exact go _ (by rw [z]; rfl) q6
  · exact go _ (by rw [z]; rfl) q7
  · exact go _ (by rw [z]; rfl) q8
  · exact go _ (by rw [z]; rfl) q9
  · exact go _ (by rw [z]; rfl) q10
  · exact go _ (by rw [z]; rfl) q11
theorem pow_some {t u : Tok} (h : ∀ x : Int, 0 < x → Q (.int x s.toks) { s with toks := s.toks + 1 }) : wpAny (model prog w) A (binaryOp .Pow (.int 10 t) (.int 60 u)) Q E s :=
  pow_int_small (by decide) (by decide) (by decide) (h _ (by decide))
theorem mod_some {x y : Int} {t u : Tok} (hy : y ≠ 0) (h : ∀ z : Int, Q (.int z s.toks) { s with toks := s.toks + 1 }) : wpAny (model prog w) A (binaryOp .Mod (.int x t) (.int y u)) Q E s :=
  PyProof.Rows.mod_int hy (h _)
theorem mod_pos {x y : Int} {t u : Tok} (hy : 0 < y) (h : ∀ z : Int, 0 ≤ z → z < y → Q (.int z s.toks) { s with toks := s.toks + 1 }) : wpAny (model prog w) A (binaryOp .Mod (.int x t) (.int y u)) Q E s :=
  PyProof.Rows.mod_int (by omega) (h _ (Int.fmod_nonneg_of_pos _ hy) (Int.fmod_lt_of_pos _ hy))
theorem with_ints {M : Model} {R : Value → Shared → Prop} {h₀ : Heap} {L l : Addr} {vs : List Value} {ns : List Int} {nn : Nat} {led : List (Addr × Obj)} (_N : News h₀ L s.heap led) (_hl : (l, listOf vs.toArray nn) ∈ led) (hi : IntsAre vs ns)
    (k : IntsAre vs ns → wpAny M A (pyIter (.ref l)) R E s) : wpAny M A (pyIter (.ref l)) R E s := k hi
end
theorem in_now {K : Frag} {h₀ h : Heap} {L : Addr} {m : Str → Option Value} (F : Fr h₀ L h m) (X : K.In h₀) : K.In h := X.keeps F.keep
/-- what the law's reader hands back -/
def cellF (ns : List Int) (k : Int) : Int := if k < ns.length then ns.getD k.toNat 0 else if ns.length = 0 then k * k * 31 + 17 else (ns.getD ((k * 3).fmod ns.length).toNat 0).fmod 2147483629 * 48271 + k * k * 7919
theorem cellF_1 {ns : List Int} {k : Int} (h : k < ns.length) : ns.getD k.toNat 0 = cellF ns k := by unfold cellF; rw [if_pos h]
theorem cellF_2 {ns : List Int} {k : Int} (h : ¬ k < ns.length) (h0 : ns.length = 0) : k * k * 31 + 17 = cellF ns k := by unfold cellF; rw [if_neg h, if_pos h0]
theorem cellF_3 {ns : List Int} {k : Int} (h : ¬ k < ns.length) (h0 : ¬ ns.length = 0) : (ns.getD ((k * 3).fmod ns.length).toNat 0).fmod 2147483629 * 48271 + k * k * 7919 = cellF ns k := by unfold cellF; rw [if_neg h, if_neg h0]
end KX
end
open PySem PySem.W PyProof.Rows
local macro_rules | `(tactic| k_in) => `(tactic| exact KX.in_now (by k_asm) (by k_asm))
local macro_rules | `(tactic| walk_at "handleBy ref") => `(tactic| (
      k_here
      (with_reducible rename KtsDicts _ _ => kdX)
      k_dflt (
        refine' hit_SB ?R ?F ?K ?U ?XB ?TB ?D ?T0 ?T ?_
        (case R => assumption)
        (case F => assumption)
        (case K => assumption)
        (case U => assumption)
        (case XB => assumption)
        (case TB => assumption)
        (case D => assumption)
        (case T0 => first | assumption | exact KtsTurn.refl)
        (case T => kts_test)
        k_whole)
      intro h' g' n₂ tk' T' F' N₂ G' N' K' X' P' D'
      obtain ⟨oe, c1, N3⟩ := KX.got_led G' N₂ N'
      clear N₂ N'
      (try k_lift K')
      (try k_sweep)))
local macro_rules | `(tactic| walk_at "exec For Name BinOp cons nil") => `(tactic| (k_here; (rename Fr _ _ _ _ => lF'); (with_unfolding_all (refine' For_invVF lF' ?kzA ?kzB ?_; (case kzA => exact rfl); (case kzB => exact rfl); k_whole))))
local macro_rules | `(tactic| walk_at "exec For Name Name cons nil") => `(tactic| (k_here; (rename Fr _ _ _ _ => lF'); (with_unfolding_all (refine' For_invVF lF' ?kzA ?kzB ?_; (case kzA => exact rfl); (case kzB => exact rfl); k_whole))))
local macro_rules | `(tactic| walk_at "exec For Name Call cons nil") => `(tactic| (k_here; (rename Fr _ _ _ _ => lF'); (with_unfolding_all (refine' For_invVF lF' ?kzA ?kzB ?_; (case kzA => exact rfl); (case kzB => exact rfl); k_whole))))
local macro_rules | `(tactic| walk_at "subscriptTail Name Slice ref ref") => `(tactic| (
      k_here
      k_dflt (refine' kmk_slice_ints ?zsF ?zsN ?zsL ?zsP ?zsQ ?zsI ?zsM ?zsC ?_ ?zsS ?zsT ?zsZ; (case zsF => k_asm); (case zsN => k_asm); (case zsL => kmk_list); (case zsP => kmk_part); (case zsQ => kmk_part); (case zsI => l_ints); (case zsM => first | (with_reducible refine' kmk_from ?zsU ?zsV; (case zsU => l_ints); (case zsV => kmk_sign)) | (with_reducible refine' kmk_upto ?zsU ?zsV; (case zsU => l_ints); (case zsV => kmk_sign))); (case zsC => kmk_len); (case zsS => with_unfolding_all rfl); (case zsT => kmk_pure); (case zsZ => kmk_size))
      intro D' ws' h' F' N' l1 hI' hC' hL'
      (try k_lt l1)
      (try k_sweep)))
local macro_rules | `(tactic| walk_at "pyIter ref") => `(tactic| (
      first
      | k_search (fun _ => True)
      | (k_here; k_dflt (refine' KX.with_ints ?wiN ?wiM ?wiI ?_; (case wiN => k_asm); (case wiM => k_mem); (case wiI => l_ints)); intro kIv; k_search (fun _ => True))
      all_goals (try ((with_reducible rename (_ : Int) ∈ _ => kMm); have kFv := KX.mem_cut kMm))))
local macro_rules | `(tactic| walk_at "compareOp NotIn int ref") => `(tactic| (
      k_here
      k_dflt (
        refine' KX.list_out ?sqX ?sqK ?_ ?_
        (case sqX => is_list)
        (case sqK => l_ints)
        k_whole)
      all_goals (try intro kNv)))
local macro_rules | `(tactic| walk_at "compareOp In int ref") => `(tactic| (
      k_here
      k_dflt (first
        | (refine' KX.sq_inT ?sqX ?sqK ?sqH ?sq5 ?_
           (case sq5 => with_reducible assumption)
           (case sqX => exact KX.in_now (by k_asm) (by k_asm))
           (case sqK => k_is)
           (case sqH => decide)
           k_whole)
        | (refine' KX.sq_inF ?sqX ?sqK ?sqH ?sq5 ?_
           (case sq5 => with_reducible assumption)
           (case sqX => exact KX.in_now (by k_asm) (by k_asm))
           (case sqK => k_is)
           (case sqH => decide)
           k_whole))))
local macro_rules | `(tactic| walk_at "subscriptTail Name Name ref int") => `(tactic| (
      k_here
      k_dflt (first
       | (refine' KX.sq_any ?sgX ?sgK ?sgS ?sg5 ?sgA ?sgB ?sgC ?sgD ?sgE ?_
          (case sg5 => with_reducible assumption)
          (case sgX => exact KX.in_now (by k_asm) (by k_asm))
          (case sgK => k_is)
          (case sgS => rfl)
          (case sgA => rfl)
          (case sgB => rfl)
          (case sgC => rfl)
          (case sgD => rfl)
          (case sgE => rfl)
          k_whole
          intro sgP)
       | (refine' KX.item_five ?sgL ?sgI ?sgZ ?sgN ?_ ?sgS
          (case sgL => is_list)
          (case sgI => l_ints)
          (case sgZ => l_idx)
          (case sgN => l_idx)
          (case sgS => with_unfolding_all rfl)
          k_whole
          intro sgV sgT sgF))))
local macro_rules | `(tactic| walk_at "subscriptTail Name BinOp ref int") => `(tactic| (
      k_here
      k_dflt (first
       | (refine' KX.cut_12 ?sgL ?sgZ ?sgN ?sgS ?_ ?_ ?_ ?_ ?_ ?_ ?_ ?_ ?_ ?_ ?_ ?_
          (case sgL => is_list)
          (case sgZ => l_idx)
          (case sgN => l_idx)
          (case sgS => with_unfolding_all rfl)
          k_whole)
       | (refine' KX.item_five ?sgL ?sgI ?sgZ ?sgN ?_ ?sgS
          (case sgL => is_list)
          (case sgI => l_ints)
          (case sgZ => l_idx)
          (case sgN => l_idx)
          (case sgS => with_unfolding_all rfl)
          k_whole
          intro sgV sgT sgF))))
local macro_rules | `(tactic| walk_at "binaryOp Pow int int") => `(tactic| (
      k_here
      k_dflt (refine' KX.pow_some ?_)
      intro pwX pwP))
local macro_rules | `(tactic| walk_at "binaryOp Mod int int") => `(tactic| (
      k_here
      first
      | ((with_reducible show wpAny _ _ (binaryOp _ _ (Value.int 5 _)) _ _ _); k_dflt (refine' KX.mod_pos ?mdP ?_; (case mdP => decide)); intro mdX mdL mdU)
      | ((with_reducible show wpAny _ _ (binaryOp _ _ (Value.int 12 _)) _ _ _); k_dflt (refine' KX.mod_pos ?mdP ?_; (case mdP => decide)); intro mdX mdL mdU)
      | ((with_reducible show wpAny _ _ (binaryOp _ _ (Value.int 81 _)) _ _ _); k_dflt (refine' KX.mod_pos ?mdP ?_; (case mdP => decide)); intro mdX mdL mdU)
      | ((with_reducible show wpAny _ _ (binaryOp _ _ (Value.int (_ - _) _)) _ _ _); k_dflt (refine' KX.mod_some ?mdP ?_; (case mdP => omega)); intro mdX)))
local macro_rules | `(tactic| walk_at "call builtin:isinstance") => `(tactic| (
      k_here
      (with_reducible rename (Obj.cls _ = Value.ref _) => oC')
      first
      | (k_dflt (
        refine' kia_one (KX.kitx_exc ?a1 ?a2 ?a3 ?a4 ?a5 ?a6 ?a7 ?a8) ?tuX ?tuI ?tuE ?tuN ?_
        (case tuI => exact KX.exc_led (by k_asm) (by k_mem) oC')
        (case tuX => exact KX.in_now (by k_asm) (by k_asm))
        (case tuE => kit_is)
        (case tuN => kit_nb)
        (case a1 => k_is)
        (case a2 => k_is)
        (case a3 => k_is)
        (case a4 => k_is)
        (case a5 => k_is)
        (case a6 => k_is)
        (case a7 => k_is)
        (case a8 => k_is)
        k_whole))
      | (k_dflt (
        refine' kia_tup (KX.kitx_exc ?a1 ?a2 ?a3 ?a4 ?a5 ?a6 ?a7 ?a8) ?tuX ?tuI ?tuP ?tuE ?tuN ?_
        (case tuI => exact KX.exc_led (by k_asm) (by k_mem) oC')
        (case tuX => exact KX.in_now (by k_asm) (by k_asm))
        (case tuP => kit_tp)
        (case tuE => kit_is)
        (case tuN => kit_nb)
        (case a1 => k_is)
        (case a2 => k_is)
        (case a3 => k_is)
        (case a4 => k_is)
        (case a5 => k_is)
        (case a6 => k_is)
        (case a7 => k_is)
        (case a8 => k_is)
        k_whole))
      intro _))
set_option maxRecDepth 100000 in
set_option maxHeartbeats 0 in
theorem PySem.Challenge.cw_inflate_k01_a_frame_holds : PySem.Challenge.rw_inflate_k01_a_frame.Holds := by
  k_with "InitBack error" => (dsimp only [InitBack])
  k_with "call ref" => k_call_by "_law_good" (fun (_ : Int) => true) (fun (m : Int) => KX.Fv m)
  k_with "tree" => first
    | exact KX.cellF_1 (by omega)
    | exact KX.cellF_2 (by omega) (by omega)
    | exact KX.cellF_3 (by omega) (by omega)
  k_with "call ref" => k_call_by "_law_cell" KX.cellF (fun (_ : List Int) (k : Int) => 0 ≤ k ∧ k ≤ 4)
  open_k
