/-
  A region whose order is drawn, by one assertion on what has come up.
-/
import Derived.Test.YtmkgkgdngjmcmabDoorOg
namespace Go.Proofs.YtmkgkgdngjmcmabDoor
open Go.RowKit Go.Lib
set_option linter.unusedVariables false

section
variable {P : Program} {md : Region.Mode} {ops : Array Oper} {Q : Exit → Act → World → Prop}

theorem count_set {l : List Bool} : ∀ {i : Nat}, l[i]? = some false → (l.set i true).count false + 1 = l.count false := by
  induction l with
  | nil => intro i h; simp at h
  | cons b l ih =>
    intro i h
    cases i with
    | zero =>
      simp at h
      subst h
      simp
    | succ i =>
      have := ih (i := i) (by simpa using h)
      simp only [List.set_cons_succ, List.count_cons]
      omega

theorem getD_false {a : Array Bool} {i : Nat} (h : a.getD i true = false) : a.toList[i]? = some false ∧ i < a.size := by
  by_cases hi : i < a.size
  · refine ⟨?_, hi⟩
    simp [Array.getD, hi] at h
    simp [hi, h]
  · simp [Array.getD, hi] at h

/-- Whatever the order: an assertion on what has come up so far, kept by each operation. -/
theorem wpAny_inv (I : Array Bool → Act → World → Prop)
    (hs : ∀ listed a w (i : Nat) (o : Oper), I listed a w → ops[i]? = some o → listed.getD i true = false → (∀ e ∈ o.after, Region.binds md e = true → listed.getD e.on false = true) → wpOp P ops Q i (I (listed.setIfInBounds i true)) a w)
    (he : ∀ listed a w, I listed a w → (∀ (i : Nat) (o : Oper), ops[i]? = some o → listed.getD i true = false → ¬ (∀ e ∈ o.after, Region.binds md e = true → listed.getD e.on false = true)) → Q .normal a w) :
    ∀ fuel listed a w, listed.toList.count false ≤ fuel → I listed a w → wpAny P md ops Q fuel listed a w := by
  have hend : ∀ listed a w, I listed a w → Region.ready md ops listed = [] → Q .normal a w := fun listed a w hI hr => he listed a w hI fun i o ho hu hall => by
    have : i ∈ Region.ready md ops listed := mem_ready.2 ⟨hu, o, ho, hall⟩
    rw [hr] at this
    cases this
  intro fuel
  induction fuel with
  | zero =>
    intro listed a w hc hI
    have hr : Region.ready md ops listed = [] := by
      cases h : Region.ready md ops listed with
      | nil => rfl
      | cons i l =>
        have hi : i ∈ Region.ready md ops listed := by rw [h]; simp
        have h1 := (getD_false (mem_ready.1 hi).1).1
        have h2 := count_set h1
        omega
    exact ⟨hr, hend _ _ _ hI hr⟩
  | succ fuel ih =>
    intro listed a w hc hI
    refine ⟨hend _ _ _ hI, fun i hi => ?_⟩
    obtain ⟨hu, o, ho, hall⟩ := mem_ready.1 hi
    refine wpOp_mono (fun a' w' h' => ih _ a' w' ?_ h') (hs listed a w i o hI ho hu hall)
    have h1 := count_set (getD_false hu).1
    rw [Array.toList_setIfInBounds]
    omega

/-- The region's operations in their order: each waits for earlier ones alone. -/
def Earlier (ops : Array Oper) : Prop := ∀ (i : Nat) (o : Oper), ops[i]? = some o → ∀ e ∈ o.after, e.on < i

theorem all_listed (hT : Earlier ops) {listed : Array Bool} (hz : listed.size = ops.size)
    (h : ∀ (i : Nat) (o : Oper), ops[i]? = some o → listed.getD i true = false → ¬ (∀ e ∈ o.after, Region.binds md e = true → listed.getD e.on false = true)) :
    ∀ i, i < ops.size → listed.getD i false = true := by
  intro i
  induction i using Nat.strongRecOn with
  | _ i ih =>
    intro hi
    have hl : i < listed.size := by omega
    cases hb : listed[i] with
    | true => simp [Array.getD, hl, hb]
    | false =>
      exfalso
      refine h i ops[i] (by simp [hi]) (by simp [Array.getD, hl, hb]) fun e he _ => ?_
      have h1 := hT i ops[i] (by simp [hi]) e he
      exact ih e.on h1 (by omega)

theorem wp_region_inv {id : Nat} {a : Act} {w : World} (hm : P.follows .mixedOrders = true) (hT : Earlier ops) (I : (Nat → Prop) → Act → World → Prop)
    (hs : ∀ (L L' : Nat → Prop) a w (i : Nat) (o : Oper), I L a w → ops[i]? = some o → ¬ L i → (∀ e ∈ o.after, Region.binds .any e = true → L e.on) → (∀ j, L' j ↔ (j = i ∨ L j)) → wpOp P ops Q i (I L') a w)
    (he : ∀ (L : Nat → Prop) a w, I L a w → (∀ i, i < ops.size → L i) → Q .normal a w)
    (h0 : ∀ L : Nat → Prop, (∀ i, ¬ L i) → I L a w.drew) : (Code.region id ops true).wp P Q a w := by
  refine wp_region_any hm (wpAny_inv (fun listed a w => listed.size = ops.size ∧ I (fun i => listed.getD i false = true) a w) ?_ ?_ ops.size _ a _ ?_ ⟨by simp, h0 _ ?_⟩)
  · rintro listed a w i o ⟨hz, hI⟩ ho hu hall
    have hi := (getD_false hu).2
    refine wpOp_mono (fun a' w' h' => ⟨by simpa using hz, h'⟩) (hs _ _ a w i o hI ho ?_ hall ?_)
    · simp [Array.getD, hi] at hu ⊢
      exact hu
    · intro j
      by_cases hj : j = i
      · subst hj
        simp [Array.getD, hi]
      · simp only [hj, false_or]
        have : (listed.setIfInBounds i true).getD j false = listed.getD j false := by
          rw [Array.getD_eq_getD_getElem?, Array.getD_eq_getD_getElem?, Array.getElem?_setIfInBounds_ne (Ne.symm hj)]
        rw [this]
  · rintro listed a w ⟨hz, hI⟩ h
    exact he _ a w hI (all_listed hT hz h)
  · simp
  · intro i
    by_cases hi : i < ops.size <;> simp [Array.getD, hi]
end

/-! ### The frame -/
theorem ev_ne (a : Act) {d t : Nat} (v : Value) (h : t ≠ d) : (a.put (some d) v).eval (.tmp t) = a.eval (.tmp t) :=
  Act.eval_put (fun d' hd' => by injection hd' with e; subst e; intro he; injection he with he; exact h he)
theorem ev_eq (a : Act) {d : Nat} (v : Value) (h : d < a.tmps.size) : (a.put (some d) v).eval (.tmp d) = v := by simp [Act.eval, Act.put, h]

/-- All but the slots of D is as it was. -/
structure Fe (a a' : Act) (D : List Nat) : Prop where
  df : a'.defers = a.defers
  sz : a'.tmps.size = a.tmps.size
  eq : ∀ j, j ∉ D → a'.tmps[j]? = a.tmps[j]?
theorem Fe.refl (a : Act) (D : List Nat) : Fe a a D := ⟨rfl, rfl, fun _ _ => rfl⟩
theorem Fe.put {a a' : Act} {D : List Nat} (h : Fe a a' D) {d : Nat} (hd : d ∈ D) (v : Value) : Fe a (a'.put (some d) v) D :=
  ⟨h.df, by simp [Act.put, h.sz], fun j hj => by
    have hn : d ≠ j := fun e => hj (e ▸ hd)
    simp only [Act.put]
    rw [Array.getElem?_setIfInBounds_ne hn]
    exact h.eq j hj⟩
theorem Fe.ev {a a' : Act} {D : List Nat} (h : Fe a a' D) {j : Nat} (hj : j ∉ D) : a'.eval (.tmp j) = a.eval (.tmp j) := by
  simp only [Act.eval, Array.getD_eq_getD_getElem?, h.eq j hj]

def puts (a : Act) (l : List (Nat × Value)) : Act := l.foldl (fun a p => a.put (some p.1) p.2) a
theorem Fe.puts : ∀ (l : List (Nat × Value)) (a a' : Act), Fe a a' (l.map (·.1)) → (∀ p ∈ l, p.1 < a.tmps.size ∧ a'.eval (.tmp p.1) = p.2) → a' = puts a l
  | [], a, a', h, _ => by
    obtain ⟨t', d'⟩ := a'
    obtain ⟨t, d⟩ := a
    have h1 : d' = d := h.df
    have h2 : t' = t := Array.ext_getElem? (fun i => h.eq i (by simp))
    subst h1 h2
    rfl
  | p :: l, a, a', h, hp => by
    refine Fe.puts l (a.put (some p.1) p.2) a' ⟨h.df, by simp [Act.put, h.sz], fun j hj => ?_⟩ (fun x hx => ⟨by simpa [Act.put] using (hp x (by simp [hx])).1, (hp x (by simp [hx])).2⟩)
    by_cases e : j = p.1
    · subst e
      obtain ⟨h1, h2⟩ := hp p (by simp)
      have h3 : p.1 < a'.tmps.size := by rw [h.sz]; exact h1
      simp [Act.eval, h3] at h2
      simp [Act.put, h1, h3, h2]
    · simp only [Act.put]
      rw [Array.getElem?_setIfInBounds_ne (Ne.symm e)]
      exact h.eq j (by simp [e, hj])

end Go.Proofs.YtmkgkgdngjmcmabDoor
