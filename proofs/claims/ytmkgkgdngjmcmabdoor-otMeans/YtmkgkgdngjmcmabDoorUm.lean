/-
  What was meant stays: an operation carried past a line, without memory.
-/
import Derived.Test.YtmkgkgdngjmcmabDoorUb
namespace Go.Proofs.YtmkgkgdngjmcmabDoor
set_option linter.unusedVariables false

theorem ins_at (x : El) : ∀ (A B : List El), (A ++ B).insertIdx A.length x = A ++ x :: B
  | [], B => by simp
  | y :: A, B => by simp [List.insertIdx_succ_cons, ins_at x A B]

theorem ins_left (x : El) (L R : List El) (r : Nat) (h : r ≤ L.length) : (L ++ R).insertIdx r x = (L.take r ++ x :: L.drop r) ++ R := by
  have h1 : L ++ R = L.take r ++ (L.drop r ++ R) := by rw [← List.append_assoc, List.take_append_drop]
  have h2 : (L.take r).length = r := by rw [List.length_take]; omega
  have h3 := ins_at x (L.take r) (L.drop r ++ R)
  rw [h2, ← h1] at h3
  rw [h3]
  simp

theorem ins_right (x : El) (L R : List El) (r : Nat) (h : L.length ≤ r) (h' : r ≤ L.length + R.length) : (L ++ R).insertIdx r x = L ++ (R.take (r - L.length) ++ x :: R.drop (r - L.length)) := by
  have h1 : L ++ R = (L ++ R.take (r - L.length)) ++ R.drop (r - L.length) := by rw [List.append_assoc, List.take_append_drop]
  have h2 : (L ++ R.take (r - L.length)).length = r := by rw [List.length_append, List.length_take]; omega
  have h3 := ins_at x (L ++ R.take (r - L.length)) (R.drop (r - L.length))
  rw [h2, ← h1] at h3
  rw [h3]
  simp

theorem mem_mid {x z : El} {L : List El} {r : Nat} (h : z ∈ L.take r ++ x :: L.drop r) : z = x ∨ z ∈ L := by
  rcases List.mem_append.mp h with h | h
  · exact .inr (List.mem_of_mem_take h)
  · rcases List.mem_cons.mp h with h | h
    · exact .inl h
    · exact .inr (List.mem_of_mem_drop h)

/-- An insertion at p of d, carried to e. -/
def InsS (d : List El) (p : Nat) (c : Int) (e : List El) (a : OpE) : Prop :=
  ∃ L R, e = L ++ R ∧ a = ⟨1, (L.length : Int), c, 2, 1⟩ ∧ (∀ z ∈ L, z.2.1 = 1 → z ∈ d.take p) ∧ (∀ z ∈ R, z.2.1 = 1 → z ∈ d.drop p) ∧ (∀ z ∈ e, z.2.1 ≠ 2)

theorem ins_step {d : List El} {p : Nat} {c : Int} {e : List El} {a b : OpE} (f : Bool) (h : InsS d p c e a) (hb : FitO e.length b) (hc : b.cl = 3) (hn : e.length < 1000000) : InsS d p c (putP e b) (shiftP a b f) := by
  obtain ⟨L, R, rfl, rfl, hL, hR, h2⟩ := h
  obtain ⟨k, q, ch, l, s⟩ := b
  obtain rfl : l = 3 := hc
  rw [List.length_append] at hn hb
  rcases hb with ⟨h0, h1, h3⟩ | ⟨h0, r, h1, h3⟩ | ⟨h0, r, h1, h3⟩
  · simp only at h0 h1 h3
    subst h0 h1 h3
    rw [putP_nop]
    exact ⟨L, R, rfl, by simp [shiftP], hL, hR, h2⟩
  · simp only at h0 h1 h3
    subst h0 h1
    rw [putP_ins]
    by_cases hr : r < L.length ∨ (r = L.length ∧ f = false)
    · have hr' : r ≤ L.length := by omega
      rw [ins_left _ _ _ _ hr']
      have hl : (L.take r ++ ((ch, 3, s) : El) :: L.drop r).length = L.length + 1 := by
        rw [List.length_append, List.length_take, List.length_cons, List.length_drop]; omega
      refine ⟨_, R, rfl, ?_, ?_, hR, ?_⟩
      · rw [hl]
        have hw := wrap_up (n := L.length) (by omega)
        rcases hr with hr | ⟨hr, rfl⟩
        · simp [shiftP, hr, hw]
        · simp [shiftP, hr, hw]
      · intro z hz h1
        rcases mem_mid hz with rfl | hz
        · simp at h1
        · exact hL z hz h1
      · intro z hz
        rcases List.mem_append.mp hz with hz | hz
        · rcases mem_mid hz with rfl | hz
          · simp
          · exact h2 z (List.mem_append_left _ hz)
        · exact h2 z (List.mem_append_right _ hz)
    · have hr' : L.length ≤ r := by omega
      rw [ins_right _ _ _ _ hr' (by omega)]
      refine ⟨L, _, rfl, ?_, hL, ?_, ?_⟩
      · have n1 : ¬ (r : Int) < (L.length : Int) := by omega
        have n2 : ¬ ((r : Int) = (L.length : Int) ∧ f = false) := fun h => hr (.inr ⟨by omega, h.2⟩)
        simp [shiftP, n1, n2]
        try omega
      · intro z hz h1
        rcases mem_mid hz with rfl | hz
        · simp at h1
        · exact hR z hz h1
      · intro z hz
        rcases List.mem_append.mp hz with hz | hz
        · exact h2 z (List.mem_append_left _ hz)
        · rcases mem_mid hz with rfl | hz
          · simp
          · exact h2 z (List.mem_append_right _ hz)
  · simp only at h0 h1 h3
    subst h0 h1
    rw [putP_del]
    by_cases hr : r < L.length
    · rw [List.eraseIdx_append_of_lt_length hr]
      refine ⟨_, R, rfl, ?_, fun z hz => hL z (List.mem_of_mem_eraseIdx hz), hR, ?_⟩
      · rw [erase_len _ _ hr]
        have hw := wrap_dn (n := L.length) (by omega)
        simp [shiftP, hr, hw]
        omega
      · intro z hz
        rcases List.mem_append.mp hz with hz | hz
        · exact h2 z (List.mem_append_left _ (List.mem_of_mem_eraseIdx hz))
        · exact h2 z (List.mem_append_right _ hz)
    · rw [List.eraseIdx_append_of_length_le (by omega)]
      refine ⟨L, _, rfl, ?_, hL, fun z hz => hR z (List.mem_of_mem_eraseIdx hz), ?_⟩
      · simp [shiftP]
        omega
      · intro z hz
        rcases List.mem_append.mp hz with hz | hz
        · exact h2 z (List.mem_append_left _ hz)
        · exact h2 z (List.mem_append_right _ (List.mem_of_mem_eraseIdx hz))

/-- A deletion of y, carried to e. -/
def DelS (y : El) (c : Int) (e : List El) (a : OpE) : Prop :=
  (a = ⟨0, 0, 0, 2, 1⟩ ∧ y ∉ e) ∨ ∃ L R, e = L ++ y :: R ∧ a = ⟨2, (L.length : Int), c, 2, 1⟩ ∧ y ∉ L ∧ y ∉ R

theorem del_step {y : El} {c : Int} {e : List El} {a b : OpE} (f : Bool) (hy : y.2.1 = 1) (h : DelS y c e a) (hb : FitO e.length b) (hc : b.cl = 3) (hn : e.length < 1000000) : DelS y c (putP e b) (shiftP a b f) := by
  obtain ⟨k, q, ch, l, s⟩ := b
  obtain rfl : l = 3 := hc
  have hx : y ≠ (ch, 3, s) := fun h => by rw [h] at hy; simp at hy
  rcases h with ⟨rfl, hm⟩ | ⟨L, R, rfl, rfl, hL, hR⟩
  · refine .inl ⟨by simp [shiftP], ?_⟩
    rcases hb with ⟨h0, h1, h3⟩ | ⟨h0, r, h1, h3⟩ | ⟨h0, r, h1, h3⟩
    · simp only at h0; subst h0; rw [putP_nop]; exact hm
    · simp only at h0 h1; subst h0 h1; rw [putP_ins]
      have := ins_left (ch, 3, s) e [] r h3
      rw [List.append_nil, List.append_nil] at this
      rw [this]
      intro h
      rcases mem_mid h with h | h
      · exact hx h
      · exact hm h
    · simp only at h0 h1; subst h0 h1; rw [putP_del]
      exact fun h => hm (List.mem_of_mem_eraseIdx h)
  · rw [List.length_append, List.length_cons] at hn hb
    rcases hb with ⟨h0, h1, h3⟩ | ⟨h0, r, h1, h3⟩ | ⟨h0, r, h1, h3⟩
    · simp only at h0 h1 h3
      subst h0 h1 h3
      rw [putP_nop]
      exact .inr ⟨L, R, rfl, by simp [shiftP], hL, hR⟩
    · simp only at h0 h1 h3
      subst h0 h1
      rw [putP_ins]
      by_cases hr : r ≤ L.length
      · rw [ins_left _ _ _ _ hr]
        have hl : (L.take r ++ ((ch, 3, s) : El) :: L.drop r).length = L.length + 1 := by
          rw [List.length_append, List.length_take, List.length_cons, List.length_drop]; omega
        refine .inr ⟨_, R, rfl, ?_, ?_, hR⟩
        · rw [hl]
          have hw := wrap_up (n := L.length) (by omega)
          simp [shiftP, hw]
          omega
        · intro h
          rcases mem_mid h with h | h
          · exact hx h
          · exact hL h
      · have h5 : L ++ y :: R = (L ++ [y]) ++ R := by simp
        have hl : (L ++ [y]).length = L.length + 1 := by simp
        rw [h5, ins_right _ _ _ _ (by omega) (by omega), List.append_assoc, List.singleton_append]
        refine .inr ⟨L, _, rfl, ?_, hL, ?_⟩
        · simp [shiftP]
          omega
        · intro h
          rcases mem_mid h with h | h
          · exact hx h
          · exact hR h
    · simp only at h0 h1 h3
      subst h0 h1
      rw [putP_del]
      by_cases hr : r < L.length
      · rw [List.eraseIdx_append_of_lt_length hr]
        refine .inr ⟨_, R, rfl, ?_, fun h => hL (List.mem_of_mem_eraseIdx h), hR⟩
        rw [erase_len _ _ hr]
        have hw := wrap_dn (n := L.length) (by omega)
        have : ¬ (L.length : Int) = r := by omega
        simp [shiftP, hr, hw, this]
        omega
      · rw [List.eraseIdx_append_of_length_le (by omega)]
        by_cases he : r = L.length
        · subst he
          rw [Nat.sub_self, List.eraseIdx_cons_zero]
          refine .inl ⟨by simp [shiftP], fun h => ?_⟩
          rcases List.mem_append.mp h with h | h
          · exact hL h
          · exact hR h
        · obtain ⟨t, ht⟩ : ∃ t, r - L.length = t + 1 := ⟨r - L.length - 1, by omega⟩
          rw [ht, List.eraseIdx_cons_succ]
          refine .inr ⟨L, _, rfl, ?_, hL, fun h => hR (List.mem_of_mem_eraseIdx h)⟩
          have : ¬ (L.length : Int) = r := by omega
          simp [shiftP, this]
          omega

/-- Past a line. -/
theorem ins_through {d : List El} {p : Nat} {c : Int} (f : Bool) : ∀ (l : List OpE) {e : List El} {a : OpE}, InsS d p c e a → FitL e l → (∀ b ∈ l, b.cl = 3) → e.length + l.length < 1000000 → InsS d p c (runP e l) (throughP a l f).1
  | [], e, a, h, _, _, _ => h
  | b :: l, e, a, h, hF, hc, hn => by
    have h1 := ins_step (!f) h hF.1 (hc b List.mem_cons_self) (by simp at hn; omega)
    have h2 := putP_len e b hF.1
    exact ins_through f l h1 hF.2 (fun x hx => hc x (List.mem_cons_of_mem _ hx)) (by simp at hn; omega)

theorem del_through {y : El} {c : Int} (hy : y.2.1 = 1) (f : Bool) : ∀ (l : List OpE) {e : List El} {a : OpE}, DelS y c e a → FitL e l → (∀ b ∈ l, b.cl = 3) → e.length + l.length < 1000000 → DelS y c (runP e l) (throughP a l f).1
  | [], e, a, h, _, _, _ => h
  | b :: l, e, a, h, hF, hc, hn => by
    have h1 := del_step (!f) hy h hF.1 (hc b List.mem_cons_self) (by simp at hn; omega)
    have h2 := putP_len e b hF.1
    exact del_through hy f l h1 hF.2 (fun x hx => hc x (List.mem_cons_of_mem _ hx)) (by simp at hn; omega)

end Go.Proofs.YtmkgkgdngjmcmabDoor
