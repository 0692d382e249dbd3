/-
  The document's inbox: Held.
-/
import Derived.Test.YtpjnhjijipcjkaaRi
import Derived.Test.YtpjnhjijipcjkaaOr
namespace Go.Proofs.Ytpjnhjijipcjkaa
open Go.RowKit
set_option linter.unusedVariables false

/-- The numbers from c + 1 on, so many, that are held. -/
def hl (p : Rb) (m : Nat) : List Int := ((List.range' (p.c + 1) m).filter (fun k => hasK p.ib.H k)).map (fun k : Nat => (k : Int))
theorem hl_succ (p : Rb) (m : Nat) : hl p (m + 1) = hl p m ++ (if hasK p.ib.H (p.c + 1 + m) then [((p.c + 1 + m : Nat) : Int)] else []) := by
  unfold hl
  rw [List.range'_concat, List.filter_append, List.map_append]
  congr 1
  simp only [Nat.one_mul, List.filter_cons, List.filter_nil]
  split <;> rfl
theorem hl_len (p : Rb) (m : Nat) : (hl p m).length ≤ m := by
  unfold hl
  rw [List.length_map]
  exact Nat.le_trans (List.length_filter_le _ _) (by simp)
theorem hl_all {p : Rb} (h : p.ib.ok) {m : Nat} (hm : m = p.R ∨ (4096 ≤ p.c + m ∧ m ≤ p.R)) : hl p m = heldL p.ib := by
  rw [held_filter h]
  show hl p m = hl p p.R
  rcases hm with rfl | ⟨h1, h2⟩
  · rfl
  · obtain ⟨d, hd'⟩ : ∃ d, p.R = m + d := ⟨p.R - m, by omega⟩
    rw [hd']
    clear hd' h2
    induction d with
    | zero => rfl
    | succ d ih =>
      rw [← Nat.add_assoc, hl_succ, ← ih]
      have : hasK p.ib.H (p.c + 1 + (m + d)) = false := by
        cases hh : hasK p.ib.H (p.c + 1 + (m + d))
        · rfl
        · obtain ⟨v, hv⟩ := hasK_true hh
          have := h.key _ hv
          simp only at this
          omega
      rw [this]
      simp

def RHs (w0 w : World) (x : Nat) (p : Rb) (v : Value) (β : Option Nat) (u : Value) (m : Nat) : Prop :=
  RK w x p v β ∧ RowKit.Below w0.heap.size w0 w ∧ ∃ γ, SF ei 1 w 3 γ u (hl p m) ∧ ∀ g, γ = some g → w0.heap.size ≤ g

set_option maxRecDepth 100000 in
set_option maxHeartbeats 4000000 in
theorem r_held (x : Nat) (p : Rb) (v : Value) (β : Option Nat) (w : World) (h : RK w x p v β) (hβ : ∀ g, β = some g → g < w.heap.size) :
    Calls Try.prog 50 #[.pointer (some ⟨x, 0, none⟩)] w fun e w' => ∃ u, e = .returned u ∧ IV w' w.heap.size u (heldL p.ib) ∧ RowKit.Below w.heap.size w w' := by
  have hxl := block_lt h.box
  have hc : p.c ≤ 4096 := h.ok.c2
  have hr : p.R ≤ 4096 := h.ok.r2
  have HO := hd h.ok
  have HX := hd (And.intro hxl hβ)
  have c1 := cell_row h.box 1
  simp at c1
  have S0 : Hid (RHs w w x p v β (.slice none 0 0) 0) := ⟨h, Below.refl _ _, none, ⟨rfl, rfl⟩, fun g h => by cases h⟩
  have hw : IntKind.i64.wrap ((p.c : Int) + 1) = ((p.c + 1 : Nat) : Int) := by rw [IntKind.wrap_i64]; omega
  have hwR : IntKind.i64.wrap ((p.c : Int) + p.R) = (p.c : Int) + p.R := by rw [IntKind.wrap_i64]; omega
  clear h hxl hβ
  go_enter Try.func50, Try.ntmps50
  go_wp2_with fail
  go_loopw [3, 4] (fun u vn wr => ∃ m : Nat, m ≤ p.R ∧ vn = .int .i64 ((p.c + 1 + m : Nat) : Int) ∧ ∃ l a c, u = .slice a l c ∧ Hid (RHs w wr x p v β u m ∧ (hl p m).length = l)) (fun _ vn _ => p.c + 1 + p.R - (intOf vn).toNat)
  case atStart => exact ⟨0, Nat.zero_le _, rfl, 0, none, 0, rfl, S0, rfl⟩
  case round =>
    obtain ⟨m, hm, rfl, l, a, c, rfl, HR⟩ := hrel
    clear S0
    obtain ⟨⟨hK, hB, γ, hS, hγ⟩, hl0⟩ := HR.out
    have d0 := cell_row hK.box 0
    have d1 := cell_row hK.box 1
    simp at d0 d1
    have H1 := hd (And.intro hK (And.intro hB (And.intro hS hγ)))
    have HL := hd hl0
    obtain ⟨n, hn⟩ : ∃ n, p.c + 1 + m = n := ⟨_, rfl⟩
    have HN := hd hn
    rw [hn]
    clear hK hB hS hγ HR hl0 c1 hw
    by_cases hcond : m < p.R ∧ n ≤ 4096
    · obtain ⟨hm1, hn4⟩ := hcond
      have i1 : (n : Int) ≤ (p.c : Int) + p.R := by omega
      have i2 : (n : Int) ≤ 4096 := by omega
      clear hn
      go_wp2_with fail
      go_quiet (fail)
      have HD := hd (H1.out.1.below (below_drewN' wr nq))
      go_wp2_with fail
      refine (r_find x n p v β _ HD.out).mono ?_
      rintro e w1 ⟨rfl, rfl⟩
      have hhas := has_iH p.L n
      by_cases hf : fN p.L n < p.L.length
      · have e1 : fZ p.L n = fN p.L n := by rw [fZ, if_pos hf]
        rw [e1]
        have hstep : Hid (hl p (m + 1) = hl p m ++ [(n : Int)]) := by
          show _ = _
          rw [hl_succ, HN.out, show hasK p.ib.H n = true from by rw [show p.ib.H = iH p.L from rfl, hhas, decide_eq_true hf], if_pos rfl]
        generalize fN p.L n = ii
        have hbA : RowKit.Below wr.heap.size wr ((wr.drewN nq).alloc (.cells #[.int .i64 n] 3)) := (below_drewN' wr nq).alloc (Nat.le_refl _) _
        have hll : (hl p m).length ≤ 100000 := by have := hl_len p m; omega
        obtain ⟨v', w', hap, hN⟩ := push_int ((wr.drewN nq).alloc (.cells #[.int .i64 n] 3)) γ _ (hl p m) (SF.fr (S := fun _ => False) H1.out.2.2.1 (Fr.of_below hbA) (fun _ _ h => h)) wr.heap.size n (heap_alloc_new (wr.drewN nq) _) hll
        obtain ⟨g', h1, h2, h3⟩ := hN.out
        obtain ⟨a', c', rfl, -⟩ := h1.form
        have hl1 : (hl p m ++ [(n : Int)]).length = l + 1 := by rw [List.length_append, HL.out]; rfl
        rw [hl1] at hap h1
        have hsz := hbA.size
        have hBs := H1.out.2.1.size
        have Z : Hid (RHs w w' x p v β (.slice a' (l + 1) c') (m + 1) ∧ (hl p (m + 1)).length = l + 1) := by
          have hnx : ∀ k, k < w.heap.size → γ ≠ some k := fun k hk e => by have := H1.out.2.2.2 k e; omega
          have hKb := (H1.out.1.below hbA).fr (S := fun k => γ = some k) h3 (fun e => hnx x HX.out.1 e) (fun g hg e => hnx g (HX.out.2 g hg) e)
          refine ⟨⟨hKb, (H1.out.2.1.trans (hbA.mono hBs)).trans (h3.below (by omega) (fun k hk => H1.out.2.2.2 k hk)), some g', by rw [hstep.out]; exact h1, fun g hg => ?_⟩, by rw [hstep.out]; exact hl1⟩
          injection hg with hg
          subst hg
          rcases h2 with h2 | h2
          · exact H1.out.2.2.2 _ h2
          · simp at h2; omega
        clear hhas e1 hf hbA hll hN h1 h2 h3 hl1 hsz hBs H1 HL HD hstep
        go_wp2_with (at_builtin; refine wpList_append_k _ rfl _ _ 22 22 rfl _ _ rfl rfl (hap _) ?_)
        have hnn := HN.out
        exact ⟨⟨m + 1, by omega, by rw [← hnn]; go_num, l + 1, a', c', by go_num, Z⟩, by simp [intOf]; omega⟩
      · have e1 : fZ p.L n = -1 := by rw [fZ, if_neg hf]
        rw [e1]
        have Z : Hid (RHs w (wr.drewN nq) x p v β (.slice a l c) (m + 1) ∧ (hl p (m + 1)).length = l) := by
          have hstep : hl p (m + 1) = hl p m := by
            rw [hl_succ, HN.out, show hasK p.ib.H n = false from by rw [show p.ib.H = iH p.L from rfl, hhas, decide_eq_false hf]]
            simp
          rw [hstep]
          exact ⟨⟨HD.out, H1.out.2.1.trans ((below_drewN' wr nq).mono H1.out.2.1.size), γ, by rw [hstep]; exact SF.fr (S := fun _ => False) H1.out.2.2.1 (Fr.of_below (below_drewN' wr nq)) (fun _ _ h => h), H1.out.2.2.2⟩, HL.out⟩
        clear hhas e1 hf H1 HL HD
        go_wp2_with fail
        have hnn := HN.out
        exact ⟨⟨m + 1, by omega, by rw [← hnn]; go_num, l, a, c, rfl, Z⟩, by simp [intOf]; omega⟩
    · have Z : Hid (∀ q, IV (wr.drewN q) w.heap.size (.slice a l c) (heldL p.ib) ∧ RowKit.Below w.heap.size w (wr.drewN q)) := by
        intro q
        rw [← hl_all HO.out (m := m) (by omega)]
        exact ⟨⟨γ, SF.fr (S := fun _ => False) H1.out.2.2.1 (Fr.of_below (below_drewN' wr q)) (fun _ _ h => h), H1.out.2.2.2⟩, H1.out.2.1.trans ((below_drewN' wr q).mono H1.out.2.1.size)⟩
      by_cases i1 : (n : Int) ≤ (p.c : Int) + p.R
      · have i2 : ¬ (n : Int) ≤ 4096 := by omega
        clear H1 HL hn
        go_wp2_with fail
        go_quiet (fail)
        go_wp2_with fail
        go_ret
        exact ⟨_, rfl, Z.out _⟩
      · have i2 : decide ((n : Int) ≤ (p.c : Int) + p.R) = false := decide_eq_false i1
        have i3 : ¬ n ≤ p.c + p.R := by omega
        clear H1 HL hn
        go_wp2_with fail
        go_quiet (fail)
        go_wp2_with fail
        go_ret
        exact ⟨_, rfl, Z.out _⟩

end Go.Proofs.Ytpjnhjijipcjkaa
