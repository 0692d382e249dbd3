/-
  run: the text behind a line that fits; two texts held against one another; the first text.
-/
import Derived.Test.YtmkgkgdngjmcmabDoorEd
import Derived.Test.YtmkgkgdngjmcmabDoorNa
namespace Go.Proofs.YtmkgkgdngjmcmabDoor
open Go.RowKit
set_option linter.unusedVariables false

theorem FitL.at {l : List OpE} : ∀ {d : List El} {k : Nat}, FitL d l → (hk : k < l.length) → FitO (runP d (l.take k)).length l[k] ∧ runP d (l.take (k + 1)) = putP (runP d (l.take k)) l[k] := by
  induction l with
  | nil => intro d k _ hk; simp at hk
  | cons o l ih =>
    intro d k h hk
    cases k with
    | zero => exact ⟨h.1, rfl⟩
    | succ k =>
      have := ih (k := k) h.2 (by simpa using hk)
      simpa [runP] using this

theorem FitL.len {l : List OpE} {d : List El} (h : FitL d l) (k : Nat) (hk : k ≤ l.length) : (runP d (l.take k)).length ≤ d.length + k := by
  induction k with
  | zero => simp [runP]
  | succ k ih =>
    obtain ⟨h1, h2⟩ := h.at (k := k) (by omega)
    rw [h2]
    have := putP_len _ _ h1
    have := ih (by omega)
    omega

theorem bound24 {D m N k : Nat} (hn : (D + m + 1) * 24 ≤ 281474976710656) (h1 : N ≤ D + k) (h2 : k < m) : (N + 1) * 24 ≤ 281474976710656 :=
  Nat.le_trans (Nat.mul_le_mul_right 24 (show N + 1 ≤ D + m + 1 by clear hn; omega)) hn

/-- A text at some place. -/
def AtE (w : World) (v : Value) (xs : List El) : Prop := ∃ b off c, v = .slice (some ⟨b, off, none⟩) xs.length c ∧ IsE w (some ⟨b, off, none⟩) xs.length c xs

theorem AtE.below {w w' : World} {v : Value} {xs : List El} (h : AtE w v xs) (hb : Below w.heap.size w w') : AtE w' v xs := by
  obtain ⟨b, off, c, h1, h2⟩ := h
  exact ⟨b, off, c, h1, h2.below hb⟩

set_option maxRecDepth 100000 in
set_option maxHeartbeats 4000000 in
theorem run_fit (v : Value) (a : Option Addr) (m c : Nat) (d : List El) (l : List OpE) (w : World) (hV : AtE w v d) (hO : IsO w a m c l) (hF : FitL d l) (hn : (d.length + m + 1) * 24 ≤ 281474976710656) :
    Calls Tryd.prog 19 #[v, .slice a m c] w fun e w' => ∃ u, e = .returned (.tuple #[u, .bool true]) ∧ AtE w' u (runP d l) ∧ Below w.heap.size w w' := by
  have HO := hd hO
  have HL := hd hO.1
  have HF := hd hF
  have S0 : Hid (AtE w v (runP d (l.take 0)) ∧ Below w.heap.size w w) := ⟨hV, Below.refl _ _⟩
  have hc := hO.2.1
  have hc63 := hO.2.2.1
  have HN : Hid (∀ N k, N ≤ d.length + k → k < m → (N + 1) * 24 ≤ 281474976710656) := fun N k h1 h2 => bound24 hn h1 h2
  clear hV hO hF hn
  go_enter Tryd.func19, Tryd.ntmps19
  go_wp2
  go_loopw [0, 6] (fun u i wr => ∃ k : Nat, k ≤ m ∧ i = .int .i64 k ∧ Hid (AtE wr u (runP d (l.take k)) ∧ Below w.heap.size w wr)) (fun _ i _ => m - (intOf i).toNat)
  case atStart => exact ⟨0, Nat.zero_le _, rfl, S0⟩
  case round =>
    obtain ⟨k, hk, rfl, hr⟩ := hrel
    clear S0
    obtain ⟨hA, hB⟩ := hr.out
    by_cases hlt : k < m
    · have kx : k < l.length := by have := HL.out; omega
      have E2 := HO.out.below hB
      obtain ⟨bl, ol, rfl, hbl⟩ := E2.addr (by omega)
      obtain ⟨x0, x1, x2, x3, x4⟩ := E2.at k hlt kx
      have i3 : (k : Int) < (m : Int) := by omega
      obtain ⟨f1, f2⟩ := HF.out.at kx
      have f3 := HF.out.len k (by omega)
      obtain ⟨bd, od, cd, rfl, hI⟩ := hA
      obtain ⟨T, hT⟩ : ∃ T, T = runP d (l.take k) := ⟨_, rfl⟩
      rw [← hT] at hI f1 f2 f3 ⊢
      obtain ⟨N, hN⟩ : ∃ N, N = T.length := ⟨_, rfl⟩
      rw [← hN] at hI f1 f3 ⊢
      have HI := hd hI
      have F1 := hd f1
      have F2 := hd f2
      have F3 := hd f3
      have B0 := hd hB
      clear hr hI hB E2 f1 f2 f3 hT hN
      generalize l[k] = x at *
      obtain ⟨uk, up, uc, uq, us⟩ := x
      simp only [] at x0 x1 x2 x3 x4
      go_wp2_with fail
      have h1 := HN.out N k F3.out hlt
      have PF := put_fit bd od N cd ⟨uk, up, uc, uq, us⟩ T wr HI.out h1 F1.out
      clear h1
      refine PF.mono ?_
      clear PF
      rintro e w1 ⟨v1, rfl, g, cg, rfl, hg, hR, hB1⟩
      rw [← F2.out] at hR ⊢
      obtain ⟨M, hM⟩ : ∃ M, M = (runP d (l.take (k + 1))).length := ⟨_, rfl⟩
      rw [← hM] at hR ⊢
      have Z : Hid (AtE w1 (.slice (some ⟨g, 0, none⟩) M cg) (runP d (l.take (k + 1))) ∧ Below w.heap.size w w1) :=
        ⟨⟨g, 0, cg, by rw [hM], by rw [← hM]; exact hR.isE⟩, B0.out.trans (hB1.mono B0.out.size)⟩
      clear hR hB1 HI F1 F2 F3 B0 hM x0 x1 x2 x3 x4
      go_wp2
      exact ⟨⟨k + 1, by omega, by go_num, Z⟩, by simp [intOf]; omega⟩
    · obtain rfl : k = m := by omega
      have G : Hid (AtE wr u0 (runP d l) ∧ Below w.heap.size w wr) := by
        rw [List.take_of_length_le (by have := HL.out; omega)] at hA
        exact ⟨hA, hB⟩
      clear hr hA hB
      go_wp2
      refine bodyPost_ret (v := .tuple #[u0, .bool true]) (by simp [results, Tryd.results19, go_sem]) rfl ?_
      exact ⟨_, rfl, G.out⟩

end Go.Proofs.YtmkgkgdngjmcmabDoor
