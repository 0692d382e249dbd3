/-
  The program's last.
-/
import Derived.Test.YtilidolbplglcaaGreatDoorMKe
namespace Go.Proofs.YtilidolbplglcaaGreatDoor
open Go.RowKit
set_option linter.unusedVariables false

theorem wr1 {i n : Nat} (h : i < n) (hn : n ≤ 4096) : wrap64 ((i : Int) + 1 - 1) = (i : Int) := by rw [wrap64]; omega
theorem wr2 {j c : Nat} (h : j + 1 ≤ c) (hc : c ≤ 64) : wrap64 ((j : Int) + 1) = (j : Int) + 1 := by rw [wrap64]; omega
theorem wr3 {j c : Nat} (h : j + 1 ≤ c) (hc : c ≤ 64) : wrap64 ((j : Int) + 1 + 1) = (j : Int) + 1 + 1 := by rw [wrap64]; omega
theorem wr4 {i n : Nat} (h : i < n) : (i : Int) < (n : Int) := by omega
theorem wr5 (j : Nat) : ((j + 1 : Nat) : Int) + 1 = (j : Int) + 1 + 1 := by omega
theorem wr6 {j c : Nat} (h : j + 1 ≤ c) : c - (j + 1) < c - j := by omega
section
variable {w : World} {o b : Nat} {aE : Option Addr} {cE : Nat} {E : List Ed}
set_option maxRecDepth 100000 in
set_option maxHeartbeats 4000000 in
theorem plast_any (hc1 : w.cell? ⟨o, 1, none⟩ = some (.slice aE E.length cE)) (hc3 : w.cell? ⟨o, 3, none⟩ = some (.map (some b))) (hL : IsL w aE E.length E) (hM : MR w b E) (hQ : BQ E) (c : Int) (hcw : -9223372036854775808 ≤ c ∧ c ≤ 9223372036854775807) (hcn : cnP c E ≤ 64) (hn : E.length ≤ 4096) (hls : (laP c E).1 = cnP c E) :
    Calls Tryz.prog 45 #[.pointer (some ⟨o, 0, none⟩), .int .i64 c] w fun e w' => e = .returned (.tuple #[.int .i64 (laP c E).1, .int .i64 (laP c E).2]) ∧ Below w.heap.size w w' := by
  have HM := hd hM
  have HQ := hd hQ
  have HL := hd hL
  obtain ⟨cn, hcn'⟩ : ∃ z, cnP c E = z := ⟨_, rfl⟩
  rw [hcn'] at hcn hls
  have HCN := hd hcn'
  have HLS := hd hls
  have LK : Hid (∀ j : Nat, j ≤ cn → ∃ (rev : Int) (there : Bool), (Instr.lookup 61 (.map (some b)) (.agg #[.int .i64 c, .int .i64 ((j : Int) + 1)]) true).run Tryz.prog w = .ok (.tuple #[.int .i64 rev, .bool there]) w ∧ ((there = false ∧ j = cn) ∨ (there = true ∧ ∃ i, ∃ h : i < E.length, E[i].o.cl = c ∧ E[i].o.sq = (j : Int) + 1 ∧ rev = (i : Int) + 1))) := fun j hj => by
    by_cases e : j = cn
    · refine ⟨0, false, ?_, .inl ⟨rfl, e⟩⟩
      have h := HM.out.miss (c := c) (s := (j : Int) + 1) ⟨hcw, by omega⟩ (by
        have h2 := HQ.out.miss c
        rw [HCN.out] at h2
        rw [e]
        exact h2)
      exact h
    · obtain ⟨i, hi, h1, h2⟩ := HQ.out.has c (j + 1) (by omega) (by rw [HCN.out]; omega)
      have h := HM.out.hit hi
      rw [h1, h2] at h
      exact ⟨(i : Int) + 1, true, h, .inr ⟨rfl, i, hi, h1, by rw [h2]; rfl, rfl⟩⟩
  obtain ⟨n, hnE⟩ : ∃ n, E.length = n := ⟨_, rfl⟩
  have HNE := hd hnE
  rw [hnE] at hc1 hn
  clear hM hQ hL hcn' hls hnE hcw
  obtain ⟨r0, t0, hlk, hst⟩ := LK.out 0 (Nat.zero_le _)
  have S0 : Hid (LaS E c cn 0 0 r0 t0) := ⟨.inl ⟨rfl, rfl⟩, hst⟩
  have hlk0 : (Instr.lookup 61 (.map (some b)) (.agg #[.int .i64 c, .int .i64 1]) true).run Tryz.prog w = .ok (.tuple #[.int .i64 r0, .bool t0]) w := hlk
  clear hlk hst
  go_enter Tryz.func45, Tryz.ntmps45
  go_wp2_with fail
  go_loopw [4, 5, 6, 7] (fun vs vt vr vh wr => wr = w ∧ ∃ (j : Nat) (tag rev : Int) (there : Bool), j ≤ cn ∧ vs = .int .i64 (j : Int) ∧ vt = .int .i64 tag ∧ vr = .int .i64 rev ∧ vh = .bool there ∧ Hid (LaS E c cn j tag rev there)) (fun vs _ _ _ _ => cn - (intOf vs).toNat)
  case atStart => exact ⟨rfl, 0, 0, r0, t0, Nat.zero_le _, rfl, rfl, rfl, rfl, S0⟩
  case round =>
    clear hlk0 S0
    obtain ⟨rfl, j, tag, rev, there, hj, rfl, rfl, rfl, rfl, HS⟩ := hrel
    rcases HS.out.2 with ⟨rfl, hjc⟩ | ⟨rfl, i, hi, h1, h2, h3⟩
    · have Z : Hid (laP c E = ((j : Int), tag)) := by
        have h := HS.out
        rw [hjc] at h ⊢
        exact h.fin HQ.out HCN.out
      clear hjc HS
      go_wp2_with fail
      go_ret2
      exact ⟨by rw [Z.out]; rfl, Below.refl _ _⟩
    · have hin : i < n := by have := HNE.out; omega
      have hjl : j + 1 ≤ cn := by
        have h5 := (HQ.out.le _ (List.getElem_mem hi)).2
        rw [h1, HCN.out, h2] at h5
        omega
      obtain ⟨bE, oE, rfl, lE, hcE⟩ := HL.out.2 (by omega)
      obtain ⟨x0, -, -, -, -, -⟩ := hcE i hi
      obtain ⟨r1, t1, hlk, hst⟩ := LK.out (j + 1) hjl
      have NX : Hid (LaS E c cn (j + 1) E[i].tag r1 t1) := ⟨.inr ⟨i, hi, h1, by rw [h2]; rfl, rfl⟩, hst⟩
      obtain ⟨tg, htg⟩ : ∃ z, E[i].tag = z := ⟨_, rfl⟩
      rw [htg] at x0 NX
      subst h3
      have w1 := wr2 hjl hcn
      have w2 := wr1 hin hn
      have w3 := wr3 hjl hcn
      have i1 := wr4 hin
      have ej := wr5 j
      have hme := wr6 hjl
      rw [ej] at hlk
      clear ej
      clear hcE hst h1 h2 htg HS LK
      go_wp2_with fail
      exact ⟨⟨trivial, j + 1, tg, r1, t1, hjl, by go_num, rfl, rfl, rfl, NX⟩, by simp [intOf]; omega⟩
end

end Go.Proofs.YtilidolbplglcaaGreatDoor
