/-
  The answer of the document: written.
-/
import Derived.Test.YtibnlfdnnlbeeaaDoorZc
import Derived.Deep.RegionHeld3
import Derived.Deep.DeepCutAuto
namespace Go.Proofs.YtibnlfdnnlbeeaaDoor
open Go.RowKit
set_option linter.unusedVariables false

set_option maxRecDepth 100000 in
set_option maxHeartbeats 4000000 in
theorem written_any (M : Nat → Int) (nm base len lb : Nat) (w : World) (hK : KL nm base len) (hL : IsL w lb base len) (hr : ∀ i, i < len → 0 ≤ M (base + i) ∧ M (base + i) ≤ 65535) (h11 : 0 ≤ M 11 ∧ M 11 ≤ 255) :
    Calls Tryd.prog 30 #[.agg #[.int .i64 (M 0), .int .i64 (M 1), .int .i64 (M 2), .int .i64 (M 3), .int .i64 (M 4), .int .i64 (M 5), .int .i64 (M 6), .int .i64 (M 7), .int .i64 (M 8), .int .i64 (M 9), .int .i64 (M 10), .int .u8 (M 11), .int .i64 (M 12), .int .i64 (M 13)], .slice (some ⟨lb, 0, none⟩) len len] w fun e w' => ∃ v, e = .returned v ∧ OwnB w' w.heap.size v (wrP M base len).length (wrP M base len) ∧ Below w.heap.size w w' := by
  obtain ⟨i0, hi, hz0, hz1, hz2⟩ := info_parts Tryd.info5
  have HK := hd hK
  have HR := hd hr
  have hl6 : len ≤ 6 := by rcases hK with ⟨-, -, rfl⟩ | ⟨-, -, rfl⟩ <;> omega
  have bz : Below w.heap.size w (w.alloc (.cells #[.int .i64 (M 0), .int .i64 (M 1), .int .i64 (M 2), .int .i64 (M 3), .int .i64 (M 4), .int .i64 (M 5), .int .i64 (M 6), .int .i64 (M 7), .int .i64 (M 8), .int .i64 (M 9), .int .i64 (M 10), .int .u8 (M 11), .int .i64 (M 12), .int .i64 (M 13)] 63)) := (Below.refl _ _).alloc (Nat.le_refl _) _
  have hm : MB (w.alloc (.cells #[.int .i64 (M 0), .int .i64 (M 1), .int .i64 (M 2), .int .i64 (M 3), .int .i64 (M 4), .int .i64 (M 5), .int .i64 (M 6), .int .i64 (M 7), .int .i64 (M 8), .int .i64 (M 9), .int .i64 (M 10), .int .u8 (M 11), .int .i64 (M 12), .int .i64 (M 13)] 63)) w.heap.size M := heap_alloc_new _ _
  have hs0 : (w.alloc (.cells #[.int .i64 (M 0), .int .i64 (M 1), .int .i64 (M 2), .int .i64 (M 3), .int .i64 (M 4), .int .i64 (M 5), .int .i64 (M 6), .int .i64 (M 7), .int .i64 (M 8), .int .i64 (M 9), .int .i64 (M 10), .int .u8 (M 11), .int .i64 (M 12), .int .i64 (M 13)] 63)).heap.size = w.heap.size + 1 := by simp
  have HM := hd hm
  have BZ := hd bz
  have HL := hd (hL.below bz)
  have HS := hd hs0
  have S0 : Hid (OwnB (w.alloc (.cells #[.int .i64 (M 0), .int .i64 (M 1), .int .i64 (M 2), .int .i64 (M 3), .int .i64 (M 4), .int .i64 (M 5), .int .i64 (M 6), .int .i64 (M 7), .int .i64 (M 8), .int .i64 (M 9), .int .i64 (M 10), .int .u8 (M 11), .int .i64 (M 12), .int .i64 (M 13)] 63)) (w.heap.size + 1) (.slice none 0 0) 0 [] ∧ Below (w.heap.size + 1) (w.alloc (.cells #[.int .i64 (M 0), .int .i64 (M 1), .int .i64 (M 2), .int .i64 (M 3), .int .i64 (M 4), .int .i64 (M 5), .int .i64 (M 6), .int .i64 (M 7), .int .i64 (M 8), .int .i64 (M 9), .int .i64 (M 10), .int .u8 (M 11), .int .i64 (M 12), .int .i64 (M 13)] 63)) (w.alloc (.cells #[.int .i64 (M 0), .int .i64 (M 1), .int .i64 (M 2), .int .i64 (M 3), .int .i64 (M 4), .int .i64 (M 5), .int .i64 (M 6), .int .i64 (M 7), .int .i64 (M 8), .int .i64 (M 9), .int .i64 (M 10), .int .u8 (M 11), .int .i64 (M 12), .int .i64 (M 13)] 63))) := ⟨own_nil _ _, Below.refl _ _⟩
  clear hK hr hL hm bz hs0
  go_enter Tryd.func30, Tryd.ntmps30
  go_wp2_with fail
  generalize w.alloc (.cells #[.int .i64 (M 0), .int .i64 (M 1), .int .i64 (M 2), .int .i64 (M 3), .int .i64 (M 4), .int .i64 (M 5), .int .i64 (M 6), .int .i64 (M 7), .int .i64 (M 8), .int .i64 (M 9), .int .i64 (M 10), .int .u8 (M 11), .int .i64 (M 12), .int .i64 (M 13)] 63) = w0 at *
  go_loopw [5, 6] (fun b i wr => ∃ k : Nat, k ≤ len ∧ i = .int .i64 k ∧ Hid (OwnB wr (w.heap.size + 1) b (wrP M base k).length (wrP M base k) ∧ Below (w.heap.size + 1) w0 wr)) (fun _ i _ => len - (intOf i).toNat)
  case atStart => exact ⟨0, Nat.zero_le _, rfl, S0⟩
  case round =>
    obtain ⟨k, hk, rfl, hq⟩ := hrel
    clear S0
    have MW := hd (show MB wr w.heap.size M from (hq.out.2.block _ (by omega)).trans HM.out)
    have LW : Hid (IsL wr lb base len) := hd (by
      have hlt : lb < w.heap.size + 1 := by have := HL.out.1; rw [HS.out] at this; exact this
      exact ⟨Nat.lt_of_lt_of_le HL.out.1 hq.out.2.size, fun i hi => (hq.out.2.cell (p := ⟨lb, i, none⟩) hlt).trans (HL.out.2 i hi)⟩)
    by_cases hlt : k < len
    · have i1 : (k : Int) < (len : Int) := by omega
      have cl := LW.out.2 k hlt
      have bl := LW.out.1
      have hf := HK.out.fld k hlt
      obtain ⟨v0, v1⟩ := HR.out k hlt
      have SX := hd (wrP_succ M base k)
      have LN := wrP_len M base k
      obtain ⟨f, hfe⟩ : ∃ f, base + k = f := ⟨_, rfl⟩
      rw [hfe] at cl hf v0 v1 SX
      have C1 := hd (get_any M f · (by omega) (by omega) h11)
      have CW := hd (wide_any f · (by omega))
      clear hfe hf
      obtain ⟨v, hv⟩ : ∃ v, M f = v := ⟨_, rfl⟩
      have hfb : fldB M f = if hasP 1512 f then [v / 256, v % 256] else [v % 256] := by unfold fldB; rw [hv, show v / 256 % 256 = v / 256 by omega]
      have HFB := hd hfb
      rw [hv] at v0 v1 C1
      obtain ⟨c0, c1, c2, c3, c4, c5, c6, c7, c8, c9, c10, c11, c12, c13⟩ := MW.out.at
      have lm := block_lt MW.out
      clear hfb hv
      generalize hys : wrP M base k = ys at *
      generalize hn : ys.length = n at *
      have HYS := hd hys
      have HN := hd hn
      clear hys hn
      go_upto_region 5 with fail
      go_region_held3 (fun U => U.cell? ⟨w.heap.size, 0, none⟩ = some (.int .i64 (M 0)) ∧ U.cell? ⟨w.heap.size, 1, none⟩ = some (.int .i64 (M 1)) ∧ U.cell? ⟨w.heap.size, 2, none⟩ = some (.int .i64 (M 2)) ∧ U.cell? ⟨w.heap.size, 3, none⟩ = some (.int .i64 (M 3)) ∧ U.cell? ⟨w.heap.size, 4, none⟩ = some (.int .i64 (M 4)) ∧ U.cell? ⟨w.heap.size, 5, none⟩ = some (.int .i64 (M 5)) ∧ U.cell? ⟨w.heap.size, 6, none⟩ = some (.int .i64 (M 6)) ∧ U.cell? ⟨w.heap.size, 7, none⟩ = some (.int .i64 (M 7)) ∧ U.cell? ⟨w.heap.size, 8, none⟩ = some (.int .i64 (M 8)) ∧ U.cell? ⟨w.heap.size, 9, none⟩ = some (.int .i64 (M 9)) ∧ U.cell? ⟨w.heap.size, 10, none⟩ = some (.int .i64 (M 10)) ∧ U.cell? ⟨w.heap.size, 11, none⟩ = some (.int .u8 (M 11)) ∧ U.cell? ⟨w.heap.size, 12, none⟩ = some (.int .i64 (M 12)) ∧ U.cell? ⟨w.heap.size, 13, none⟩ = some (.int .i64 (M 13)) ∧ U.cell? ⟨lb, k, none⟩ = some (.int .i64 (f : Nat))) (first | (with_reducible exact ⟨by assumption, by assumption, by assumption, by assumption, by assumption, by assumption, by assumption, by assumption, by assumption, by assumption, by assumption, by assumption, by assumption, by assumption, by assumption⟩) | (go_keep; done)) (first | (go_at_call 29; refine (C1.out _).mono ?_; rintro e u1 ⟨rfl, bu1⟩; have mu1 : MB u1 w.heap.size M := (bu1.block _ lm).trans MW.out; obtain ⟨d0, d1, d2, d3, d4, d5, d6, d7, d8, d9, d10, d11, d12, d13⟩ := mu1.at; have dl := (bu1.cell (p := ⟨lb, k, none⟩) bl).trans cl; clear mu1))
      have b1 := (hq.out.2.drew).trans (bu1.mono (show w.heap.size + 1 ≤ wr.drew.heap.size from lm))
      have O1 := hd ((show OwnB wr.drew _ _ _ _ from hq.out.1).below bu1 (Nat.le_refl _))
      have B1 := hd b1
      have hs1 : w.heap.size + 1 ≤ u1.heap.size := Nat.le_trans lm bu1.size
      clear hq bu1 b1 d0 d1 d2 d3 d4 d5 d6 d7 d8 d9 d10 d11 d12 d13 c0 c1 c2 c3 c4 c5 c6 c7 c8 c9 c10 c11 c12 c13 MW LW cl C1
      cases hb3 : hasP 1512 f with
      | true =>
        have HF : Hid (wrP M base (k + 1) = ys ++ [v / 256] ++ [v % 256]) := hd (by rw [SX.out, HFB.out, hb3]; simp)
        rw [hb3] at CW
        clear hb3 SX HFB
        go_upto_region 7 with (go_at_call 48; refine (CW.out _).mono ?_; rintro e u2 ⟨rfl, hu2⟩; subst hu2)
        clear CW
        go_upto_region 8 with (at_builtin; refine wpList_append_own _ rfl (.tmp 26) (.tmp 30) 22 rfl (w.heap.size + 1) 5 i0 (.int .u8 0) 1 1 Tryd.underlying22 hi hz0 hz1 hz2 rfl (by decide) u5 (n) (ints (ys)) rfl (O1.out.alloc _) ⟨u2.heap.size, 0, none⟩ 1 1 [.int .u8 (v / 256)] rfl rfl (cell_one_new _ _ _) (one_of _) (by unfold maxLen; omega) (by omega) (by simp; omega) ?_; intro v9 w9 hown9 hgrow9 _)
        have R := hd (app_step O1.out B1.out (by rw [HS.out]; exact Nat.le_refl _) hown9 hgrow9)
        have hs2 : w.heap.size + 1 ≤ w9.heap.size := Nat.le_trans (by rw [HS.out]; exact Nat.le_refl _) R.out.2.size
        clear hown9 hgrow9 O1 B1 hs1
        go_wp2_with (at_builtin; refine wpList_append_own _ rfl (.tmp 32) (.tmp 36) 22 rfl (w.heap.size + 1) 5 i0 (.int .u8 0) 1 1 Tryd.underlying22 hi hz0 hz1 hz2 rfl (by decide) v9 (n + 1) (ints (ys ++ [v / 256])) rfl (R.out.1.alloc _) ⟨w9.heap.size, 0, none⟩ 1 1 [.int .u8 (v % 256)] rfl rfl (cell_one_new _ _ _) (one_of _) (by unfold maxLen; omega) (by omega) (by simp; omega) ?_; intro v8 w8 hown8 hgrow8 _)
        have R2 := hd (app_step R.out.1 R.out.2 (by rw [HS.out]; exact Nat.le_refl _) hown8 hgrow8)
        clear hown8 hgrow8 R hs2
        have Z : Hid (OwnB w8 (w.heap.size + 1) v8 (wrP M base (k + 1)).length (wrP M base (k + 1)) ∧ Below (w.heap.size + 1) w0 w8) := hd (by
          rw [HF.out, show (ys ++ [v / 256] ++ [v % 256]).length = n + 1 + 1 by simp [HN.out]]
          exact R2.out)
        clear R2
        go_wp2
        exact ⟨⟨k + 1, by omega, by go_num, Z⟩, by simp [intOf]; omega⟩
      | false =>
        have HF : Hid (wrP M base (k + 1) = ys ++ [v % 256]) := hd (by rw [SX.out, HFB.out, hb3]; simp)
        rw [hb3] at CW
        clear hb3 SX HFB
        go_upto_region 8 with (go_at_call 48; refine (CW.out _).mono ?_; rintro e u2 ⟨rfl, hu2⟩; subst hu2)
        clear CW
        go_wp2_with (at_builtin; refine wpList_append_own _ rfl (.tmp 32) (.tmp 36) 22 rfl (w.heap.size + 1) 5 i0 (.int .u8 0) 1 1 Tryd.underlying22 hi hz0 hz1 hz2 rfl (by decide) u5 (n) (ints (ys)) rfl (O1.out.alloc _) ⟨u2.heap.size, 0, none⟩ 1 1 [.int .u8 (v % 256)] rfl rfl (cell_one_new _ _ _) (one_of _) (by unfold maxLen; omega) (by omega) (by simp; omega) ?_; intro v9 w9 hown9 hgrow9 _)
        have R2 := hd (app_step O1.out B1.out (by rw [HS.out]; exact Nat.le_refl _) hown9 hgrow9)
        clear hown9 hgrow9 O1 B1 hs1
        have Z : Hid (OwnB w9 (w.heap.size + 1) v9 (wrP M base (k + 1)).length (wrP M base (k + 1)) ∧ Below (w.heap.size + 1) w0 w9) := hd (by
          rw [HF.out, show (ys ++ [v % 256]).length = n + 1 by simp [HN.out]]
          exact R2.out)
        clear R2
        go_wp2
        exact ⟨⟨k + 1, by omega, by go_num, Z⟩, by simp [intOf]; omega⟩
    · obtain rfl : k = len := by omega
      have Z : Hid (OwnB wr w.heap.size u5 (wrP M base k).length (wrP M base k) ∧ Below w.heap.size w wr) := ⟨hq.out.1.mono (by omega), BZ.out.trans (hq.out.2.mono (by omega))⟩
      have i1 : ¬ (k : Int) < (k : Int) := by omega
      clear hq
      go_wp2
      go_ret
      exact ⟨_, rfl, Z.out⟩

end Go.Proofs.YtibnlfdnnlbeeaaDoor
