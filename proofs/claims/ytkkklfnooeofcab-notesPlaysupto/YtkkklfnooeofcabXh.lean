/-
  over, walked.
-/
import Derived.Test.YtkkklfnooeofcabXg
namespace Go.Proofs.Ytkkklfnooeofcab
open Go.RowKit
set_option linter.unusedVariables false

set_option maxRecDepth 100000 in
set_option maxHeartbeats 16000000 in
theorem over_any (X off : Nat) (K : Nat → Prop) (m : Nat) (a : Option Addr) (N c : Nat) (L : List TN) (β : Option Nat) (xs : List El) (w : World) (h : PP rpc 2 90 45 w X (off + 4) K m) (hS : SF tnc 8 w 47 β (.slice a N c) L) (hok : ∀ t ∈ L, TNs w xs t) (hds : L.Pairwise Apt) (hK : ∀ t ∈ L, ∀ g, t.a = some ⟨g, 0, none⟩ → ¬ K g) (hβ : ∀ g, β = some g → ¬ K g) (hsd : ∀ t ∈ L, t.n.sd.length ≤ 500000) (hN : N ≤ 256) (hm : m ≤ 900000000000) :
    Calls Try.prog 22 #[.pointer (some ⟨X, off, none⟩), .slice a N c] w fun ex w' => ex = .returned (.tuple #[]) ∧ OvO w w' X (off + 4) K L a N β m := by
  have hL : L.length = N := by obtain ⟨a', c', hv, -, -⟩ := hS.form; exact (Value.slice.inj hv).2.1.symm
  have hc : N ≤ c ∧ c ≤ 9223372036854775807 := by obtain ⟨a', c', hv, h1, h2⟩ := hS.form; obtain ⟨-, -, rfl⟩ := Value.slice.inj hv; exact ⟨by omega, h2⟩
  by_cases h0 : N = 0
  · subst h0
    have Z : Hid (OvO w w X (off + 4) K L a 0 β m) := ⟨K, h, fun j hj => .inl hj, Fr.refl _ _, XR.refl _ _ _ _, fun i hi => by omega⟩
    clear h hS hok hds hK hβ hsd hL
    go_enter Try.func22, Try.ntmps22
    go_wp2
    go_loopw [4] (fun iv wr => iv = .int .i64 0 ∧ wr = w) (fun iv _ => 0)
    case atStart => exact ⟨rfl, rfl⟩
    case round =>
      obtain ⟨rfl, hw⟩ := hrel
      obtain rfl := hw.symm
      go_wp2
      refine bodyPost_end (results_none rfl _ _ _) rfl ?_
      exact ⟨rfl, Z.out⟩
  · obtain ⟨⟨csX, hX⟩, nX, old⟩ := h.box
    obtain ⟨g, rfl⟩ : ∃ g, β = some g := by
      cases β with
      | none => obtain ⟨-, h2⟩ := hS; subst h2; simp at hL; omega
      | some g => exact ⟨g, rfl⟩
    have hSb := hS.blk
    have hlt := hS.lt g rfl
    have hgX : g ≠ X := fun e => hS.ne_blk hX (by decide) (by rw [e])
    obtain ⟨cap, hv, hR⟩ := hS
    obtain ⟨rfl, -, -⟩ := Value.slice.inj hv
    have HF : Hid (OvF w X K g N L) := by
      refine ⟨hL, fun t ht j hj => ?_, ⟨hlt, hgX, hβ g rfl⟩, hds⟩
      obtain ⟨-, γ, hγ⟩ := hok t ht
      have e := (hγ.adr j).1 hj
      refine ⟨hγ.lt j e, fun e2 => hγ.ne_blk hX (by decide) (by rw [← e2]; exact e), fun e2 => ?_, hK t ht j hj⟩
      obtain ⟨cur, hc⟩ := hSb
      exact hγ.ne_blk hc (by decide) (by rw [← e2]; exact e)
    have HOK := hd hok
    have HSD := hd hsd
    have S0 : Hid (OvI w w X (off + 4) K m g N L 0) := ⟨⟨K, h, fun j hj => .inl hj⟩, Fr.refl _ _, XR.refl _ _ _ _, by rw [← hL]; exact NRow.start hR⟩
    have HL := hd hL
    clear h hok hds hK hβ hsd hR hv hX nX old hlt hgX hSb hL
    go_enter Try.func22, Try.ntmps22
    go_wp2
    go_loopw [4] (fun iv wr => ∃ k : Nat, iv = .int .i64 k ∧ k ≤ N ∧ Hid (OvI w wr X (off + 4) K m g N L k)) (fun iv _ => N - (intOf iv).toNat)
    case atStart => exact ⟨0, rfl, Nat.zero_le _, S0⟩
    case round =>
      obtain ⟨k, rfl, hk, hI⟩ := hrel
      clear S0
      by_cases hlt : k < N
      · have kx : k < L.length := by rw [HL.out]; exact hlt
        obtain ⟨K', hP, hK'⟩ := hI.out.st
        obtain ⟨-, γ, hγ⟩ := HOK.out L[k] (List.getElem_mem kx)
        have hsd := HSD.out L[k] (List.getElem_mem kx)
        have hadr := fun j => hγ.adr j
        have hγ2 := hγ.fr hI.out.fr (fun j hj hb => by
          have ha := (hadr j).2 hj
          obtain ⟨t1, t2, t3, t4⟩ := HF.out.hT _ (List.getElem_mem kx) j ha
          rcases hb with h | h | h | h
          · exact t4 h
          · exact HF.out.apart kx ha h
          · exact t2 h
          · exact t3 h)
        have hsl : L[k].n.sd.length = L[k].l := by obtain ⟨a', c', hv, -, -⟩ := hγ.form; exact (Value.slice.inj hv).2.1.symm
        have CR := hd (replies_any X off K' (m + 2 * k) L[k].a L[k].l L[k].c L[k].n.sd γ wr hP hγ2 (fun j hj => HF.out.out kx hK' ((hadr j).2 hj)) (by omega) (by omega))
        have HM := hd (fun w5 hO => hI.out.mid (w5 := w5) HF.out kx hK' hO (fun j hj => (hadr j).2 hj))
        have x7 : wr.cell? ⟨g, k * 8 + 7, none⟩ = some (.slice L[k].a L[k].l L[k].c) := by
          obtain ⟨cs, h1, h2, h3, -⟩ := hI.out.row
          rw [cell_row h1]
          exact h3 k kx (Nat.le_refl _)
        have i1 : (k : Int) < (N : Int) := by omega
        clear hI hP hK' hγ hγ2 hadr hsl hsd
        generalize L[k].a = ta at *
        generalize L[k].l = tl at *
        generalize L[k].c = tc at *
        go_upto_region 4 with (go_at_call 18; refine CR.out.mono ?_; rintro e w5 ⟨rfl, hO⟩)
        obtain ⟨n5, st5⟩ := HM.out w5 hO
        have f0 := n5.frozen (k * 8); have f1 := n5.frozen (k * 8 + 1); have f2 := n5.frozen (k * 8 + 2); have f3 := n5.frozen (k * 8 + 3)
        have f4 := n5.frozen (k * 8 + 4); have f5 := n5.frozen (k * 8 + 5); have f6 := n5.frozen (k * 8 + 6); have f7 := n5.frozen (k * 8 + 7)
        obtain ⟨y0, d0⟩ := n5.cell k 0 hlt (by omega); obtain ⟨y1, d1⟩ := n5.cell k 1 hlt (by omega); obtain ⟨y2, d2⟩ := n5.cell k 2 hlt (by omega); obtain ⟨y3, d3⟩ := n5.cell k 3 hlt (by omega)
        obtain ⟨y4, d4⟩ := n5.cell k 4 hlt (by omega); obtain ⟨y5, d5⟩ := n5.cell k 5 hlt (by omega); obtain ⟨y6, d6⟩ := n5.cell k 6 hlt (by omega); obtain ⟨y7, d7⟩ := n5.cell k 7 hlt (by omega)
        rw [Nat.add_zero] at d0
        have ST := hd (fun u1 u2 u3 u4 u5 u6 u7 => st5 _ (fr_set8i w5 g (k * 8) (.int .i64 (-1)) u1 u2 u3 u4 u5 u6 u7) (n5.set hlt u1 u2 u3 u4 u5 u6 u7))
        clear CR HM hO n5 st5 x7
        go_wp2
        exact ⟨⟨k + 1, by go_num, by omega, hd (ST.out _ _ _ _ _ _ _)⟩, by simp only [intOf]; omega⟩
      · obtain rfl : k = N := by omega
        have Z : Hid (OvO w wr X (off + 4) K L (some ⟨g, 0, none⟩) k (some g) m) := by
          obtain ⟨K', hP, hK'⟩ := hI.out.st
          have ht : ∀ j, (∃ t ∈ L.take k, t.a = some ⟨j, 0, none⟩) → ∃ t ∈ L, t.a = some ⟨j, 0, none⟩ := fun j ⟨t, h1, h2⟩ => ⟨t, List.mem_of_mem_take h1, h2⟩
          refine ⟨K', hP, fun j hj => ?_, hI.out.fr.mono (fun j _ hj => ?_), hI.out.xr, fun i hi => ⟨g, rfl, rfl, ?_⟩⟩
          · rcases hK' j hj with h | h | h
            · exact .inl h
            · exact .inr (.inl (ht j h))
            · exact .inr (.inr h)
          · rcases hj with h | h | h | h
            · exact .inl h
            · exact .inr (.inl (ht j h))
            · exact .inr (.inr (.inl h))
            · exact .inr (.inr (.inr (by rw [h])))
          · obtain ⟨cs, h1, h2, h3, h4⟩ := hI.out.row
            rw [cell_row h1]
            exact h4 i hi
        clear hI
        go_wp2
        refine bodyPost_end (results_none rfl _ _ _) rfl ?_
        exact ⟨rfl, Z.out⟩
end Go.Proofs.Ytkkklfnooeofcab
