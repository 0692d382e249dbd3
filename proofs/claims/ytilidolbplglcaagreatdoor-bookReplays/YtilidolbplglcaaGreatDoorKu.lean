/-
  Of the law: replayFixed.
-/
import Derived.Test.YtilidolbplglcaaGreatDoorKt
namespace Go.Proofs.YtilidolbplglcaaGreatDoor
open Go.RowKit
set_option linter.unusedVariables false

def fixE : List Ed := [⟨0, ⟨1, 0, 97, 1, 1⟩⟩, ⟨0, ⟨1, 0, 98, 2, 1⟩⟩]
theorem fix_rep : repP fixE [] [] 0 = ([⟨1, 0, 97, 1, 1⟩, ⟨1, 1, 98, 2, 1⟩], 0, -1) := by kernel_rfl
theorem fix_run : runP [] [⟨1, 0, 97, 1, 1⟩, ⟨1, 1, 98, 2, 1⟩] = [(97, 1, 1), (98, 2, 1)] := by kernel_rfl
theorem szEl : Sz elc 3 := fun x => ⟨rfl, fun v hv => by simp [elc] at hv; rcases hv with rfl | rfl | rfl <;> rfl⟩
theorem MyE.rs {w : World} {base : Nat} {v : Value} {xs : List El} (h : MyE w base v xs) : Rs elc 3 w (fun g => base ≤ g) v xs := by
  obtain ⟨β, h1, h2⟩ := h
  have h3 : SF elc 3 w 50 β v xs := h1
  exact (h3.rs szEl).mono (fun b hb => h2 b hb)
/-- What Replay tells of the two. -/
theorem PrP.fix {w w' : World} {vD vT vE : Value} (h : PrP w w' fixE vD vT vE) : vE = .nilIface ∧ ∃ g t cD cT, vD = .slice (some ⟨g, 0, none⟩) 2 cD ∧ vT = .slice (some ⟨t, 0, none⟩) 2 cT ∧ w.heap.size ≤ g ∧ w.heap.size ≤ t ∧ g < w'.heap.size ∧ t < w'.heap.size ∧
    (w'.cell? ⟨g, 0, none⟩ = some (.int .i64 1) ∧ w'.cell? ⟨g, 1, none⟩ = some (.int .i64 0) ∧ w'.cell? ⟨g, 2, none⟩ = some (.int .u8 97) ∧ w'.cell? ⟨g, 3, none⟩ = some (.int .i64 1) ∧ w'.cell? ⟨g, 4, none⟩ = some (.int .i64 1)) ∧
    (w'.cell? ⟨g, 5, none⟩ = some (.int .i64 1) ∧ w'.cell? ⟨g, 6, none⟩ = some (.int .i64 1) ∧ w'.cell? ⟨g, 7, none⟩ = some (.int .u8 98) ∧ w'.cell? ⟨g, 8, none⟩ = some (.int .i64 2) ∧ w'.cell? ⟨g, 9, none⟩ = some (.int .i64 1)) ∧
    w'.cell? ⟨t, 0, none⟩ = some (.int .u8 97) ∧ w'.cell? ⟨t, 3, none⟩ = some (.int .u8 98) := by
  obtain ⟨D, E, code, at', -, h2, ⟨β, h3, h4⟩, ⟨γ, h5, h6⟩, h7⟩ := h.ex
  rw [fix_rep] at h2
  simp only [Prod.mk.injEq] at h2
  obtain ⟨rfl, rfl, rfl⟩ := h2
  rw [fix_run] at h5
  rcases h7 with ⟨-, -, rfl⟩ | ⟨h7, -⟩
  · refine ⟨rfl, ?_⟩
    cases β with
    | none => obtain ⟨-, h3⟩ := h3; cases h3
    | some g =>
      cases γ with
      | none => obtain ⟨-, h5⟩ := h5; cases h5
      | some t =>
        obtain ⟨cD, rfl, hR⟩ := h3
        have h5' : SF elc 3 w' 50 (some t) vT [(97, 1, 1), (98, 2, 1)] := h5
        obtain ⟨cT, rfl, hS⟩ := h5'
        have c := fun i j (hi : i < 2) hj => hR.cell sz_opc i j hi hj
        have e := fun i j (hi : i < 2) hj => hS.cell szEl i j hi hj
        exact ⟨g, t, cD, cT, rfl, rfl, h4 g rfl, h6 t rfl, hR.lt, hS.lt, ⟨c 0 0 (by omega) (by omega), c 0 1 (by omega) (by omega), c 0 2 (by omega) (by omega), c 0 3 (by omega) (by omega), c 0 4 (by omega) (by omega)⟩, ⟨c 1 0 (by omega) (by omega), c 1 1 (by omega) (by omega), c 1 2 (by omega) (by omega), c 1 3 (by omega) (by omega), c 1 4 (by omega) (by omega)⟩, e 0 0 (by omega) (by omega), e 1 0 (by omega) (by omega)⟩
  · exact absurd rfl h7
theorem fix_isL {W : World} {b : Nat} (h : W.heap[b]? = some (.cells #[.int .i64 0, .int .i64 1, .int .i64 0, .int .u8 97, .int .i64 1, .int .i64 1, .int .i64 0, .int .i64 1, .int .i64 0, .int .u8 98, .int .i64 2, .int .i64 1] 48 (0, 0))) : IsL W (some ⟨b, 0, none⟩) 2 fixE := by
  refine ⟨rfl, fun _ => ⟨b, 0, rfl, block_lt h, fun q hq => ?_⟩⟩
  have hq2 : q < 2 := hq
  rcases q with _ | _ | q
  · exact ⟨cell_row h _, cell_row h _, cell_row h _, cell_row h _, cell_row h _, cell_row h _⟩
  · exact ⟨cell_row h _, cell_row h _, cell_row h _, cell_row h _, cell_row h _, cell_row h _⟩
  · omega
set_option maxRecDepth 100000 in
set_option maxHeartbeats 8000000 in
theorem replayFixed_any (w : World) (hT : Table w) : Calls Tryz.prog 4 #[] w fun e w' => e = .returned (.bool true) ∧ Below w.heap.size w w' := by
  obtain ⟨b3, z3, k1, k2, k3⟩ := box3 w (.cells #[.int .i64 1, .int .i64 0, .int .u8 97, .int .i64 1, .int .i64 1] 46) (.cells #[.int .i64 1, .int .i64 0, .int .u8 98, .int .i64 2, .int .i64 1] 46) (.cells #[.int .i64 0, .int .i64 1, .int .i64 0, .int .u8 97, .int .i64 1, .int .i64 1, .int .i64 0, .int .i64 1, .int .i64 0, .int .u8 98, .int .i64 2, .int .i64 1] 48) _ _ _ _ _ _ rfl rfl rfl
  have CR := hd (preplay (some ⟨w.heap.size + 2, 0, none⟩) 2 2 fixE _ (fix_isL k3) (fun e he => by simp only [fixE, List.mem_cons, List.not_mem_nil, or_false] at he; rcases he with rfl | rfl <;> exact ⟨by decide, by decide⟩) (hT.below b3 hT.1))
  have HB := hd b3
  have HK := hd (And.intro z3 (And.intro k1 k2))
  clear b3 z3 k1 k2 k3 hT
  go_enter Tryz.func4, Tryz.ntmps4
  go_upto_region 4 with (go_at_call 6; refine CR.out.mono ?_; rintro e1 u ⟨vD, vT, vE, rfl, hP⟩)
  obtain ⟨rfl, g, t, cD, cT, rfl, rfl, lg, lt, lgu, ltu, ⟨c0, c1, c2, c3, c4⟩, ⟨c5, c6, c7, c8, c9⟩, e0, e3⟩ := hP.fix
  have hz := HK.out.1
  have l1 := block_lt HK.out.2.1
  have l2 := block_lt HK.out.2.2
  obtain ⟨⟨a0, a1, a2, a3, a4⟩, -⟩ := opCells ((hP.bel.block _ l1).trans HK.out.2.1)
  obtain ⟨⟨b0, b1, b2, b3, b4⟩, ⟨-, f1, -, -, -⟩⟩ := opCells ((hP.bel.block _ l2).trans HK.out.2.2)
  have Z : Hid (∀ W', Fr (· = w.heap.size + 1) u W' → Below w.heap.size w W') := fun W' hF => by
    have hb := HB.out.trans (hP.bel.mono HB.out.size)
    exact hb.trans (hF.below hb.size (fun k hk => by omega))
  have hsz := hP.bel.size
  have lw1 : w.heap.size < u.heap.size := by omega
  have lw2 : w.heap.size + 1 < u.heap.size := by omega
  have n1 : ¬ (w.heap.size + 1 = g) := by omega
  have n2 : ¬ (w.heap.size + 1 = t) := by omega
  have n3 : ¬ (w.heap.size + 1 = w.heap.size) := by omega
  have n1' : ¬ (g = w.heap.size + 1) := by omega
  have n2' : ¬ (t = w.heap.size + 1) := by omega
  have s1 := opSame 1 0 97 1 1
  have s2 := opSame 1 1 98 2 1
  clear CR hP HK HB hz l1 l2 hsz lg lt
  go_upto_region 5 with fail
  go_quiet (fail)
  go_wp2
  go_ret
  exact ⟨rfl, Z.out _ ((Fr.setCell (S := fun x => x = w.heap.size + 1) u ⟨w.heap.size + 1, 1, none⟩ (.int .i64 1) rfl).trans (Fr.drewN _ _ _))⟩

end Go.Proofs.YtilidolbplglcaaGreatDoor
