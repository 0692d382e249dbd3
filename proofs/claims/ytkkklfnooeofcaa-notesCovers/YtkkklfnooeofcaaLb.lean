/-
  The law's may.
-/
import Derived.Test.YtkkklfnooeofcaaLa
namespace Go.Proofs.Ytkkklfnooeofcaa
open Go.RowKit Go.Maps Go.ChangeMaps Go.MapKept Go.WideMaps
set_option linter.unusedVariables false

set_option maxRecDepth 100000 in
set_option maxHeartbeats 1000000 in
theorem may_any (s : ByteArray) (w : World) (hs : s.size ≤ 9223372036854775807) : Calls Try.prog 20 #[.string s] w fun e w' => e = .returned (.bool (okW s)) ∧ w' = w := by
  obtain ⟨r, hr⟩ : ∃ r, okW s = r := ⟨_, rfl⟩
  rw [hr]
  have HR := hd hr
  clear hr
  by_cases hl1 : s.size < 1
  · have Z : Hid (r = false) := HR.out.symm.trans (by simp [okW]; omega)
    have hl2 : (s.size : Int) < 1 := by omega
    clear HR hl1
    go_enter Try.func20, Try.ntmps20
    go_wp2
    go_ret
    exact ⟨by rw [Z.out]; rfl, rfl⟩
  · by_cases hl2 : 120 < s.size
    · have Z : Hid (r = false) := HR.out.symm.trans (by simp [okW]; omega)
      have hl3 : ¬ (s.size : Int) < 1 := by omega
      have hl4 : (120 : Int) < (s.size : Int) := by omega
      clear HR hl1 hl2
      go_enter Try.func20, Try.ntmps20
      go_wp2
      go_ret
      exact ⟨by rw [Z.out]; rfl, rfl⟩
    · have e : Hid (okW s = !(s.data.toList.any badC)) := by
        have : decide (1 ≤ s.size ∧ s.size ≤ 120) = true := by simp; omega
        unfold Hid okW
        rw [this]
        rfl
      have hl3 : ¬ (s.size : Int) < 1 := by omega
      have hl4 : ¬ (120 : Int) < (s.size : Int) := by omega
      have HL := hd (show s.data.toList.length = s.size by rw [Array.length_toList]; rfl)
      clear hl1 hl2
      go_enter Try.func20, Try.ntmps20
      go_wp2
      go_loop [3] (fun i => ∃ k : Nat, k ≤ s.size ∧ i = .int .i64 k ∧ Hid ((s.data.toList.take k).any badC = false)) (fun i => s.size - (intOf i).toNat)
      case atStart => exact ⟨0, Nat.zero_le _, rfl, hd (by simp)⟩
      case round =>
        obtain ⟨k, hk, rfl, HA⟩ := hrel
        by_cases hlt : k < s.size
        · have HS := hd (byte_snoc s k hlt)
          by_cases hb1 : (s[k].toNat : Int) < 32
          · have Z0 : okW s = false := by
              rw [e.out, Bool.not_eq_false']
              exact List.any_eq_true.2 ⟨s[k], ByteArray.getElem_eq_getElem_data ▸ Array.getElem_mem_toList _, by simp [badC, hb1]⟩
            have Z : Hid (r = false) := HR.out.symm.trans Z0
            clear HA HS e Z0 HR
            go_wp2
            go_ret
            exact ⟨by rw [Z.out]; rfl, rfl⟩
          · by_cases hb2 : 126 < (s[k].toNat : Int)
            · have Z0 : okW s = false := by
                rw [e.out, Bool.not_eq_false']
                exact List.any_eq_true.2 ⟨s[k], ByteArray.getElem_eq_getElem_data ▸ Array.getElem_mem_toList _, by simp [badC, hb2]⟩
              have Z : Hid (r = false) := HR.out.symm.trans Z0
              clear HA HS e Z0 HR
              go_wp2
              go_ret
              exact ⟨by rw [Z.out]; rfl, rfl⟩
            · have Z : Hid ((s.data.toList.take (k + 1)).any badC = false) := by
                unfold Hid
                rw [HS.out, List.any_append, HA.out]
                simp [badC]
                omega
              clear HA HS e
              go_wp2
              go_round
              case rel => exact ⟨k + 1, by omega, by go_num, Z⟩
              case measure => simp [intOf]; omega
        · have Z0 : okW s = true := by
            have := HA.out
            rw [List.take_of_length_le (by rw [HL.out]; omega)] at this
            rw [e.out, this]
            rfl
          have Z : Hid (r = true) := HR.out.symm.trans Z0
          clear HA e Z0 HR
          go_wp2
          go_ret
          exact ⟨by rw [Z.out]; rfl, rfl⟩

/-- The note that fixed lays. -/
def soB : ByteArray := ⟨#[115, 111]⟩
def el1 : El := (120, 1, 1)
def nt1 : Nt := ⟨1, 3, soB, false, [], [el1]⟩
theorem wf_el1 : wfE el1 := ⟨⟨by decide, by decide⟩, ⟨by decide, by decide⟩, by decide, by decide⟩
theorem say_so : sayE 3 soB = 0 := by decide
theorem reach1 : reachP [el1] [el1] = (0, 1) := by decide

set_option maxRecDepth 100000 in
set_option maxHeartbeats 4000000 in
theorem fixed_any (w : World) : Calls Try.prog 9 #[] w fun e w' => ∃ r O g, e = .returned (.tuple #[.pointer (some ⟨r, 0, none⟩), .slice (some ⟨g, 0, none⟩) 1 1, .bool true]) ∧ BD w' O r 1 [nt1] ∧ w'.heap[g]? = some (.cells #[.int .u8 120, .int .i64 1, .int .i64 1] 57 (0, 0)) ∧ w.heap.size ≤ g ∧ ¬ O g ∧ (∀ k, O k → w.heap.size ≤ k) ∧ Below w.heap.size w w' := by
  go_enter Try.func9, Try.ntmps9
  go_wp2_with fail
  refine (new_any w).mono ?_
  rintro e w1 ⟨r, O, rfl, hD, hO, b1⟩
  have HD := hd hD
  have HO := hd hO
  have HB1 := hd b1
  clear hD hO b1
  go_wp2_with fail
  have bE : Below w1.heap.size w1 (w1.alloc (.cells #[.int .u8 120, .int .i64 1, .int .i64 1] 57)) := (Below.refl _ _).alloc (Nat.le_refl _) _
  have hg := heap_alloc_new w1 (.cells #[.int .u8 120, .int .i64 1, .int .i64 1] 57)
  have hE : IsE (w1.alloc (.cells #[.int .u8 120, .int .i64 1, .int .i64 1] 57)) (some ⟨w1.heap.size, 0, none⟩) 1 1 [el1] := by
    refine ⟨rfl, Nat.le_refl _, by omega, fun _ => ⟨w1.heap.size, 0, rfl, by simp, fun j v hj => ?_⟩⟩
    rw [Nat.zero_add, cell_row hg]
    simpa [cE, elc, el1] using hj
  have HG := hd hg
  have HE := hd hE
  have HB2 := hd (HB1.out.trans (bE.mono HB1.out.size))
  have CP := hd (put_good O r 0 [] _ (HD.out.below bE) (some ⟨w1.heap.size, 0, none⟩) 1 1 [el1] hE (by intro x hx; rw [List.mem_singleton.1 hx]; exact wf_el1) 0 1 (by omega) (by omega) 3 soB say_so (by decide) (by omega) ⟨by decide, by decide⟩)
  have HNO := hd (show ¬ O w1.heap.size from fun h => by have := HD.out.old _ h; omega)
  clear bE hg hE
  generalize w1.alloc (.cells #[.int .u8 120, .int .i64 1, .int .i64 1] 57) = w2 at *
  refine CP.out.mono ?_
  rintro e w3 ⟨rfl, O3, hD3, hO3, hF3⟩
  have hD3' : BD w3 O3 r 1 ([] ++ nt1 :: []) := hD3
  have hE3 : IsE w3 (some ⟨w1.heap.size, 0, none⟩) 1 1 [el1] := HE.out.fr hF3 (fun _ b off e => by injection e with e; injection e with e1 e2; rw [← e1]; exact HNO.out)
  have CL := hd (look_good O3 r 1 [] [] nt1 w3 hD3' (some ⟨w1.heap.size, 0, none⟩) 1 1 [el1] hE3 (by intro x hx; rw [List.mem_singleton.1 hx]; exact wf_el1) ⟨by decide, by decide⟩)
  have HG3 := hd (hF3.keeps HG.out HNO.out)
  have HO3 := hd (show (∀ k, O3 k → w.heap.size ≤ k) ∧ ¬ O3 w1.heap.size from ⟨fun k hk => by rcases hO3 k hk with h | h; exact HO.out k h; have := HB2.out.size; omega, fun h => by rcases hO3 _ h with h | h; exact HNO.out h; have := block_lt HG.out; omega⟩)
  have HB3 := hd (HB2.out.trans (hF3.below HB2.out.size (fun k hk => HO.out k hk)))
  have HD3 := hd hD3'
  clear hD3 hD3' hE3 hO3 hF3
  go_wp2_with fail
  refine CL.out.mono ?_
  rintro e w4 ⟨u, β, rfl, hS, -, b4⟩
  have HD4 := hd (HD3.out.below b4)
  have HG4 := hd ((Fr.of_below b4 : Fr (fun _ => False) w3 w4).keeps HG3.out (fun h => h))
  have HB4 := hd (HB3.out.trans (b4.mono HB3.out.size))
  obtain ⟨au, cu, hu, -, -⟩ := hS.form
  subst hu
  have HS := hd hS
  clear hS b4 CL
  rw [show (nt1.el) = [el1] from rfl, reach1]
  have CQ : Hid (∀ W, Below w4.heap.size w4 W → Calls Try.prog 16 #[.agg #[.int .i64 1, .int .i64 3, .string ⟨#[115, 111]⟩, .int .i64 0, .int .i64 1, .bool false, .bool false, .slice au 0 cu], .agg #[.int .i64 1, .int .i64 3, .string ⟨#[115, 111]⟩, .int .i64 0, .int .i64 1, .bool false, .bool false, .slice none 0 0]] W fun e w' => e = .returned (.bool true) ∧ Below W.heap.size W w') := fun W hW => eqNote_true nt1 (0, 1) (.slice au nt1.sd.length cu) (.slice none 0 0) β none W (HS.out.fr (S := fun _ => False) (Fr.of_below hW) (fun _ _ h => h)) ⟨rfl, rfl⟩
  simp only [ntA, nt1, soB]
  go_wp2_with fail
  refine (CQ.out _ (((Below.refl _ _).alloc (Nat.le_refl _) _).alloc (by simp) _)).mono ?_
  rintro e w5 ⟨rfl, b5⟩
  have b5' : Below w4.heap.size w4 w5 := (((Below.refl _ _).alloc (Nat.le_refl _) _).alloc (by simp) _ : Below w4.heap.size w4 _).trans (b5.mono (by simp; omega))
  have Z : Hid (BD w5 O3 r 1 [nt1] ∧ w5.heap[w1.heap.size]? = some (.cells #[.int .u8 120, .int .i64 1, .int .i64 1] 57 (0, 0)) ∧ w.heap.size ≤ w1.heap.size ∧ ¬ O3 w1.heap.size ∧ (∀ k, O3 k → w.heap.size ≤ k) ∧ Below w.heap.size w w5) := ⟨HD4.out.below b5', (Fr.of_below b5' : Fr (fun _ => False) w4 w5).keeps HG4.out (fun h => h), HB1.out.size, HO3.out.2, HO3.out.1, HB4.out.trans (b5'.mono HB4.out.size)⟩
  clear b5 b5' CQ
  go_wp2
  refine bodyPost_ret (v := .tuple #[.pointer (some ⟨r, 0, none⟩), .slice (some ⟨w1.heap.size, 0, none⟩) 1 1, .bool true]) (by simp [results, Try.results9, go_sem]) rfl ?_
  exact ⟨r, O3, _, rfl, Z.out⟩

end Go.Proofs.Ytkkklfnooeofcaa
