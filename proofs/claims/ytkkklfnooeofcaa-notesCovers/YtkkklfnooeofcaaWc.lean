/-
  ownCopy, maySay, the clones.
-/
import Derived.Test.YtkkklfnooeofcaaWb
import Derived.Laws.IdiomStrings
namespace Go.Proofs.Ytkkklfnooeofcaa
open Go.RowKit Go.Maps Go.ChangeMaps Go.MapKept Go.WideMaps
set_option linter.unusedVariables false

theorem back_row (w : World) (s : ByteArray) (cap : Nat) (fr : Nat × Nat) : (convert 102 9 (.slice (some ⟨w.heap.size, 0, none⟩) s.size cap)).run Try.prog (w.drew.alloc (.cells (bytesRow s cap) 5 fr)) = .ok (.string s) (w.drew.alloc (.cells (bytesRow s cap) 5 fr)) := by
  have hl : s.data.toList.length = s.size := by rw [Array.length_toList]; rfl
  have h := run_convert_bytes_back (P := Try.prog) (w.drew.alloc (.cells (bytesRow s cap) 5 fr)) 102 9 5 ⟨w.heap.size, 0, none⟩ cap s.data.toList Try.underlying102 Try.underlying5 Try.underlying9 (fun j hj => by
    have hb : (w.drew.alloc (.cells (bytesRow s cap) 5 fr)).heap[w.heap.size]? = some (.cells (bytesRow s cap) 5 fr) := heap_alloc_new w.drew _
    rw [add_lit, Nat.zero_add]
    simp only [World.cell?, hb]
    rw [hl] at hj
    have hj2 : j < s.data.size := hj
    unfold bytesRow
    rw [Array.getElem?_append_left (by simpa using hj2)]
    simp
    exact ⟨_, Array.getElem?_eq_getElem hj2, rfl⟩)
  rw [hl] at h
  simpa using h

set_option maxRecDepth 100000 in
set_option maxHeartbeats 1000000 in
theorem own_any (s : ByteArray) (w : World) : Calls Try.prog 37 #[.string s] w fun e w' => e = .returned (.string s) ∧ Below w.heap.size w w' := by
  have h1 := run_bytes_of_string (P := Try.prog) w 9 102 5 s Try.underlying9 Try.underlying102 Try.underlying5
  have h2 := back_row w s (grownCap w s.size 0 5) ((bytesRow s (grownCap w s.size 0 5)).size, (bytesRow s (grownCap w s.size 0 5)).size + 1)
  have hb : Hid (Below w.heap.size w (w.drew.alloc (.cells (bytesRow s (grownCap w s.size 0 5)) 5 ((bytesRow s (grownCap w s.size 0 5)).size, (bytesRow s (grownCap w s.size 0 5)).size + 1)))) := (Fr.drew (fun _ => False) w).trans (Fr.alloc _ _ _) |>.below (Nat.le_refl _) (fun k h => h.elim)
  generalize (w.drew.alloc (.cells (bytesRow s (grownCap w s.size 0 5)) 5 ((bytesRow s (grownCap w s.size 0 5)).size, (bytesRow s (grownCap w s.size 0 5)).size + 1))) = u at *
  generalize grownCap w s.size 0 5 = c at *
  go_enter Try.func37, Try.ntmps37
  go_wp2
  go_ret
  exact ⟨rfl, hb.out⟩

/-- The first character that may not be: is there one? -/
def badC (c : UInt8) : Bool := decide ((c.toNat : Int) < 32 ∨ 126 < (c.toNat : Int))
def okW (s : ByteArray) : Bool := decide (1 ≤ s.size ∧ s.size ≤ 120) && !(s.data.toList.any badC)
def sayE (c : Int) (s : ByteArray) : Int := if c < 1 ∨ 64 < c then 235 else if okW s then 0 else 231

theorem say_hand {c : Int} {s : ByteArray} (h : c < 1 ∨ 64 < c) : sayE c s = 235 := by unfold sayE; rw [if_pos h]
theorem say_ok {c : Int} {s : ByteArray} (h : ¬ c < 1) (h2 : ¬ 64 < c) (h3 : okW s = true) : sayE c s = 0 := by unfold sayE; rw [if_neg (by omega), if_pos h3]
theorem say_bad {c : Int} {s : ByteArray} (h : ¬ c < 1) (h2 : ¬ 64 < c) (h3 : okW s = false) : sayE c s = 231 := by unfold sayE; rw [if_neg (by omega), if_neg (by rw [h3]; decide)]

theorem byte_snoc (s : ByteArray) (k : Nat) (h : k < s.size) : s.data.toList.take (k + 1) = s.data.toList.take k ++ [s[k]] := by
  rw [List.take_succ_eq_append_getElem (by simpa using h)]; rfl

set_option maxRecDepth 100000 in
set_option maxHeartbeats 1000000 in
theorem say_any (c : Int) (s : ByteArray) (w : World) (hs : s.size ≤ 9223372036854775807) : Calls Try.prog 36 #[.int .i64 c, .string s] w fun e w' => e = .returned (.int .i64 (sayE c s)) ∧ w' = w := by
  obtain ⟨r, hr⟩ : ∃ r, sayE c s = r := ⟨_, rfl⟩
  rw [hr]
  have HR := hd hr
  clear hr
  by_cases hc1 : c < 1
  · have Z : Hid (r = 235) := HR.out.symm.trans (say_hand (.inl hc1))
    go_enter Try.func36, Try.ntmps36
    go_wp2
    go_ret
    exact ⟨by rw [Z.out]; rfl, rfl⟩
  · by_cases hc2 : 64 < c
    · have Z : Hid (r = 235) := HR.out.symm.trans (say_hand (.inr hc2))
      go_enter Try.func36, Try.ntmps36
      go_wp2
      go_ret
      exact ⟨by rw [Z.out]; rfl, rfl⟩
    · by_cases hl1 : s.size < 1
      · have e : okW s = false := by simp [okW]; omega
        have Z : Hid (r = 231) := HR.out.symm.trans (say_bad hc1 hc2 e)
        clear e
        have hl2 : (s.size : Int) < 1 := by omega
        go_enter Try.func36, Try.ntmps36
        go_wp2
        go_ret
        exact ⟨by rw [Z.out]; rfl, rfl⟩
      · by_cases hl2 : 120 < s.size
        · have e : okW s = false := by simp [okW]; omega
          have Z : Hid (r = 231) := HR.out.symm.trans (say_bad hc1 hc2 e)
          clear e
          have hl3 : ¬ (s.size : Int) < 1 := by omega
          have hl4 : (120 : Int) < (s.size : Int) := by omega
          go_enter Try.func36, Try.ntmps36
          go_wp2
          go_ret
          exact ⟨by rw [Z.out]; rfl, rfl⟩
        · have e : Hid (okW s = !(s.data.toList.any badC)) := by
            have : decide (1 ≤ s.size ∧ s.size ≤ 120) = true := by simp; omega
            unfold Hid okW
            rw [this]
            rfl
          have hl3 : ¬ (s.size : Int) < 1 := by omega
          have hl4 : ¬ (120 : Int) < (s.size : Int) := by omega
          have HL := hd (show s.data.toList.length = s.size by rw [Array.length_toList]; rfl)
          clear hl1 hl2
          go_enter Try.func36, Try.ntmps36
          go_wp2
          go_loop [22] (fun i => ∃ k : Nat, k ≤ s.size ∧ i = .int .i64 k ∧ Hid ((s.data.toList.take k).any badC = false)) (fun i => s.size - (intOf i).toNat)
          case atStart => exact ⟨0, Nat.zero_le _, rfl, hd (by simp)⟩
          case round =>
            obtain ⟨k, hk, rfl, HA⟩ := hrel
            by_cases hlt : k < s.size
            · have HS := hd (byte_snoc s k hlt)
              by_cases hb1 : (s[k].toNat : Int) < 32
              · have Z0 : okW s = false := by
                  rw [e.out, Bool.not_eq_false']
                  exact List.any_eq_true.2 ⟨s[k], ByteArray.getElem_eq_getElem_data ▸ Array.getElem_mem_toList _, by simp [badC, hb1]⟩
                have Z : Hid (r = 231) := HR.out.symm.trans (say_bad (by omega) (by omega) Z0)
                clear HA HS e Z0 HR
                go_wp2
                go_ret
                exact ⟨by rw [Z.out]; rfl, rfl⟩
              · by_cases hb2 : 126 < (s[k].toNat : Int)
                · have Z0 : okW s = false := by
                    rw [e.out, Bool.not_eq_false']
                    exact List.any_eq_true.2 ⟨s[k], ByteArray.getElem_eq_getElem_data ▸ Array.getElem_mem_toList _, by simp [badC, hb2]⟩
                  have Z : Hid (r = 231) := HR.out.symm.trans (say_bad (by omega) (by omega) Z0)
                  clear HA HS e Z0 HR
                  go_wp2
                  go_ret
                  exact ⟨by rw [Z.out]; rfl, rfl⟩
                · have Z : Hid ((s.data.toList.take (k + 1)).any badC = false) := by
                    unfold Hid
                    rw [HS.out, List.any_append, HA.out]
                    simp [badC]
                    omega
                  clear HA HS e
                  go_wp2
                  go_round
                  case rel => exact ⟨k + 1, by omega, by go_num, Z⟩
                  case measure => simp [intOf]; omega
            · have Z0 : okW s = true := by
                have := HA.out
                rw [List.take_of_length_le (by rw [HL.out]; omega)] at this
                rw [e.out, this]
                rfl
              have Z : Hid (r = 0) := HR.out.symm.trans (say_ok (by omega) (by omega) Z0)
              clear HA e Z0 HR
              go_wp2
              go_ret
              exact ⟨by rw [Z.out]; rfl, rfl⟩

end Go.Proofs.Ytkkklfnooeofcaa
