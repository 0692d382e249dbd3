/-
  The net of the document: Send, Double.
-/
import Derived.Test.YtnglcnilckolkaaRb
namespace Go.Proofs.Ytnglcnilckolkaa
open Go.RowKit Go.Lib
set_option linter.unusedVariables false

theorem joins_no1 {cl f t : Int} (h : f < 0 ∨ cl < f) (h1 : 1 ≤ cl) : joinsP cl f t = false := decide_eq_false (by omega)
theorem joins_no2 {cl f t : Int} (h : t < 0 ∨ cl < t) (h1 : 1 ≤ cl) : joinsP cl f t = false := decide_eq_false (by omega)
theorem joins_no3 {cl f t : Int} (h : f = 0 ∧ t = 0 ∨ f ≠ 0 ∧ t ≠ 0) : joinsP cl f t = false := decide_eq_false (by omega)
theorem joins_yes {cl f t : Int} (h1 : ¬ (f < 0 ∨ cl < f)) (h2 : ¬ (t < 0 ∨ cl < t)) (h3 : f = 0 ∧ t ≠ 0 ∨ f ≠ 0 ∧ t = 0) : joinsP cl f t = true := decide_eq_true (by omega)
theorem sendE_addr {cl : Int} {n : Nat} {f t : Int} {m : Nat} (hj : joinsP cl f t = false) : sendE cl n f t m = 71 := by
  unfold sendE
  rw [if_pos hj]
theorem sendE_bytes {cl : Int} {n : Nat} {f t : Int} {m : Nat} (hj : joinsP cl f t = true) (hm : 64 < m) : sendE cl n f t m = 72 := by
  unfold sendE
  rw [if_neg (by rw [hj]; decide), if_pos hm]

set_option maxRecDepth 100000 in
set_option maxHeartbeats 4000000 in
theorem rsend_any (y : Nat) (cl : Int) (G : List DG) (S : Nat → Prop) (w : World) (h : RB w y cl G S) (hcl : 1 ≤ cl) (f t : Int) (a : Option Addr) (n c : Nat) (b : List Int) (hb : IsB w a n c b) :
    Calls Try.prog 50 #[.pointer (some ⟨y, 0, none⟩), .int .i64 f, .int .i64 t, .slice a n c] w fun e w' => e = .returned (.int .i64 (sendE cl G.length f t n)) ∧ NowR w w' y cl (sendG cl G f t b) S := by
  have H := hd h
  have HB := hd hb
  obtain ⟨L, v, β, hK, hG⟩ := h
  have hl : G.length = L.length := by rw [← hG]; simp
  have hm : b.length = n := hb.1
  have hnc : n ≤ c ∧ c ≤ 9223372036854775807 := ⟨hb.2.1, hb.2.2.1⟩
  have HK := hd hK
  have HGG := hd hG
  have HL := hd hl
  have HM := hd hm
  have HO := hd hK.old
  have cc1 := cell_row hK.net 1
  obtain ⟨av0, cv0, hv0, -⟩ := hK.so.form
  subst hv0
  simp at cc1
  have no : ∀ v, sendE cl G.length f t n = v → v ≠ 0 → NowR w w y cl (sendG cl G f t b) S := fun v h1 h2 => by
    rw [sendG_no (by rw [hm, h1]; exact h2)]
    exact NowR.same H.out
  have NO := hd no
  clear hK hb hG hl hm no
  go_enter Try.func50, Try.ntmps50
  go_wp2_with fail
  refine (rbad_rk y cl L S _ β w HK.out f).mono ?_
  rintro e w1 ⟨rfl, rfl⟩
  by_cases hf : f < 0 ∨ cl < f
  · have R1 := hd (sendE_addr (n := G.length) (m := n) (joins_no1 (t := t) hf hcl))
    rw [decide_eq_true hf]
    clear hf
    go_wp2
    go_ret
    exact ⟨by rw [R1.out]; rfl, NO.out _ R1.out (by decide)⟩
  · have HFF := hd hf
    rw [decide_eq_false hf]
    clear hf
    go_wp2_with fail
    refine (rbad_rk y cl L S _ β w1 HK.out t).mono ?_
    rintro e w2 ⟨rfl, rfl⟩
    by_cases ht : t < 0 ∨ cl < t
    · have R1 := hd (sendE_addr (n := G.length) (m := n) (joins_no2 (f := f) ht hcl))
      rw [decide_eq_true ht]
      clear ht
      go_wp2
      go_ret
      exact ⟨by rw [R1.out]; rfl, NO.out _ R1.out (by decide)⟩
    · have HTT := hd ht
      rw [decide_eq_false ht]
      clear ht
      by_cases h3 : f = 0 ∧ t ≠ 0 ∨ f ≠ 0 ∧ t = 0
      · have hj := joins_yes HFF.out HTT.out h3
        have hJ := hd hj
        clear hj
        by_cases h64 : 64 < n
        · have R1 := hd (sendE_bytes (n := G.length) hJ.out h64)
          have i1 : (64 : Int) < (n : Int) := by omega
          rcases h3 with ⟨rfl, ht0⟩ | ⟨hf0, rfl⟩
          · go_wp2
            go_ret
            exact ⟨by rw [R1.out]; rfl, NO.out _ R1.out (by decide)⟩
          · go_wp2
            go_ret
            exact ⟨by rw [R1.out]; rfl, NO.out _ R1.out (by decide)⟩
        · have i1 : ¬ (64 : Int) < (n : Int) := by omega
          by_cases hf2 : 2048 ≤ L.length
          · have R1 := hd (sendE_lost (n := G.length) (m := n) hJ.out (by omega) (by rw [HL.out]; exact hf2))
            have i2 : (2048 : Int) ≤ (L.length : Int) := by omega
            rcases h3 with ⟨rfl, ht0⟩ | ⟨hf0, rfl⟩
            · go_wp2
              go_ret
              exact ⟨by rw [R1.out]; rfl, NO.out _ R1.out (by decide)⟩
            · go_wp2
              go_ret
              exact ⟨by rw [R1.out]; rfl, NO.out _ R1.out (by decide)⟩
          · have R1 := hd (sendE_ok (n := G.length) (m := n) hJ.out (by omega) (by rw [HL.out]; omega))
            have i2 : ¬ (2048 : Int) ≤ (L.length : Int) := by omega
            have HF := hd (show L.length < 2048 by omega)
            have R2 : Hid (sendG cl G f t b = G ++ [⟨f, t, b, false⟩]) := sendG_yes (by rw [HM.out]; exact R1.out)
            clear hf2
            rcases h3 with ⟨rfl, ht0⟩ | ⟨hf0, rfl⟩
            · go_wp2_with fail
              refine (rdup_any ⟨0, t, b, false⟩ a n c w2 HB.out (by omega)).mono ?_
              rintro e u ⟨g, rfl, hs, hgl, bu⟩
              have NU := HK.out.below bu
              obtain ⟨u2, hu2⟩ : ∃ u2, u2 = u.alloc (.cells #[.int .i64 0, .int .i64 t, .slice (some ⟨g, 0, none⟩) n n, .bool false] 37) := ⟨_, rfl⟩
              have b2 : Below u.heap.size u u2 := by rw [hu2]; exact (Below.refl _ _).alloc (Nat.le_refl _) _
              have r2 : u2.heap[u.heap.size]? = some (.cells #[.int .i64 0, .int .i64 t, .slice (some ⟨g, 0, none⟩) n n, .bool false] 37 (0, 0)) := by rw [hu2]; exact heap_alloc_new _ _
              have N2 := NU.below b2
              have s2 := SRow.fr hs (S := fun _ => False) (Fr.of_below b2) (fun _ _ h => h)
              obtain ⟨r0, r1, r3, r4⟩ := cells4 r2
              have c1 := cell_row N2.net 1
              simp at c1
              have hyl : y < u2.heap.size := block_lt N2.net
              have hul : u.heap.size < u2.heap.size := block_lt r2
              have HN := hd N2
              have HS2 := hd s2
              have HG := hd (And.intro hgl (bu.trans (b2.mono bu.size)))
              have HSO := hd N2.so
              have HNT := hd N2.net
              clear NU N2 s2 hs bu b2 r2 hgl
              go_wp2_with fail
              rw [← hu2]
              clear hu2
              go_region_law (refine step_pushD rfl (.tmp 43) (.tmp 45) rfl (.slice av0 L.length cv0) u2.heap.size (by simp [Act.eval]) (by simp [Act.eval]) β L u2 (by repeat (first | exact Fr.refl _ _ | refine Fr.trans ?_ (Fr.alloc _ _ _) | refine Fr.trans ?_ (Fr.drew _ _) | refine Fr.trans ?_ (Fr.drewN _ _ _))) HSO.out ⟨⟨0, t, b, false⟩, some ⟨g, 0, none⟩, b.length, some g⟩ (by first | exact heap_alloc_new _ _ | (have q := heap_alloc_new; simp only [opc, HM.out]; exact q _ _)) y _ HNT.out (by have := HF.out; omega) ?_; intro a' c' w3 hP n3; have k1 := cell_row n3 1; simp at k1; have f1 := frozen_row n3 1; have PP := hd hP; clear hP n3)
              all_goals
                obtain ⟨W, hWW, hP⟩ := PP.out
                have R := hd (rpush_end (w := w2) (d := ⟨0, t, b, false⟩) HN.out HG.out.2 HO.out hWW hP (by have := HS2.out; rw [← HM.out] at this; exact this) (fun q hq => by injection hq with hq; have := HG.out.1; omega) (by show b.length ≤ 64; rw [HM.out]; omega) HF.out)
                clear hWW hP
                go_wp2
                go_ret
                refine ⟨by rw [R1.out]; rfl, ?_⟩
                rw [R2.out, ← HGG.out]
                exact R.out
            · go_wp2_with fail
              refine (rdup_any ⟨f, 0, b, false⟩ a n c w2 HB.out (by omega)).mono ?_
              rintro e u ⟨g, rfl, hs, hgl, bu⟩
              have NU := HK.out.below bu
              obtain ⟨u2, hu2⟩ : ∃ u2, u2 = u.alloc (.cells #[.int .i64 f, .int .i64 0, .slice (some ⟨g, 0, none⟩) n n, .bool false] 37) := ⟨_, rfl⟩
              have b2 : Below u.heap.size u u2 := by rw [hu2]; exact (Below.refl _ _).alloc (Nat.le_refl _) _
              have r2 : u2.heap[u.heap.size]? = some (.cells #[.int .i64 f, .int .i64 0, .slice (some ⟨g, 0, none⟩) n n, .bool false] 37 (0, 0)) := by rw [hu2]; exact heap_alloc_new _ _
              have N2 := NU.below b2
              have s2 := SRow.fr hs (S := fun _ => False) (Fr.of_below b2) (fun _ _ h => h)
              obtain ⟨r0, r1, r3, r4⟩ := cells4 r2
              have c1 := cell_row N2.net 1
              simp at c1
              have hyl : y < u2.heap.size := block_lt N2.net
              have hul : u.heap.size < u2.heap.size := block_lt r2
              have HN := hd N2
              have HS2 := hd s2
              have HG := hd (And.intro hgl (bu.trans (b2.mono bu.size)))
              have HSO := hd N2.so
              have HNT := hd N2.net
              clear NU N2 s2 hs bu b2 r2 hgl
              go_wp2_with fail
              rw [← hu2]
              clear hu2
              go_region_law (refine step_pushD rfl (.tmp 43) (.tmp 45) rfl (.slice av0 L.length cv0) u2.heap.size (by simp [Act.eval]) (by simp [Act.eval]) β L u2 (by repeat (first | exact Fr.refl _ _ | refine Fr.trans ?_ (Fr.alloc _ _ _) | refine Fr.trans ?_ (Fr.drew _ _) | refine Fr.trans ?_ (Fr.drewN _ _ _))) HSO.out ⟨⟨f, 0, b, false⟩, some ⟨g, 0, none⟩, b.length, some g⟩ (by first | exact heap_alloc_new _ _ | (have q := heap_alloc_new; simp only [opc, HM.out]; exact q _ _)) y _ HNT.out (by have := HF.out; omega) ?_; intro a' c' w3 hP n3; have k1 := cell_row n3 1; simp at k1; have f1 := frozen_row n3 1; have PP := hd hP; clear hP n3)
              all_goals
                obtain ⟨W, hWW, hP⟩ := PP.out
                have R := hd (rpush_end (w := w2) (d := ⟨f, 0, b, false⟩) HN.out HG.out.2 HO.out hWW hP (by have := HS2.out; rw [← HM.out] at this; exact this) (fun q hq => by injection hq with hq; have := HG.out.1; omega) (by show b.length ≤ 64; rw [HM.out]; omega) HF.out)
                clear hWW hP
                go_wp2
                go_ret
                refine ⟨by rw [R1.out]; rfl, ?_⟩
                rw [R2.out, ← HGG.out]
                exact R.out
      · have R1 := hd (sendE_addr (n := G.length) (m := n) (joins_no3 (cl := cl) (f := f) (t := t) (by omega)))
        by_cases hf0 : f = 0
        · subst hf0
          by_cases ht0 : t = 0
          · subst ht0
            clear h3
            go_wp2
            go_ret
            exact ⟨by rw [R1.out]; rfl, NO.out _ R1.out (by decide)⟩
          · exact absurd (.inl ⟨rfl, ht0⟩) h3
        · by_cases ht0 : t = 0
          · exact absurd (.inr ⟨hf0, ht0⟩) h3
          · clear h3
            have q1 : (f == 0) = false := by simp [hf0]
            have q2 : (t == 0) = false := by simp [ht0]
            go_wp2
            go_ret
            exact ⟨by rw [R1.out]; rfl, NO.out _ R1.out (by decide)⟩

end Go.Proofs.Ytnglcnilckolkaa
