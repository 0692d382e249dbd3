/-
  The document's Line: no verb; the wrong number of words.
-/
import Derived.Test.YtplmhilkehkeiaaDoorRj
import Derived.Test.YtplmhilkehkeiaaDoorRk
namespace Go.Proofs.YtplmhilkehkeiaaDoor
open Go.RowKit
set_option linter.unusedVariables false

theorem rcutZ_any (s : ByteArray) (n : Nat) (z : Int) (w : World) (hz : s.size ≤ 2000000) (hn : n = 0 ∨ n = 4) (hzn : z = n) :
    Calls Tryd.prog 27 #[.string s, .int .u8 32, .int .i64 z] w fun e w' => ∃ (ps : List ByteArray) (v : Value), e = .returned v ∧ ps.map tl = cutD n [] [] (tl s) ∧ NL es 1 9 w' w.heap.size v ps ∧ Below w.heap.size w w' := by
  subst hzn
  exact rcut_any s n w hz hn

theorem kAux_ge (L : List Bs) (v : Bs) (b i : Nat) (h : kAux b L v = some i) : b ≤ i := by
  induction L generalizing b with
  | nil => cases h
  | cons x r ih =>
    rw [kAux] at h
    split at h
    · cases h; exact Nat.le_refl _
    · have := ih (b + 1) h
      omega

theorem insert_iff (v : Bs) : v = [105, 110, 115, 101, 114, 116] ↔ kindP v = 1 := by
  constructor
  · rintro rfl; rfl
  · intro h
    unfold kindP at h
    cases hk : kAux 0 verbsL v with
    | none => rw [hk] at h; simp at h
    | some i =>
      rw [hk] at h
      simp at h
      obtain rfl : i = 1 := by omega
      unfold verbsL at hk
      rw [kAux] at hk
      split at hk
      · cases hk
      · rw [kAux] at hk
        split at hk
        · rename_i h; exact h.symm
        · exfalso
          have := kAux_ge _ _ _ _ hk
          omega

theorem first_word {w : World} {base : Nat} {v : Value} {ps : List ByteArray} {x : Bs} {T : List Bs} (hN : NL es 1 9 w base v ps) (h : ps.map tl = x :: T) : ∃ a r g c, ps = a :: r ∧ tl a = x ∧ v = .slice (some ⟨g, 0, none⟩) (r.length + 1) c ∧ w.cell? ⟨g, 0, none⟩ = some (.string a) := by
  cases ps with
  | nil => simp at h
  | cons a r =>
    simp only [List.map_cons, List.cons.injEq] at h
    obtain ⟨β, hS, -⟩ := hN
    cases β with
    | none => obtain ⟨-, h⟩ := hS; cases h
    | some g =>
      obtain ⟨c, hv, hR⟩ := hS
      refine ⟨a, r, g, c, rfl, h.1, by rw [hv]; rfl, ?_⟩
      have := hR.cell sz_es 0 0 (by simp) (by omega)
      simpa [es] using this
theorem rest_words {a : ByteArray} {r : List ByteArray} {x : Bs} {T : List Bs} (h : (a :: r).map tl = x :: T) : r.map tl = T := by
  simp only [List.map_cons, List.cons.injEq] at h
  exact h.2

set_option maxRecDepth 100000 in
set_option maxHeartbeats 8000000 in
theorem rline_none (s : ByteArray) (w : World) (K : Int) (hz : s.size ≤ 2000000) (hK : kindP (verbP (tl s)) = K) (h0 : K = 0) :
    Calls Tryd.prog 11 #[.string s] w fun e w' => LR w w' (lineP (tl s)) e := by
  have hL : lineP (tl s) = { kind := 0, err := 153 } := by unfold lineP; rw [if_pos (by rw [hK, h0])]
  rw [hL]
  clear hL
  have hl := tl_size s
  have hk0 := (kind_bd (verbP (tl s))).1
  have hk13 := (kind_bd (verbP (tl s))).2
  rw [hK] at hk0 hk13
  have HK := hd hK
  have hin : (verbP (tl s) = [105, 110, 115, 101, 114, 116]) ↔ K = 1 := by rw [← hK]; exact insert_iff _
  have HI := hd hin
  clear hK hin hl
  have x0 : EZ (w.alloc (.cells #[.int .i64 0, .int .i64 0, .int .i64 0, .int .i64 0, .int .i64 0, .int .u8 0, .slice none 0 0, .int .i64 0] 25)) w.heap.size := heap_alloc_new _ _
  have bz : Below w.heap.size w (w.alloc (.cells #[.int .i64 0, .int .i64 0, .int .i64 0, .int .i64 0, .int .i64 0, .int .u8 0, .slice none 0 0, .int .i64 0] 25)) := (Below.refl _ _).alloc (Nat.le_refl _) _
  have sz : w.heap.size < (w.alloc (.cells #[.int .i64 0, .int .i64 0, .int .i64 0, .int .i64 0, .int .i64 0, .int .u8 0, .slice none 0 0, .int .i64 0] 25)).heap.size := by simp
  have HX := hd x0
  have BZ := hd bz
  have SZ := hd sz
  clear x0 bz sz
  go_enter Tryd.func11, Tryd.ntmps11
  go_wp2_with fail
  generalize w.alloc (.cells #[.int .i64 0, .int .i64 0, .int .i64 0, .int .i64 0, .int .i64 0, .int .u8 0, .slice none 0 0, .int .i64 0] 25) = w0 at *
  go_upto_region 3 with (go_at_call 27; refine (rcutZ_any s 0 0 _ hz (.inl rfl) rfl).mono ?_; rintro e w1 ⟨ps0, v0, rfl, hps, hNL, hB⟩; rw [cutD_0, words_head (tl s)] at hps; obtain ⟨a, r, g0, c0, rfl, ha, rfl, k0⟩ := first_word hNL hps; have HA := hd ha; have X1 := hd (HX.out.below hB SZ.out); have B1 := hd (BZ.out.trans (hB.mono BZ.out.size)); have S1 := hd (Nat.lt_of_lt_of_le SZ.out hB.size); clear hps hNL hB ha)
  have ins1 : (a.toList == [105, 110, 115, 101, 114, 116]) = decide (K = 1) := by
    rw [toL, HA.out]
    by_cases h : K = 1
    · rw [HI.out.2 h]; simp [h]
    · simp only [h, decide_false]
      simpa using fun h' => h (HI.out.1 h')
  obtain ⟨L, hL⟩ : ∃ L, L = (if K = 1 then spl 3 (tl s) else wordsP (tl s)) := ⟨_, rfl⟩
  have HL := hd hL
  clear hL
  have CC : Hid (∀ (z : Int) (U : World), z = (if K = 1 then 4 else 0) → Calls Tryd.prog 27 #[.string s, .int .u8 32, .int .i64 z] U fun e w' => ∃ (ps : List ByteArray) (v : Value), e = .returned v ∧ ps.map tl = L ∧ NL es 1 9 w' U.heap.size v ps ∧ Below U.heap.size U w') := by
    intro z U hzz
    rw [HL.out]
    by_cases h : K = 1
    · rw [if_pos h] at hzz ⊢
      subst hzz
      have := rcutZ_any s 4 4 U hz (.inr rfl) rfl
      rw [cutD_4] at this
      exact this
    · rw [if_neg h] at hzz ⊢
      subst hzz
      have := rcutZ_any s 0 0 U hz (.inl rfl) rfl
      rw [cutD_0] at this
      exact this
  have hLh : ∃ T, L = verbP (tl s) :: T ∧ T = tailP K (tl s) := by
    rw [HL.out]
    unfold tailP
    by_cases h : K = 1
    · rw [if_pos h]; exact ⟨_, spl_head 2 _, rfl⟩
    · rw [if_neg h]; exact ⟨_, words_head _, rfl⟩
  obtain ⟨T, hLT, hT⟩ := hLh
  have HLT := hd hLT
  have HT := hd hT
  clear hLT hT
  have h1 : ¬ K = 1 := by omega
  have d1 : decide (K = 1) = false := by simpa using h1
  rw [d1] at ins1
  have ZZ := hd (show (0 : Int) = (if K = 1 then 4 else 0) by rw [if_neg h1])
  have hk0' : K = 0 := h0
  subst hk0'
  clear h0 h1 d1 hk0 hk13
  go_wp2_with (first
    | (go_at_call 27; refine (CC.out _ _ ZZ.out).mono ?_; rintro e w2 ⟨ps, v2, rfl, hps, hNL, hB⟩; rw [HLT.out] at hps; obtain ⟨b, r2, g2, c2, rfl, hb, rfl, k2⟩ := first_word hNL hps; have HPS := hd (rest_words hps); have HBV := hd hb; have HNL := hd hNL; have X2 := hd (X1.out.below hB S1.out); have B2 := hd (B1.out.trans (hB.mono B1.out.size)); have S2 := hd (Nat.lt_of_lt_of_le S1.out hB.size); clear hps hNL hB hb k0)
    | (go_at_call 28; refine (rkindOf_any b _).mono ?_; rw [HBV.out, HK.out]; rintro e w3 ⟨rfl, hB3⟩; have X3 := hd (X2.out.below hB3 S2.out); have B3 := hd (B2.out.trans (hB3.mono B2.out.size)); have S3 := hd (Nat.lt_of_lt_of_le S2.out hB3.size); have N3 := hd (HNL.out.fr (Fr.of_below (S := fun _ => False) hB3) (fun _ _ _ h => h)); clear hB3 k2; obtain ⟨⟨c0, c1, c2', c3⟩, c4, c5, c6, c7⟩ := en_cells X3.out; obtain ⟨⟨f0, f1, f2, f3⟩, f4, f5, f6, f7⟩ := en_frozen X3.out; simp only at c0 c1 c2' c3 c4 c5 c6 c7; have hlt := block_lt X3.out))
  obtain ⟨P1, P2⟩ := put8_heap (E := { kind := 0, err := 153 }) (v := .slice none 0 0) X3.out
  unfold put8 at P1 P2
  simp only at P1 P2
  have BF : Below w.heap.size w ((((((((w3.setCell ⟨w.heap.size, 0, none⟩ (.int .i64 0)).setCell ⟨w.heap.size, 1, none⟩ (.int .i64 0)).setCell ⟨w.heap.size, 2, none⟩ (.int .i64 0)).setCell ⟨w.heap.size, 3, none⟩ (.int .i64 0)).setCell ⟨w.heap.size, 4, none⟩ (.int .i64 0)).setCell ⟨w.heap.size, 5, none⟩ (.int .u8 0)).setCell ⟨w.heap.size, 6, none⟩ (.slice none 0 0)).setCell ⟨w.heap.size, 7, none⟩ (.int .i64 153)) := B3.out.trans (P2.below B3.out.size (fun k hk => by omega))
  have BB := hd BF
  have PH := hd P1
  clear P1 P2 BF c0 c1 c2' c3 c4 c5 c6 c7 f0 f1 f2 f3 f4 f5 f6 f7
  generalize ((((((((w3.setCell ⟨w.heap.size, 0, none⟩ (.int .i64 0)).setCell ⟨w.heap.size, 1, none⟩ (.int .i64 0)).setCell ⟨w.heap.size, 2, none⟩ (.int .i64 0)).setCell ⟨w.heap.size, 3, none⟩ (.int .i64 0)).setCell ⟨w.heap.size, 4, none⟩ (.int .i64 0)).setCell ⟨w.heap.size, 5, none⟩ (.int .u8 0)).setCell ⟨w.heap.size, 6, none⟩ (.slice none 0 0)).setCell ⟨w.heap.size, 7, none⟩ (.int .i64 153)) = W at *
  obtain ⟨⟨q0, q1, q2, q3⟩, q4, q5, q6, q7⟩ := en_cells PH.out
  simp only at q0 q1 q2 q3 q4 q5 q6 q7
  refine bodyPost_ret (v := .agg (ecell { kind := 0, err := 153 } (.slice none 0 0))) (by simp [results, Tryd.results11, go_sem, q0, q1, q2, q3, q4, q5, q6, q7, ecell]) rfl ?_
  exact ⟨_, rfl, NL.nil _ _, BB.out⟩

end Go.Proofs.YtplmhilkehkeiaaDoor
