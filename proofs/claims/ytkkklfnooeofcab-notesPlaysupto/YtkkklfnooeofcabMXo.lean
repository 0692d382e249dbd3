/-
  Texts put together: Xo Xp.
-/
import Derived.Test.YtkkklfnooeofcabXm
/-! Xo -/
namespace Go.Proofs.Ytkkklfnooeofcab
open Go.RowKit
set_option linter.unusedVariables false

set_option maxRecDepth 100000 in
set_option maxHeartbeats 16000000 in
theorem changes_reply (X off k : Nat) (D : Nat → Prop) (sl id0 f t cc : Int) (s : ByteArray) (a : Option Addr) (n c : Nat) (xs : List El) (w : World) (h : PI w X off D k) (hE : IsE w a n c xs) (ha : 0 < n → ∀ b o, a = some ⟨b, o, none⟩ → ¬ D b ∧ b ≠ X) (hsz : s.size ≤ 9223372036854775807) (hid : -9223372036854775808 ≤ id0 ∧ id0 ≤ 9223372036854775807) (hk : k ≤ 400000) :
    Calls Try.prog 13 #[.pointer (some ⟨X, off, none⟩), .agg (lopA 2 sl id0 f t cc s a n c)] w fun e w' => e = .returned (.bool true) ∧ StO w w' X off D (k + 1) := by
  obtain ⟨r, q, O, Oq, K1, K2, g, Ns, m1, m2, hP, hD, hsd, hm1, hm2⟩ := h
  obtain ⟨er, Ns', CR, CP, hsd'⟩ := reply_both g Ns id0 cc s k hsd hk hid hsz
  have hM := MW.start hP hE hD ha (lopA 2 sl id0 f t cc s a n c)
  have FIN := hd (fun wx On Oqn bcs h => MW.fin (wx := wx) (k := k + 1) (On := On) (Oqn := Oqn) (g' := g) (Ns' := Ns') (bcs := bcs) (a := a) (n := n) (c := c) (xs := xs) hP hD hsd' (by omega) (by omega) h)
  clear hP hD hsd hm1 hm2 hE ha hsd'
  unfold lopA at hM ⊢
  go_enter Try.func13, Try.ntmps13
  go_upto_region 8 with fail
  generalize w.alloc (.cells #[.int .i64 2, .int .i64 sl, .int .i64 id0, .int .i64 f, .int .i64 t, .int .i64 cc, .string s, .slice a n c] 36) = w1 at *
  obtain ⟨c0, c1⟩ := hM.pk.heads
  have x2 := hM.box 2; have x5 := hM.box 5; have x6 := hM.box 6
  simp at x2 x5 x6
  obtain ⟨hX1, hB1⟩ := hM.size
  have HCR := hd (fun W (hW : Below w1.heap.size w1 W) => (CR W Oq q (hM.pk.d.below hW)).mono fun e w' h => And.intro h.1 (NowR.of hW h.2))
  have HM := hd hM
  have HCP := hd CP
  clear hM CR CP
  go_cut [10] (fun v5 wx => v5 = .int .i64 er ∧ Hid (NowR w1 wx Oq q g Ns'))
  case first =>
      refine regCC _ w1 X off w.heap.size r q n c 0 0 a id0 f t cc s 0 er (fun u => NowR w1 u Oq q g Ns') hX1 hB1 x2 x5 x6 c1 HCR.out (by simp) rfl rfl ?_
      intro L val u hL hW hV
      have v1 : val 11 = .int .i64 er := by
        rcases hV 11 with h | h | h
        · cases h
        · exact (Option.some.inj h).symm
        · exact absurd (by decide) h
      have Z := hd (hW.2 (hL 10 (by omega)))
      clear hW hV hL
      simp only [slCC, DCC, List.getD_cons_zero, List.getD_cons_succ, List.map_cons, List.map_nil, puts, List.foldl_cons, List.foldl_nil, Act.put, List.setIfInBounds_toArray, List.set_cons_succ, List.set_cons_zero]
      rw [v1]
      go_wp2_with fail
      go_meet
      exact ⟨rfl, Z⟩
  case rest =>
    obtain ⟨rfl, hN⟩ := hcut
    obtain ⟨Oq2, hM2, -⟩ := HM.out.setD hN.out
    clear c0 c1 x2 x5 x6 hX1 hB1 hN HM HCR
    obtain ⟨c0, c1⟩ := hM2.pk.heads
    have x2 := hM2.box 2; have x5 := hM2.box 5; have x6 := hM2.box 6
    simp at x2 x5 x6
    obtain ⟨hX1, hB1⟩ := hM2.size
    have HCR := hd (fun W (hW : Below wc.heap.size wc W) => (HCP.out W O r (hM2.pk.b.below hW)).mono fun e w' h => And.intro h.1 (NowB.of hW h.2))
    have HM2 := hd hM2
    clear hM2
    generalize wc = w2 at *
    go_upto_region 9 with fail
    go_cut [11] (fun v5 wx => v5 = .int .i64 er ∧ Hid (NowB w2 wx O r g Ns'))
    case first =>
        refine regCD _ w2 X off w.heap.size r q n c 0 0 a id0 f t cc s 0 er (fun u => NowB w2 u O r g Ns') hX1 hB1 x2 x5 x6 c0 HCR.out (by simp) rfl rfl ?_
        intro L val u hL hW hV
        have v1 : val 11 = .int .i64 er := by
          rcases hV 11 with h | h | h
          · cases h
          · exact (Option.some.inj h).symm
          · exact absurd (by decide) h
        have Z := hd (hW.2 (hL 10 (by omega)))
        clear hW hV hL
        simp only [slCD, DCD, List.getD_cons_zero, List.getD_cons_succ, List.map_cons, List.map_nil, puts, List.foldl_cons, List.foldl_nil, Act.put, List.setIfInBounds_toArray, List.set_cons_succ, List.set_cons_zero]
        rw [v1]
        go_wp2_with fail
        go_meet
        exact ⟨rfl, Z⟩
    case rest =>
      obtain ⟨rfl, hN⟩ := hcut
      obtain ⟨O4, hM4, -⟩ := HM2.out.setB hN.out
      have HM4 := hd hM4
      clear hM4 hN c0 c1 x2 x5 x6 hX1 hB1 HM2 HCR HCP
      go_wp2_with fail
      go_ret
      exact ⟨rfl, FIN.out _ O4 Oq2 _ HM4.out⟩

set_option maxRecDepth 100000 in
set_option maxHeartbeats 16000000 in
theorem changes_shut (X off k : Nat) (D : Nat → Prop) (sl id0 f t cc : Int) (s : ByteArray) (a : Option Addr) (n c : Nat) (xs : List El) (w : World) (h : PI w X off D k) (hE : IsE w a n c xs) (ha : 0 < n → ∀ b o, a = some ⟨b, o, none⟩ → ¬ D b ∧ b ≠ X) (hsz : s.size ≤ 9223372036854775807) (hid : -9223372036854775808 ≤ id0 ∧ id0 ≤ 9223372036854775807) (hk : k ≤ 400000) :
    Calls Try.prog 13 #[.pointer (some ⟨X, off, none⟩), .agg (lopA 3 sl id0 f t cc s a n c)] w fun e w' => e = .returned (.bool true) ∧ StO w w' X off D (k + 1) := by
  obtain ⟨r, q, O, Oq, K1, K2, g, Ns, m1, m2, hP, hD, hsd, hm1, hm2⟩ := h
  obtain ⟨er, Ns', CR, CP, hsd'⟩ := shut_both g Ns id0 hid
  have hM := MW.start hP hE hD ha (lopA 3 sl id0 f t cc s a n c)
  have FIN := hd (fun wx On Oqn bcs h => MW.fin (wx := wx) (k := k + 1) (On := On) (Oqn := Oqn) (g' := g) (Ns' := Ns') (bcs := bcs) (a := a) (n := n) (c := c) (xs := xs) hP hD (fun n hn => Nat.le_succ_of_le (hsd' k hsd n hn)) (by omega) (by omega) h)
  clear hP hD hsd hm1 hm2 hE ha hsd'
  unfold lopA at hM ⊢
  go_enter Try.func13, Try.ntmps13
  go_upto_region 12 with fail
  generalize w.alloc (.cells #[.int .i64 3, .int .i64 sl, .int .i64 id0, .int .i64 f, .int .i64 t, .int .i64 cc, .string s, .slice a n c] 36) = w1 at *
  obtain ⟨c0, c1⟩ := hM.pk.heads
  have x2 := hM.box 2; have x5 := hM.box 5; have x6 := hM.box 6
  simp at x2 x5 x6
  obtain ⟨hX1, hB1⟩ := hM.size
  have HCR := hd (fun W (hW : Below w1.heap.size w1 W) => (CR W Oq q (hM.pk.d.below hW)).mono fun e w' h => And.intro h.1 (NowR.of hW h.2))
  have HM := hd hM
  have HCP := hd CP
  clear hM CR CP
  go_cut [12] (fun v5 wx => v5 = .int .i64 er ∧ Hid (NowR w1 wx Oq q g Ns'))
  case first =>
      refine regCE _ w1 X off w.heap.size r q n c 0 0 a id0 f t cc s 0 er (fun u => NowR w1 u Oq q g Ns') hX1 hB1 x2 c1 HCR.out (by simp) rfl rfl ?_
      intro L val u hL hW hV
      have v1 : val 7 = .int .i64 er := by
        rcases hV 7 with h | h | h
        · cases h
        · exact (Option.some.inj h).symm
        · exact absurd (by decide) h
      have Z := hd (hW.2 (hL 6 (by omega)))
      clear hW hV hL
      simp only [slCE, DCE, List.getD_cons_zero, List.getD_cons_succ, List.map_cons, List.map_nil, puts, List.foldl_cons, List.foldl_nil, Act.put, List.setIfInBounds_toArray, List.set_cons_succ, List.set_cons_zero]
      rw [v1]
      go_wp2_with fail
      go_meet
      exact ⟨rfl, Z⟩
  case rest =>
    obtain ⟨rfl, hN⟩ := hcut
    obtain ⟨Oq2, hM2, -⟩ := HM.out.setD hN.out
    clear c0 c1 x2 x5 x6 hX1 hB1 hN HM HCR
    obtain ⟨c0, c1⟩ := hM2.pk.heads
    have x2 := hM2.box 2; have x5 := hM2.box 5; have x6 := hM2.box 6
    simp at x2 x5 x6
    obtain ⟨hX1, hB1⟩ := hM2.size
    have HCR := hd (fun W (hW : Below wc.heap.size wc W) => (HCP.out W O r (hM2.pk.b.below hW)).mono fun e w' h => And.intro h.1 (NowB.of hW h.2))
    have HM2 := hd hM2
    clear hM2
    generalize wc = w2 at *
    go_upto_region 13 with fail
    go_cut [13] (fun v5 wx => v5 = .int .i64 er ∧ Hid (NowB w2 wx O r g Ns'))
    case first =>
        refine regCF _ w2 X off w.heap.size r q n c 0 0 a id0 f t cc s 0 er (fun u => NowB w2 u O r g Ns') hX1 hB1 x2 c0 HCR.out (by simp) rfl rfl ?_
        intro L val u hL hW hV
        have v1 : val 7 = .int .i64 er := by
          rcases hV 7 with h | h | h
          · cases h
          · exact (Option.some.inj h).symm
          · exact absurd (by decide) h
        have Z := hd (hW.2 (hL 6 (by omega)))
        clear hW hV hL
        simp only [slCF, DCF, List.getD_cons_zero, List.getD_cons_succ, List.map_cons, List.map_nil, puts, List.foldl_cons, List.foldl_nil, Act.put, List.setIfInBounds_toArray, List.set_cons_succ, List.set_cons_zero]
        rw [v1]
        go_wp2_with fail
        go_meet
        exact ⟨rfl, Z⟩
    case rest =>
      obtain ⟨rfl, hN⟩ := hcut
      obtain ⟨O4, hM4, -⟩ := HM2.out.setB hN.out
      have HM4 := hd hM4
      clear hM4 hN c0 c1 x2 x5 x6 hX1 hB1 HM2 HCR HCP
      go_wp2_with fail
      go_ret
      exact ⟨rfl, FIN.out _ O4 Oq2 _ HM4.out⟩

end Go.Proofs.Ytkkklfnooeofcab

/-! Xp -/
namespace Go.Proofs.Ytkkklfnooeofcab
open Go.RowKit
set_option linter.unusedVariables false

set_option maxRecDepth 100000 in
set_option maxHeartbeats 16000000 in
theorem changes_sweep (X off k : Nat) (D : Nat → Prop) (sl id0 f t cc : Int) (s : ByteArray) (a : Option Addr) (n c : Nat) (xs : List El) (w : World) (h : PI w X off D k) (hE : IsE w a n c xs) (hwf : ∀ x ∈ xs, wfE x) (ha : 0 < n → ∀ b o, a = some ⟨b, o, none⟩ → ¬ D b ∧ b ≠ X) (hn : n ≤ 900000) (hk : k ≤ 400000) :
    Calls Try.prog 13 #[.pointer (some ⟨X, off, none⟩), .agg (lopA 7 sl id0 f t cc s a n c)] w fun e w' => e = .returned (.bool true) ∧ StO w w' X off D k := by
  obtain ⟨r, q, O, Oq, K1, K2, g, Ns, m1, m2, hP, hD, hsd, hm1, hm2⟩ := h
  have hM := MW.start hP hE hD ha (lopA 7 sl id0 f t cc s a n c)
  have FIN := hd (fun wx On Oqn bcs h => MW.fin (wx := wx) (On := On) (Oqn := Oqn) (g' := g) (Ns' := Ns.filter (keepN xs)) (bcs := bcs) (a := a) (n := n) (c := c) (xs := xs) hP hD (fun m hm => hsd m (List.mem_filter.1 hm).1) hm1 hm2 h)
  have HXN := hd hE.1
  have HRM := hd (show ∀ m ∈ Ns, roomy m.sd.length 24 from fun m hm => roomy24 _ (by have := hsd m hm; omega))
  obtain ⟨ct, hct⟩ : ∃ ct : Int, ((Ns.length - (Ns.filter (keepN xs)).length : Nat) : Int) = ct := ⟨_, rfl⟩
  have HCT := hd hct
  clear hP hD hsd hm1 hm2 hE ha hct
  unfold lopA at hM ⊢
  go_enter Try.func13, Try.ntmps13
  go_upto_region 15 with fail
  generalize w.alloc (.cells #[.int .i64 7, .int .i64 sl, .int .i64 id0, .int .i64 f, .int .i64 t, .int .i64 cc, .string s, .slice a n c] 36) = w1 at *
  obtain ⟨c0, c1⟩ := hM.pk.heads
  have x7 := hM.box 7
  simp at x7
  obtain ⟨hX1, hB1⟩ := hM.size
  have HCR := hd (fun W (hW : Below w1.heap.size w1 W) => (rsweep_any Oq q g Ns W (hM.pk.d.below hW) a n c xs (hM.ie.below hW) HRM.out).mono fun e w' h => And.intro (h.1.trans (congrArg (fun z => Ending.returned (Value.int .i64 z)) HCT.out)) (NowR.of hW h.2))
  have HM := hd hM
  clear hM
  go_cut [14] (fun v5 wx => v5 = .int .i64 ct ∧ Hid (NowR w1 wx Oq q g (Ns.filter (keepN xs))))
  case first =>
    refine regCG _ w1 X off w.heap.size r q n c 0 0 a id0 f t cc s 0 ct (fun u => NowR w1 u Oq q g (Ns.filter (keepN xs))) hX1 hB1 x7 c1 HCR.out (by simp) rfl rfl ?_
    intro L val u hL hW hV
    have v1 : val 7 = .int .i64 ct := by
      rcases hV 7 with h | h | h
      · cases h
      · exact (Option.some.inj h).symm
      · exact absurd (by decide) h
    have Z := hd (hW.2 (hL 6 (by omega)))
    clear hW hV hL
    simp only [slCG, DCG, List.getD_cons_zero, List.getD_cons_succ, List.map_cons, List.map_nil, puts, List.foldl_cons, List.foldl_nil, Act.put, List.setIfInBounds_toArray, List.set_cons_succ, List.set_cons_zero]
    rw [v1]
    go_wp2_with fail
    go_meet
    exact ⟨rfl, Z⟩
  case rest =>
    obtain ⟨rfl, hN⟩ := hcut
    obtain ⟨Oq2, hM2, -⟩ := HM.out.setD hN.out
    have CRM := hd (room_any a n c xs wc hM2.ie hn)
    have y7 := hM2.box 7
    simp at y7
    have HM2 := hd hM2
    clear hN HM HCR c0 c1 x7 hX1 hB1 hM2
    go_upto_region 17 with (go_at_call 16; refine CRM.out.mono ?_; rintro e w3 ⟨gd, cd, rfl, hgd, hSd, hb3⟩)
    have hM3 := HM2.out.below hb3
    obtain ⟨c0, c1⟩ := hM3.pk.heads
    have x7 := hM3.box 7
    simp at x7
    obtain ⟨hX1, hB1⟩ := hM3.size
    have hcd : n + 2 ≤ cd ∧ cd ≤ 9223372036854775807 := by
      obtain ⟨a', d', hv, h1, h2⟩ := hSd.form
      obtain ⟨-, -, rfl⟩ := Value.slice.inj hv
      rw [mkR_len, HXN.out] at h1
      exact ⟨h1, h2⟩
    have hE3 := room_isE hSd HXN.out
    have HCR := hd (fun W (hW : Below w3.heap.size w3 W) => (sweep_any O r g Ns W (hM3.pk.b.below hW) (some ⟨gd, 0, none⟩) n cd xs (hE3.below hW) hwf).mono fun e w' h => And.intro (h.1.trans (congrArg (fun z => Ending.returned (Value.int .i64 z)) HCT.out)) (NowB.of hW h.2))
    have HG : Hid ((∀ j, (O j ∨ Oq2 j ∨ K1 j ∨ K2 j) → j < gd) ∧ X < gd ∧ gd < w3.heap.size ∧ w.heap.size < gd) := by
      obtain ⟨q1, q2⟩ := HM2.out.pk.olds
      have q3 := HM2.out.size.2
      exact ⟨fun j hj => by have := q1 j hj; omega, by omega, hSd.lt gd rfl, by omega⟩
    have HM3 := hd hM3
    have HS := hd hSd
    clear hM3 hSd hb3 hgd HM2 CRM y7 hE3
    have HR1 : Hid (∀ W, NowB w3 W O r g (Ns.filter (keepN xs)) → W.cell? ⟨w.heap.size, 7, none⟩ = some (.slice a n c)) := by
      intro W hN
      obtain ⟨O4, hM4, hF4, hO4⟩ := HM3.out.setB hN
      have := hM4.box 7
      simpa using this
    have HR2 : Hid (∀ W, NowB w3 W O r g (Ns.filter (keepN xs)) → Calls Try.prog 26 #[.slice (some ⟨gd, 0, none⟩) (n + 2) cd, .slice a n c] W fun e w' => e = .returned (.bool true) ∧ StO w w' X off D k) := by
      intro W hN
      obtain ⟨O4, hM4, hF4, hO4⟩ := HM3.out.setB hN
      have hS4 := HS.out.fr hF4 (fun j hj hO => by
        have := HG.out.1 j (.inl hO)
        injection hj with hj
        omega)
      refine (kept_any gd cd (n + 2) a n c xs W hM4.ie hn hS4).mono fun e w' h => ⟨h.1, ?_⟩
      have q := HG.out
      refine FIN.out _ O4 Oq2 _ (hM4.kept h.2 (fun j hj e => ?_) (by omega) q.2.2.2)
      subst e
      obtain ⟨q1, q2, q3, q4⟩ := q
      rcases hj with h | h | h | h
      · rcases hO4 j h with h | h
        · exact Nat.lt_irrefl _ (q1 j (.inl h))
        · omega
      · exact Nat.lt_irrefl _ (q1 j (.inr (.inl h)))
      · exact Nat.lt_irrefl _ (q1 j (.inr (.inr (.inl h))))
      · exact Nat.lt_irrefl _ (q1 j (.inr (.inr (.inr h))))
    refine regCH _ w3 X off w.heap.size r q n c gd cd a id0 f t cc s ct (fun u => NowB w3 u O r g (Ns.filter (keepN xs))) (fun u => StO w u X off D k) hX1 hB1 x7 c0 hcd.1 hcd.2 HR1.out HCR.out HR2.out (by simp) rfl rfl rfl rfl ?_
    intro L val u hL hW hV
    have v1 : val 18 = .bool true := by
      rcases hV 18 with h | h | h
      · cases h
      · exact (Option.some.inj h).symm
      · exact absurd (by decide) h
    have Z := hd (hW.2.2 (hL 16 (by omega)))
    clear hW hV hL
    simp only [slCH, DCH, List.getD_cons_zero, List.getD_cons_succ, List.map_cons, List.map_nil, puts, List.foldl_cons, List.foldl_nil, Act.put, List.setIfInBounds_toArray, List.set_cons_succ, List.set_cons_zero]
    rw [v1]
    go_wp2_with fail
    go_ret
    exact ⟨rfl, Z.out⟩
end Go.Proofs.Ytkkklfnooeofcab
