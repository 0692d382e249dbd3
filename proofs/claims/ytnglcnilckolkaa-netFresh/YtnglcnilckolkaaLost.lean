/-
  NetLost.
-/
import Derived.Test.YtnglcnilckolkaaNq
namespace Go.Proofs.Ytnglcnilckolkaa
open Go.RowKit
set_option linter.unusedVariables false

theorem isB_one (w : World) (x : Int) : IsB (w.alloc (.cells #[.int .u8 x] 5)) (some ⟨w.heap.size, 0, none⟩) 1 1 [x] :=
  ⟨rfl, Nat.le_refl _, by omega, fun _ => ⟨w.heap.size, 0, rfl, by simp, fun i hi => by
    obtain rfl : i = 0 := by omega
    rw [cell_row (heap_alloc_new w _)]
    rfl⟩⟩
theorem isB_at (w : World) (g : Nat) (x : Int) (hg : w.heap.size = g) : IsB (w.alloc (.cells #[.int .u8 x] 5)) (some ⟨g, 0, none⟩) 1 1 [x] := by
  subst hg
  exact isB_one w x
theorem isB_two (w : World) (x y : Int) : IsB (w.alloc (.cells #[.int .u8 x, .int .u8 y] 5)) (some ⟨w.heap.size, 0, none⟩) 2 2 [x, y] :=
  ⟨rfl, Nat.le_refl _, by omega, fun _ => ⟨w.heap.size, 0, rfl, by simp, fun i hi => by
    rcases (by omega : i = 0 ∨ i = 1) with rfl | rfl <;>
    · rw [cell_row (heap_alloc_new w _)]
      rfl⟩⟩
theorem isB_nil (w : World) : IsB w none 0 0 [] := ⟨rfl, Nat.le_refl _, by omega, fun h => by omega⟩

theorem sendG_no {cl : Int} {G : List DG} {f t : Int} {b : List Int} (h : sendE cl G.length f t b.length ≠ 0) : sendG cl G f t b = G := by simp [sendG, h]
theorem sendG_yes {cl : Int} {G : List DG} {f t : Int} {b : List Int} (h : sendE cl G.length f t b.length = 0) : sendG cl G f t b = G ++ [⟨f, t, b, false⟩] := by simp [sendG, h]
theorem sendE_ok {cl : Int} {n : Nat} {f t : Int} {m : Nat} (hj : joinsP cl f t = true) (hm : m ≤ 64) (hn : n < 2048) : sendE cl n f t m = 0 := by
  unfold sendE
  rw [if_neg (by rw [hj]; decide), if_neg (by omega), if_neg (by omega)]
theorem sendE_lost {cl : Int} {n : Nat} {f t : Int} {m : Nat} (hj : joinsP cl f t = true) (hm : m ≤ 64) (hn : 2048 ≤ n) : sendE cl n f t m = 73 := by
  unfold sendE
  rw [if_neg (by rw [hj]; decide), if_neg (by omega), if_pos hn]
theorem doubleE_ok {n : Nat} {i : Nat} (hi : i < n) (hn : n < 2048) : doubleE n (i : Int) = 0 := by
  unfold doubleE
  rw [if_pos (show isAt n (i : Int) from ⟨by omega, by omega⟩), if_neg (by omega)]
theorem doubleE_lost {n : Nat} {i : Nat} (hi : i < n) (hn : 2048 ≤ n) : doubleE n (i : Int) = 73 := by
  unfold doubleE
  rw [if_pos (show isAt n (i : Int) from ⟨by omega, by omega⟩), if_pos hn]
theorem without_len {G : List DG} {i : Nat} (h : i < G.length) : (without G i).length + 1 = G.length := by
  unfold without
  simp
  omega

set_option maxRecDepth 100000 in
set_option maxHeartbeats 8000000 in
theorem netLost_any (i b : Int) (drop : Bool) (w : World) : Calls Try.prog 4 #[.int .i64 i, .int .i64 b, .bool drop] w fun e w' => e = .returned (.bool true) ∧ Below w.heap.size w w' := by
  obtain ⟨p, hp⟩ : ∃ p, intoP b 3 = p := ⟨_, rfl⟩
  have hp3 : p < 3 := by rw [← hp]; exact intoP_lt b 3 (by omega)
  have HP := hd hp
  clear hp
  go_enter Try.func4, Try.ntmps4
  go_wp2_with fail
  refine (st_new 3 w (by omega)).mono ?_
  rintro e w1 ⟨x, rfl, h1⟩
  have S0 : Hid (∃ G : List DG, G.length = 0 ∧ ST w w1 x 3 G 0) := ⟨[], rfl, h1⟩
  clear h1
  go_wp2_with fail
  go_loopw [9] (fun v wr => ∃ k : Nat, k ≤ 2048 ∧ v = .int .i64 k ∧ Hid (∃ G : List DG, G.length = k ∧ ST w wr x 3 G k)) (fun v _ => 2048 - (intOf v).toNat)
  case atStart => exact ⟨0, by omega, rfl, S0⟩
  case round =>
    obtain ⟨k, hk, rfl, HG⟩ := hrel
    clear S0
    by_cases hlt : k < 2048
    · have i2 : (k : Int) < 2048 := by omega
      have q1 : (k : Int).tmod 400 = ((k % 400 : Nat) : Int) := by rw [show (400 : Int) = ((400 : Nat) : Int) from rfl, Int.ofNat_tmod]
      have q2 : (k : Int).tmod 3 = ((k % 3 : Nat) : Int) := by rw [show (3 : Int) = ((3 : Nat) : Int) from rfl, Int.ofNat_tmod]
      have q3 : (k : Int).tdiv 256 = ((k / 256 : Nat) : Int) := by rw [show (256 : Int) = ((256 : Nat) : Int) from rfl, Int.ofNat_tdiv]
      obtain ⟨r, hr⟩ : ∃ r, k % 400 = r := ⟨_, rfl⟩
      obtain ⟨s, hs⟩ : ∃ s, k % 3 = s := ⟨_, rfl⟩
      obtain ⟨t, ht⟩ : ∃ t, k / 256 = t := ⟨_, rfl⟩
      have hrk : r ≤ k := by omega
      have hs3 : s < 3 := by omega
      have ht9 : t < 9 := by omega
      rw [hr] at q1
      rw [hs] at q2
      rw [ht] at q3
      clear hr hs ht
      go_wp2_with fail
      refine (into_any b 3 wr (by omega) (by omega)).mono ?_
      rintro e w2 ⟨rfl, rfl⟩
      rw [HP.out]
      by_cases hq : r = 390 + p
      · have hq' : (r : Int) = 390 + (p : Int) := by omega
        go_wp2_with fail
        refine (into_any _ k w2 (by omega) (by omega)).mono ?_
        rintro e w3 ⟨rfl, rfl⟩
        obtain ⟨j, hj⟩ : ∃ j : Nat, j < k ∧ intoP _ k = j := ⟨_, intoP_lt _ k (by omega), rfl⟩
        rw [hj.2]
        obtain ⟨G, hG, hST⟩ := HG.out
        have hjk := hj.1
        clear hj
        go_wp2_with fail
        refine (st_double hST (by omega) j).mono ?_
        rintro e w4 ⟨rfl, h4⟩
        have e4 : doubleE G.length (j : Int) = 0 := doubleE_ok (by omega) (by omega)
        rw [e4]
        have Z : Hid (∃ G : List DG, G.length = k + 1 ∧ ST w w4 x 3 G (k + 1)) := ⟨_, by rw [doubleG_yes e4]; simp [hG], h4⟩
        clear h4 hST e4
        go_wp2_with fail
        exact ⟨⟨k + 1, by omega, by go_num, Z⟩, by simp [intOf]; omega⟩
      · have hq' : ¬ (r : Int) = 390 + (p : Int) := by omega
        obtain ⟨G, hG, hST⟩ := HG.out
        go_wp2_with fail
        refine (st_send (hST.below ((Below.refl _ _).alloc (Nat.le_refl _) _)) (by omega) 0 _ _ 2 2 _ (isB_two w2 _ _)).mono ?_
        rintro e w4 ⟨rfl, h4, -⟩
        have e4 : ∀ bb : List Int, bb.length = 2 → sendE 3 G.length 0 (1 + (s : Int)) bb.length = 0 := fun bb hb => sendE_ok (decide_eq_true (.inl ⟨rfl, by omega, by omega⟩)) (by omega) (by omega)
        rw [show sendE 3 G.length 0 (1 + (s : Int)) 2 = 0 from e4 [0, 0] rfl]
        have Z : Hid (∃ G : List DG, G.length = k + 1 ∧ ST w w4 x 3 G (k + 1)) := ⟨_, by rw [sendG_yes (e4 _ rfl)]; simp [hG], h4⟩
        clear h4 hST e4
        go_wp2_with fail
        exact ⟨⟨k + 1, by omega, by go_num, Z⟩, by simp [intOf]; omega⟩
    · obtain rfl : k = 2048 := by omega
      obtain ⟨G, hG, hST⟩ := HG.out
      have HG' := hd hG
      have HS := hd hST
      clear hG hST HG hk hlt
      go_wp2_with fail
      refine (into_any i 2048 wr (by omega) (by omega)).mono ?_
      rintro e w2 ⟨rfl, rfl⟩
      obtain ⟨j, hj⟩ : ∃ j : Nat, j < 2048 ∧ intoP i 2048 = j := ⟨_, intoP_lt _ 2048 (by omega), rfl⟩
      rw [hj.2]
      have hj8 := hj.1
      clear hj
      go_wp2_with fail
      refine (st_send HS.out (by omega) 2 0 none 0 0 [] (isB_nil _)).mono ?_
      rintro e w3 ⟨rfl, h3, -⟩
      have e3 : sendE 3 G.length 2 0 ([] : List Int).length = 73 := sendE_lost (decide_eq_true (.inr ⟨rfl, by omega, by omega⟩)) (by simp) (by rw [HG'.out]; omega)
      rw [sendG_no (by rw [e3]; decide)] at h3
      rw [show sendE 3 G.length 2 0 0 = 73 from e3]
      have H3 := hd h3
      clear h3 e3
      go_wp2_with fail
      refine (st_double H3.out (by omega) j).mono ?_
      rintro e w4 ⟨rfl, h4⟩
      have e4 : doubleE G.length (j : Int) = 73 := doubleE_lost (by rw [HG'.out]; omega) (by rw [HG'.out]; omega)
      rw [doubleG_no (by rw [e4]; decide)] at h4
      rw [e4]
      have H4 := hd h4
      clear h4 e4
      go_wp2_with fail
      refine (st_count H4.out).mono ?_
      rintro e w5 ⟨rfl, rfl⟩
      rw [HG'.out]
      have hjG : j < G.length := by rw [HG'.out]; exact hj8
      cases drop
      · go_wp2_with fail
        refine (st_deliver H4.out j hjG).mono ?_
        rintro e w7 ⟨a7, c7, rfl, -, h7⟩
        have hl7 := without_len (G := G) (i := j) (by omega)
        have HL7 : Hid ((without G j).length = 2047) := by show _ = _; have := HG'.out; omega
        have H7 := hd h7
        clear h7 hl7
        go_wp2_with fail
        refine (st_count H7.out).mono ?_
        rintro e w8 ⟨rfl, rfl⟩
        rw [HL7.out]
        go_wp2_with fail
        refine (st_send (H7.out.below ((Below.refl _ _).alloc (Nat.le_refl _) _)) (by omega) 2 0 _ 1 1 [7] (isB_one w8 7)).mono ?_
        rintro e w9 ⟨rfl, h9, -⟩
        have e9 : sendE 3 (without G j).length 2 0 ([7] : List Int).length = 0 := sendE_ok (decide_eq_true (.inr ⟨rfl, by omega, by omega⟩)) (by simp) (by rw [HL7.out]; omega)
        rw [sendG_yes e9] at h9
        rw [show sendE 3 (without G j).length 2 0 1 = 0 from e9]
        have HL9 : Hid ((without G j ++ [⟨2, 0, [7], false⟩] : List DG).length = 2048) := by show _ = _; simp [HL7.out]
        have H9 := hd h9
        clear h9 e9
        go_wp2_with fail
        refine (st_double H9.out (by omega) j).mono ?_
        rintro e wa ⟨rfl, ha⟩
        have ea : doubleE (without G j ++ [⟨2, 0, [7], false⟩] : List DG).length (j : Int) = 73 := doubleE_lost (by rw [HL9.out]; omega) (by rw [HL9.out]; omega)
        rw [doubleG_no (by rw [ea]; decide)] at ha
        rw [ea]
        have HA := hd ha
        clear ha ea
        go_wp2_with fail
        refine (st_deliver HA.out 2047 (by rw [HL9.out]; omega)).mono ?_
        have eg : (without G j ++ [⟨2, 0, [7], false⟩] : List DG).getD 2047 zDG = ⟨2, 0, [7], false⟩ := by
          have := HL7.out
          simp [List.getD, this]
        rw [eg]
        rintro e wb ⟨ab, cb, rfl, hb, hSb⟩
        have HBB := hd hb
        have HSB := hd hSb
        clear hb hSb eg
        go_wp2_with fail
        refine (alike_true ⟨2, 0, [7], false⟩ ab (some ⟨wb.heap.size + 1, 0, none⟩) cb 1 _ (HBB.out.below ?_) (isB_at _ _ 7 (by simp))).mono ?_
        · exact ((Below.refl _ _).alloc (Nat.le_refl _) _).alloc (by simp) _
        rintro e wd ⟨rfl, bd⟩
        have Z : Hid (Below w.heap.size w wd) := by
          have b1 := HSB.out.base
          exact b1.trans ((((Below.refl w.heap.size wb).alloc b1.size _).alloc (by simp; have := b1.size; omega) _).trans (bd.mono (by simp; have := b1.size; omega)))
        clear bd
        go_wp2
        go_ret
        exact ⟨rfl, Z.out⟩
      · go_wp2_with fail
        refine (st_drop H4.out j hjG).mono ?_
        rintro e w7 ⟨rfl, h7⟩
        have hl7 := without_len (G := G) (i := j) (by omega)
        have HL7 : Hid ((without G j).length = 2047) := by show _ = _; have := HG'.out; omega
        have H7 := hd h7
        clear h7 hl7
        go_wp2_with fail
        refine (st_count H7.out).mono ?_
        rintro e w8 ⟨rfl, rfl⟩
        rw [HL7.out]
        go_wp2_with fail
        refine (st_send (H7.out.below ((Below.refl _ _).alloc (Nat.le_refl _) _)) (by omega) 2 0 _ 1 1 [7] (isB_one w8 7)).mono ?_
        rintro e w9 ⟨rfl, h9, -⟩
        have e9 : sendE 3 (without G j).length 2 0 ([7] : List Int).length = 0 := sendE_ok (decide_eq_true (.inr ⟨rfl, by omega, by omega⟩)) (by simp) (by rw [HL7.out]; omega)
        rw [sendG_yes e9] at h9
        rw [show sendE 3 (without G j).length 2 0 1 = 0 from e9]
        have HL9 : Hid ((without G j ++ [⟨2, 0, [7], false⟩] : List DG).length = 2048) := by show _ = _; simp [HL7.out]
        have H9 := hd h9
        clear h9 e9
        go_wp2_with fail
        refine (st_double H9.out (by omega) j).mono ?_
        rintro e wa ⟨rfl, ha⟩
        have ea : doubleE (without G j ++ [⟨2, 0, [7], false⟩] : List DG).length (j : Int) = 73 := doubleE_lost (by rw [HL9.out]; omega) (by rw [HL9.out]; omega)
        rw [doubleG_no (by rw [ea]; decide)] at ha
        rw [ea]
        have HA := hd ha
        clear ha ea
        go_wp2_with fail
        refine (st_deliver HA.out 2047 (by rw [HL9.out]; omega)).mono ?_
        have eg : (without G j ++ [⟨2, 0, [7], false⟩] : List DG).getD 2047 zDG = ⟨2, 0, [7], false⟩ := by
          have := HL7.out
          simp [List.getD, this]
        rw [eg]
        rintro e wb ⟨ab, cb, rfl, hb, hSb⟩
        have HBB := hd hb
        have HSB := hd hSb
        clear hb hSb eg
        go_wp2_with fail
        refine (alike_true ⟨2, 0, [7], false⟩ ab (some ⟨wb.heap.size + 1, 0, none⟩) cb 1 _ (HBB.out.below ?_) (isB_at _ _ 7 (by simp))).mono ?_
        · exact ((Below.refl _ _).alloc (Nat.le_refl _) _).alloc (by simp) _
        rintro e wd ⟨rfl, bd⟩
        have Z : Hid (Below w.heap.size w wd) := by
          have b1 := HSB.out.base
          exact b1.trans ((((Below.refl w.heap.size wb).alloc b1.size _).alloc (by simp; have := b1.size; omega) _).trans (bd.mono (by simp; have := b1.size; omega)))
        clear bd
        go_wp2
        go_ret
        exact ⟨rfl, Z.out⟩

end Go.Proofs.Ytnglcnilckolkaa
