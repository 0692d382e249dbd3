/-
  The net of the document: Flight.
-/
import Derived.Test.YtnglcnilckolkaaRd
namespace Go.Proofs.Ytnglcnilckolkaa
open Go.RowKit Go.Lib
set_option linter.unusedVariables false

set_option maxRecDepth 100000 in
set_option maxHeartbeats 4000000 in
theorem rflight_any (y : Nat) (cl : Int) (G : List DG) (S : Nat → Prop) (w : World) (h : RB w y cl G S) :
    Calls Try.prog 31 #[.pointer (some ⟨y, 0, none⟩)] w fun e w' => ∃ a c L, e = .returned (.slice a G.length c) ∧ IsG w' a G.length c L ∧ L.map It.d = G ∧ Below w.heap.size w w' := by
  obtain ⟨L, v, β, hK, hG⟩ := h
  obtain ⟨n, hn⟩ : ∃ n, L.length = n := ⟨_, rfl⟩
  have hf := hK.few
  rw [hn] at hf
  obtain ⟨av, cv, hv, -⟩ := hK.so.formN hn
  subst hv
  have HK := hd hK
  have HG := hd hG
  have HL := hd hn
  have S0 : Hid (∃ β L', FLk w w.heap.size w.heap.size β (.slice none 0 0) L' ∧ L'.map It.d = (L.take 0).map It.d ∧ Below w.heap.size w w) := ⟨none, [], ⟨⟨rfl, rfl⟩, by simp, by simp, by simp⟩, by simp, Below.refl _ _⟩
  clear hK hG hn
  go_enter Try.func31, Try.ntmps31
  go_wp2_with fail
  go_loopw [3, 4] (fun v i wr => ∃ j : Nat, j ≤ n ∧ i = .int .i64 j ∧ Hid (∃ β L', FLk wr w.heap.size wr.heap.size β v L' ∧ L'.map It.d = (L.take j).map It.d ∧ Below w.heap.size w wr)) (fun _ i _ => n - (intOf i).toNat)
  case atStart => exact ⟨0, Nat.zero_le _, rfl, S0⟩
  case round =>
    obtain ⟨j, hj, rfl, hr⟩ := hrel
    clear S0
    obtain ⟨βv, L', hFL, hLd, hB⟩ := hr.out
    have hLl : L'.length = j := by
      have := congrArg List.length hLd
      have h2 := HL.out
      simp at this
      omega
    obtain ⟨av', cv', rfl, -⟩ := hFL.so.formN hLl
    have N1 := HK.out.below hB
    have cc1 := cell_row N1.net 1
    simp at cc1
    by_cases hlt : j < n
    · have jL : j < L.length := by have := HL.out; omega
      obtain ⟨g0, cap, hβ, hv0, hc1, hc2, hgl0, x0, x1, x2, x3, hIB⟩ := N1.at j jL
      injection hv0 with q1 q2 q3
      subst q1
      subst q3
      have hsh := N1.short _ (List.getElem_mem jL)
      have ext : (L.take (j + 1)).map It.d = (L.take j).map It.d ++ [L[j].d] := by
        rw [List.take_succ_eq_append_getElem jL, List.map_append]
        rfl
      rw [HL.out] at hc1
      have HX := hd ext
      have HF := hd hFL
      have HD := hd hLd
      have HW := hd hB
      have HJ := hd hLl
      have HIB := hd hIB
      have HSH := hd hsh
      have i2 : (j : Int) < (n : Int) := by omega
      clear hr hFL hLd hB hLl N1 ext hIB hsh q2
      generalize L[j] = it at *
      obtain ⟨⟨df, dt, db, ds⟩, ia, ic, ig⟩ := it
      simp only at x0 x1 x2 x3 HIB HSH HX
      go_wp2_with fail
      refine (rdup_any ⟨df, dt, db, ds⟩ ia _ ic wr HIB.out (by have := HSH.out; omega)).mono ?_
      rintro e u ⟨g, rfl, hs, hgl, bu⟩
      obtain ⟨u2, hu2⟩ : ∃ u2, u2 = u.alloc (.cells #[.int .i64 df, .int .i64 dt, .slice (some ⟨g, 0, none⟩) db.length db.length, .bool ds] 37) := ⟨_, rfl⟩
      have b2 : Below u.heap.size u u2 := by rw [hu2]; exact (Below.refl _ _).alloc (Nat.le_refl _) _
      have hsz : u2.heap.size = u.heap.size + 1 := by rw [hu2]; simp
      have s2 := SRow.fr hs (S := fun _ => False) (Fr.of_below b2) (fun _ _ h => h)
      obtain ⟨v', w', hap, β', hF', hFr⟩ := HF.out.push (w := w) (bu.trans (b2.mono bu.size)) HW.out.size ⟨df, dt, db, ds⟩ (some ⟨g, 0, none⟩) db.length (some g) s2 (fun q hq => by injection hq with hq; omega) (by have := HJ.out; omega)
      have Z : Hid (∃ β L', FLk w' w.heap.size w'.heap.size β v' L' ∧ L'.map It.d = (L.take (j + 1)).map It.d ∧ Below w.heap.size w w') :=
        ⟨β', _, hF', by rw [HX.out, List.map_append, HD.out]; rfl, HW.out.trans (hFr.below HW.out.size (fun k hk => (HF.out.at_ k hk).1))⟩
      rw [hsz, hu2] at hap
      clear hF' hFr hs hgl bu x0 x1 x2 x3 cc1 b2 hsz s2 hu2
      go_wp2_with (at_builtin; refine wpList_append_k _ rfl _ _ 43 43 rfl _ _ rfl rfl (hap _) ?_)
      exact ⟨⟨j + 1, by omega, by go_num, Z⟩, by simp [intOf]; omega⟩
    · obtain rfl : j = n := by omega
      have hGl : G.length = j := by rw [← HG.out, List.length_map]; exact HL.out
      obtain ⟨a1, c1, hv1, hI1⟩ := hFL.isG
      rw [hLl] at hv1 hI1
      injection hv1 with q1 q2 q3
      subst q1
      subst q3
      have Z : Hid (IsG wr av' j cv' L' ∧ L'.map It.d = G ∧ Below w.heap.size w wr) := by
        refine ⟨hI1, ?_, hB⟩
        rw [hLd, List.take_of_length_le (by have := HL.out; omega), HG.out]
      have HGL := hd hGl
      clear hr hFL hLd hB hLl hI1 hGl N1 q2
      go_wp2
      go_ret
      rw [HGL.out]
      exact ⟨_, _, L', rfl, Z.out⟩

end Go.Proofs.Ytnglcnilckolkaa
