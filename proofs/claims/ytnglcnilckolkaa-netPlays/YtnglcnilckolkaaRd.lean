/-
  The net of the document: Double.
-/
import Derived.Test.YtnglcnilckolkaaRb
namespace Go.Proofs.Ytnglcnilckolkaa
open Go.RowKit Go.Lib
set_option linter.unusedVariables false

theorem RK.at {w : World} {y : Nat} {cl : Int} {L : List It} {S : Nat → Prop} {v : Value} {β : Option Nat} (N : RK w y cl L S v β) (i : Nat) (hi : i < L.length) :
    ∃ g cap, β = some g ∧ v = .slice (some ⟨g, 0, none⟩) L.length cap ∧ L.length ≤ cap ∧ cap ≤ 9223372036854775807 ∧ g < w.heap.size ∧ w.cell? ⟨g, i * 4, none⟩ = some (.int .i64 L[i].d.f) ∧ w.cell? ⟨g, i * 4 + 1, none⟩ = some (.int .i64 L[i].d.t) ∧ w.cell? ⟨g, i * 4 + 2, none⟩ = some (.slice L[i].a L[i].d.b.length L[i].c) ∧ w.cell? ⟨g, i * 4 + 3, none⟩ = some (.bool L[i].d.s) ∧ IsB w L[i].a L[i].d.b.length L[i].c L[i].d.b := by
  have hs := N.so
  cases β with
  | none =>
    have := hs.2
    rw [this] at hi
    simp at hi
  | some g =>
    obtain ⟨cap, hv, hR⟩ := hs
    have hI := hR.isO
    obtain ⟨x0, x1, x2, x3⟩ := hI.at i hi hi
    simp only [Nat.zero_add] at x0 x1 x2 x3
    obtain ⟨a', c', hv', hB⟩ := (N.rows _ (List.getElem_mem hi)).isB
    unfold It.sv at hv'
    injection hv' with q1 q2 q3
    exact ⟨g, cap, rfl, hv, hI.2.1, hI.2.2.1, hR.lt, x0, x1, x2, x3, by rw [q1, q3]; exact hB⟩

set_option maxRecDepth 100000 in
set_option maxHeartbeats 4000000 in
theorem rdouble_any (y : Nat) (cl : Int) (G : List DG) (S : Nat → Prop) (w : World) (h : RB w y cl G S) (i : Int) :
    Calls Try.prog 43 #[.pointer (some ⟨y, 0, none⟩), .int .i64 i] w fun e w' => e = .returned (.int .i64 (doubleE G.length i)) ∧ NowR w w' y cl (doubleG G i) S := by
  have H := hd h
  obtain ⟨L, v, β, hK, hG⟩ := h
  have hl : G.length = L.length := by rw [← hG]; simp
  have HK := hd hK
  have HO := hd hK.old
  have HGG := hd hG
  have no : ∀ v, doubleE G.length i = v → v ≠ 0 → NowR w w y cl (doubleG G i) S := fun v h1 h2 => by
    rw [doubleG_no (by rw [h1]; exact h2)]
    exact NowR.same H.out
  have NO := hd no
  clear no
  by_cases hi : isAt L.length i
  · have hb : decide (¬ isAt L.length i) = false := decide_eq_false (by simpa using hi)
    obtain ⟨j, rfl⟩ : ∃ j : Nat, i = j := ⟨i.toNat, by have := hi.1; omega⟩
    have hj : j < L.length := by have := hi.2; omega
    obtain ⟨g0, cap, rfl, rfl, hc1, hc2, hgl0, x0, x1, x2, x3, hIB⟩ := hK.at j hj
    have cc1 := cell_row hK.net 1
    simp at cc1
    have hsh := hK.short _ (List.getElem_mem hj)
    have hgd : G.getD j zDG = L[j].d := by
      rw [← hG]
      simp [List.getD, List.getElem?_eq_getElem hj]
    have i3 : (j : Int) < (L.length : Int) := by omega
    by_cases hf2 : 2048 ≤ L.length
    · have R1 : Hid (doubleE G.length j = 73) := doubleE_lost (by omega) (by omega)
      have i2 : (2048 : Int) ≤ (L.length : Int) := by omega
      clear hK hG hl hi hj hIB hsh hgd x0 x1 x2 x3
      go_enter Try.func43, Try.ntmps43
      go_wp2_with fail
      refine (rnone_rk y cl L S _ _ w HK.out j).mono ?_
      rintro e w1 ⟨rfl, rfl⟩
      rw [hb]
      go_wp2
      go_ret
      exact ⟨by rw [R1.out]; rfl, NO.out _ R1.out (by decide)⟩
    · have R1 : Hid (doubleE G.length j = 0) := doubleE_ok (by omega) (by omega)
      have i2 : ¬ (2048 : Int) ≤ (L.length : Int) := by omega
      have HF := hd (show L.length < 2048 by omega)
      have R2 : Hid (doubleG G j = G ++ [L[j].d]) := by
        show _ = _
        rw [doubleG_yes R1.out, Int.toNat_natCast, hgd]
      have HIB := hd hIB
      have HSH := hd hsh
      clear hK hG hl hi hIB hsh hgd hf2
      generalize L[j] = it at *
      obtain ⟨⟨df, dt, db, ds⟩, ia, ic, ig⟩ := it
      simp only at x0 x1 x2 x3 HIB HSH R2
      go_enter Try.func43, Try.ntmps43
      go_wp2_with fail
      refine (rnone_rk y cl L S _ _ w HK.out j).mono ?_
      rintro e w1 ⟨rfl, rfl⟩
      rw [hb]
      clear hb
      go_wp2_with fail
      refine (rdup_any ⟨df, dt, db, ds⟩ ia _ ic w1 HIB.out (by have := HSH.out; omega)).mono ?_
      rintro e u ⟨g, rfl, hs, hgl, bu⟩
      have NU := HK.out.below bu
      obtain ⟨u2, hu2⟩ : ∃ u2, u2 = u.alloc (.cells #[.int .i64 df, .int .i64 dt, .slice (some ⟨g, 0, none⟩) db.length db.length, .bool ds] 37) := ⟨_, rfl⟩
      have b2 : Below u.heap.size u u2 := by rw [hu2]; exact (Below.refl _ _).alloc (Nat.le_refl _) _
      have r2 : u2.heap[u.heap.size]? = some (.cells #[.int .i64 df, .int .i64 dt, .slice (some ⟨g, 0, none⟩) db.length db.length, .bool ds] 37 (0, 0)) := by rw [hu2]; exact heap_alloc_new _ _
      have N2 := NU.below b2
      have s2 := SRow.fr hs (S := fun _ => False) (Fr.of_below b2) (fun _ _ h => h)
      obtain ⟨r0, r1, r3, r4⟩ := cells4 r2
      have c1 := cell_row N2.net 1
      simp at c1
      have hyl : y < u2.heap.size := block_lt N2.net
      have hul : u.heap.size < u2.heap.size := block_lt r2
      have HN := hd N2
      have HS2 := hd s2
      have HG := hd (And.intro hgl (bu.trans (b2.mono bu.size)))
      have HSO := hd N2.so
      have HNT := hd N2.net
      clear NU N2 s2 hs bu b2 r2 hgl
      go_wp2_with fail
      rw [← hu2]
      clear hu2
      go_region_law (refine step_pushD rfl (.tmp 27) (.tmp 29) rfl (.slice (some ⟨g0, 0, none⟩) L.length cap) u2.heap.size (by simp [Act.eval]) (by simp [Act.eval]) (some g0) L u2 (by repeat (first | exact Fr.refl _ _ | refine Fr.trans ?_ (Fr.alloc _ _ _) | refine Fr.trans ?_ (Fr.drew _ _) | refine Fr.trans ?_ (Fr.drewN _ _ _))) HSO.out ⟨⟨df, dt, db, ds⟩, some ⟨g, 0, none⟩, db.length, some g⟩ (heap_alloc_new _ _) y _ HNT.out (by have := HF.out; omega) ?_; intro a' c' w3 hP n3; have k1 := cell_row n3 1; simp at k1; have f1 := frozen_row n3 1; have PP := hd hP; clear hP n3)
      all_goals
        obtain ⟨W, hWW, hP⟩ := PP.out
        have R := hd (rpush_end (w := w1) (d := ⟨df, dt, db, ds⟩) HN.out HG.out.2 HO.out hWW hP HS2.out (fun q hq => by injection hq with hq; have := HG.out.1; omega) HSH.out HF.out)
        clear hWW hP
        go_wp2
        go_ret
        refine ⟨by rw [R1.out]; rfl, ?_⟩
        rw [R2.out, ← HGG.out]
        exact R.out
  · have hb : decide (¬ isAt L.length i) = true := decide_eq_true hi
    have R1 : Hid (doubleE G.length i = 74) := by show _ = _; unfold doubleE; rw [hl, if_neg hi]
    clear hK hG hl hi
    go_enter Try.func43, Try.ntmps43
    go_wp2_with fail
    refine (rnone_rk y cl L S _ _ w HK.out i).mono ?_
    rintro e w1 ⟨rfl, rfl⟩
    rw [hb]
    go_wp2
    go_ret
    exact ⟨by rw [R1.out]; rfl, NO.out _ R1.out (by decide)⟩

end Go.Proofs.Ytnglcnilckolkaa
