/-
  Double, Deliver.
-/
import Derived.Test.YtnglcnilckolkaaNh
namespace Go.Proofs.Ytnglcnilckolkaa
open Go.RowKit Go.Maps
set_option linter.unusedVariables false

theorem Now.from {w u w' : World} {x : Nat} {cl : Int} {G : List DG} {nx : Nat} {S : Nat → Prop} (h : Now u w' x cl G nx S) (hF : Fr (fun _ => False) w u) : Now w w' x cl G nx S := by
  obtain ⟨S', h1, h2, h3⟩ := h
  have := hF.size
  exact ⟨S', h1, fun k hk => (h2 k hk).imp id (fun h => by omega), (hF.mono (fun k _ h => h.elim)).trans h3⟩

def zDG : DG := ⟨0, 0, [], false⟩
def doubleG (G : List DG) (i : Int) : List DG := if doubleE G.length i = 0 then G ++ [G.getD i.toNat zDG] else G
theorem doubleG_no {G : List DG} {i : Int} (h : doubleE G.length i ≠ 0) : doubleG G i = G := by simp [doubleG, h]
theorem doubleG_yes {G : List DG} {i : Int} (h : doubleE G.length i = 0) : doubleG G i = G ++ [G.getD i.toNat zDG] := by simp [doubleG, h]

set_option maxRecDepth 100000 in
set_option maxHeartbeats 4000000 in
theorem double_any (x : Nat) (cl : Int) (G : List DG) (B : Nat) (S : Nat → Prop) (w : World) (h : NB w x cl G B S) (hB : B < 1000000000) (i : Int) :
    Calls Try.prog 15 #[.pointer (some ⟨x, 0, none⟩), .int .i64 i] w fun e w' => e = .returned (.int .i64 (doubleE G.length i)) ∧ NowB w w' x cl (doubleG G i) (B + 1) S := by
  have H := hd h
  obtain ⟨nx, hnx, E, bm, va, β, hN, hG⟩ := h
  have hl : G.length = E.length := by rw [← hG]; simp
  have HN := hd hN
  have HX := hd hnx
  by_cases hi : isAt E.length i
  · by_cases hf : 2048 ≤ E.length
    · have R1 : Hid (doubleE G.length i = 73) := by show _ = _; unfold doubleE; rw [hl, if_pos hi, if_pos hf]
      have hb : decide (0 ≤ i ∧ i < E.length) = true := decide_eq_true hi
      clear hN hG hl hnx hi
      go_enter Try.func15, Try.ntmps15
      go_wp2_with fail
      refine (has_nk x cl E nx S bm va β w HN.out i).mono ?_
      rintro e w1 ⟨rfl, rfl⟩
      rw [hb]
      clear hb
      go_wp2_with fail
      refine (full_nk x cl E nx S bm va β w1 HN.out).mono ?_
      rintro e w2 ⟨rfl, rfl⟩
      rw [decide_eq_true hf]
      go_wp2
      go_ret
      exact ⟨by rw [R1.out]; rfl, by rw [doubleG_no (by rw [R1.out]; decide)]; exact NowB.same H.out (by omega)⟩
    · have R1 : Hid (doubleE G.length i = 0) := by show _ = _; unfold doubleE; rw [hl, if_pos hi, if_neg hf]
      have hb : decide (0 ≤ i ∧ i < E.length) = true := decide_eq_true hi
      obtain ⟨j, rfl⟩ : ∃ j : Nat, i = j := ⟨i.toNat, by have := hi.1; omega⟩
      have hj : j < E.length := by have := hi.2; omega
      obtain ⟨E1, e, E2, rfl, rfl⟩ := split_at E j hj
      have hg : G.getD E1.length zDG = e.d := by
        rw [← hG, List.map_append, List.map_cons]
        simp [List.getD]
      obtain ⟨g, cap, rfl, rfl, ca, hc1, hc2, hc3⟩ := hN.at
      have hme : e ∈ E1 ++ e :: E2 := by simp
      obtain ⟨a, c, hv, hIB⟩ := (hN.rows e hme).isB
      have hs := hN.short e hme
      have PT : Hid (∀ U, Fr (fun _ => False) w U → Calls Try.prog 34 #[.pointer (some ⟨x, 0, none⟩), .agg #[.int .i64 e.d.f, .int .i64 e.d.t, .slice a e.d.b.length c, .bool e.d.s]] U fun ex w' => ex = .returned (.tuple #[]) ∧ NowB w w' x cl (G ++ [e.d]) (B + 1) S) := by
        intro U hU
        refine (put_nk x cl _ nx S bm _ _ U (hN.fr hU (fun _ _ h => h)) e.d a _ c (hIB.fr hU (fun _ _ _ _ h => h)) hs (by omega) (by omega)).mono ?_
        rintro ex w' ⟨rfl, h⟩
        rw [hG] at h
        exact ⟨rfl, (h.from hU).b (by omega)⟩
      have hin : Hid ((e.age, Value.agg #[.int .i64 e.d.f, .int .i64 e.d.t, .slice a e.d.b.length c, .bool e.d.s]) ∈ (E1 ++ e :: E2).map fun e => (e.age, e.val)) := by
        refine List.mem_map.2 ⟨e, hme, ?_⟩
        simp [En.val, dgv, hv]
      have lk1 := (hN.mp.fr (S := fun _ => False) (Fr.drew _ w) (fun h => h)).look hin.out
      have lk2 := fun m => (hN.mp.fr (S := fun _ => False) (Fr.drewN _ w m) (fun h => h)).look hin.out
      have c1 := cell_row hN.net 1
      have c2 := cell_row hN.net 2
      simp at c1 c2
      have hlt : (E1.length : Int) < (E1.length : Int) + (E2.length : Int) + 1 := by omega
      have R2 := hd hg
      obtain ⟨i0, hi0⟩ : ∃ i0, E1.length = i0 := ⟨_, rfl⟩
      obtain ⟨m0, hm0⟩ : ∃ m0, E1.length + E2.length = m0 := ⟨_, rfl⟩
      rw [hm0] at c2 hc2 hc3
      rw [hi0] at ca hb R1 R2 ⊢
      have hlt : (i0 : Int) < (m0 : Int) + 1 := by omega
      have hi1 : i0 < m0 + 1 := by omega
      clear hN hG hl hnx hi hj hg hv hIB hs hme hi0 hm0
      go_enter Try.func15, Try.ntmps15
      go_wp2_with fail
      refine (has_nk x cl _ nx S bm _ _ w HN.out i0).mono ?_
      rintro ex w1 ⟨rfl, rfl⟩
      rw [hb]
      clear hb
      go_wp2_with fail
      refine (full_nk x cl _ nx S bm _ _ w1 HN.out).mono ?_
      rintro ex w2 ⟨rfl, rfl⟩
      rw [decide_eq_false hf]
      clear hf
      go_wp2_with fail
      go_region_law (first | (go_simp; go_at_call 34; refine (PT.out _ (by repeat (first | exact Fr.refl _ _ | refine Fr.trans ?_ (Fr.drew _ _) | refine Fr.trans ?_ (Fr.drewN _ _ _)))).mono ?_; rintro ex w3 ⟨rfl, hw⟩; have R := hd hw; clear hw))
      all_goals
        go_wp2
        go_ret
        refine ⟨by rw [R1.out]; rfl, ?_⟩
        rw [doubleG_yes R1.out, Int.toNat_natCast, R2.out]
        exact R.out
  · have R1 : Hid (doubleE G.length i = 74) := by show _ = _; unfold doubleE; rw [hl, if_neg hi]
    have hb : decide (0 ≤ i ∧ i < E.length) = false := decide_eq_false hi
    clear hN hG hl hnx hi
    go_enter Try.func15, Try.ntmps15
    go_wp2_with fail
    refine (has_nk x cl E nx S bm va β w HN.out i).mono ?_
    rintro e w1 ⟨rfl, rfl⟩
    rw [hb]
    go_wp2
    go_ret
    exact ⟨by rw [R1.out]; rfl, by rw [doubleG_no (by rw [R1.out]; decide)]; exact NowB.same H.out (by omega)⟩

end Go.Proofs.Ytnglcnilckolkaa
