/-
  The document's inbox: Toss, Pop.
-/
import Derived.Test.YtpjnhjijipcjkaaRh
namespace Go.Proofs.Ytpjnhjijipcjkaa
open Go.RowKit
set_option linter.unusedVariables false

theorem fr_cells {w : World} {g n c : Nat} {L : List (Nat × Int)} (h : SF th 2 w 111 (some g) (.slice (some ⟨g, 0, none⟩) n c) L) (i : Nat) : ∀ j u, (cl th (L.drop i))[j]? = some u → w.cell? ((⟨g, i * 2, none⟩ : Addr).add j) = some u := by
  obtain ⟨cap, -, hR⟩ := h
  exact hR.cells sz_th i
theorem fr_cells0 {w : World} {g n c : Nat} {L : List (Nat × Int)} (h : SF th 2 w 111 (some g) (.slice (some ⟨g, 0, none⟩) n c) L) (i : Nat) : ∀ j u, (cl th (L.take i))[j]? = some u → w.cell? ((⟨g, 0, none⟩ : Addr).add j) = some u := by
  intro j u hj
  have := fr_cells h 0 j u
  rw [Nat.zero_mul] at this
  refine this ?_
  rw [List.drop_zero, ← hj, ← cl_take sz_th, List.getElem?_take]
  rw [← cl_take sz_th, List.getElem?_take] at hj
  split at hj
  · next h => rw [if_pos h]
  · cases hj

theorem itossE_of' {p : Ib} (h : p.hd = true) : itossE p = 0 := by rw [itossE, if_pos h]

set_option maxRecDepth 100000 in
set_option maxHeartbeats 4000000 in
theorem r_toss (x : Nat) (p : Rb) (S : Nat → Prop) (w : World) (h : RefAt w x p S) :
    Calls Try.prog 61 #[.pointer (some ⟨x, 0, none⟩)] w fun e w' => e = .returned (.int .i64 (itossE p.ib)) ∧ RNow w w' x (rtossS p) S := by
  have H0 := hd h
  obtain ⟨v, β, hK, hSx, hSβ, hS⟩ := h
  obtain ⟨a, c, rfl, hc1, hc2, hcell⟩ := rk_cells hK
  have c1 := cell_row hK.box 1
  have c2 := cell_row hK.box 2
  simp at c1 c2
  have hc := hK.ok.c2
  simp only [Rb.ib] at hc
  have hlen := hK.len
  have HK := hd hK
  have HS := hd (And.intro hSx (And.intro hSβ hS))
  have hw : IntKind.i64.wrap ((p.c : Int) + 1) = ((p.c + 1 : Nat) : Int) := by rw [IntKind.wrap_i64]; omega
  have CF : Hid (Calls Try.prog 66 #[.pointer (some ⟨x, 0, none⟩), .int .i64 ((p.c + 1 : Nat) : Int)] w fun e w' => e = .returned (.int .i64 (fZ p.L (p.c + 1))) ∧ w' = w) := r_find x (p.c + 1) p _ β w hK
  have hhd : p.ib.hd = decide (fN p.L (p.c + 1) < p.L.length) := has_iH _ _
  clear hSx hSβ hS hK
  by_cases hf : fN p.L (p.c + 1) < p.L.length
  · have hE : Hid (itossE p.ib = 0) := by show _ = _; rw [itossE, if_pos (by rw [hhd, decide_eq_true hf])]
    have e1 : fZ p.L (p.c + 1) = fN p.L (p.c + 1) := by rw [fZ, if_pos hf]
    obtain ⟨g, rfl, rfl, -⟩ := hcell _ hf
    rw [e1] at CF
    have hTS : Hid (rtossS p = { p with L := p.L.take (fN p.L (p.c + 1)) ++ p.L.drop (fN p.L (p.c + 1) + 1) }) := rfl
    have hTO : Hid (Ib.ok (Rb.ib { p with L := p.L.take (fN p.L (p.c + 1)) ++ p.L.drop (fN p.L (p.c + 1) + 1) })) := by
      have := itossS_ok HK.out.ok
      rw [← rtossS_ib HK.out.ok] at this
      exact this
    obtain ⟨i, hi⟩ : ∃ i, fN p.L (p.c + 1) = i := ⟨_, rfl⟩
    rw [hi] at CF hf hTS hTO
    obtain ⟨n, hn⟩ : ∃ n, p.L.length = n := ⟨_, rfl⟩
    have HN := hd hn
    -- the first append
    obtain ⟨v1, w1, hap1, hN1⟩ := push_th w none (.slice none 0 0) [] ⟨rfl, rfl⟩ ⟨g, 0, none⟩ i c (p.L.take i) (by simp; omega) (fr_cells0 HK.out.row i) (by simp; omega)
    obtain ⟨β1, s1, s2, s3⟩ := hN1
    rw [List.nil_append] at s1
    have F1 : Fr (fun _ => False) w w1 := s3.mono (fun k _ hk => by cases hk)
    have hK1 := HK.out.fr F1 (fun h => h) (fun _ _ h => h)
    have hB1 : RowKit.Below w.heap.size w w1 := F1.below (Nat.le_refl _) (fun k hk => hk.elim)
    -- the second
    have hsec : ∀ A cc, (n = i + 1 ∨ A = (⟨g, (i + 1) * 2, none⟩ : Addr)) → ∃ v2 w2, (∀ ty, (Builtin.append_ #[98, 98] ty #[v1, .slice (some A) (n - (i + 1)) cc]).run Try.prog w1 = .ok v2 w2) ∧ (∃ a' n' c', v2 = .slice a' n' c') ∧ w2.heap[x]? = some (.cells #[.int .i64 p.R, .int .i64 p.c, .slice (some ⟨g, 0, none⟩) p.L.length c] 100 (0, 0)) ∧ RNow w (w2.setCell ⟨x, 2, none⟩ v2) x (rtossS p) S := by
      intro A cc hA
      obtain ⟨v2, w2, hap2, hN2⟩ := push_th w1 β1 v1 (p.L.take i) s1 A (n - (i + 1)) cc (p.L.drop (i + 1)) (by simp; omega) (fun j u hj => by
        rcases hA with hA | rfl
        · rw [List.drop_eq_nil_of_le (by omega)] at hj
          simp [cl_nil] at hj
        · exact fr_cells hK1.row (i + 1) j u hj) (by simp; omega)
      obtain ⟨β2, t1, t2, t3⟩ := hN2
      have hβ1 : ∀ g', β1 = some g' → w.heap.size ≤ g' := fun g' hg' => by
        rcases s2 g' hg' with h | h
        · cases h
        · exact h
      have F2 : Fr (fun _ => False) w w2 := by
        refine ⟨t3.os.trans F1.os, t3.tape.trans F1.tape, t3.output.trans F1.output, Nat.le_trans F1.size t3.size, fun k hk _ => ?_⟩
        have hs := F1.size
        exact (t3.block k (by omega) (fun hb => by have := hβ1 k hb; omega)).trans (F1.block k hk (fun h => h))
      have hs := F1.size
      obtain ⟨r1, r2⟩ := r_left (w := w) HK.out (Below.refl _ _) HS.out.1 HS.out.2.1 HS.out.2.2 ⟨β2, t1, fun g' hg' => .inr (by
        rcases t2 g' hg' with h | h
        · exact hβ1 g' h
        · omega)⟩ (F2.mono (fun _ _ h => h.elim)) hTO.out
      refine ⟨v2, w2, hap2, ?_, r1, by rw [hTS.out]; exact r2⟩
      obtain ⟨a', c', e, -⟩ := t1.form
      exact ⟨a', _, c', e⟩
    obtain ⟨av1, nv1, cv1, rfl⟩ : ∃ a' n' c', v1 = .slice a' n' c' := by
      obtain ⟨a', c', e, -⟩ := s1.form
      exact ⟨a', _, c', e⟩
    have d2 : w1.cell? ⟨x, 2, none⟩ = some (.slice (some ⟨g, 0, none⟩) n c) := by
      have := cell_row hK1.box 2
      rw [hn] at this
      simpa using this
    have HSEC := hd hsec
    rw [hn] at c2 hc1 hf hlen
    have i1 : ¬ (i : Int) < 0 := by omega
    have b1 : i ≤ n := by omega
    have b2 : i ≤ c := by omega
    have b3 : (i : Int) ≤ (c : Int) := by omega
    have wi : IntKind.i64.wrap ((i : Int) + 1) = (i : Int) + 1 := by rw [IntKind.wrap_i64]; omega
    have wt : ((i : Int) + 1).toNat = i + 1 := by omega
    have b4 : i + 1 ≤ n := by omega
    have b5 : (i : Int) + 1 ≤ (n : Int) := by omega
    have b6 : (0 : Int) ≤ (i : Int) + 1 := by omega
    have b7 : i + 1 ≤ c := by omega
    by_cases hcc : c = i + 1
    · have hni : n = i + 1 := by omega
      obtain ⟨v2, w2, hap2, ⟨a', n', c', rfl⟩, hx2, hR⟩ := HSEC.out ⟨g, 0, none⟩ 0 (.inl hni)
      have f2 := frozen_row hx2 2
      have d3 := cell_row hx2 2
      simp at d3
      have Z := hd hR
      rw [show n - (i + 1) = 0 by omega] at hap2
      clear hni
      subst hcc
      clear hsec HSEC s1 s2 s3 F1 hK1 hB1 HK HS hcell hhd hn hi e1 hR hx2
      go_enter Try.func61, Try.ntmps61
      go_wp2_with fail
      refine CF.out.mono ?_
      rintro e w3 ⟨rfl, rfl⟩
      clear CF
      go_wp2_with (first | (at_builtin; refine wpList_append_k _ rfl _ _ 98 98 rfl _ _ rfl rfl (hap1 _) ?_; clear hap1) | (at_builtin; refine wpList_append_k _ rfl _ _ 98 98 rfl _ _ rfl rfl (hap2 _) ?_))
      go_ret
      rw [hE.out]
      exact ⟨rfl, Z.out⟩
    · obtain ⟨v2, w2, hap2, ⟨a', n', c', rfl⟩, hx2, hR⟩ := HSEC.out ⟨g, (i + 1) * 2, none⟩ (c - (i + 1)) (.inr rfl)
      have f2 := frozen_row hx2 2
      have d3 := cell_row hx2 2
      simp at d3
      have Z := hd hR
      clear hsec HSEC s1 s2 s3 F1 hK1 hB1 HK HS hcell hhd hn hi e1 hR hx2
      go_enter Try.func61, Try.ntmps61
      go_wp2_with fail
      refine CF.out.mono ?_
      rintro e w3 ⟨rfl, rfl⟩
      clear CF
      go_wp2_with (first | (at_builtin; refine wpList_append_k _ rfl _ _ 98 98 rfl _ _ rfl rfl (hap1 _) ?_; clear hap1) | (at_builtin; refine wpList_append_k _ rfl _ _ 98 98 rfl _ _ rfl rfl (hap2 _) ?_))
      go_ret
      rw [hE.out]
      exact ⟨rfl, Z.out⟩
  · have hE : Hid (itossE p.ib = 94) := by show _ = _; rw [itossE, if_neg (by rw [hhd, decide_eq_false hf]; simp)]
    have e1 : fZ p.L (p.c + 1) = -1 := by rw [fZ, if_neg hf]
    have hTS : Hid (rtossS p = p) := by
      show _ = _
      unfold rtossS cutL
      rw [List.take_of_length_le (by omega), List.drop_eq_nil_of_le (by omega), List.append_nil]
    rw [e1] at CF
    clear HK HS hcell hhd e1 hf
    go_enter Try.func61, Try.ntmps61
    go_wp2_with fail
    refine CF.out.mono ?_
    rintro e w1 ⟨rfl, rfl⟩
    clear CF
    go_wp2_with fail
    go_ret
    rw [hE.out, hTS.out]
    exact ⟨rfl, S, H0.out, fun k hk => .inl hk, Fr.refl _ _⟩

set_option maxHeartbeats 1000000 in
theorem r_pop (x : Nat) (p : Rb) (S : Nat → Prop) (w : World) (h : RefAt w x p S) :
    Calls Try.prog 59 #[.pointer (some ⟨x, 0, none⟩)] w fun e w' => e = .returned (.int .i64 (itossE p.ib)) ∧ RNow w w' x (rpopS p) S := by
  have H0 := hd h
  have HO : Hid p.ib.ok := by obtain ⟨v, β, hK, -⟩ := h; exact hK.ok
  have hc : p.c ≤ 4096 := HO.out.c2
  clear h
  go_enter Try.func59, Try.ntmps59
  go_wp2_with fail
  refine (r_toss x p S w H0.out).mono ?_
  rintro e w1 ⟨rfl, h1⟩
  cases hh : p.ib.hd
  · have hE : itossE p.ib = 94 := by rw [itossE, if_neg (by rw [hh]; simp)]
    have hT : Hid (rpopS p = p) := by show _ = _; rw [rpopS, if_neg (by rw [hh]; simp)]
    have hS : rtossS p = p := by
      have hf : ¬ fN p.L (p.c + 1) < p.L.length := by
        have := has_iH p.L (p.c + 1)
        rw [show hasK (iH p.L) (p.c + 1) = false from hh] at this
        simpa using this
      unfold rtossS cutL
      rw [List.take_of_length_le (by omega), List.drop_eq_nil_of_le (by omega), List.append_nil]
    rw [hS] at h1
    have Z := hd h1
    have QE := hd hE
    rw [hE]
    clear h1 hE hS
    go_wp2_with fail
    go_ret
    rw [hT.out, QE.out]
    exact ⟨rfl, Z.out⟩
  · have hE : itossE p.ib = 0 := itossE_of' hh
    obtain ⟨S', ⟨v, β, hK, hSx, hSβ, hS⟩, h2, hF⟩ := h1
    have c1 := cell_row hK.box 1
    have f1 := frozen_row hK.box 1
    have Z : Hid (RNow w (w1.setCell ⟨x, 1, none⟩ (.int .i64 ((p.c : Int) + 1))) x (rpopS p) S) := by
      have F2 : Fr (· = x) w1 (w1.setCell ⟨x, 1, none⟩ (.int .i64 ((p.c : Int) + 1))) := Fr.setCell _ _ _ rfl
      have hbx := set_row hK.box 1 (.int .i64 ((p.c : Int) + 1))
      have hP : rpopS p = { rtossS p with c := p.c + 1 } := by rw [rpopS, if_pos hh]; rfl
      have hok := ipopS_ok HO.out
      rw [← rpopS_ib HO.out, hP] at hok
      rw [hP]
      refine ⟨S', ⟨v, β, ⟨?_, hK.row.fr F2 (fun g hg e => hK.x_ne (by rw [hg, e])), hok⟩, hSx, hSβ, fun k hk => Nat.lt_of_lt_of_le (hS k hk) F2.size⟩, h2, ?_⟩
      · simpa [rtossS] using hbx
      · refine hF.next F2 (fun k hk hkx => ?_)
        rw [hkx] at hk ⊢
        rcases h2 x hSx with h | h
        · exact h
        · omega
    have hc1 : w1.cell? ⟨x, 1, none⟩ = some (.int .i64 p.c) := by simpa [rtossS] using c1
    have QE := hd hE
    rw [hE]
    generalize p.c = c at hc1 hc Z
    clear hK hSx hSβ hS hF hE c1 h2
    go_wp2_with fail
    go_ret
    rw [QE.out]
    exact ⟨rfl, Z.out⟩

end Go.Proofs.Ytpjnhjijipcjkaa
