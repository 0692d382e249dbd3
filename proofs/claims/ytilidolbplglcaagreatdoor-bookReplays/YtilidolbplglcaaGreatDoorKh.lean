/-
  The program's check.
-/
import Derived.Test.YtilidolbplglcaaGreatDoorKf
import Derived.Test.YtilidolbplglcaaGreatDoorMKe
import Derived.Test.YtilidolbplglcaaGreatDoorVb
namespace Go.Proofs.YtilidolbplglcaaGreatDoor
open Go.RowKit
set_option linter.unusedVariables false

section
variable {w0 w : World} {o b : Nat} {cs : Array Value} {E M : List Ed} {D : List OpE} {S : List Int} {vs vE vD : Value} {βs βE βD : Option Nat} {K : Nat → Prop} {x : Nat → Nat} {ls : Nat → Int} {F : Nat → Thg}
theorem epoch_any (hX : OX w o b cs E D M S vs vE vD βs βE βD) : Calls Tryz.prog 43 #[.pointer (some ⟨o, 0, none⟩)] w fun r w' => r = .returned (.int .i64 (S.length : Int)) ∧ w' = w := by
  obtain ⟨c0, -, -, -, lo⟩ := hX.cells
  obtain ⟨a, c, e, -⟩ := hX.s.form
  rw [e] at c0
  clear hX e
  go_enter Tryz.func43, Tryz.ntmps43
  go_wp2_with fail
  go_ret
  exact ⟨rfl, rfl⟩
theorem wrs {s : Int} (h : 0 ≤ s ∧ s ≤ 64) : wrap64 (s + 1) = s + 1 := by rw [wrap64]; omega
theorem ne0 {n : Nat} (h : 0 < n) : ((n : Int) == 0) = false := by simp; omega
set_option maxRecDepth 100000 in
set_option maxHeartbeats 8000000 in
theorem check_any (hX : OX w o b cs E D E S vs vE vD βs βE βD) (hC : OC w0 w K E D cs x ls F) (hJ : BJ E D) (hQ : BQ E) (hS : 0 < S.length) (e : Ed) (hch : OkOp e.o) :
    Calls Tryz.prog 35 #[.pointer (some ⟨o, 0, none⟩), .agg #[.int .i64 e.tag, .int .i64 e.o.kind, .int .i64 e.o.pos, .int .u8 e.o.ch, .int .i64 e.o.cl, .int .i64 e.o.sq]] w fun r w' => r = .returned (.int .i64 (chkP E D e)) ∧ Below w.heap.size w w' := by
  obtain ⟨r, hr⟩ : ∃ r, chkP E D e = r := ⟨_, rfl⟩
  rw [hr]
  have HR := hd hr
  have hb96 := hJ.b.bound
  have hlen := hJ.b.len
  have hvp : validP e.o = 0 → 1 ≤ e.o.cl ∧ e.o.cl ≤ 64 := fun v => by
    unfold validP at v
    split at v
    · omega
    · split at v
      · omega
      · rename_i a
        simp [inR] at a
        omega
  have CLe := hd (fun (u : World) (hu : Below w.heap.size w u) (v : validP e.o = 0) (t1 : (laP e.o.cl E).2 ≤ e.tag) (t2 : e.tag ≤ E.length) => by
    obtain ⟨v1, v2⟩ := hvp v
    obtain ⟨c, hc⟩ : ∃ c : Nat, e.o.cl = (c : Int) := ⟨e.o.cl.toNat, by omega⟩
    have h3 := (hJ.b.seq e.o.cl).2.2
    obtain ⟨t, ht⟩ : ∃ t : Nat, e.tag = (t : Int) := ⟨e.tag.toNat, by omega⟩
    have key : Calls Tryz.prog 46 #[.pointer (some ⟨o, 0, none⟩), .int .i64 e.o.cl, .int .i64 e.tag] u fun r w' => r = .returned (.int .i64 (lnP E D e)) ∧ Below u.heap.size u w' := by
      rw [ht]
      by_cases h0 : cnP e.o.cl E = 0
      · rw [lnP_none hlen h0 ht, hc]
        exact length_none (hX.below hu) (hC.below hu) (by omega) (by omega) (by omega) (by rw [← hc]; exact h0)
      · rw [lnP_some, ht, hc]
        exact length_some (hX.below hu) (hC.below hu) (by omega) (by omega) (by rw [← hc]; exact h0)
    exact key)
  have CLa := hd (fun (u : World) (hu : Below w.heap.size w u) (v : validP e.o = 0) => by
    have hX2 := hX.below hu
    obtain ⟨-, k1, -, k3, -⟩ := hX2.cells
    obtain ⟨aE, cE, e1, hL⟩ := hX2.e.isL
    rw [e1] at k1
    have h3 := hJ.b.seq e.o.cl
    exact plast_any k1 k3 hL hX2.m hQ e.o.cl (by have := hvp v; omega) h3.2.1 hb96 h3.1)
  have CEp := hd (fun (u : World) (hu : Below w.heap.size w u) => epoch_any (hX.below hu))
  have CV := hd (fun W => valid_any e.o.kind e.o.pos e.o.ch e.o.cl e.o.sq W hch.1 hch.2)
  have CF := hd (fun W => fits_any (lnP E D e) e.o.kind e.o.pos e.o.ch e.o.cl e.o.sq W hch.1 hch.2)
  have hsq := hJ.b.seq e.o.cl
  have hsl : 0 ≤ (laP e.o.cl E).1 ∧ (laP e.o.cl E).1 ≤ 64 := ⟨by omega, by omega⟩
  have hs0 := ne0 hS
  obtain ⟨n, hn⟩ : ∃ n, E.length = n := ⟨_, rfl⟩
  rw [hn] at hb96
  obtain ⟨aE, cE, hvE⟩ : ∃ aE cE, vE = .slice aE n cE := by
    obtain ⟨a, c, h1, -⟩ := hX.e.form
    rw [hn] at h1
    exact ⟨a, c, h1⟩
  have CL : Hid (∀ u, Below w.heap.size w u → u.cell? ⟨o, 1, none⟩ = some (.slice aE n cE) ∧ o < u.heap.size) := fun u hu => by
    obtain ⟨-, c1, -, -, c4⟩ := (hX.below hu).cells
    rw [hvE] at c1
    exact ⟨c1, c4⟩
  obtain ⟨et, ⟨ek, ep, ec, el, es⟩⟩ := e
  simp only at *
  have hb : Below w.heap.size w (w.alloc (.cells #[.int .i64 et, .int .i64 ek, .int .i64 ep, .int .u8 ec, .int .i64 el, .int .i64 es] 48)) := (Below.refl _ _).alloc (Nat.le_refl _) _
  have HBX := hd (heap_alloc_new w (.cells #[.int .i64 et, .int .i64 ek, .int .i64 ep, .int .u8 ec, .int .i64 el, .int .i64 es] 48))
  have HB := hd hb
  obtain ⟨la, hls⟩ : ∃ z, (laP el E).1 = z := ⟨_, rfl⟩
  obtain ⟨lt, hlt⟩ : ∃ z, (laP el E).2 = z := ⟨_, rfl⟩
  obtain ⟨ln, hln⟩ : ∃ z, lnP E D ⟨et, ⟨ek, ep, ec, el, es⟩⟩ = z := ⟨_, rfl⟩
  obtain ⟨fv, hfv⟩ : ∃ z, fitsP ln ⟨ek, ep, ec, el, es⟩ = z := ⟨_, rfl⟩
  obtain ⟨va, hva⟩ : ∃ z, validP ⟨ek, ep, ec, el, es⟩ = z := ⟨_, rfl⟩
  have HRR : Hid ((if va ≠ 0 then va else if ek = 0 then 122 else if es ≤ la then 128 else if la + 1 < es then 120 else if et < lt ∨ (n : Int) < et then 121 else if fv ≠ 0 then 123 else 0) = r) := by
    have h1 := HR.out
    unfold chkP at h1
    simp only [hls, hlt, hln, hfv, hva, hn] at h1
    exact h1
  rw [hls] at hsl
  simp only [hls, hlt, hln, hfv, hva] at CLe CLa CV CF
  rw [hn] at CLe
  have CB : Hid (∀ u, Below (w.heap.size + 1) (w.alloc (.cells #[.int .i64 et, .int .i64 ek, .int .i64 ep, .int .u8 ec, .int .i64 el, .int .i64 es] 48)) u → u.cell? ⟨w.heap.size, 0, none⟩ = some (.int .i64 et) ∧ u.cell? ⟨w.heap.size, 1, none⟩ = some (.int .i64 ek) ∧ u.cell? ⟨w.heap.size, 2, none⟩ = some (.int .i64 ep) ∧ u.cell? ⟨w.heap.size, 3, none⟩ = some (.int .u8 ec) ∧ u.cell? ⟨w.heap.size, 4, none⟩ = some (.int .i64 el) ∧ u.cell? ⟨w.heap.size, 5, none⟩ = some (.int .i64 es)) := fun u hu =>
    edCells ((hu.block _ (Nat.lt_succ_self _)).trans HBX.out)
  generalize (S.length : Int) = sl at *
  clear hX hC hJ hQ hS hch hr HR hb hls hlt hln hfv hva HBX hn hvE hsq hvp hlen
  go_enter Tryz.func35, Tryz.ntmps35
  go_upto_region 1 with fail
  have hs1 : (w.alloc (.cells #[.int .i64 et, .int .i64 ek, .int .i64 ep, .int .u8 ec, .int .i64 el, .int .i64 es] 48)).heap.size = w.heap.size + 1 := by simp
  have HS1 := hd hs1
  clear hs1
  generalize w.alloc (.cells #[.int .i64 et, .int .i64 ek, .int .i64 ep, .int .u8 ec, .int .i64 el, .int .i64 es] 48) = w1 at *
  obtain ⟨c1, lo⟩ := CL.out w1 HB.out
  obtain ⟨d0, d1, d2, d3, d4, d5⟩ := CB.out w1 (Below.refl _ _)
  have CEp1 := hd (CEp.out w1 HB.out)
  clear CEp
  go_upto_region 3 with (go_at_call 43; refine CEp1.out.mono ?_; rintro e1 u ⟨rfl, hu⟩; obtain rfl := hu.symm)
  clear CEp1
  go_upto_region 4 with (go_at_call 44; refine (CV.out _).mono ?_; rintro e1 u ⟨rfl, bu⟩)
  have BU : Hid (Below w.heap.size w u ∧ Below (w.heap.size + 1) w1 u) := ⟨HB.out.trans (bu.mono HB.out.size), bu.mono (Nat.le_of_eq HS1.out.symm)⟩
  clear bu c1 lo d0 d1 d2 d3 d4 d5
  obtain ⟨c1, lo⟩ := CL.out u BU.out.1
  obtain ⟨d0, d1, d2, d3, d4, d5⟩ := CB.out u BU.out.2
  by_cases h1 : va = 0
  · subst h1
    rw [if_neg (by simp)] at HRR
    have CLa2 := hd (CLa.out u BU.out.1 rfl)
    go_upto_region 7 with (go_at_call 45; refine CLa2.out.mono ?_; rintro e1 u2 ⟨rfl, bu⟩)
    have BU2 : Hid (Below w.heap.size w u2 ∧ Below (w.heap.size + 1) w1 u2) := ⟨BU.out.1.trans (bu.mono BU.out.1.size), BU.out.2.trans (bu.mono (Nat.le_trans (Nat.le_of_eq HS1.out.symm) BU.out.2.size))⟩
    clear bu c1 lo d0 d1 d2 d3 d4 d5 CLa2 CLa
    obtain ⟨c1, lo⟩ := CL.out u2 BU2.out.1
    obtain ⟨d0, d1, d2, d3, d4, d5⟩ := CB.out u2 BU2.out.2
    have hw := wrs hsl
    by_cases h2 : ek = 0
    · subst h2
      have Z : Hid ((122 : Int) = r) := by
        have h := HRR.out
        rw [if_pos rfl] at h
        exact h
      go_wp2_with fail
      go_ret
      exact ⟨by rw [← Z.out]; rfl, BU2.out.1⟩
    · have e2 : (ek == 0) = false := by simpa using h2
      rw [if_neg h2] at HRR
      by_cases h3 : es ≤ la
      · have Z : Hid ((128 : Int) = r) := by
          have h := HRR.out
          rw [if_pos h3] at h
          exact h
        go_wp2_with fail
        go_ret
        exact ⟨by rw [← Z.out]; rfl, BU2.out.1⟩
      · rw [if_neg h3] at HRR
        by_cases h4 : la + 1 < es
        · have Z : Hid ((120 : Int) = r) := by
            have h := HRR.out
            rw [if_pos h4] at h
            exact h
          go_wp2_with fail
          go_ret
          exact ⟨by rw [← Z.out]; rfl, BU2.out.1⟩
        · rw [if_neg h4] at HRR
          by_cases h5 : et < lt
          · have Z : Hid ((121 : Int) = r) := by
              have h := HRR.out
              rw [if_pos (.inl h5)] at h
              exact h
            go_wp2_with fail
            go_quiet (fail)
            go_wp2
            go_ret
            exact ⟨by rw [← Z.out]; rfl, below_drewN BU2.out.1 _⟩
          · by_cases h6 : (n : Int) < et
            · have Z : Hid ((121 : Int) = r) := by
                have h := HRR.out
                rw [if_pos (.inr h6)] at h
                exact h
              go_wp2_with fail
              go_quiet (fail)
              go_wp2
              go_ret
              exact ⟨by rw [← Z.out]; rfl, below_drewN BU2.out.1 _⟩
            · rw [if_neg (fun h => h.elim h5 h6)] at HRR
              go_wp2_with fail
              go_quiet (fail)
              rename_i nq
              have BU3 : Hid (Below w.heap.size w (u2.drewN nq) ∧ Below (w.heap.size + 1) w1 (u2.drewN nq)) := ⟨below_drewN BU2.out.1 _, below_drewN BU2.out.2 _⟩
              have C2 := hd (fun U (hU : Below w.heap.size w U) => CLe.out U hU (by first | rfl | trivial) (by omega) (by omega))
              clear CLe c1 lo d0 d1 d2 d3 d4 d5 BU2 BU CV
              generalize u2.drewN nq = u3 at *
              obtain ⟨d0, d1, d2, d3, d4, d5⟩ := CB.out u3 BU3.out.2
              have C3 : Hid (∀ U, Below u3.heap.size u3 U → Calls Tryz.prog 46 #[.pointer (some ⟨o, 0, none⟩), .int .i64 el, .int .i64 et] U fun r w' => r = .returned (.int .i64 ln) ∧ Below w.heap.size w w' ∧ Below (w.heap.size + 1) w1 w') := fun U hU => by
                have k1 := BU3.out.1.trans (hU.mono BU3.out.1.size)
                have k2 := BU3.out.2.trans (hU.mono (Nat.le_trans (Nat.le_of_eq HS1.out.symm) BU3.out.2.size))
                refine (C2.out U k1).mono ?_
                rintro e4 u4 ⟨rfl, b4⟩
                exact ⟨rfl, k1.trans (b4.mono k1.size), k2.trans (b4.mono (Nat.le_trans (Nat.le_of_eq HS1.out.symm) k2.size))⟩
              clear C2
              obtain ⟨-, lo⟩ := CL.out u3 BU3.out.1
              go_upto_region 15 with fail
              by_cases h7 : fv = 0
              · have Z : Hid ((0 : Int) = r) := by
                  have h := HRR.out
                  rw [if_neg (fun h => h h7)] at h
                  exact h
                subst h7
                clear HRR
                go_region_law (first | (go_simp; go_at_call 46; refine (C3.out _ (by repeat (first | exact Below.refl _ _ | refine Below.drew ?_ | refine below_drewN ?_ _))).mono ?_; rintro e4 u4 ⟨rfl, B4a, B4b⟩; have B4 := hd (And.intro B4a B4b); clear B4a B4b; obtain ⟨f0, f1, f2, f3, f4, f5⟩ := CB.out u4 B4.out.2) | (go_simp; go_at_call 41; refine (CF.out _).mono ?_; rintro e5 u5 ⟨rfl, b5⟩; have B5 := hd (B4.out.1.trans (b5.mono B4.out.1.size)); clear b5))
                all_goals go_wp2
                all_goals go_ret
                all_goals exact ⟨by rw [← Z.out]; rfl, B5.out⟩
              · have Z : Hid ((123 : Int) = r) := by
                  have h := HRR.out
                  rw [if_pos h7] at h
                  exact h
                have e7 : (fv == 0) = false := by simpa using h7
                clear HRR
                go_region_law (first | (go_simp; go_at_call 46; refine (C3.out _ (by repeat (first | exact Below.refl _ _ | refine Below.drew ?_ | refine below_drewN ?_ _))).mono ?_; rintro e4 u4 ⟨rfl, B4a, B4b⟩; have B4 := hd (And.intro B4a B4b); clear B4a B4b; obtain ⟨f0, f1, f2, f3, f4, f5⟩ := CB.out u4 B4.out.2) | (go_simp; go_at_call 41; refine (CF.out _).mono ?_; rintro e5 u5 ⟨rfl, b5⟩; have B5 := hd (B4.out.1.trans (b5.mono B4.out.1.size)); clear b5))
                all_goals go_wp2
                all_goals go_ret
                all_goals exact ⟨by rw [← Z.out]; rfl, B5.out⟩
  · have Z : Hid (va = r) := by
      have h := HRR.out
      rw [if_pos h1] at h
      exact h
    have e1 : (va == 0) = false := by simpa using h1
    clear HRR
    go_wp2_with fail
    go_ret
    exact ⟨by rw [← Z.out]; rfl, BU.out.1⟩
end

end Go.Proofs.YtilidolbplglcaaGreatDoor
