/-
  The document's Check.
-/
import Derived.Test.YtilidolbplglcaaGreatDoorDd
import Derived.Test.YtilidolbplglcaaGreatDoorVc
namespace Go.Proofs.YtilidolbplglcaaGreatDoor
open Go.RowKit
set_option linter.unusedVariables false

section
variable {w : World} {x : Nat} {aE aD aN : Option Addr} {cE cD cN : Nat} {vK : Value} {E : List Ed} {D : List OpE}
set_option maxRecDepth 100000 in
set_option maxHeartbeats 8000000 in
theorem bcheck_any (h : RBr w x aE aD aN cE cD cN vK E D) (hJ : BJ E D) (e : Ed) :
    Calls Tryz.prog 17 #[.pointer (some ⟨x, 0, none⟩), .agg #[.int .i64 e.tag, .int .i64 e.o.kind, .int .i64 e.o.pos, .int .u8 e.o.ch, .int .i64 e.o.cl, .int .i64 e.o.sq]] w fun r w' => r = .returned (.int .i64 (chkP E D e)) ∧ Below w.heap.size w w' := by
  obtain ⟨r, hr⟩ : ∃ r, chkP E D e = r := ⟨_, rfl⟩
  rw [hr]
  have HR := hd hr
  have CLf := hd (fun (u : World) (hu : Below w.heap.size w u) (t1 : (laP e.o.cl E).2 ≤ e.tag) (t2 : e.tag ≤ E.length) => life_any (h.below hu) hJ e t1 t2)
  have CLa := hd (fun (u : World) (hu : Below w.heap.size w u) => rlast_any (h.below hu) e.o.cl)
  have CV := hd (fun W => rvalid_any e.o.kind e.o.pos e.o.ch e.o.cl e.o.sq W)
  have CF := hd (fun W => rfits_any (lnP E D e) e.o.kind e.o.pos e.o.ch e.o.cl e.o.sq W)
  have hsq := hJ.b.seq e.o.cl
  have hsl : 0 ≤ (laP e.o.cl E).1 ∧ (laP e.o.cl E).1 ≤ 64 := ⟨by omega, by omega⟩
  have hR0 := hd h
  obtain ⟨n, hn⟩ : ∃ n, E.length = n := ⟨_, rfl⟩
  have hn96 : n ≤ 4096 := by have := h.b; omega
  obtain ⟨et, ⟨ek, ep, ec, el, es⟩⟩ := e
  simp only at *
  have hb : Below w.heap.size w (w.alloc (.cells #[.int .i64 et, .int .i64 ek, .int .i64 ep, .int .u8 ec, .int .i64 el, .int .i64 es] 48)) := (Below.refl _ _).alloc (Nat.le_refl _) _
  have HBX := hd (heap_alloc_new w (.cells #[.int .i64 et, .int .i64 ek, .int .i64 ep, .int .u8 ec, .int .i64 el, .int .i64 es] 48))
  have HB := hd hb
  obtain ⟨ls, hls⟩ : ∃ z, (laP el E).1 = z := ⟨_, rfl⟩
  obtain ⟨lt, hlt⟩ : ∃ z, (laP el E).2 = z := ⟨_, rfl⟩
  obtain ⟨ln, hln⟩ : ∃ z, lnP E D ⟨et, ⟨ek, ep, ec, el, es⟩⟩ = z := ⟨_, rfl⟩
  obtain ⟨fv, hfv⟩ : ∃ z, fitsP ln ⟨ek, ep, ec, el, es⟩ = z := ⟨_, rfl⟩
  obtain ⟨va, hva⟩ : ∃ z, validP ⟨ek, ep, ec, el, es⟩ = z := ⟨_, rfl⟩
  obtain ⟨⟨dk, dp, dc, dl, ds⟩, hdn⟩ : ∃ z, dnP E D ⟨et, ⟨ek, ep, ec, el, es⟩⟩ = z := ⟨_, rfl⟩
  have HRR : Hid ((if va ≠ 0 then va else if ek = 0 then 122 else if es ≤ ls then 128 else if ls + 1 < es then 120 else if et < lt ∨ (n : Int) < et then 121 else if fv ≠ 0 then 123 else 0) = r) := by
    have h1 := HR.out
    unfold chkP at h1
    simp only [hls, hlt, hln, hfv, hva, hn] at h1
    exact h1
  rw [hls] at hsl
  simp only [hls, hlt, hln, hfv, hva, hdn, OpE.val] at CLf CLa CV CF
  rw [hn] at CLf
  have CL : Hid (∀ u, Below w.heap.size w u → u.cell? ⟨x, 1, none⟩ = some (.slice aE n cE) ∧ u.cell? ⟨x, 5, none⟩ = some (.int .i64 1)) := fun u hu => by
    obtain ⟨c1, -, -, c4⟩ := (hR0.out.below hu).cells
    rw [hn] at c1
    exact ⟨c1, c4⟩
  have CB : Hid (∀ u, Below (w.heap.size + 1) (w.alloc (.cells #[.int .i64 et, .int .i64 ek, .int .i64 ep, .int .u8 ec, .int .i64 el, .int .i64 es] 48)) u → u.cell? ⟨w.heap.size, 0, none⟩ = some (.int .i64 et) ∧ u.cell? ⟨w.heap.size, 1, none⟩ = some (.int .i64 ek) ∧ u.cell? ⟨w.heap.size, 2, none⟩ = some (.int .i64 ep) ∧ u.cell? ⟨w.heap.size, 3, none⟩ = some (.int .u8 ec) ∧ u.cell? ⟨w.heap.size, 4, none⟩ = some (.int .i64 el) ∧ u.cell? ⟨w.heap.size, 5, none⟩ = some (.int .i64 es)) := fun u hu =>
    edCells ((hu.block _ (Nat.lt_succ_self _)).trans HBX.out)
  clear h hJ hr HR hsq hb hls hlt hln hfv hva hdn hR0 HBX hn
  go_enter Tryz.func17, Tryz.ntmps17
  go_upto_region 1 with fail
  have hs1 : (w.alloc (.cells #[.int .i64 et, .int .i64 ek, .int .i64 ep, .int .u8 ec, .int .i64 el, .int .i64 es] 48)).heap.size = w.heap.size + 1 := by simp
  have HS1 := hd hs1
  clear hs1
  generalize w.alloc (.cells #[.int .i64 et, .int .i64 ek, .int .i64 ep, .int .u8 ec, .int .i64 el, .int .i64 es] 48) = w0 at *
  obtain ⟨c1, c5⟩ := CL.out w0 HB.out
  obtain ⟨d0, d1, d2, d3, d4, d5⟩ := CB.out w0 (Below.refl _ _)
  go_upto_region 4 with (go_at_call 28; refine (CV.out _).mono ?_; rintro e1 u ⟨rfl, bu⟩)
  have BU : Hid (Below w.heap.size w u ∧ Below (w.heap.size + 1) w0 u) := ⟨HB.out.trans (bu.mono HB.out.size), bu.mono (Nat.le_of_eq HS1.out.symm)⟩
  clear bu c1 c5 d0 d1 d2 d3 d4 d5
  obtain ⟨c1, c5⟩ := CL.out u BU.out.1
  obtain ⟨d0, d1, d2, d3, d4, d5⟩ := CB.out u BU.out.2
  by_cases h1 : va = 0
  · subst h1
    rw [if_neg (by simp)] at HRR
    by_cases h2 : ek = 0
    · subst h2
      have Z : Hid ((122 : Int) = r) := by
        have h := HRR.out
        rw [if_pos rfl] at h
        exact h
      go_wp2_with fail
      go_ret
      exact ⟨by rw [← Z.out]; rfl, BU.out.1⟩
    · have e2 : (ek == 0) = false := by simpa using h2
      rw [if_neg h2] at HRR
      have CLa2 := hd (CLa.out u BU.out.1)
      go_upto_region 9 with (go_at_call 29; refine CLa2.out.mono ?_; rintro e1 u2 ⟨rfl, bu⟩)
      have BU2 : Hid (Below w.heap.size w u2 ∧ Below (w.heap.size + 1) w0 u2) := ⟨BU.out.1.trans (bu.mono BU.out.1.size), BU.out.2.trans (bu.mono (Nat.le_trans (Nat.le_of_eq HS1.out.symm) BU.out.2.size))⟩
      clear bu c1 c5 d0 d1 d2 d3 d4 d5 CLa2 CLa
      obtain ⟨c1, c5⟩ := CL.out u2 BU2.out.1
      obtain ⟨d0, d1, d2, d3, d4, d5⟩ := CB.out u2 BU2.out.2
      have hw : wrap64 (ls + 1) = ls + 1 := by rw [wrap64]; omega
      by_cases h3 : es ≤ ls
      · have Z : Hid ((128 : Int) = r) := by
          have h := HRR.out
          rw [if_pos h3] at h
          exact h
        go_wp2_with fail
        go_ret
        exact ⟨by rw [← Z.out]; rfl, BU2.out.1⟩
      · rw [if_neg h3] at HRR
        by_cases h4 : ls + 1 < es
        · have Z : Hid ((120 : Int) = r) := by
            have h := HRR.out
            rw [if_pos h4] at h
            exact h
          go_wp2_with fail
          go_ret
          exact ⟨by rw [← Z.out]; rfl, BU2.out.1⟩
        · rw [if_neg h4] at HRR
          by_cases h5 : et < lt
          · have Z : Hid ((121 : Int) = r) := by
              have h := HRR.out
              rw [if_pos (.inl h5)] at h
              exact h
            go_wp2_with fail
            go_quiet (fail)
            go_wp2
            go_ret
            exact ⟨by rw [← Z.out]; rfl, below_drewN BU2.out.1 _⟩
          · by_cases h6 : (n : Int) < et
            · have Z : Hid ((121 : Int) = r) := by
                have h := HRR.out
                rw [if_pos (.inr h6)] at h
                exact h
              go_wp2_with fail
              go_quiet (fail)
              go_wp2
              go_ret
              exact ⟨by rw [← Z.out]; rfl, below_drewN BU2.out.1 _⟩
            · rw [if_neg (fun h => h.elim h5 h6)] at HRR
              go_wp2_with fail
              go_quiet (fail)
              rename_i nq
              have BU3 : Hid (Below w.heap.size w (u2.drewN nq) ∧ Below (w.heap.size + 1) w0 (u2.drewN nq)) := ⟨below_drewN BU2.out.1 _, below_drewN BU2.out.2 _⟩
              have C2 := hd (CLf.out (u2.drewN nq) BU3.out.1 (by omega) (by omega))
              clear CLf c1 c5 d0 d1 d2 d3 d4 d5
              obtain ⟨d0, d1, d2, d3, d4, d5⟩ := CB.out _ BU3.out.2
              go_upto_region 16 with (go_at_call 30; refine C2.out.mono ?_; rintro e1 u4 ⟨rfl, bu⟩)
              have BU4 : Hid (Below w.heap.size w (u4.alloc (.cells #[.int .i64 dk, .int .i64 dp, .int .u8 dc, .int .i64 dl, .int .i64 ds] 46)) ∧ Below (w.heap.size + 1) w0 (u4.alloc (.cells #[.int .i64 dk, .int .i64 dp, .int .u8 dc, .int .i64 dl, .int .i64 ds] 46))) := by
                have h1 := BU3.out.1.trans (bu.mono BU3.out.1.size)
                have h2 := BU3.out.2.trans (bu.mono (Nat.le_trans (Nat.le_of_eq HS1.out.symm) BU3.out.2.size))
                exact ⟨h1.alloc h1.size _, h2.alloc (Nat.le_trans (Nat.le_of_eq HS1.out.symm) h2.size) _⟩
              clear bu C2 d0 d1 d2 d3 d4 d5
              generalize u4.alloc (.cells #[.int .i64 dk, .int .i64 dp, .int .u8 dc, .int .i64 dl, .int .i64 ds] 46) = u5 at *
              obtain ⟨d0, d1, d2, d3, d4, d5⟩ := CB.out _ BU4.out.2
              by_cases h7 : fv = 0
              · have Z : Hid ((0 : Int) = r) := by
                  have h := HRR.out
                  rw [if_neg (fun h => h h7)] at h
                  exact h
                subst h7
                go_wp2_with (go_at_call 31; refine (CF.out _).mono ?_; rintro e1 u6 ⟨rfl, bu6⟩)
                go_ret
                exact ⟨by rw [← Z.out]; rfl, BU4.out.1.trans (bu6.mono BU4.out.1.size)⟩
              · have Z : Hid ((123 : Int) = r) := by
                  have h := HRR.out
                  rw [if_pos h7] at h
                  exact h
                have e7 : (fv == 0) = false := by simpa using h7
                go_wp2_with (go_at_call 31; refine (CF.out _).mono ?_; rintro e1 u6 ⟨rfl, bu6⟩)
                go_ret
                exact ⟨by rw [← Z.out]; rfl, BU4.out.1.trans (bu6.mono BU4.out.1.size)⟩
  · have Z : Hid (va = r) := by
      have h := HRR.out
      rw [if_pos h1] at h
      exact h
    have e1 : (va == 0) = false := by simpa using h1
    clear HRR
    go_wp2_with fail
    go_ret
    exact ⟨by rw [← Z.out]; rfl, BU.out.1⟩
end

end Go.Proofs.YtilidolbplglcaaGreatDoor
