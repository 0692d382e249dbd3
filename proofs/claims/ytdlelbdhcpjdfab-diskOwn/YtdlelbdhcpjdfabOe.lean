/-
  marked.
-/
import Derived.Test.YtdlelbdhcpjdfabOf
import Derived.Deep.RegionHeld3
import Derived.Deep.DeepCutAuto
import Derived.Deep.RegionLaw
namespace Go.Proofs.Ytdlelbdhcpjdfab
open Go.RowKit
set_option linter.unusedVariables false

theorem Try.info22 : (Try.prog.info? 22).map (fun i => (i.zero, i.size, i.bytes)) = some (some (.slice none 0 0), 1, 24) := by kernel_rfl

theorem newsv (w : World) (u : Value) : ∀ j x, [u][j]? = some x → (w.alloc (.cells #[u] 22)).cell? ((⟨w.heap.size, 0, none⟩ : Addr).add j) = some x := by
  intro j x hj
  have hlt : j < 1 := (List.getElem?_eq_some_iff.1 hj).1
  obtain rfl : j = 0 := by omega
  rw [show (⟨w.heap.size, 0, none⟩ : Addr).add 0 = ⟨w.heap.size, 0, none⟩ from by simp [Addr.add], cell_row (heap_alloc_new _ _), ← hj]
  simp
theorem news2 (w : World) (y : Int) : ∀ j u, (ints [y, 2, 2])[j]? = some u → (w.alloc (.cells #[.int .u8 y, .int .u8 2, .int .u8 2] 5)).cell? ((⟨w.heap.size, 0, none⟩ : Addr).add j) = some u := by
  intro j u hj
  have hlt : j < 3 := (List.getElem?_eq_some_iff.1 hj).1
  have ea : (⟨w.heap.size, 0, none⟩ : Addr).add j = ⟨w.heap.size, j, none⟩ := by
    by_cases h0 : j = 0
    · subst h0; simp [Addr.add]
    · simp [Addr.add, h0]
  rw [ea, cell_row (heap_alloc_new _ _)]
  rw [← hj]
  simp [ints]
theorem onev (a : Option Addr) (n c : Nat) : ∀ u ∈ [Value.slice a n c], u.oneCell' = true := by
  intro u hu
  simp at hu
  subst hu
  rfl

theorem Bun.kcellL {w ws wk w5 : World} {tag tk : Nat → Nat} {K rd rx : Nat} {ρd ρw : Option Nat} {td tw : FS} {g n cap : Nat} {zs : List Int} {g' n' cap' : Nat} {zs' : List Int} {βL βW : Option Nat} {Lv Wv : Value} {LL WW : List Value} {gL NL capL : Nat} {vs : List Value}
    (h : Bun w ws tag K rd rx ρd ρw td tw g n cap zs g' n' cap' zs' wk βL βW Lv Wv LL WW tk) (hP : Pushed wk w5 22 βL gL NL capL vs) : w5.heap[K]? = some (.cells #[Lv, Wv] 38 (0, 0)) :=
  hP.fr.keeps h.k.cells (fun e => by have := (h.k.tagL K e).1; have := h.k.tagK.1; omega)
theorem Bun.kcellW {w ws wk w5 : World} {tag tk : Nat → Nat} {K rd rx : Nat} {ρd ρw : Option Nat} {td tw : FS} {g n cap : Nat} {zs : List Int} {g' n' cap' : Nat} {zs' : List Int} {βL βW : Option Nat} {Lv Wv : Value} {LL WW : List Value} {gL NL capL : Nat} {vs : List Value}
    (h : Bun w ws tag K rd rx ρd ρw td tw g n cap zs g' n' cap' zs' wk βL βW Lv Wv LL WW tk) (hP : Pushed wk w5 22 βW gL NL capL vs) : w5.heap[K]? = some (.cells #[Lv, Wv] 38 (0, 0)) :=
  hP.fr.keeps h.k.cells (fun e => by have := (h.k.tagW K e).1; have := h.k.tagK.1; omega)
theorem NewB.lt {w : World} {base g n : Nat} {xs : List Int} (h : NewB w base (.slice (some ⟨g, 0, none⟩) n n) n xs) : g < w.heap.size := by
  obtain ⟨g2, e, _, hg, _⟩ := h
  have e2 := e
  simp at e2
  subst e2
  exact block_lt hg
theorem add_block (b j : Nat) : ((⟨b, 0, none⟩ : Addr).add j).block = b := by
  by_cases h0 : j = 0
  · subst h0; simp [Addr.add]
  · simp [Addr.add, h0]
theorem two_cells {w : World} {K : Nat} {a b : Value} (h : w.heap[K]? = some (.cells #[a, b] 38 (0, 0))) : w.cell? ⟨K, 0, none⟩ = some a ∧ w.cell? ⟨K, 1, none⟩ = some b ∧ w.frozen? ⟨K, 0, none⟩ = false ∧ w.frozen? ⟨K, 1, none⟩ = false :=
  ⟨(cell_row h 0).trans rfl, (cell_row h 1).trans rfl, frozen_row h 0, frozen_row h 1⟩

/-- What holds in the loop that writes the marks. -/
def OverM (wr w' : World) (g n cap : Nat) : Prop := ∃ ys, RowB w' g n cap ys ∧ Fr (· = g) wr w'

theorem OverM.step {wr w' : World} {g n cap : Nat} (ys : List Int) (h : RowB w' g n cap ys ∧ Fr (· = g) wr w') (k : Nat) (hk : k < n) (z : Int) : OverM wr (w'.setCell ⟨g, k, none⟩ (.int .u8 z)) g n cap :=
  ⟨_, h.1.set k z hk, h.2.trans (Fr.setCell _ _ _ rfl)⟩

set_option maxRecDepth 100000 in
set_option maxHeartbeats 4000000 in
theorem marked_any {w : World} {K rd rx : Nat} {ρd ρw βL βW : Option Nat} {td tw : FS} {Lv Wv : Value} {LL WW : List Value} {tag : Nat → Nat} (g n cap : Nat) (ys : List Int) (y : Int) (ws : World) (h : KSt w ws K rd rx ρd ρw βL βW td tw Lv Wv LL WW tag) (hl : LL.length = WW.length) (hN : LL.length + 2 ≤ 8796093022208)
    (hR : RowB ws g n cap ys) (hg : tag g = 6) (hgb : w.heap.size ≤ g) (hn : n ≤ 140737488351232) :
    Calls Try.prog 15 #[.pointer (some ⟨K, 0, none⟩), .slice (some ⟨g, 0, none⟩) n cap, .int .u8 y] ws fun x w' => (∃ v, x = .returned v) ∧ ∃ βL' βW' Lv' Wv' LL' WW' tag', KSt w w' K rd rx ρd ρw βL' βW' td tw Lv' Wv' LL' WW' tag' ∧ LL'.length = WW'.length ∧ LL'.length = LL.length + 2 ∧ MK ws tag g w' tag' := by
  obtain ⟨i0, hi, hz0, hz1, hz2⟩ := info_parts Try.info5
  obtain ⟨j0, hj, hy0, hy1, hy2⟩ := info_parts Try.info22
  have HG := hd (And.intro hg hgb)
  have HWS : Hid (w.heap.size ≤ ws.heap.size) := h.below.size
  have S0 : Hid (OverM ws ws g n cap) := ⟨ys, hR, Fr.refl _ _⟩
  have hc : n ≤ cap ∧ cap ≤ 9223372036854775807 := by
    obtain ⟨_, _, _, _, a, b, _⟩ := hR
    exact ⟨a, b⟩
  have HL := hd hl
  have hgl := hd hR.lt
  obtain ⟨N, hNe⟩ : ∃ N, N = LL.length := ⟨_, rfl⟩
  rw [← hNe] at hN
  have HNL : Hid (LL.length = N) := hNe.symm
  have HNW : Hid (WW.length = N) := by
    show _ = _
    omega
  obtain ⟨aL, cL, eL⟩ := h.rowL.form
  obtain ⟨aW, cW, eW⟩ := h.rowW.form
  rw [HNL.out] at eL
  rw [HNW.out] at eW
  subst eL
  subst eW
  have H := hd h
  clear h hR hg hgb hl hNe
  go_enter Try.func15, Try.ntmps15
  go_wp2
  go_loopw [6] (fun i w' => ∃ k : Nat, k ≤ n ∧ i = .int .i64 k ∧ Hid (OverM ws w' g n cap)) (fun i _ => n - (intOf i).toNat)
  case atStart => exact ⟨0, Nat.zero_le _, rfl, S0⟩
  case round =>
    obtain ⟨k, hk, rfl, hr⟩ := hrel
    clear S0
    by_cases hlt : k < n
    · obtain ⟨zs, hz⟩ := hr.out
      have e1 := hz.1.cell k hlt
      have e2 := hz.1.frozen k
      have HZ := hd hz
      have i1 : (k : Int) < (n : Int) := by omega
      clear hz hr
      generalize zs.getD k 0 = yy at *
      go_wp2
      exact ⟨⟨k + 1, by omega, by go_num, OverM.step zs HZ.out k hlt _⟩, by simp [intOf]; omega⟩
    · have i1 : ¬ (k : Int) < (n : Int) := by omega
      obtain ⟨zs, hRz, hFz⟩ := hr.out
      have hzl : zs.length = n := by
        obtain ⟨_, _, _, h, _⟩ := hRz
        exact h
      have HZL : Hid ((ints zs).length = n) := (ints_len zs).trans hzl
      have al : Below wr.heap.size wr (wr.alloc (.cells #[.int .u8 y, .int .u8 2, .int .u8 2] 5)) := (Below.refl _ _).alloc (Nat.le_refl _) _
      have SV : Hid (SRow (wr.alloc (.cells #[.int .u8 y, .int .u8 2, .int .u8 2] 5)) 5 (some g) (.slice (some ⟨g, 0, none⟩) n cap) (ints zs)) := ⟨cap, by rw [HZL.out], by rw [HZL.out]; exact (hRz.fr (Fr.of_below al : Fr (fun _ => False) _ _) (fun s => s)).rowV⟩
      have NW := hd (news2 wr y)
      have HF := hd hFz
      have HRZ := hd hRz
      have AL := hd al
      clear hr hRz hFz al hzl
      go_upto_region 6 with (at_builtin; first | (refine wpList_push _ rfl (.tmp 21) (.tmp 23) 22 rfl 5 i0 (.int .u8 0) 1 Try.underlying22 hi hz0 hz1 rfl hz2 (some g) (.slice (some ⟨g, 0, none⟩) n cap) (ints zs) n HZL rfl SV ⟨wr.heap.size, 0, none⟩ 3 3 (ints [y, 2, 2]) rfl rfl NW (ints_one _) (by decide) (by omega) (by omega) ?_; intro g1 cap1 w3 P3; have HG1 : Hid (g1 = g ∨ ws.heap.size ≤ g1) := (P3.out.ge.elim (fun e => .inl (Option.some.inj e).symm) (fun e => .inr (by have h1 := HF.out.size; have h2 := AL.out.size; omega))); obtain ⟨cp3, t3, hB3⟩ := Bun.start H.out HG.out.1 HG.out.2 hgl.out HF.out HRZ.out AL.out P3.out; obtain ⟨t4, hB4, -⟩ := hB3.bel (show Below w3.heap.size w3 (w3.alloc (.cells #[.slice (some ⟨g, 0, none⟩) n cap] 22)) from (Below.refl _ _).alloc (Nat.le_refl _) _); have B4 := hd hB4; have SL := hd hB4.k.rowL; have NB := hd (newsv w3 (.slice (some ⟨g, 0, none⟩) n cap)); obtain ⟨q0, q1, f0, f1⟩ := two_cells hB3.k.cells; have hb9 := hB4.r2; clear hB3 hB4 P3 hb9) | (refine wpList_push _ rfl (.tmp 29) (.tmp 31) 36 rfl 22 j0 (.slice none 0 0) 24 Try.underlying36 hj hy0 hy1 rfl hy2 βL (.slice aL N cL) LL N HNL rfl SL ⟨w3.heap.size, 0, none⟩ 1 1 [.slice (some ⟨g, 0, none⟩) n cap] rfl rfl NB (onev _ _ _) (by decide) (by omega) (by omega) ?_; intro g5 cap5 w5 P5; obtain ⟨q0', q1', f0', f1'⟩ := two_cells (B4.out.kcellL P5.out)))
      obtain ⟨t6, hB6⟩ := B4.out.pushL HNL.out P5.out (by rw [HNW.out]; exact Nat.le_refl _)
      have B6 := hd hB6
      clear hB6 B4 P5 q0' q1' f0' f1' SL NB SV NW HF HRZ AL H
      generalize w5.setCell ⟨K, 0, none⟩ (.slice (some ⟨g5, 0, none⟩) (N + 1) cap5) = w6 at *
      have hcap := hc
      have XB6 : Hid (IsB w6.drew (some ⟨g, 0, none⟩) n cap zs) := by
        have := (B6.out.r1.fr (Fr.drew (fun _ => False) w6) (fun s => s)).isB 0 n cap (by omega) hc.1 hc.2
        rw [List.drop_zero, List.take_of_length_le (by have := HZL.out; rw [ints_len] at this; omega)] at this
        exact this
      obtain ⟨q0, q1, f0, f1⟩ := two_cells B6.out.k.cells
      have LN : Hid ((LL ++ [(Value.slice (some ⟨g, 0, none⟩) n cap)])[N]? = some (Value.slice (some ⟨g, 0, none⟩) n cap)) := by
        show _ = _
        rw [← HNL.out]
        simp
      go_cut [] (fun wx => Hid (∃ gW capW v t, Bun w ws tag K rd rx ρd ρw td tw g n cp3 zs g1 (n + 3) cap1 (zs ++ [y, 2, 2]) wx (some g5) (some gW) (.slice (some ⟨g5, 0, none⟩) (N + 1) cap5) (.slice (some ⟨gW, 0, none⟩) (N + 1) capW) (LL ++ [(Value.slice (some ⟨g, 0, none⟩) n cap)]) (WW ++ [v]) t))
      case first =>
        go_region_law (first | (refine step_push (by rfl) (.tmp 39) (.tmp 42) 36 (by rfl) 22 j0 (.slice none 0 0) 24 Try.underlying36 hj hy0 hy1 rfl hy2 βW (.slice aW N cW) WW N HNW (by rfl) SW8 ⟨w7.heap.size, 0, none⟩ 1 1 [.slice (some ⟨g7, 0, none⟩) n n] (by rfl) rfl NV8 (onev _ _ _) (by decide) (by omega) (by omega) ?_; intro g8 cap8 w8 P8; obtain ⟨z0, z1, z2, z3⟩ := two_cells (B8.out.kcellW P8.out)) | (go_simp; go_at_call 12; refine (copied_any _ n cap zs _ XB6.out (by omega)).mono ?_; rintro e w7 ⟨v7, rfl, hN7, hb7⟩; obtain ⟨g7, rfl, hg7, hG7⟩ := hN7.isB (by omega); obtain ⟨t7, hB7, old7, new7⟩ := B6.out.bel ((show Below w6.heap.size w6 w6.drew from (Below.refl _ _).drew).trans hb7); obtain ⟨t8, hB8, old8, new8⟩ := hB7.bel (show Below w7.heap.size w7 (w7.alloc (.cells #[.slice (some ⟨g7, 0, none⟩) n n] 22)) from (Below.refl _ _).alloc (Nat.le_refl _) _); have B8 := hd hB8; have SW8 := hd hB8.k.rowW; have NV8 := hd (newsv w7 (.slice (some ⟨g7, 0, none⟩) n n)); obtain ⟨x0, x1, x2, x3⟩ := two_cells hB7.k.cells; obtain ⟨y0', y1', y2', y3'⟩ := two_cells hB8.k.cells; have BV8 := hd (hG7.below (show Below w7.heap.size w7 (w7.alloc (.cells #[.slice (some ⟨g7, 0, none⟩) n n] 22)) from (Below.refl _ _).alloc (Nat.le_refl _) _)); have BB8 := hd ((XB6.out.below hb7).below (show Below w7.heap.size w7 (w7.alloc (.cells #[.slice (some ⟨g7, 0, none⟩) n n] 22)) from (Below.refl _ _).alloc (Nat.le_refl _) _)); have TV8 : Hid (t8 g7 = 6 ∧ ws.heap.size ≤ g7) := ⟨by rw [old8 g7 (NewB.lt hN7)]; exact new7 g7 hg7, Nat.le_trans B6.out.m.1.size hg7⟩; clear hN7 hb7 hG7 hB7 hB8 old7 new7 old8 new8))
        all_goals (
          have Z : Hid (∃ gW capW v t, Bun w ws tag K rd rx ρd ρw td tw g n cp3 zs g1 (n + 3) cap1 (zs ++ [y, 2, 2]) (w8.setCell ⟨K, 1, none⟩ (.slice (some ⟨g8, 0, none⟩) (N + 1) cap8)) (some g5) (some gW) (.slice (some ⟨g5, 0, none⟩) (N + 1) cap5) (.slice (some ⟨gW, 0, none⟩) (N + 1) capW) (LL ++ [(Value.slice (some ⟨g, 0, none⟩) n cap)]) (WW ++ [v]) t) := by
            obtain ⟨t9, h9⟩ := B8.out.pushW HNW.out P8.out LN.out rfl rfl BB8.out BV8.out B8.out.t1 (.inl TV8.out.1) (.inl rfl) (.inr TV8.out.2)
            exact ⟨g8, cap8, _, t9, h9⟩
          clear P8 B8 SW8 NV8 BV8 BB8 TV8 z0 z1 z2 z3 x0 x1 x2 x3 y0' y1' y2' y3'
          go_wp2_with fail
          go_meet
          exact Z)
      case rest =>
      obtain ⟨gW6, capW6, v6, t6', hB9⟩ := hcut.out
      obtain ⟨t10, hB10, -⟩ := hB9.bel (show Below wc.heap.size wc (wc.alloc (.cells #[.slice (some ⟨g1, 0, none⟩) (n + 3) cap1] 22)) from (Below.refl _ _).alloc (Nat.le_refl _) _)
      have B10 := hd hB10
      have SL10 := hd hB10.k.rowL
      have NB10 := hd (newsv wc (Value.slice (some ⟨g1, 0, none⟩) (n + 3) cap1))
      have HNL1 : Hid ((LL ++ [(Value.slice (some ⟨g, 0, none⟩) n cap)]).length = N + 1) := by
        show _ = _
        rw [List.length_append, HNL.out]
        rfl
      have HNW1 : Hid ((WW ++ [v6]).length = N + 1) := by
        show _ = _
        rw [List.length_append, HNW.out]
        rfl
      obtain ⟨q0, q1, f0, f1⟩ := two_cells hB9.k.cells
      clear hB9 hB10 hcut LN XB6 B6
      go_upto_region 8 with (at_builtin; refine wpList_push _ rfl (.tmp 50) (.tmp 52) 36 rfl 22 j0 (.slice none 0 0) 24 Try.underlying36 hj hy0 hy1 rfl hy2 (some g5) (.slice (some ⟨g5, 0, none⟩) (N + 1) cap5) (LL ++ [(Value.slice (some ⟨g, 0, none⟩) n cap)]) (N + 1) HNL1 rfl SL10 ⟨wc.heap.size, 0, none⟩ 1 1 [(Value.slice (some ⟨g1, 0, none⟩) (n + 3) cap1)] rfl rfl NB10 (onev _ _ _) (by decide) (by omega) (by omega) ?_; intro g11 cap11 w11 P11; obtain ⟨q0', q1', f0', f1'⟩ := two_cells (B10.out.kcellL P11.out))
      obtain ⟨t12, hB12⟩ := B10.out.pushL HNL1.out P11.out (by rw [HNW1.out]; exact Nat.le_refl _)
      have B12 := hd hB12
      obtain ⟨tA, hBA, -⟩ := hB12.bel (show Below (w11.setCell ⟨K, 0, none⟩ (.slice (some ⟨g11, 0, none⟩) (N + 1 + 1) cap11)).heap.size (w11.setCell ⟨K, 0, none⟩ (.slice (some ⟨g11, 0, none⟩) (N + 1 + 1) cap11)) ((w11.setCell ⟨K, 0, none⟩ (.slice (some ⟨g11, 0, none⟩) (N + 1 + 1) cap11)).alloc (.cells #[.int .u8 y, .int .u8 2, .int .u8 2] 5)) from (Below.refl _ _).alloc (Nat.le_refl _) _)
      have BA := hd hBA
      clear hB12 hBA B10 P11 q0' q1' f0' f1' SL10 NB10
      generalize w11.setCell ⟨K, 0, none⟩ (.slice (some ⟨g11, 0, none⟩) (N + 1 + 1) cap11) = w12 at *
      have hzl : zs.length = n := by
        have := HZL.out
        rwa [ints_len] at this
      have XB12 : Hid (IsB w12.drew (some ⟨g, 0, none⟩) n cap zs) := by
        have := (B12.out.r1.fr (Fr.drew (fun _ => False) w12) (fun s => s)).isB 0 n cap (by omega) hc.1 hc.2
        rw [List.drop_zero, List.take_of_length_le (by omega)] at this
        exact this
      have XBA : Hid (IsB (w12.alloc (.cells #[.int .u8 y, .int .u8 2, .int .u8 2] 5)).drew (some ⟨g, 0, none⟩) n cap zs) := XB12.out.below (show Below w12.drew.heap.size w12.drew (w12.alloc (.cells #[.int .u8 y, .int .u8 2, .int .u8 2] 5)).drew from ((Below.refl _ _).alloc (Nat.le_refl _) (.cells #[.int .u8 y, .int .u8 2, .int .u8 2] 5)))
      clear hzl
      obtain ⟨q0, q1, f0, f1⟩ := two_cells B12.out.k.cells
      obtain ⟨qa0, qa1, fa0, fa1⟩ := two_cells BA.out.k.cells
      have LN2 : Hid ((LL ++ [(Value.slice (some ⟨g, 0, none⟩) n cap)] ++ [(Value.slice (some ⟨g1, 0, none⟩) (n + 3) cap1)])[N + 1]? = some (Value.slice (some ⟨g1, 0, none⟩) (n + 3) cap1)) := by
        show _ = _
        rw [← HNL1.out]
        simp
      go_region_law (first | (refine step_push (by rfl) (.tmp 60) (.tmp 66) 36 (by rfl) 22 j0 (.slice none 0 0) 24 Try.underlying36 hj hy0 hy1 rfl hy2 (some gW6) (.slice (some ⟨gW6, 0, none⟩) (N + 1) capW6) (WW ++ [v6]) (N + 1) HNW1 (by rfl) SW15 ⟨w14.heap.size, 0, none⟩ 1 1 [(Value.slice (some ⟨g14, 0, none⟩) (n + 3) cap14)] (by rfl) rfl NV15 (onev _ _ _) (by decide) (by omega) (by omega) ?_; intro g16 cap16 w16 P16; obtain ⟨z0, z1, z2, z3⟩ := two_cells (B15.out.kcellW P16.out)) | (refine step_push (by rfl) (.tmp 62) (.tmp 64) 22 (by rfl) 5 i0 (.int .u8 0) 1 Try.underlying22 hi hz0 hz1 rfl hz2 (some g13) (.slice (some ⟨g13, 0, none⟩) n n) (ints zs) n HZL (by rfl) SVx _ 3 3 (ints [y, 2, 2]) (by rfl) rfl NWx (ints_one _) (by decide) (by omega) (by omega) ?_; intro g14 cap14 w14 P14; obtain ⟨t14, hB14, six14, ge14, row14⟩ := BX.out.app CX.out HWS.out P14.out; obtain ⟨t15, hB15, old15, -⟩ := hB14.bel (show Below w14.heap.size w14 (w14.alloc (.cells #[.slice (some ⟨g14, 0, none⟩) (n + 3) cap14] 22)) from (Below.refl _ _).alloc (Nat.le_refl _) _); have B15 := hd hB15; have SW15 := hd hB15.k.rowW; have NV15 := hd (newsv w14 (Value.slice (some ⟨g14, 0, none⟩) (n + 3) cap14)); obtain ⟨x0, x1, x2, x3⟩ := two_cells hB14.k.cells; obtain ⟨u0, u1, u2, u3⟩ := two_cells hB15.k.cells; have FN15 := hd (And.intro ((old15 g14 row14.lt).trans six14) (And.intro ge14 (row14.fr (Fr.of_below (show Below w14.heap.size w14 (w14.alloc (.cells #[.slice (some ⟨g14, 0, none⟩) (n + 3) cap14] 22)) from (Below.refl _ _).alloc (Nat.le_refl _) _) : Fr (fun _ => False) _ _) (fun s => s)))); clear hB14 hB15 old15 six14 ge14 row14) | (go_simp; go_at_call 12; refine (copied_any _ n cap zs _ XB12.out (by omega)).mono ?_; rintro e w13 ⟨v13, rfl, hN13, hb13⟩; obtain ⟨g13, rfl, -, -⟩ := hN13.isB (by omega); obtain ⟨t13, hB13, hC13⟩ := B12.out.copy ((show Below w12.heap.size w12 w12.drew from (Below.refl _ _).drew).trans hb13) hN13 (show Below w13.heap.size w13 (w13.alloc (.cells #[.int .u8 y, .int .u8 2, .int .u8 2] 5)) from (Below.refl _ _).alloc (Nat.le_refl _) _) (by omega); obtain ⟨t13', hB13', -⟩ := B12.out.bel ((show Below w12.heap.size w12 w12.drew from (Below.refl _ _).drew).trans hb13); have BX := hd hB13; have CX := hd hC13; have SVx : Hid (SRow (w13.alloc (.cells #[.int .u8 y, .int .u8 2, .int .u8 2] 5)) 5 (some g13) (.slice (some ⟨g13, 0, none⟩) n n) (ints zs)) := ⟨n, by rw [HZL.out], by rw [HZL.out]; exact hC13.row.rowV⟩; have NWx := hd (news2 w13 y); obtain ⟨a0, a1, a2, a3⟩ := two_cells hB13'.k.cells; obtain ⟨b0, b1, b2, b3⟩ := two_cells hB13.k.cells; clear hN13 hb13 hB13 hC13 hB13') | (go_simp; go_at_call 12; refine (copied_any _ n cap zs _ XBA.out (by omega)).mono ?_; rintro e w13 ⟨v13, rfl, hN13, hb13⟩; obtain ⟨g13, rfl, -, -⟩ := hN13.isB (by omega); obtain ⟨t13, hB13, hC13⟩ := BA.out.copy ((show Below (w12.alloc (.cells #[.int .u8 y, .int .u8 2, .int .u8 2] 5)).heap.size (w12.alloc (.cells #[.int .u8 y, .int .u8 2, .int .u8 2] 5)) (w12.alloc (.cells #[.int .u8 y, .int .u8 2, .int .u8 2] 5)).drew from (Below.refl _ _).drew).trans hb13) hN13 (Below.refl _ _) (by omega); have BX := hd hB13; have CX := hd hC13; have SVx : Hid (SRow w13 5 (some g13) (.slice (some ⟨g13, 0, none⟩) n n) (ints zs)) := ⟨n, by rw [HZL.out], by rw [HZL.out]; exact hC13.row.rowV⟩; have NWx : Hid (∀ j u, (ints [y, 2, 2])[j]? = some u → w13.cell? ((⟨w12.heap.size, 0, none⟩ : Addr).add j) = some u) := fun j u hj => (hb13.cell (by rw [add_block]; simp)).trans (news2 w12 y j u hj); obtain ⟨a0, a1, a2, a3⟩ := two_cells hB13.k.cells; clear hN13 hb13 hB13 hC13))
      all_goals (
        have Z : Hid (∃ gW capW v t, Bun w ws tag K rd rx ρd ρw td tw g n cp3 zs g1 (n + 3) cap1 (zs ++ [y, 2, 2]) (w16.setCell ⟨K, 1, none⟩ (.slice (some ⟨g16, 0, none⟩) (N + 1 + 1) cap16)) (some g11) (some gW) (.slice (some ⟨g11, 0, none⟩) (N + 1 + 1) cap11) (.slice (some ⟨gW, 0, none⟩) (N + 1 + 1) capW) (LL ++ [(Value.slice (some ⟨g, 0, none⟩) n cap)] ++ [(Value.slice (some ⟨g1, 0, none⟩) (n + 3) cap1)]) (WW ++ [v6] ++ [v]) t) := by
          have hgg : g1 = g ∨ ws.heap.size ≤ g1 := HG1.out
          have bu : IsB (w14.alloc (.cells #[.slice (some ⟨g14, 0, none⟩) (n + 3) cap14] 22)) (some ⟨g1, 0, none⟩) (n + 3) cap1 (zs ++ [y, 2, 2]) := by
            have hcc : n + 3 ≤ cap1 ∧ cap1 ≤ 9223372036854775807 := by
              obtain ⟨_, _, _, _, a, b, _⟩ := B15.out.r2
              exact ⟨a, b⟩
            have hzz : (zs ++ [y, 2, 2]).length = n + 3 := by
              obtain ⟨_, _, _, a, _⟩ := B15.out.r2
              exact a
            have := B15.out.r2.isB 0 (n + 3) cap1 (by omega) hcc.1 hcc.2
            rwa [List.drop_zero, List.take_of_length_le (by omega)] at this
          have bv : IsB (w14.alloc (.cells #[.slice (some ⟨g14, 0, none⟩) (n + 3) cap14] 22)) (some ⟨g14, 0, none⟩) (n + 3) cap14 (zs ++ [y, 2, 2]) := by
            have hcc : n + 3 ≤ cap14 ∧ cap14 ≤ 9223372036854775807 := by
              obtain ⟨_, _, _, _, a, b, _⟩ := FN15.out.2.2
              exact ⟨a, b⟩
            have hzz : (zs ++ [y, 2, 2]).length = n + 3 := by
              obtain ⟨_, _, _, a, _⟩ := FN15.out.2.2
              exact a
            have := FN15.out.2.2.isB 0 (n + 3) cap14 (by omega) hcc.1 hcc.2
            rwa [List.drop_zero, List.take_of_length_le (by omega)] at this
          obtain ⟨t17, h17⟩ := B15.out.pushW HNW1.out P16.out LN2.out rfl rfl bu bv B15.out.t2 (.inl FN15.out.1) hgg (.inr FN15.out.2.1)
          exact ⟨g16, cap16, _, t17, h17⟩
        clear P16 B15 SW15 NV15 FN15 BX CX SVx NWx
        go_wp2
        go_end0
        obtain ⟨gW, capW, v17, t17, h17⟩ := Z.out
        refine ⟨⟨_, rfl⟩, _, _, _, _, _, _, t17, h17.k, ?_, ?_, h17.m⟩
        · have e1 := HNL.out
          have e2 := HNW.out
          simp [e1, e2]
        · simp)

end Go.Proofs.Ytdlelbdhcpjdfab
