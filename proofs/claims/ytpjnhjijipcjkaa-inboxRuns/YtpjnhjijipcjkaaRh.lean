/-
  The document's inbox: Put, Toss, Pop.
-/
import Derived.Test.YtpjnhjijipcjkaaRg
namespace Go.Proofs.Ytpjnhjijipcjkaa
open Go.RowKit
set_option linter.unusedVariables false

/-- What a list of the call is behind: nil, the row, or a new one. -/
def NowX (u w' : World) (β : Option Nat) (v' : Value) (L : List (Nat × Int)) : Prop :=
  ∃ β', SF th 2 w' 111 β' v' L ∧ (∀ g, β' = some g → β = some g ∨ u.heap.size ≤ g) ∧ Fr (fun k => β = some k) u w'

theorem push_th (w : World) (β : Option Nat) (v : Value) (L : List (Nat × Int)) (hv : SF th 2 w 111 β v L) (ad : Addr) (m c : Nat) (M : List (Nat × Int)) (hl : M.length = m) (hM : ∀ j u, (cl th M)[j]? = some u → w.cell? (ad.add j) = some u) (hn : L.length + m ≤ 100000) :
    ∃ v' w', (∀ ty, (Builtin.append_ #[98, 98] ty #[v, .slice (some ad) m c]).run Try.prog w = .ok v' w') ∧ NowX w w' β v' (L ++ M) := by
  obtain ⟨i0, hi0, hz0, hz1, hz2⟩ := info_parts Try.infoTh
  by_cases h0 : m = 0
  · subst h0
    obtain rfl : M = [] := List.eq_nil_of_length_eq_zero hl
    refine ⟨v, w, fun ty => ?_, β, by simpa using hv, fun g hg => .inl hg, Fr.refl _ _⟩
    cases β with
    | none =>
      obtain ⟨rfl, -⟩ := hv
      simp [Builtin.append_, run_underlying Try.underlying98, sizeOf, typeInfo, hi0, Builtin.lenOf, Builtin.firstCells, loadCells, loadCellsFrom]
    | some g =>
      obtain ⟨cap, rfl, cur, hh, -, -, hnc, -, -⟩ := hv
      simp [Builtin.append_, run_underlying Try.underlying98, sizeOf, typeInfo, hi0, Builtin.lenOf, Builtin.firstCells, storeCells, loadCells, loadCellsFrom, hnc]
  · obtain ⟨v', w', hr, hN⟩ := run_pushF sz_th (P := Try.prog) w 98 0 111 i0 _ 16 Try.underlying98 hi0 hz0 hz1 rfl hz2 β v L hv ad m c M hl hM (by omega) (by omega) (by omega)
    obtain ⟨g', h1, h2, h3⟩ := hN.out
    exact ⟨v', w', fun ty => hr, some g', h1, fun g hg => by injection hg with hg; subst hg; exact h2.imp id (fun e => by omega), h3⟩

/-- The list changed to L. -/
theorem r_left {w u w' : World} {x : Nat} {p : Rb} {v v' : Value} {β : Option Nat} {S : Nat → Prop} {L : List (Nat × Int)} (h : RK u x p v β) (hB : RowKit.Below w.heap.size w u) (hSx : S x) (hSβ : ∀ g, β = some g → S g) (hS : ∀ k, S k → k < w.heap.size)
    (hN : ∃ β', SF th 2 w' 111 β' v' L ∧ (∀ g, β' = some g → β = some g ∨ u.heap.size ≤ g)) (hF : Fr (fun k => β = some k) u w') (hok : Ib.ok (Rb.ib { p with L := L })) :
    w'.heap[x]? = some (.cells #[.int .i64 p.R, .int .i64 p.c, v] 100 (0, 0)) ∧ RNow w (w'.setCell ⟨x, 2, none⟩ v') x { p with L := L } S := by
  obtain ⟨β', h1, h2⟩ := hN
  have hxu : x < u.heap.size := block_lt h.box
  have hxg : ∀ g, β' = some g → g ≠ x := by
    rintro g hg rfl
    rcases h2 g hg with h2 | h2
    · exact h.x_ne h2
    · omega
  have hx : w'.heap[x]? = some (.cells #[.int .i64 p.R, .int .i64 p.c, v] 100 (0, 0)) := hF.keeps h.box (fun hb => h.x_ne hb)
  have hF2 : Fr (· = x) w' (w'.setCell ⟨x, 2, none⟩ v') := Fr.setCell _ _ _ rfl
  have hsz := hF.size
  have hsz2 := hB.size
  have hsz3 := hF2.size
  refine ⟨hx, fun k => k = x ∨ β' = some k, ⟨v', β', ⟨?_, h1.fr hF2 (fun g hg => hxg g hg), hok⟩, .inl rfl, fun g hg => .inr hg, ?_⟩, ?_, ?_⟩
  · have := set_row hx 2 v'
    simpa using this
  · rintro k (rfl | hk)
    · omega
    · have := h1.lt k hk; omega
  · rintro k (rfl | hk)
    · exact .inl hSx
    · rcases h2 k hk with h2 | h2
      · exact .inl (hSβ _ h2)
      · exact .inr (by omega)
  · exact (Fr.of_below hB).next ((hF.mono (S' := S) (fun k _ hk => hSβ k hk)).next hF2 (fun k _ hk => by rw [hk]; exact hSx)) (fun k _ hk => hk)

set_option maxRecDepth 100000 in
set_option maxHeartbeats 4000000 in
theorem r_put (x : Nat) (p : Rb) (n z : Int) (S : Nat → Prop) (w : World) (h : RefAt w x p S) :
    Calls Try.prog 57 #[.pointer (some ⟨x, 0, none⟩), .int .i64 n, .int .i64 z] w fun e w' => e = .returned (.int .i64 (iputE p.ib n)) ∧ RNow w w' x (rputS p n z) S := by
  have H0 := hd h
  obtain ⟨v, β, hK, hSx, hSβ, hS⟩ := h
  obtain ⟨a, c, rfl, -⟩ := rk_cells hK
  have c0 := cell_row hK.box 0
  have c1 := cell_row hK.box 1
  have c2 := cell_row hK.box 2
  simp at c0 c1 c2
  have hc := hK.ok.c2
  have hr := hK.ok.r2
  simp only [Rb.ib] at hc hr
  have hlen := hK.len
  have HK := hd hK
  have HS := hd (And.intro hSx (And.intro hSβ hS))
  have fin : Hid (∀ w', RowKit.Below w.heap.size w w' → iputE p.ib n ≠ 0 → RNow w w' x (rputS p n z) S) := fun w' hw he => by
    rw [rputS, if_neg he]
    exact ⟨S, H0.out.below hw, fun k hk => .inl hk, Fr.of_below hw⟩
  clear hSx hSβ hS hK H0
  by_cases h1 : n < 1 ∨ 4096 < n
  · have hE : Hid (iputE p.ib n = 91) := by show _ = _; rw [iputE, if_pos h1]
    clear HK HS
    rcases h1 with h1 | h1
    · go_enter Try.func57, Try.ntmps57
      go_wp2_with fail
      go_ret
      have := fin.out w (Below.refl _ _) (by rw [hE.out]; omega)
      rw [hE.out]
      exact ⟨rfl, this⟩
    · have h2 : ¬ n < 1 := by omega
      go_enter Try.func57, Try.ntmps57
      go_wp2_with fail
      go_ret
      have := fin.out w (Below.refl _ _) (by rw [hE.out]; omega)
      rw [hE.out]
      exact ⟨rfl, this⟩
  · obtain ⟨m, rfl⟩ : ∃ m : Nat, n = m := ⟨n.toNat, by omega⟩
    have i1 : ¬ (m : Int) < 1 := by omega
    have i2 : ¬ (4096 : Int) < (m : Int) := by omega
    by_cases h2 : (m : Int) ≤ p.c
    · have hE : Hid (iputE p.ib m = 92) := by show _ = _; rw [iputE, if_neg h1, if_pos (.inl h2)]
      clear HK HS h1
      go_enter Try.func57, Try.ntmps57
      go_wp2_with fail
      go_ret
      have := fin.out w (Below.refl _ _) (by rw [hE.out]; omega)
      rw [hE.out]
      exact ⟨rfl, this⟩
    · have CF : Hid (Calls Try.prog 66 #[.pointer (some ⟨x, 0, none⟩), .int .i64 (m : Int)] w fun e w' => e = .returned (.int .i64 (fZ p.L m)) ∧ w' = w) := r_find x m p _ β w HK.out
      have hhas := has_iH p.L m
      by_cases hf : fN p.L m < p.L.length
      · have hE : Hid (iputE p.ib m = 92) := by show _ = _; rw [iputE, if_neg h1, Int.toNat_natCast, if_pos (.inr (by show hasK (iH p.L) m = true; rw [hhas, decide_eq_true hf]))]
        have e1 : fZ p.L m = fN p.L m := by rw [fZ, if_pos hf]
        rw [e1] at CF
        generalize fN p.L m = i at CF
        have i3 : (0 : Int) ≤ (i : Int) := by omega
        clear HK HS h1 hhas e1 hf
        go_enter Try.func57, Try.ntmps57
        go_wp2_with fail
        refine CF.out.mono ?_
        rintro e w1 ⟨rfl, rfl⟩
        clear CF
        go_wp2_with fail
        go_ret
        have := fin.out w1 (Below.refl _ _) (by rw [hE.out]; omega)
        rw [hE.out]
        exact ⟨rfl, this⟩
      · have e1 : fZ p.L m = -1 := by rw [fZ, if_neg hf]
        rw [e1] at CF
        have hhf : hasK p.ib.H m = false := by show hasK (iH p.L) m = false; rw [hhas, decide_eq_false hf]
        have hws : IntKind.i64.wrap ((m : Int) - p.c) = (m : Int) - p.c := by rw [IntKind.wrap_i64]; omega
        by_cases h3 : (p.R : Int) < (m : Int) - p.c
        · have hE : Hid (iputE p.ib m = 93) := by show _ = _; rw [iputE, if_neg h1, Int.toNat_natCast, if_neg (by rw [hhf]; simp; exact by simpa [Rb.ib] using h2), if_pos (by simp only [Rb.ib]; omega)]
          clear HK HS h1 hhas e1 hf hhf
          go_enter Try.func57, Try.ntmps57
          go_wp2_with fail
          refine CF.out.mono ?_
          rintro e w1 ⟨rfl, rfl⟩
          clear CF
          go_wp2_with fail
          go_quiet (fail)
          go_wp2_with fail
          go_ret
          have := fin.out (w1.drewN nq) (below_drewN' _ _) (by rw [hE.out]; omega)
          rw [hE.out]
          exact ⟨rfl, this⟩
        · have hE : Hid (iputE p.ib m = 0) := by show _ = _; rw [iputE, if_neg h1, Int.toNat_natCast, if_neg (by rw [hhf]; simp; exact by simpa [Rb.ib] using h2), if_neg (by simp only [Rb.ib]; omega)]
          have hPS : Hid (rputS p m z = { p with L := p.L ++ [(m, z)] }) := by show _ = _; rw [rputS, if_pos hE.out, Int.toNat_natCast]
          have CU : Hid (∀ q, ∃ v' w', (∀ ty, (Builtin.append_ #[98, 98] ty #[.slice a p.L.length c, .slice (some ⟨w.heap.size, 0, none⟩) 1 1]).run Try.prog ((w.drewN q).alloc (.cells #[.int .i64 m, .int .i64 z] 111)) = .ok v' w') ∧ (∃ a' n' c', v' = .slice a' n' c') ∧ w'.heap[x]? = some (.cells #[.int .i64 p.R, .int .i64 p.c, .slice a p.L.length c] 100 (0, 0)) ∧ RNow w (w'.setCell ⟨x, 2, none⟩ v') x (rputS p m z) S) := by
            intro q
            have hbq : RowKit.Below w.heap.size w ((w.drewN q).alloc (.cells #[.int .i64 m, .int .i64 z] 111)) := (below_drewN' w q).alloc (Nat.le_refl _) _
            have hKq := HK.out.below hbq
            have hnew : ((w.drewN q).alloc (.cells #[.int .i64 m, .int .i64 z] 111)).heap[w.heap.size]? = some (.cells #[.int .i64 m, .int .i64 z] 111 (0, 0)) := heap_alloc_new (w.drewN q) _
            obtain ⟨v', w', hr, hN⟩ := push_th _ β _ p.L hKq.row ⟨w.heap.size, 0, none⟩ 1 1 [(m, z)] rfl (fun j u hj => by
              rw [cl_one] at hj
              rcases j with _ | _ | j
              · rw [add_lit, cell_row hnew]; simpa [th] using hj
              · rw [add_lit, cell_row hnew]; simpa [th] using hj
              · simp [th] at hj) (by omega)
            obtain ⟨β', n1, n2, n3⟩ := hN
            obtain ⟨r1, r2⟩ := r_left hKq hbq HS.out.1 HS.out.2.1 HS.out.2.2 ⟨β', n1, n2⟩ n3 (by
              have := iputS_ok HK.out.ok m (.int .i64 z)
              rw [← rputS_ib, hPS.out] at this
              exact this)
            refine ⟨v', w', hr, ?_, r1, by rw [hPS.out]; exact r2⟩
            obtain ⟨a', c', e, -⟩ := n1.form
            exact ⟨a', _, c', e⟩
          have h3' : (m : Int) - p.c ≤ p.R := by omega
          clear HK HS h1 hhas e1 hf hhf fin
          go_enter Try.func57, Try.ntmps57
          go_wp2_with fail
          refine CF.out.mono ?_
          rintro e w1 ⟨rfl, rfl⟩
          clear CF
          go_wp2_with fail
          go_quiet (fail)
          obtain ⟨v', w', hap, ⟨a', n', c', rfl⟩, hx, hN⟩ := CU.out nq
          have d2 := cell_row hx 2
          simp at d2
          have f2 := frozen_row hx 2
          have Z := hd hN
          clear CU hN hx
          go_wp2_with (at_builtin; refine wpList_append_k _ rfl _ _ 98 98 rfl _ _ rfl rfl (hap _) ?_)
          go_ret
          rw [hE.out]
          exact ⟨rfl, Z.out⟩

end Go.Proofs.Ytpjnhjijipcjkaa
