/-
  The document outbox: Push, span, Left, Due.
-/
import Derived.Test.YtocpfioifamkmabBa
namespace Go.Proofs.Ytocpfioifamkmab
open Go.RowKit
set_option linter.unusedVariables false

theorem Try.infoR : (Try.prog.info? 64).map (fun i => (i.zero, i.size, i.bytes)) = some (some (.agg #[.int .i64 0, .int .i64 0]), 2, 16) := by kernel_rfl

theorem push_ritem (w : World) (β : Option Nat) (v : Value) (xs : List (Int × Int)) (hv : SF it 2 w 64 β v xs) (b : Nat) (n x : Int) (hb : w.heap[b]? = some (.cells #[.int .i64 n, .int .i64 x] 64 (0, 0))) (hn : xs.length ≤ 100000) :
    ∃ v' w', (∀ ty, (Builtin.append_ #[49, 49] ty #[v, .slice (some ⟨b, 0, none⟩) 1 1]).run Try.prog w = .ok v' w') ∧ NowF it 2 w w' 64 β v' (xs ++ [(n, x)]) := by
  obtain ⟨i0, hi0, hz0, hz1, hz2⟩ := info_parts Try.infoR
  obtain ⟨v', w', hr, hN⟩ := run_pushF sz_it (P := Try.prog) w 49 0 64 i0 _ 16 Try.underlying49 hi0 hz0 hz1 rfl hz2 β v xs hv ⟨b, 0, none⟩ 1 1 [(n, x)] rfl (fun j u hj => by
    rw [cl_one] at hj
    rcases j with _ | _ | j
    · rw [add_lit, cell_row hb]; simpa [it] using hj
    · rw [add_lit, cell_row hb]; simpa [it] using hj
    · simp [it] at hj) (by omega) (by omega) (by omega)
  exact ⟨v', w', fun ty => hr, hN⟩

/-- A list of the document items that the call has made, from block base on. -/
def RL (w : World) (base : Nat) (v : Value) (xs : List (Int × Int)) : Prop := ∃ β, SF it 2 w 64 β v xs ∧ ∀ g, β = some g → base ≤ g

theorem RL.below {w w' : World} {base : Nat} {v : Value} {xs : List (Int × Int)} (h : RL w base v xs) (hb : Below w.heap.size w w') : RL w' base v xs := by
  obtain ⟨β, h1, h2⟩ := h
  exact ⟨β, h1.fr (S := fun _ => False) (Fr.of_below hb) (fun _ _ h => h), h2⟩
theorem RL.mono {w : World} {b b' : Nat} {v : Value} {xs : List (Int × Int)} (h : RL w b v xs) (hb : b' ≤ b) : RL w b' v xs := by
  obtain ⟨β, h1, h2⟩ := h
  exact ⟨β, h1, fun g hg => by have := h2 g hg; omega⟩
theorem RL.grow {w0 u : World} {base : Nat} {v : Value} {xs : List (Int × Int)} {n y : Int} (h : RL u base v xs) (hb : Below base w0 u) (hlt : base ≤ w0.heap.size) (hn : xs.length ≤ 100000) :
    ∃ v' w', (∀ ty, (Builtin.append_ #[49, 49] ty #[v, .slice (some ⟨u.heap.size, 0, none⟩) 1 1]).run Try.prog (u.alloc (.cells #[.int .i64 n, .int .i64 y] 64)) = .ok v' w') ∧ RL w' base v' (xs ++ [(n, y)]) ∧ Below base w0 w' := by
  obtain ⟨β, hS, hg⟩ := h
  obtain ⟨v', w', hr, hN⟩ := push_ritem (u.alloc (.cells #[.int .i64 n, .int .i64 y] 64)) β v xs (SF.fr (S := fun _ => False) hS (Fr.alloc _ _ _) (fun _ _ h => h)) u.heap.size n y (heap_alloc_new u _) hn
  obtain ⟨g', h1, h2, h3⟩ := hN.out
  have hs := hb.size
  have B2 : Below base w0 (u.alloc (.cells #[.int .i64 n, .int .i64 y] 64)) := hb.alloc (by omega) _
  refine ⟨v', w', hr, ⟨some g', h1, ?_⟩, B2.trans (h3.below (by simp; omega) (fun k hk => hg k hk))⟩
  intro g e
  injection e with e
  subst e
  rcases h2 with h2 | h2
  · exact hg _ h2
  · rw [h2]; simp; omega

set_option maxRecDepth 100000 in
set_option maxHeartbeats 4000000 in
theorem span_rk (y : Nat) (p : St) (put : List Int) (v : Value) (β : Option Nat) (q n : Nat) (w : World) (h : RK w y p put v β) (hq : p.a = q) (hn : n ≤ p.L.length) :
    Calls Try.prog 31 #[.pointer (some ⟨y, 0, none⟩), .int .i64 ((q : Int) + 1), .int .i64 ((q : Int) + n)] w fun e w' => ∃ u, e = .returned u ∧ RL w' w.heap.size u (items p.a (p.L.take n)) ∧ Below w.heap.size w w' := by
  have hlk := h.lk
  have hll := hlk.len
  have hf := h.ok.few
  obtain ⟨m, hm⟩ : ∃ m, put.length = m := ⟨_, rfl⟩
  obtain ⟨a, c, hv, hc1, hc2⟩ := h.row.form
  subst hv
  rw [hm] at h hc1
  have HK := hd h
  have HM := hd hm
  have HLK := hd hlk
  rw [hq] at hll hf
  rw [hq]
  have HQ := hd hq
  have hnm : q + n ≤ m ∧ m ≤ 4096 := by omega
  clear h hm hlk hll hf hq
  have S0 : Hid (RL w w.heap.size (.slice none 0 0) (items q (p.L.take 0)) ∧ Below w.heap.size w w) := ⟨⟨none, ⟨rfl, rfl⟩, fun g hg => by cases hg⟩, Below.refl _ _⟩
  go_enter Try.func31, Try.ntmps31
  go_wp2_with fail
  go_loopw [7, 8] (fun u i wr => ∃ j : Nat, j ≤ n ∧ i = .int .i64 ((q : Int) + 1 + j) ∧ Hid (RL wr w.heap.size u (items q (p.L.take j)) ∧ Below w.heap.size w wr)) (fun _ i _ => q + 1 + n - (intOf i).toNat)
  case atStart => exact ⟨0, Nat.zero_le _, by simp, S0⟩
  case round =>
    obtain ⟨j, hj, rfl, hr⟩ := hrel
    clear S0
    by_cases hlt : j < n
    · have K1 := HK.out.below hr.out.2
      have hll := HLK.out.len
      have jL : j < p.L.length := by have := HM.out; have := HQ.out; omega
      have hpl : q + j < put.length := by have := HM.out; omega
      have hLj : p.L[j] = put[q + j] := by
        have : p.L[j]? = put[q + j]? := by rw [HLK.out.2, HQ.out, List.getElem?_drop]
        rw [List.getElem?_eq_getElem jL, List.getElem?_eq_getElem hpl] at this
        injection this
      obtain ⟨g, rfl, hca⟩ : ∃ g, a = some ⟨g, 0, none⟩ ∧ wr.cell? ⟨g, q + j, none⟩ = some (.int .i64 p.L[j]) := by
        have hr := K1.row
        cases β with
        | none =>
          obtain ⟨-, h2⟩ := hr
          rw [h2] at hpl
          simp at hpl
        | some g' =>
          obtain ⟨cap, h1, hR⟩ := hr
          injection h1 with h1 h2 h3
          refine ⟨g', h1, ?_⟩
          have := hR.cell sz_ei (q + j) 0 hpl (by omega)
          rw [hLj]
          simpa [ei] using this
      have x1 := cell_row K1.box 1
      simp at x1
      have hl : (items q (p.L.take j)).length = j := by rw [items_len]; simp; omega
      have ext : items q (p.L.take (j + 1)) = items q (p.L.take j) ++ [((q : Int) + 1 + j, p.L[j])] := by
        rw [List.take_succ_eq_append_getElem jL, items_snoc]
        simp
        omega
      obtain ⟨v', w', hap, h1, h2⟩ := RL.grow (n := (q : Int) + 1 + j) (y := p.L[j]) hr.out.1 hr.out.2 (Nat.le_refl _) (by omega)
      rw [← ext] at h1
      have Z := hd (And.intro h1 h2)
      obtain ⟨r, hr5⟩ : ∃ r, q + j = r := ⟨_, rfl⟩
      have e1 : (q : Int) + 1 + (j : Int) = (r : Int) + 1 := by omega
      have e2 : IntKind.i64.wrap (r : Int) = (r : Int) := by rw [IntKind.wrap_i64]; omega
      have i2 : (r : Int) + 1 ≤ (q : Int) + n := by omega
      have i3 : r < m := by have := HM.out; omega
      have i4 : (r : Int) < (m : Int) := by omega
      rw [hr5] at hca
      rw [e1] at hap ⊢
      clear h1 h2 ext hl K1 hr hLj hll
      generalize p.L[j] = yy at hca hap
      go_wp2_with (at_builtin; refine wpList_append_k _ rfl _ _ 49 49 rfl _ _ rfl rfl (hap _) ?_)
      exact ⟨⟨j + 1, by omega, by rw [← hr5]; congr 1; push_cast; omega, Z⟩, by simp [intOf]; omega⟩
    · obtain rfl : j = n := by omega
      have i2 : ¬ (q : Int) + 1 + (j : Int) ≤ (q : Int) + j := by omega
      go_wp2
      go_ret
      exact ⟨_, rfl, hr.out⟩

theorem rleft_any (y : Nat) (p : St) (S : Nat → Prop) (w : World) (h : RAt w y p S) : Calls Try.prog 26 #[.pointer (some ⟨y, 0, none⟩)] w fun e w' => ∃ u, e = .returned u ∧ RL w' w.heap.size u (leftL p) ∧ RNow w w' y p S := by
  have H := hd h
  obtain ⟨put, v, β, h, -⟩ := h
  obtain ⟨a, c, rfl, -⟩ := h.row.form
  have hll := h.lk.len
  have hf := h.ok.few
  obtain ⟨m, hm⟩ : ∃ m, put.length = m := ⟨_, rfl⟩
  obtain ⟨q, hq⟩ : ∃ q, p.a = q := ⟨_, rfl⟩
  have c1 := cell_row h.box 1
  have c2 := cell_row h.box 2
  simp at c1 c2
  rw [hm] at c1 hll
  rw [hq] at c2 hll hf
  have C : Hid (∀ U, Below w.heap.size w U → Calls Try.prog 31 #[.pointer (some ⟨y, 0, none⟩), .int .i64 ((q : Int) + 1), .int .i64 m] U fun e w' => ∃ u, e = .returned u ∧ RL w' w.heap.size u (leftL p) ∧ Below w.heap.size w w') := by
    intro U hU
    have := span_rk y p put _ β q p.L.length U (h.below hU) hq (Nat.le_refl _)
    rw [show (q : Int) + (p.L.length : Nat) = m by omega] at this
    refine this.mono ?_
    rintro e w' ⟨u, rfl, h1, h2⟩
    rw [List.take_length] at h1
    exact ⟨u, rfl, h1.mono hU.size, hU.trans (h2.mono hU.size)⟩
  have w1 : IntKind.i64.wrap ((q : Int) + 1) = (q : Int) + 1 := by rw [IntKind.wrap_i64]; omega
  clear h hll hm hq hf
  go_enter Try.func26, Try.ntmps26
  go_wp2_with fail
  go_region_law (first | (go_simp; go_at_call 31; refine (C.out _ (by repeat (first | exact Below.refl _ _ | refine Below.drew ?_ | refine below_drewN ?_ _))).mono ?_; rintro ex w3 ⟨u, rfl, h1, h2⟩; have R := hd (And.intro h1 h2); clear h1 h2))
  all_goals
    go_wp2
    go_ret
    refine ⟨_, rfl, R.out.1.below ?_, H.out.now (R.out.2.trans (Below.mono (B := w3.heap.size) ?_ R.out.2.size))⟩
    all_goals repeat (first | exact Below.refl _ _ | refine Below.drew ?_ | refine below_drewN ?_ _)


end Go.Proofs.Ytocpfioifamkmab
