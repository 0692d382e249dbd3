/-
  Append.
-/
import Derived.Test.YtdlelbdhcpjdfabDd
import Derived.Deep.RegionLaw
namespace Go.Proofs.Ytdlelbdhcpjdfab
open Go.RowKit
set_option linter.unusedVariables false

set_option maxRecDepth 100000 in
set_option maxHeartbeats 2000000 in
theorem append_bad (r : Nat) (ρ : Option Nat) (B : List Int) (s : Nat) (a : Option Addr) (n c : Nat) (w : World) (h : DK w r ρ B s) (hn : 262144 < B.length + n) :
    Calls Try.prog 14 #[.pointer (some ⟨r, 0, none⟩), .slice a n c] w fun x w' => x = .returned (.int .i64 20) ∧ w = w' := by
  have hle := h.size_le
  obtain ⟨R, hh, -⟩ := h
  have c1 := cell_row hh 1
  simp at c1
  clear hh
  generalize B.length = L at *
  have i1 : (262144 : Int) - (L : Int) < (n : Int) := by omega
  go_enter Try.func14, Try.ntmps14
  go_wp2
  go_ret
  exact ⟨rfl, rfl⟩

theorem step_copy_0 {P : Program} {ops : Array Oper} {o : Oper} {a : Act} {w : World} {K : Act → World → Prop} {Q : Exit → Act → World → Prop} {E : Prop} (hgd : o.guard = none) (d s : Operand) (dT sT : TypeId)
    (ho : o.op = .call { callee := .builtin .copy, args := #[d, s], argTypes := #[dT, sT] }) (elem : TypeId) (hu : P.underlying dT = some (.slice elem)) (hsz : (P.info? elem).map (·.size) = some 1)
    (dp sp : Option Addr) (dLen dCap sLen sCap : Nat) (hd' : a.eval d = .slice dp dLen dCap) (hs : a.eval s = .slice sp sLen sCap) (h0 : Nat.min sLen dLen = 0)
    (h : K (a.put o.dst (goInt 0)) w) :
    if Region.wanted o (yielded ops a.tmps) = true then Oper.wp P o a w K Q else E := by
  have hw : Region.wanted o (yielded ops a.tmps) = true := by simp [Region.wanted, hgd]
  rw [if_pos hw]
  have hrun := run_copy_none (P := P) w dT sT o.type elem dp sp dLen dCap sLen sCap hu hsz h0
  unfold Oper.wp
  simp [execOp, ho, resolve, invoke, builtin, hd', hs, hrun, Result.andThen]
  exact h

theorem splice_app (R B xs : List Int) (h : B = R.take B.length) (hl : B.length + xs.length ≤ R.length) : (splice R B.length xs).take (B.length + xs.length) = B ++ xs := by
  unfold splice
  rw [← h, ← List.append_assoc, List.take_append_of_le_length (by simp), List.take_of_length_le (by simp)]

theorem DKR.store {w w5 w6 : World} {r p n : Nat} {R B : List Int} {s : Nat} {xs : List Int} (h : DKR w r (some p) R B s) (hF : Fr (· = p) w w5) (hG : w5.heap[p]? = some (.cells (ints (splice R B.length xs)).toArray 5 (0, 0)))
    (hl : xs.length = n) (hn : B.length + n ≤ R.length) (h6 : w6 = w5.setCell ⟨r, 1, none⟩ (.int .i64 ((B.length : Int) + (n : Int)))) : DK w6 r (some p) (B ++ xs) s := by
  obtain ⟨hh, hR, h1, h2, h3, h4⟩ := h
  subst h6
  have hsl : (splice R B.length xs).length = R.length := length_splice _ _ _ (by omega)
  have hlen : (B ++ xs).length = B.length + n := by simp [hl]
  refine ⟨splice R B.length xs, ?_, ⟨hR.1, ?_⟩, ?_, by omega, by omega, by omega⟩
  · rw [set_row (hF.keeps hh (fun e => hR.1 e.symm)) 1 _, hsl, hlen]
    simp
  · rw [Below.heap_setCell _ _ _ _ hR.1]
    exact hG
  · rw [hlen, ← hl, splice_app R B xs h1 (by omega)]

set_option maxRecDepth 100000 in
set_option maxHeartbeats 4000000 in
theorem append_good (r : Nat) (ρ : Option Nat) (B : List Int) (s : Nat) (a : Option Addr) (n c : Nat) (xs : List Int) (w : World) (h : DK w r ρ B s) (hx : IsB w a n c xs) (hxr : 0 < n → ∀ b off, a = some ⟨b, off, none⟩ → ¬ b = r) (hn : B.length + n ≤ 262144) :
    Calls Try.prog 14 #[.pointer (some ⟨r, 0, none⟩), .slice a n c] w fun x w' => x = .returned (.int .i64 0) ∧ ∃ ρ', DK w' r ρ' (B ++ xs) s ∧ Moved w ρ ρ' ∧ Fr (Own r ρ) w w' := by
  have hle := h.size_le
  have H := hd h
  have HX := hd hx
  have HXR := hd hxr
  have hlt := hd h.lt
  have hxl := hx.1
  obtain ⟨R0, hh, -⟩ := h
  have c1 := cell_row hh 1
  simp at c1
  clear hh hx hxr
  generalize hL : B.length = L at *
  have i1 : ¬ (262144 : Int) - (L : Int) < (n : Int) := by omega
  go_enter Try.func14, Try.ntmps14
  go_wp2_with fail
  refine (widen_any r ρ B s (L + n) _ H.out hn (by omega)).mono ?_
  rintro x w1 ⟨⟨v, rfl⟩, ρ1, R, hD, hRn, hm, hF⟩
  have hL1 := hd hL
  have D1 := hd hD
  obtain ⟨d1, d2, d3, d4, d5, d6⟩ := hD
  rw [hL] at d1
  have e0 := cell_row d1 0
  have e1 := cell_row d1 1
  have f1 := frozen_row d1 1
  simp at e0 e1
  have HD1 := hd d1
  have X1 := hd (HX.out.fr hF HXR.out)
  have F1 := hd hF
  have hM1 := hd hm
  clear d1 d3 hF hm hL HX c1
  generalize hK : R.length = K at *
  cases ρ1 with
  | none =>
    have hR0 : R = [] := d2
    subst hR0
    obtain rfl : K = 0 := hK.symm
    obtain rfl : L = 0 := by omega
    obtain rfl : n = 0 := by omega
    obtain rfl : xs = [] := List.eq_nil_of_length_eq_zero hxl
    have e0' : w1.cell? ⟨r, 0, none⟩ = some (.slice none 0 0) := e0
    have Z : Hid (DK ((w1.drew).setCell ⟨r, 1, none⟩ (.int .i64 0)) r none (B ++ []) s ∧ Fr (Own r ρ) w ((w1.drew).setCell ⟨r, 1, none⟩ (.int .i64 0))) := by
      obtain ⟨q1, q2, q3, q4, q5, q6⟩ := D1.out
      have f := (Fr.drew (· = r) w1).trans (Fr.setCell w1.drew ⟨r, 1, none⟩ (.int .i64 0) rfl)
      refine ⟨⟨[], ?_, rfl, by simpa using q3, by simpa using q4, by simpa using q5, by simp⟩, (F1.out.trans f).mono (fun k _ e => .inl e)⟩
      rw [List.append_nil, hL1.out] at *
      rw [set_row ((Fr.drew (fun _ => False) w1).keeps q1 (fun h => h)) 1 _]
      rfl
    clear e0 D1
    go_wp2_with fail
    go_region_law (refine step_copy_0 (by rfl) (.tmp 34) (.tmp 35) 22 22 (by rfl) 5 Try.underlying22 (by kernel_rfl) _ _ 0 0 0 c (by rfl) (by rfl) (by rfl) ?_)
    all_goals (
      go_wp2
      go_ret
      exact ⟨rfl, none, Z.out.1, hM1.out, Z.out.2⟩)
  | some p =>
    have e0' : w1.cell? ⟨r, 0, none⟩ = some (.slice (some ⟨p, 0, none⟩) K K) := e0
    clear e0
    have i2 : (L : Int) ≤ (K : Int) := by omega
    have hwr : IntKind.i64.wrap ((L : Int) + (n : Int)) = (L : Int) + (n : Int) := by
      rw [IntKind.wrap_i64]
      omega
    have hw0 : IntKind.i64.wrap (L : Int) = (L : Int) := by
      rw [IntKind.wrap_i64]
      omega
    by_cases hKL : K = L
    · obtain rfl : n = 0 := by omega
      obtain rfl : xs = [] := List.eq_nil_of_length_eq_zero hxl
      have Z : Hid (DK ((w1.drew).setCell ⟨r, 1, none⟩ (.int .i64 L)) r (some p) (B ++ []) s ∧ Fr (Own r ρ) w ((w1.drew).setCell ⟨r, 1, none⟩ (.int .i64 L))) := by
        obtain ⟨q1, q2, q3, q4, q5, q6⟩ := D1.out
        have f := (Fr.drew (· = r) w1).trans (Fr.setCell w1.drew ⟨r, 1, none⟩ (.int .i64 L) rfl)
        rw [List.append_nil]
        refine ⟨⟨R, ?_, q2.fr f q2.ne, q3, q4, q5, q6⟩, (F1.out.trans f).mono (fun k _ e => .inl e)⟩
        rw [set_row ((Fr.drew (fun _ => False) w1).keeps q1 (fun h => h)) 1 _, hL1.out]
        rfl
      clear D1 d2
      go_wp2_with fail
      go_region_law (refine step_copy_0 (by rfl) (.tmp 34) (.tmp 35) 22 22 (by rfl) 5 Try.underlying22 (by kernel_rfl) _ _ 0 0 0 c (by rfl) (by rfl) (by rfl) ?_)
      all_goals (
        go_wp2
        go_ret
        exact ⟨rfl, some p, Z.out.1, hM1.out, Z.out.2⟩)
    · have G1 := hd ((Fr.drew (fun _ => False) w1).keeps d2.2 (fun h => h))
      have X2 := hd (X1.out.fr (Fr.drew (fun _ => False) w1) (fun _ _ _ _ h => h))
      have hpr := hd d2.1
      clear d2
      go_wp2_with fail
      go_region_law (refine step_copy_b (by rfl) (.tmp 34) (.tmp 35) 22 22 (by rfl) 5 Try.underlying22 (by kernel_rfl) _ _ (K - L) (K - L) n c (by rfl) (by rfl) p L R 5 G1 xs X2 (by omega) (fun _ => rfl) (by omega) ?_; intro w5 G5 F5; have k1 : w5.cell? ⟨r, 1, none⟩ = some (.int .i64 L) := (F5.out.cell (p := ⟨r, 1, none⟩) (block_lt HD1.out) (fun e => hpr.out e.symm)).trans e1; have k2 : w5.frozen? ⟨r, 1, none⟩ = false := frozen_row (F5.out.keeps HD1.out (fun e => hpr.out e.symm)) 1)
      all_goals (
        have Z : Hid (DK (w5.setCell ⟨r, 1, none⟩ (.int .i64 ((L : Int) + (n : Int)))) r (some p) (B ++ xs) s ∧ Fr (Own r ρ) w (w5.setCell ⟨r, 1, none⟩ (.int .i64 ((L : Int) + (n : Int))))) := by
          obtain rfl := hL1.out
          refine ⟨D1.out.store ((Fr.drew (· = p) w1).trans F5.out) G5.out hxl (by omega) rfl, ?_⟩
          refine (((F1.out.trans (Fr.drew _ w1)).mono (fun k _ e => .inl e)).next F5.out ?_).trans (Fr.setCell _ _ _ (.inl rfl))
          rintro i hi rfl
          rcases hM1.out with e | ⟨p', e, hp'⟩
          · exact .inr e.symm
          · obtain rfl := Option.some.inj e
            omega
        clear G5 F5 k1 k2
        go_wp2
        go_ret
        exact ⟨rfl, some p, Z.out.1, hM1.out, Z.out.2⟩)

end Go.Proofs.Ytdlelbdhcpjdfab
