/-
  calm: what was handed out holds what was written into it.
-/
import Derived.Test.YtkkklfnooeofcabXd
namespace Go.Proofs.Ytkkklfnooeofcab
open Go.RowKit
set_option linter.unusedVariables false

theorem HJ.drewN {α : Type} {f : α → List Value} {k : Nat} {e : TypeId} {w : World} {S : Nat → Prop} {s : SV} {xs : List α} (h : HJ f k e w S s xs) (m : Nat) : HJ f k e (w.drewN m) S s xs := h.fr (Fr.drewN (fun _ => False) w m) (fun _ _ h => h)

set_option maxRecDepth 100000 in
set_option maxHeartbeats 4000000 in
theorem eqInts_hj {S S' : Nat → Prop} (a1 a2 : Option Addr) (n c d : Nat) (xs : List Int) (w : World) (hu : HJ ic 1 3 w S ⟨a1, n, c⟩ xs) (hv : HJ ic 1 3 w S' ⟨a2, n, d⟩ xs) :
    Calls Try.prog 14 #[.slice a1 n c, .slice a2 n d] w fun e w' => e = .returned (.bool true) ∧ ∃ m, w' = w.drewN m := by
  have hc : n ≤ c ∧ c ≤ 9223372036854775807 := ⟨hu.2.1, hu.2.2.1⟩
  have hd1 : n ≤ d ∧ d ≤ 9223372036854775807 := ⟨hv.2.1, hv.2.2.1⟩
  have HN : Hid (xs.length = n) := hu.1
  have RU := hd (fun i hi => hu.get sz_ic i hi)
  have RV := hd (fun i hi => hv.get sz_ic i hi)
  clear hu hv
  go_enter Try.func14, Try.ntmps14
  go_wp2
  go_loopw [5] (fun i wr => ∃ k m : Nat, k ≤ n ∧ i = .int .i64 k ∧ wr = w.drewN m) (fun i _ => n - (intOf i).toNat)
  case atStart => exact ⟨0, 0, Nat.zero_le _, rfl, rfl⟩
  case round =>
    obtain ⟨k, m, hk, rfl, rfl⟩ := hrel
    by_cases hlt : k < n
    · have kx : k < xs.length := by have := HN.out; omega
      obtain ⟨b1, e1, X0⟩ := RU.out k kx
      obtain ⟨b2, e2, Y0⟩ := RV.out k kx
      subst e1 e2
      have x0 := X0 0 (by omega)
      have y0 := Y0 0 (by omega)
      clear X0 Y0
      simp only [ic, Nat.mul_one, Nat.add_zero, List.getElem?_cons_zero] at x0 y0
      have i1 : (k : Int) < (n : Int) := by omega
      generalize xs[k] = x at *
      go_wp2
      go_quiet (fail)
      go_wp2
      exact ⟨⟨k + 1, _, by omega, by go_num, rfl⟩, by simp [intOf]; omega⟩
    · obtain rfl : k = n := by omega
      go_wp2
      go_ret
      exact ⟨rfl, _, rfl⟩

set_option maxRecDepth 100000 in
set_option maxHeartbeats 4000000 in
theorem eqReplies_hj {S S' : Nat → Prop} (a1 a2 : Option Addr) (n c d : Nat) (xs : List (Int × ByteArray)) (w : World) (hu : HJ rpc 2 90 w S ⟨a1, n, c⟩ xs) (hv : HJ rpc 2 90 w S' ⟨a2, n, d⟩ xs) :
    Calls Try.prog 15 #[.slice a1 n c, .slice a2 n d] w fun e w' => e = .returned (.bool true) ∧ ∃ m, w' = w.drewN m := by
  have hc : n ≤ c ∧ c ≤ 9223372036854775807 := ⟨hu.2.1, hu.2.2.1⟩
  have hd1 : n ≤ d ∧ d ≤ 9223372036854775807 := ⟨hv.2.1, hv.2.2.1⟩
  have HN : Hid (xs.length = n) := hu.1
  have RU := hd (fun i hi => hu.get sz_rpc i hi)
  have RV := hd (fun i hi => hv.get sz_rpc i hi)
  clear hu hv
  go_enter Try.func15, Try.ntmps15
  go_wp2
  go_loopw [5] (fun i wr => ∃ k m : Nat, k ≤ n ∧ i = .int .i64 k ∧ wr = w.drewN m) (fun i _ => n - (intOf i).toNat)
  case atStart => exact ⟨0, 0, Nat.zero_le _, rfl, rfl⟩
  case round =>
    obtain ⟨k, m, hk, rfl, rfl⟩ := hrel
    by_cases hlt : k < n
    · have kx : k < xs.length := by have := HN.out; omega
      obtain ⟨b1, e1, X0⟩ := RU.out k kx
      obtain ⟨b2, e2, Y0⟩ := RV.out k kx
      subst e1 e2
      have x1 := X0 1 (by omega)
      have y1 := Y0 1 (by omega)
      have x0 := X0 0 (by omega)
      have y0 := Y0 0 (by omega)
      clear X0 Y0
      simp only [rpc, Nat.add_zero, List.getElem?_cons_zero, List.getElem?_cons_succ] at x0 y0 x1 y1
      have i1 : (k : Int) < (n : Int) := by omega
      generalize xs[k] = x at *
      obtain ⟨p, s⟩ := x
      simp only at x0 y0 x1 y1
      go_wp2
      go_quiet (fail)
      go_wp2
      exact ⟨⟨k + 1, _, by omega, by go_num, rfl⟩, by simp [intOf]; omega⟩
    · obtain rfl : k = n := by omega
      go_wp2
      go_ret
      exact ⟨rfl, _, rfl⟩

/-- The lists at one place of both. -/
theorem P2.at {α : Type} {f : α → List Value} {k : Nat} {e es : TypeId} {w : World} {X off : Nat} {K : Nat → Prop} {aL aW : Option Addr} {n cL cW : Nat} {βL βW : Option Nat} {SL SW : List SV} {E : List (List α)} (h : P2 f k e es w X off K (.slice aL n cL) βL SL [] E (.slice aW n cW) βW SW E) (i : Nat) (hi : i < n) :
    ∃ gL gW a1 a2 l c d xs, aL = some ⟨gL, 0, none⟩ ∧ aW = some ⟨gW, 0, none⟩ ∧ w.cell? ⟨gL, i, none⟩ = some (.slice a1 l c) ∧ w.cell? ⟨gW, i, none⟩ = some (.slice a2 l d) ∧ HJ f k e w K ⟨a1, l, c⟩ xs ∧ HJ f k e w K ⟨a2, l, d⟩ xs := by
  have one : ∀ {a : Option Addr} {c : Nat} {β : Option Nat} {S : List SV}, KR f k e es w K (.slice a n c) β S [] E → ∃ g s xs, a = some ⟨g, 0, none⟩ ∧ w.cell? ⟨g, i, none⟩ = some (.slice s.a s.n s.c) ∧ E[i]? = some xs ∧ HJ f k e w K s xs := by
    intro a c β S hR
    have hrow := hR.row
    rw [List.append_nil] at hrow
    cases β with
    | none =>
      obtain ⟨h1, h2⟩ := hrow
      injection h1 with h1 h3 h4
      omega
    | some g =>
      have hrow2 := hrow
      obtain ⟨cap, h1, hF⟩ := hrow
      injection h1 with h1 h3 h4
      have hl : i < S.length := by omega
      have hc := hF.cell sz_sv i 0 hl (by omega)
      have hE : i < E.length := by rw [← hR.len]; exact hl
      refine ⟨g, S[i], E[i], h1, ?_, List.getElem?_eq_getElem hE, hR.ho i _ _ (List.getElem?_eq_getElem hl) (List.getElem?_eq_getElem hE)⟩
      rw [Nat.mul_one, Nat.add_zero] at hc
      rw [hc]
      rfl
  obtain ⟨gL, s, xs, e1, c1, x1, j1⟩ := one h.kL
  obtain ⟨gW, t, ys, e2, c2, x2, j2⟩ := one h.kW
  rw [x1] at x2
  obtain rfl := Option.some.inj x2
  obtain ⟨a1, l, c⟩ := s
  obtain ⟨a2, l2, d⟩ := t
  have : l = l2 := by
    have h1 := j1.1
    have h2 := j2.1
    simp only at h1 h2
    omega
  subst this
  exact ⟨gL, gW, a1, a2, l, c, d, xs, e1, e2, c1, c2, j1, j2⟩
theorem P2.len {α : Type} {f : α → List Value} {k : Nat} {e es : TypeId} {w : World} {X off : Nat} {K : Nat → Prop} {vL vW : Value} {βL βW : Option Nat} {SL SW : List SV} {E : List (List α)} {m : Nat} (h : P2 f k e es w X off K vL βL SL [] E vW βW SW E) (hm : E.length = m) : ∃ aL cL aW cW, vL = .slice aL m cL ∧ vW = .slice aW m cW ∧ (m ≤ cL ∧ cL ≤ 9223372036854775807) ∧ m ≤ cW ∧ cW ≤ 9223372036854775807 := by
  obtain ⟨a, c, h1, h2, h3⟩ := h.kL.row.form
  obtain ⟨a', c', h4, h5, h6⟩ := h.kW.row.form
  have e1 : (SL ++ []).length = m := by rw [List.append_nil, h.kL.len, hm]
  have e2 : (SW ++ []).length = m := by rw [List.append_nil, h.kW.len, hm]
  rw [e1] at h1 h2
  rw [e2] at h4 h5
  exact ⟨a, c, a', c', h1, h4, ⟨h2, h3⟩, h5, h6⟩

set_option maxRecDepth 100000 in
set_option maxHeartbeats 8000000 in
theorem calm_any (X off : Nat) (K1 K2 : Nat → Prop) (m1 m2 : Nat) (w : World) (h1 : PP ic 1 3 59 w X (off + 2) K1 m1) (h2 : PP rpc 2 90 45 w X (off + 4) K2 m2) :
    Calls Try.prog 8 #[.pointer (some ⟨X, off, none⟩)] w fun e w' => e = .returned (.bool true) ∧ ∃ m, w' = w.drewN m := by
  obtain ⟨vL, βL, SL, vW, βW, SW, E, hP, hE⟩ := h1
  obtain ⟨vA, βA, SA, vB, βB, SB, F, hQ, hF⟩ := h2
  obtain ⟨aL, cL, aW, cW, rfl, rfl, hl1, hl2⟩ := hP.len hE
  obtain ⟨aA, cA, aB, cB, rfl, rfl, hl3, hl4⟩ := hQ.len hF
  have c2 : w.cell? ⟨X, off + 2, none⟩ = some (.slice aL m1 cL) := hP.box.get (i := 0) _ rfl
  have c3 : w.cell? ⟨X, off + 3, none⟩ = some (.slice aW m1 cW) := hP.box.get (i := 1) _ rfl
  have c4 : w.cell? ⟨X, off + 4, none⟩ = some (.slice aA m2 cA) := hQ.box.get (i := 0) _ rfl
  have c5 : w.cell? ⟨X, off + 5, none⟩ = some (.slice aB m2 cB) := hQ.box.get (i := 1) _ rfl
  have HP := hd (fun i hi => hP.at i hi)
  have HQ := hd (fun i hi => hQ.at i hi)
  clear hP hQ hE hF
  go_enter Try.func8, Try.ntmps8
  go_wp2
  go_loopw [3] (fun i wr => ∃ k m : Nat, k ≤ m1 ∧ i = .int .i64 k ∧ wr = w.drewN m) (fun i _ => m1 - (intOf i).toNat)
  case atStart => exact ⟨0, 0, Nat.zero_le _, rfl, rfl⟩
  case round =>
    obtain ⟨k, m, hk, rfl, rfl⟩ := hrel
    by_cases hlt : k < m1
    · obtain ⟨gL, gW, a1, a2, l, c, d, xs, rfl, rfl, x1, x2, j1, j2⟩ := HP.out k hlt
      have C := hd (fun q => eqInts_hj a1 a2 l c d xs (w.drewN q) (j1.drewN q) (j2.drewN q))
      have i1 : (k : Int) < (m1 : Int) := by omega
      clear j1 j2
      go_wp2
      go_quiet ((go_at_call 14; rename_i q; exact (C.out _).mono fun e w2 h => ⟨h.1, by obtain ⟨r, hr⟩ := h.2; exact ⟨q + r, by rw [hr, World.drewN_drewN, Nat.add_assoc]⟩⟩))
      go_wp2
      exact ⟨⟨k + 1, _, by omega, by go_num, rfl⟩, by simp [intOf]; omega⟩
    · obtain rfl : k = m1 := by omega
      clear HP
      go_wp2
      go_loopw [4] (fun i wr => ∃ k m : Nat, k ≤ m2 ∧ i = .int .i64 k ∧ wr = w.drewN m) (fun i _ => m2 - (intOf i).toNat)
      case atStart => exact ⟨0, _, Nat.zero_le _, rfl, rfl⟩
      case round =>
        obtain ⟨k2, m', hk2, rfl, rfl⟩ := hrel
        by_cases hlt2 : k2 < m2
        · obtain ⟨gL, gW, a1, a2, l, c, d, xs, rfl, rfl, x1, x2, j1, j2⟩ := HQ.out k2 hlt2
          have C := hd (fun q => eqReplies_hj a1 a2 l c d xs (w.drewN q) (j1.drewN q) (j2.drewN q))
          have i1 : (k2 : Int) < (m2 : Int) := by omega
          clear j1 j2
          go_wp2
          go_quiet ((go_at_call 15; rename_i q; exact (C.out _).mono fun e w2 h => ⟨h.1, by obtain ⟨r, hr⟩ := h.2; exact ⟨q + r, by rw [hr, World.drewN_drewN, Nat.add_assoc]⟩⟩))
          go_wp2
          exact ⟨⟨k2 + 1, _, by omega, by go_num, rfl⟩, by simp [intOf]; omega⟩
        · obtain rfl : k2 = m2 := by omega
          go_wp2
          go_ret
          exact ⟨rfl, _, rfl⟩
end Go.Proofs.Ytkkklfnooeofcab
