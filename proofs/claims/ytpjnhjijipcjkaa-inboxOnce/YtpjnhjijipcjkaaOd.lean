/-
  The laws put and out of InboxOnce.
-/
import Derived.Test.YtpjnhjijipcjkaaOc
namespace Go.Proofs.Ytpjnhjijipcjkaa
open Go.RowKit
set_option linter.unusedVariables false

def FO (x : Nat) (p : Ib) (g R : Nat) (V : Nat → Int) (B : Nat → Bool) (C : Nat) : Nat → Thg
  | 0 => inO x p
  | 1 => onceO g x R V B C
  | _ => noObj
section
variable {x : Nat} {p p' : Ib} {g R : Nat} {V V' : Nat → Int} {B B' : Nat → Bool} {C C' : Nat}
theorem FO_0 : setO (FO x p g R V B C) 0 (inO x p') = FO x p' g R V B C := by
  funext j
  rcases j with _ | _ | j <;> simp [setO, FO]
theorem FO_1 : setO (FO x p g R V B C) 1 (onceO g x R V' B' C') = FO x p g R V' B' C' := by
  funext j
  rcases j with _ | _ | j <;> simp [setO, FO]
end

def OH (w0 w : World) (x g R : Nat) (p : Ib) (K : Nat → Prop) : Prop := ∃ V B, MO w0 w K (FO x p g R V B p.c) ∧ OI R p V B

theorem at_1 {w0 w : World} {K : Nat → Prop} {x : Nat} {p : Ib} {g R : Nat} {V : Nat → Int} {B : Nat → Bool} {C : Nat} (h : MO w0 w K (FO x p g R V B C)) : ∃ cur, OnceK w g x R V B C cur := by
  obtain ⟨S, ⟨h1, -⟩, -⟩ := h.now 1
  exact h1
/-- A write into the struct. -/
theorem once_set {w0 w w' : World} {K : Nat → Prop} {x : Nat} {p : Ib} {g R : Nat} {V V' : Nat → Int} {B B' : Nat → Bool} {C C' : Nat} {cur' : Array Value} (h : MO w0 w K (FO x p g R V B C)) (hF : Fr (· = g) w w') (h2 : OnceK w' g x R V' B' C' cur') : MO w0 w' K (FO x p g R V' B' C') ∧ KP K w w' := by
  obtain ⟨S, ⟨-, hg, hS⟩, h3⟩ := h.now 1
  have := h3 (onceO g x R V' B' C') w' S (frm_once _ _ _ _ _ _) ⟨⟨_, h2⟩, hg, fun k hk => Nat.lt_of_lt_of_le (hS k hk) hF.size⟩ (fun k hk => .inl hk) (hF.mono (fun k _ hk => by rw [hk]; exact hg))
  rw [FO_1] at this
  exact this

set_option maxRecDepth 100000 in
set_option maxHeartbeats 4000000 in
theorem o_put {w0 w : World} {K : Nat → Prop} {x g R : Nat} {p : Ib} (n y : Int) (h : OH w0 w x g R p K) :
    Calls Try.prog 22 #[.pointer (some ⟨g, 0, none⟩), .int .i64 n, .int .i64 y] w fun e w' => e = .returned (.bool true) ∧ OH w0 w' x g R (iputS p n (.int .i64 y)) K ∧ KP K w w' := by
  obtain ⟨V, B, hM, hO⟩ := h
  obtain ⟨cur, hK⟩ := at_1 hM
  have cx := hK.cx
  have HM := hd hM
  have HO := hd hO
  have hok := (mi_ok hM 0 rfl).1
  have hc2 := hok.c2
  have hr2 := hok.r2
  rw [hO.r] at hr2
  clear hM hO hK
  go_enter Try.func22, Try.ntmps22
  go_wp2_with fail
  refine (mi_put HM.out 0 rfl n y).mono ?_
  rintro e w1 ⟨rfl, h1, h1k⟩
  rw [FO_0] at h1
  obtain ⟨cur1, hK1⟩ := at_1 h1
  have c1 := hK1.cc
  have cr := hK1.cr
  by_cases hn : n < 1 ∨ 4096 < n
  · have hE : iputE p n = 91 := by rw [iputE, if_pos hn]
    have Z : Hid (OH w0 w1 x g R (iputS p n (.int .i64 y)) K ∧ KP K w w1) := by
      rw [iputS, if_neg (by rw [hE]; omega)] at h1 ⊢
      exact ⟨⟨V, B, h1, HO.out⟩, h1k⟩
    rw [hE]
    clear h1 hK1 HM HO h1k hE
    rcases hn with hn | hn
    · go_wp2_with fail
      go_ret
      exact ⟨rfl, Z.out⟩
    · have hn' : ¬ n < 1 := by omega
      go_wp2_with fail
      go_ret
      exact ⟨rfl, Z.out⟩
  obtain ⟨m, rfl⟩ : ∃ m : Nat, n = m := ⟨n.toNat, by omega⟩
  have i1 : ¬ (m : Int) < 1 := by omega
  have i2 : ¬ (4096 : Int) < (m : Int) := by omega
  have cb := hK1.cb (i := m) (by omega)
  by_cases hle : (m : Int) ≤ p.c
  · have hE : iputE p m = 92 := by rw [iputE, if_neg hn, if_pos (.inl hle)]
    have Z : Hid (OH w0 w1 x g R (iputS p m (.int .i64 y)) K ∧ KP K w w1) := by
      rw [iputS, if_neg (by rw [hE]; omega)] at h1 ⊢
      exact ⟨⟨V, B, h1, HO.out⟩, h1k⟩
    rw [hE]
    clear h1 hK1 HM HO h1k hE hn cb
    go_wp2_with fail
    go_ret
    exact ⟨rfl, Z.out⟩
  have hB := HO.out.b m (by omega) (by omega)
  cases hh : hasK p.H m
  · rw [hB, hh] at cb
    by_cases hf : (p.c : Int) + R < m
    · have hE : iputE p m = 93 := by rw [iputE, if_neg hn, Int.toNat_natCast, if_neg (by rw [hh]; simp; omega), if_pos (by rw [HO.out.r]; exact hf)]
      have Z : Hid (OH w0 w1 x g R (iputS p m (.int .i64 y)) K ∧ KP K w w1) := by
        rw [iputS, if_neg (by rw [hE]; omega)] at h1 ⊢
        exact ⟨⟨V, B, h1, HO.out⟩, h1k⟩
      have hw : IntKind.i64.wrap ((p.c : Int) + R) = (p.c : Int) + R := by rw [IntKind.wrap_i64]; omega
      rw [hE]
      clear h1 hK1 HM HO h1k hE hn hB hh
      go_wp2_with fail
      go_quiet (fail)
      go_wp2_with fail
      go_ret
      refine ⟨rfl, ?_, Z.out.2⟩
      obtain ⟨V, B, q1, q2⟩ := Z.out.1
      exact ⟨V, B, q1.below (below_drewN' _ _), q2⟩
    · have hE : iputE p m = 0 := by rw [iputE, if_neg hn, Int.toNat_natCast, if_neg (by rw [hh]; simp; omega), if_neg (by rw [HO.out.r]; exact hf)]
      have hw : IntKind.i64.wrap ((p.c : Int) + R) = (p.c : Int) + R := by rw [IntKind.wrap_i64]; omega
      have hci : (iputS p m (.int .i64 y)).c = p.c := by rw [iputS, if_pos hE]
      have ZZ : Hid (∀ q, OnceK (w1.drewN q) g x R V B p.c cur1 ∧ OH w0 (((w1.drewN q).setCell ⟨g, 4099 + m, none⟩ (.bool true)).setCell ⟨g, 2 + m, none⟩ (.int .i64 y)) x g R (iputS p m (.int .i64 y)) K ∧ KP K w (((w1.drewN q).setCell ⟨g, 4099 + m, none⟩ (.bool true)).setCell ⟨g, 2 + m, none⟩ (.int .i64 y))) := by
        intro q
        have hKq : OnceK (w1.drewN q) g x R V B p.c cur1 := ⟨hK1.blk, hK1.size, hK1.x, hK1.r, hK1.v, hK1.b, hK1.c⟩
        have h2 := (hKq.setB (i := m) (by omega) true).setV (i := m) (by omega) y
        have hF : Fr (· = g) (w1.drewN q) (((w1.drewN q).setCell ⟨g, 4099 + m, none⟩ (.bool true)).setCell ⟨g, 2 + m, none⟩ (.int .i64 y)) := Fr.trans (S := (· = g)) (Fr.setCell _ _ _ rfl) (Fr.setCell _ _ _ rfl)
        have hq := h1.below (below_drewN' w1 q)
        obtain ⟨r1, r2⟩ := once_set hq hF h2
        refine ⟨hKq, ⟨_, _, ?_, HO.out.put m y hE⟩, (h1k.trans (h1.kp (below_drewN' w1 q))).trans r2⟩
        rw [hci]
        exact r1
      rw [hE]
      clear h1 hK1 HM HO h1k hE hn hB hh hci
      go_wp2_with fail
      go_quiet (fail)
      obtain ⟨z1, z2⟩ := ZZ.out nq
      have fb := frozen_row z1.blk (4099 + m)
      have fv := frozen_row z1.blk (2 + m)
      have cv := z1.cv (i := m) (by omega)
      have cb' := z1.cb (i := m) (by omega)
      have Z := hd z2
      clear ZZ z1 z2
      go_wp2_with fail
      go_ret
      exact ⟨rfl, Z.out⟩
  · rw [hB, hh] at cb
    have hE : iputE p m = 92 := by rw [iputE, if_neg hn, Int.toNat_natCast, if_pos (.inr hh)]
    have Z : Hid (OH w0 w1 x g R (iputS p m (.int .i64 y)) K ∧ KP K w w1) := by
      rw [iputS, if_neg (by rw [hE]; omega)] at h1 ⊢
      exact ⟨⟨V, B, h1, HO.out⟩, h1k⟩
    rw [hE]
    clear h1 hK1 HM HO h1k hE hn hB hh
    go_wp2_with fail
    go_ret
    exact ⟨rfl, Z.out⟩

end Go.Proofs.Ytpjnhjijipcjkaa
