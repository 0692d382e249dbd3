/-
  SpaceWhole: one act.
-/
import Derived.Test.YtmbnimlibnheeabDoorWv
import Derived.Test.YtmbnimlibnheeabDoorWf
namespace Go.Proofs.YtmbnimlibnheeabDoor
open Go.RowKit Go.Lib
set_option linter.unusedVariables false

theorem WW.mono {w0 w : World} {x y : Nat} {s t : Sd} {b1 b2 : Int} {N M M' : Nat} {K : Nat → Prop} {Gs Gt Ins : List El} {X : List En} {vs vt : Value} {βs βt : Option Nat} (h : WW w0 w x y s t b1 b2 N M K Gs Gt Ins X vs βs vt βt) (hM : M ≤ M') : WW w0 w x y s t b1 b2 N M' K Gs Gt Ins X vs βs vt βt :=
  { h with sm := Nat.le_trans h.sm hM, tm := Nat.le_trans h.tm hM }

/-- What an act leaves. -/
def ACTW (w0 w w' : World) (x y : Nat) (s t : Sd) (N M : Nat) (K : Nat → Prop) (Ins : List El) (X : List En) : Prop :=
  ∃ s' t' K' Gs' Gt' Ins' vs' βs' vt' βt', WW w0 w' x y s' t' 0 32 N M K' Gs' Gt' Ins' X vs' βs' vt' βt' ∧ (∀ k, K k → K' k) ∧ (∀ k, K k → w'.heap[k]? = w.heap[k]?) ∧
    ((∃ o : OpE, ∃ pc : Pc, VO o ∧ pc.o = o ∧ s'.way = s.way ++ [pc] ∧ t'.way.length = t.way.length ∧ Ins' = addI Ins o) ∨
     (∃ o : OpE, ∃ pc : Pc, VO o ∧ pc.o = o ∧ t'.way = t.way ++ [pc] ∧ s'.way.length = s.way.length ∧ Ins' = addI Ins o) ∨
     (s'.way.length ≤ s.way.length ∧ t'.way.length ≤ t.way.length ∧ Ins' = Ins))

set_option maxRecDepth 100000 in
set_option maxHeartbeats 4000000 in
theorem act_w {w0 w : World} {x y : Nat} {s t : Sd} {N M : Nat} {K : Nat → Prop} {Gs Gt Ins : List El} {X : List En} {vs vt : Value} {βs βt : Option Nat} (h : WW w0 w x y s t 0 32 N M K Gs Gt Ins X vs βs vt βt) (hM : M ≤ 400) (hT : Table w0) (kd n ch : Int) (nop out : Bool) (hc0 : 0 ≤ ch) (hc1 : ch ≤ 255) :
    Calls Tryd.prog 7 #[.pointer (some ⟨x, 0, none⟩), .pointer (some ⟨y, 0, none⟩), .agg #[.int .i64 kd, .bool nop, .bool out, .int .i64 n, .int .u8 ch]] w fun e w' => e = .returned (.bool true) ∧ Hid (ACTW w0 w w' x y s t N (M + 1) K Ins X) := by
  have H := hd h
  have HT := hd hT
  have CI : Hid (∀ W, Calls Tryd.prog 19 #[.int .i64 kd, .int .i64 4] W fun e w' => ∃ p : Nat, e = .returned (.int .i64 p) ∧ p < 4 ∧ w' = W) := fun W => into_any kd 4 W (by omega) (by omega)
  clear h hT
  have hM' := hd hM
  have hc0' := hd hc0
  have hc1' := hd hc1
  clear hM hc0 hc1
  go_enter Tryd.func7, Tryd.ntmps7
  go_wp2_with fail
  refine (CI.out _).mono ?_
  rintro e w1 ⟨p, rfl, hp, rfl⟩
  clear CI
  have HW := hd (H.out.below ((Below.refl _ _).alloc (Nat.le_refl _) (.cells #[.int .i64 kd, .bool nop, .bool out, .int .i64 n, .int .u8 ch] 35)))
  have HK : Hid (∀ k, K k → (w.alloc (.cells #[.int .i64 kd, .bool nop, .bool out, .int .i64 n, .int .u8 ch] 35)).heap[k]? = w.heap[k]?) := fun k hk => ((Below.refl w.heap.size w).alloc (Nat.le_refl _) (.cells #[.int .i64 kd, .bool nop, .bool out, .int .i64 n, .int .u8 ch] 35)).block k (H.out.kk k hk).2
  clear H
  obtain rfl | rfl | rfl | rfl : p = 0 ∨ p = 1 ∨ p = 2 ∨ p = 3 := by omega
  · go_wp2_with fail
    refine (mk_w HW.out hM'.out kd n ch nop out hc0'.out hc1'.out).mono ?_
    rintro e w2 ⟨rfl, hh⟩
    have Z : Hid (ACTW w0 w w2 x y s t N (M + 1) K Ins X) := by
      obtain ⟨o, vs', βs', Gs', hv, h, hk⟩ := hh.out
      exact ⟨s.make o, t, _, Gs', Gt, _, vs', βs', vt, βt, h, fun k hk => .inl hk, fun k hk' => (hk k hk').trans (HK.out k hk'), .inl ⟨o, _, hv, rfl, rfl, rfl, rfl⟩⟩
    clear HW hh
    go_wp2
    go_ret
    exact ⟨rfl, Z⟩
  · go_wp2_with fail
    refine (mk_w HW.out.swap hM'.out kd n ch nop out hc0'.out hc1'.out).mono ?_
    rintro e w2 ⟨rfl, hh⟩
    have Z : Hid (ACTW w0 w w2 x y s t N (M + 1) K Ins X) := by
      obtain ⟨o, vs', βs', Gs', hv, h, hk⟩ := hh.out
      exact ⟨s, t.make o, _, Gs, Gs', _, vs, βs, vs', βs', h.swap, fun k hk => .inl hk, fun k hk' => (hk k hk').trans (HK.out k hk'), .inr (.inl ⟨o, _, hv, rfl, rfl, rfl, rfl⟩)⟩
    clear HW hh
    go_wp2
    go_ret
    exact ⟨rfl, Z⟩
  · go_wp2_with fail
    refine (tk_w HW.out hM'.out HT.out).mono ?_
    rintro e w2 ⟨rfl, hh⟩
    have Z : Hid (ACTW w0 w w2 x y s t N (M + 1) K Ins X) := by
      obtain ⟨s', t', vs', βs', K', h, l1, l2, k1, k2⟩ := hh.out
      exact ⟨s', t', K', Gs, Gt, Ins, vs', βs', vt, βt, h.mono (Nat.le_succ _), k1, fun k hk' => (k2 k hk').trans (HK.out k hk'), .inr (.inr ⟨by omega, by omega, rfl⟩)⟩
    clear HW hh
    go_wp2
    go_ret
    exact ⟨rfl, Z⟩
  · go_wp2_with fail
    refine (tk_w HW.out.swap hM'.out HT.out).mono ?_
    rintro e w2 ⟨rfl, hh⟩
    have Z : Hid (ACTW w0 w w2 x y s t N (M + 1) K Ins X) := by
      obtain ⟨s', t', vs', βs', K', h, l1, l2, k1, k2⟩ := hh.out
      exact ⟨t', s', K', Gs, Gt, Ins, vs, βs, vs', βs', h.swap.mono (Nat.le_succ _), k1, fun k hk' => (k2 k hk').trans (HK.out k hk'), .inr (.inr ⟨by omega, by omega, rfl⟩)⟩
    clear HW hh
    go_wp2
    go_ret
    exact ⟨rfl, Z⟩

end Go.Proofs.YtmbnimlibnheeabDoor
