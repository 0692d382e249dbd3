/-
  renewed, begun, lists.
-/
import Derived.Test.YtocpfioifamkmabPa
namespace Go.Proofs.Ytocpfioifamkmab
open Go.RowKit
set_option linter.unusedVariables false

def ptr (x : Nat) : Value := .pointer (some ⟨x, 0, none⟩)

theorem cells4 {w : World} {g : Nat} {a b c d : Value} {t : TypeId} (h : w.heap[g]? = some (.cells #[a, b, c, d] t (0, 0))) : w.cell? ⟨g, 0, none⟩ = some a ∧ w.cell? ⟨g, 1, none⟩ = some b ∧ w.cell? ⟨g, 2, none⟩ = some c ∧ w.cell? ⟨g, 3, none⟩ = some d :=
  ⟨cell_row h 0, cell_row h 1, cell_row h 2, cell_row h 3⟩

set_option maxRecDepth 100000 in
set_option maxHeartbeats 4000000 in
theorem renewed_bad (P : Nat) (i : Nat) (W : Int) (w : World) (h : W < 1 ∨ 4096 < W) : Calls Try.prog 7 #[.pointer (some ⟨P, 0, none⟩), .int .i64 i, .int .i64 W] w fun e w' => e = .returned (.bool true) ∧ w' = w := by
  go_enter Try.func7, Try.ntmps7
  go_wp2_with fail
  refine (new_bad W w h).mono ?_
  rintro e w1 ⟨rfl, rfl⟩
  go_wp2_with fail
  refine (rnew_bad W w1 h).mono ?_
  rintro e w2 ⟨rfl, rfl⟩
  go_wp2_with fail
  refine (num_any 80 w2).mono ?_
  rintro e w3 ⟨rfl, rfl⟩
  go_wp2
  go_ret
  exact ⟨rfl, rfl⟩

/-- What renewed leaves at the place i. -/
def PV (i : Nat) (x y : Nat) (a b c d : Value) : Array Value := if i = 0 then #[ptr x, b, ptr y, d] else #[a, ptr x, c, ptr y]

set_option maxRecDepth 100000 in
set_option maxHeartbeats 8000000 in
theorem renewed_good (w0 : World) (P : Nat) (i N N' W : Nat) (K : Nat → Prop) (X Y : Nat → Nat) (px py : Nat → St) (a b c d : Value) (w : World) (hW1 : 1 ≤ W) (hW2 : W ≤ 4096) (hi : i < 2) (hA : PA w0 w K N X Y px py) (hK : K P) (hP0 : w0.heap.size ≤ P)
    (hP : w.heap[P]? = some (.cells #[a, b, c, d] 35 (0, 0))) (hN : ∀ j, j < N' → j ≠ i → j < N) :
    Calls Try.prog 7 #[.pointer (some ⟨P, 0, none⟩), .int .i64 i, .int .i64 W] w fun e w' => e = .returned (.bool true) ∧ ∃ x y, PA w0 w' K N' (upd X i x) (upd Y i y) (upd px i ⟨W, 0, 0, []⟩) (upd py i ⟨W, 0, 0, []⟩) ∧ w'.heap[P]? = some (.cells (PV i x y a b c d) 35 (0, 0)) ∧ ∀ k, K k → k ≠ P → w'.heap[k]? = w.heap[k]? := by
  have HA := hd hA
  have HP := hd hP
  have HK := hd (And.intro hK (And.intro hP0 hN))
  clear hA hP hK hP0 hN
  go_enter Try.func7, Try.ntmps7
  go_wp2_with fail
  refine (new_good W w hW1 hW2).mono ?_
  rintro e w1 ⟨x, rfl, Sx, h1, h2, h3⟩
  have H1 := hd (And.intro h1 (And.intro h2 h3))
  clear h1 h2 h3
  go_wp2_with fail
  refine (rnew_good W w1 hW1 hW2).mono ?_
  rintro e w2 ⟨y, rfl, Sy, h1, h2, h3⟩
  obtain ⟨g1, g2, g3⟩ := H1.out
  have b2 : Below w.heap.size w w2 := g3.trans (h3.mono g3.size)
  have A2 := HA.out.put (i := i) (x := x) (y := y) (m := w1.heap.size) b2 (g1.below h3) (fun k hk => ⟨g2 k hk, g1.old k hk⟩) h1 (fun k hk => ⟨Nat.le_trans g3.size (h2 k hk), h2 k hk⟩) HK.out.2.2
  have P2 : w2.heap[P]? = some (.cells #[a, b, c, d] 35 (0, 0)) := (b2.block P (HA.out.old P HK.out.1)).trans HP.out
  obtain ⟨c0, c1, c2, c3⟩ := cells4 P2
  have f0 := frozen_row P2 0
  have f1 := frozen_row P2 1
  have f2 := frozen_row P2 2
  have f3 := frozen_row P2 3
  have K2 : Hid (∀ k, K k → w2.heap[k]? = w.heap[k]?) := fun k hk => b2.block k (HA.out.old k hk)
  have HA2 := hd A2
  have HP2 := hd P2
  clear h1 h2 h3 g1 g2 g3 b2 A2 P2 H1 HA HP
  go_wp2_with fail
  refine (num_any 0 w2).mono ?_
  rintro e w3 ⟨rfl, hw3⟩
  subst hw3
  rcases (by omega : i = 0 ∨ i = 1) with rfl | rfl
  · go_wp2
    go_ret
    refine ⟨rfl, x, y, (HA2.out.write P 0 _ HK.out.1 HK.out.2.1).write P 2 _ HK.out.1 HK.out.2.1, ?_, fun k hk hkP => ?_⟩
    · have := set_row (set_row HP2.out 0 (ptr x)) 2 (ptr y)
      simpa [PV, ptr] using this
    · rw [← K2.out k hk]
      exact ((Fr.setCell (S := (· = P)) _ _ _ rfl).trans (Fr.setCell (S := (· = P)) _ _ _ rfl)).block k (HA2.out.old k hk) hkP
  · go_wp2
    go_ret
    refine ⟨rfl, x, y, (HA2.out.write P 1 _ HK.out.1 HK.out.2.1).write P 3 _ HK.out.1 HK.out.2.1, ?_, fun k hk hkP => ?_⟩
    · have := set_row (set_row HP2.out 1 (ptr x)) 3 (ptr y)
      simpa [PV, ptr] using this
    · rw [← K2.out k hk]
      exact ((Fr.setCell (S := (· = P)) _ _ _ rfl).trans (Fr.setCell (S := (· = P)) _ _ _ rfl)).block k (HA2.out.old k hk) hkP

/-- The Pair at block P, whole. -/
structure PP (w0 w : World) (P : Nat) (K : Nat → Prop) (X Y : Nat → Nat) (px py : Nat → St) : Prop where
  pa : PA w0 w K 2 X Y px py
  k : K P
  new : w0.heap.size ≤ P
  box : w.heap[P]? = some (.cells #[ptr (X 0), ptr (X 1), ptr (Y 0), ptr (Y 1)] 35 (0, 0))

theorem PP.step {w0 w w' : World} {P : Nat} {K : Nat → Prop} {X Y : Nat → Nat} {px py px' py' : Nat → St} (h : PP w0 w P K X Y px py) (h1 : PA w0 w' K 2 X Y px' py') (h2 : KP K w w') : PP w0 w' P K X Y px' py' := ⟨h1, h.k, h.new, (h2 P h.k).trans h.box⟩
theorem PP.below {w0 w w' : World} {P : Nat} {K : Nat → Prop} {X Y : Nat → Nat} {px py : Nat → St} (h : PP w0 w P K X Y px py) (hb : Below w.heap.size w w') : PP w0 w' P K X Y px py := by
  obtain ⟨h1, h2⟩ := h.pa.below hb
  exact h.step h1 h2
theorem PP.boxI {w0 w : World} {P : Nat} {K : Nat → Prop} {X Y : Nat → Nat} {px py : Nat → St} (h : PP w0 w P K X Y px py) {i : Nat} (hi : i < 2) : w.cell? ⟨P, i, none⟩ = some (.pointer (some ⟨X i, 0, none⟩)) ∧ w.cell? ⟨P, 2 + i, none⟩ = some (.pointer (some ⟨Y i, 0, none⟩)) := by
  obtain ⟨c0, c1, c2, c3⟩ := cells4 h.box
  rcases (by omega : i = 0 ∨ i = 1) with rfl | rfl
  · exact ⟨c0, c2⟩
  · exact ⟨c1, c3⟩

theorem renewed_pp {w0 w : World} {P : Nat} {K : Nat → Prop} {X Y : Nat → Nat} {p : Nat → St} (h : PP w0 w P K X Y p p) {i : Nat} (hi : i < 2) (W : Int) : Calls Try.prog 7 #[.pointer (some ⟨P, 0, none⟩), .int .i64 i, .int .i64 W] w fun e w' => e = .returned (.bool true) ∧ ∃ X Y p, PP w0 w' P K X Y p p := by
  by_cases hb : W < 1 ∨ 4096 < W
  · refine (renewed_bad P i W w hb).mono ?_
    rintro e w' ⟨rfl, rfl⟩
    exact ⟨rfl, X, Y, p, h⟩
  · obtain ⟨V, rfl⟩ : ∃ V : Nat, W = V := ⟨W.toNat, by omega⟩
    refine (renewed_good w0 P i 2 2 V K X Y p p _ _ _ _ w (by omega) (by omega) hi h.pa h.k h.new h.box (fun j hj _ => hj)).mono ?_
    rintro e w' ⟨rfl, x, y, h1, h2, -⟩
    refine ⟨rfl, _, _, _, h1, h.k, h.new, ?_⟩
    rw [h2]
    rcases (by omega : i = 0 ∨ i = 1) with rfl | rfl <;> simp [PV, upd]

set_option maxRecDepth 100000 in
set_option maxHeartbeats 8000000 in
theorem begun_any (w : World) : Calls Try.prog 4 #[] w fun e w' => ∃ P, e = .returned (.tuple #[.pointer (some ⟨P, 0, none⟩), .bool true]) ∧ ∃ X Y p, PP w w' P (· = P) X Y p p := by
  go_enter Try.func4, Try.ntmps4
  go_wp2_with fail
  have b1 : Below w.heap.size w (w.alloc (.cells #[.pointer none, .pointer none, .pointer none, .pointer none] 35)) := (Below.refl _ _).alloc (Nat.le_refl _) _
  have A0 : PA w (w.alloc (.cells #[.pointer none, .pointer none, .pointer none, .pointer none] 35)) (· = w.heap.size) 0 (fun _ => 0) (fun _ => 0) (fun _ => ⟨1, 0, 0, []⟩) (fun _ => ⟨1, 0, 0, []⟩) :=
    ⟨⟨fun _ => 0, fun i hi => by omega, fun i hi => by omega, fun _ _ => rfl⟩, b1, fun k hk => by rw [hk]; simp⟩
  refine (renewed_good w w.heap.size 0 0 1 8 (· = w.heap.size) _ _ _ _ (.pointer none) (.pointer none) (.pointer none) (.pointer none) _ (by omega) (by omega) (by omega) A0 rfl (Nat.le_refl _) (heap_alloc_new _ _) (fun j hj hji => by omega)).mono ?_
  rintro e w1 ⟨rfl, x, y, h1, h2, -⟩
  have H1 := hd (And.intro h1 h2)
  clear h1 h2 A0 b1
  go_wp2_with fail
  refine (renewed_good w w.heap.size 1 1 2 1 (· = w.heap.size) _ _ _ _ _ _ _ _ w1 (by omega) (by omega) (by omega) H1.out.1 rfl (Nat.le_refl _) H1.out.2 (fun j hj hji => by omega)).mono ?_
  rintro e w2 ⟨rfl, x2, y2, h1, h2, -⟩
  have H2 : Hid (∃ X Y p, PP w w2 w.heap.size (· = w.heap.size) X Y p p) := ⟨_, _, _, h1, rfl, Nat.le_refl _, by rw [h2]; simp [PV, upd]⟩
  clear h1 h2 H1
  go_wp2
  refine bodyPost_ret (v := .tuple #[.pointer (some ⟨w.heap.size, 0, none⟩), .bool true]) (by simp [results, Try.results4, go_sem]) rfl ?_
  exact ⟨_, rfl, H2.out⟩

end Go.Proofs.Ytocpfioifamkmab
