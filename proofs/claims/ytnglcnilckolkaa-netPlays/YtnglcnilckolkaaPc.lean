/-
  NetPlays: step.
-/
import Derived.Test.YtnglcnilckolkaaPb
import Derived.Test.YtnglcnilckolkaaRe
import Derived.Test.YtnglcnilckolkaaRf
import Derived.Test.YtnglcnilckolkaaRg
import Derived.Test.YtnglcnilckolkaaP6
namespace Go.Proofs.Ytnglcnilckolkaa
open Go.RowKit
set_option linter.unusedVariables false

set_option maxRecDepth 100000 in
set_option maxHeartbeats 8000000 in
theorem step_one (wB w : World) (x y : Nat) (cl : Int) (G : List DG) (B : Nat) (T : Nat → Prop) (h : PS w x y cl G B T) (hcl : 1 ≤ cl) (hT : ∀ k, T k → wB.heap.size ≤ k) (hbw : Below wB.heap.size wB w) (ow : Bool) (oi oa ob : Int) (xs : List Int) (a : Option Addr) (n c : Nat) (hB : IsB wB a n c xs) (hBB : B + 3000 < 1000000000) :
    Calls Try.prog 29 #[.pointer (some ⟨x, 0, none⟩), .pointer (some ⟨y, 0, none⟩), .agg #[.int .i64 1, .bool ow, .int .i64 oi, .int .i64 oa, .int .i64 ob, .slice a n c]] w fun e w' => e = .returned (.bool true) ∧ ∃ G', NowP w w' x y cl G' (B + 3000) T := by
  obtain ⟨w0, hw0⟩ : ∃ w0, w0 = w.alloc (.cells #[.int .i64 1, .bool ow, .int .i64 oi, .int .i64 oa, .int .i64 ob, .slice a n c] 53) := ⟨_, rfl⟩
  have b0 : Below w.heap.size w w0 := by rw [hw0]; exact (Below.refl _ _).alloc (Nat.le_refl _) _
  have r0 : w0.heap[w.heap.size]? = some (.cells #[.int .i64 1, .bool ow, .int .i64 oi, .int .i64 oa, .int .i64 ob, .slice a n c] 53 (0, 0)) := by rw [hw0]; exact heap_alloc_new _ _
  obtain ⟨c0, c1, c2, c3, c4, c5⟩ := cells6 r0
  have hold := h.old
  have hP0 := h.below b0
  have HP := hd hP0
  obtain ⟨S, S', hx, hy, hdis, hTT⟩ := hP0
  have nS : ∀ k, w.heap.size ≤ k → ¬ S k ∧ ¬ S' k := fun k hk => ⟨fun hs => by have := hold k ((hTT k).2 (.inl hs)); omega, fun hs => by have := hold k ((hTT k).2 (.inr hs)); omega⟩
  have hlt0 : w.heap.size < w0.heap.size := block_lt r0
  have HX := hd hx
  have HY := hd hy
  have HD := hd (And.intro hdis hTT)
  have HB0 := hd (And.intro b0 r0)
  have HN := hd nS
  have HT := hd (And.intro hT (And.intro hbw hB))
  clear h b0 r0 hx hy hdis hTT nS hT hbw hB hold
  have HS := hd (lsend_any wB w0 x y cl G B T HP.out hcl HT.out.1 (HT.out.2.1.trans (HB0.out.1.mono HT.out.2.1.size)) ⟨1, ow, oi, oa, ob, xs⟩ a n c HT.out.2.2 1 (by omega) hBB)
  unfold opv at HS
  simp only at HS
  go_enter Try.func29, Try.ntmps29
  go_wp2_with fail
  rw [← hw0]
  clear hw0
  refine HS.out.mono ?_
  rintro e u ⟨rfl, G', hG'⟩
  have Z : Hid (∃ G', NowP w u x y cl G' (B + 3000) T) := ⟨G', hG'.from HB0.out.1⟩
  clear hG' HS
  go_wp2
  go_ret
  exact ⟨rfl, Z.out⟩


set_option maxRecDepth 100000 in
set_option maxHeartbeats 8000000 in
theorem step_many (wB w : World) (x y : Nat) (cl : Int) (G : List DG) (B : Nat) (T : Nat → Prop) (h : PS w x y cl G B T) (hcl : 1 ≤ cl) (hT : ∀ k, T k → wB.heap.size ≤ k) (hbw : Below wB.heap.size wB w) (ow : Bool) (oi oa ob : Int) (xs : List Int) (a : Option Addr) (n c : Nat) (hB : IsB wB a n c xs) (hBB : B + 3000 < 1000000000) (hi : oi ≤ 3000) :
    Calls Try.prog 29 #[.pointer (some ⟨x, 0, none⟩), .pointer (some ⟨y, 0, none⟩), .agg #[.int .i64 8, .bool ow, .int .i64 oi, .int .i64 oa, .int .i64 ob, .slice a n c]] w fun e w' => e = .returned (.bool true) ∧ ∃ G', NowP w w' x y cl G' (B + 3000) T := by
  obtain ⟨w0, hw0⟩ : ∃ w0, w0 = w.alloc (.cells #[.int .i64 8, .bool ow, .int .i64 oi, .int .i64 oa, .int .i64 ob, .slice a n c] 53) := ⟨_, rfl⟩
  have b0 : Below w.heap.size w w0 := by rw [hw0]; exact (Below.refl _ _).alloc (Nat.le_refl _) _
  have r0 : w0.heap[w.heap.size]? = some (.cells #[.int .i64 8, .bool ow, .int .i64 oi, .int .i64 oa, .int .i64 ob, .slice a n c] 53 (0, 0)) := by rw [hw0]; exact heap_alloc_new _ _
  obtain ⟨c0, c1, c2, c3, c4, c5⟩ := cells6 r0
  have hold := h.old
  have hP0 := h.below b0
  have HP := hd hP0
  obtain ⟨S, S', hx, hy, hdis, hTT⟩ := hP0
  have nS : ∀ k, w.heap.size ≤ k → ¬ S k ∧ ¬ S' k := fun k hk => ⟨fun hs => by have := hold k ((hTT k).2 (.inl hs)); omega, fun hs => by have := hold k ((hTT k).2 (.inr hs)); omega⟩
  have hlt0 : w.heap.size < w0.heap.size := block_lt r0
  have HX := hd hx
  have HY := hd hy
  have HD := hd (And.intro hdis hTT)
  have HB0 := hd (And.intro b0 r0)
  have HN := hd nS
  have HT := hd (And.intro hT (And.intro hbw hB))
  clear h b0 r0 hx hy hdis hTT nS hT hbw hB hold
  have HS := hd (lsend_any wB w0 x y cl G B T HP.out hcl HT.out.1 (HT.out.2.1.trans (HB0.out.1.mono HT.out.2.1.size)) ⟨8, ow, oi, oa, ob, xs⟩ a n c HT.out.2.2 oi (by omega) hBB)
  unfold opv at HS
  simp only at HS
  have i1 : ¬ (3000 : Int) < oi := by omega
  go_enter Try.func29, Try.ntmps29
  go_wp2_with fail
  rw [← hw0]
  clear hw0
  refine HS.out.mono ?_
  rintro e u ⟨rfl, G', hG'⟩
  have Z : Hid (∃ G', NowP w u x y cl G' (B + 3000) T) := ⟨G', hG'.from HB0.out.1⟩
  clear hG' HS
  go_wp2
  go_ret
  exact ⟨rfl, Z.out⟩


set_option maxRecDepth 100000 in
set_option maxHeartbeats 8000000 in
theorem step_most (wB w : World) (x y : Nat) (cl : Int) (G : List DG) (B : Nat) (T : Nat → Prop) (h : PS w x y cl G B T) (hcl : 1 ≤ cl) (hT : ∀ k, T k → wB.heap.size ≤ k) (hbw : Below wB.heap.size wB w) (ow : Bool) (oi oa ob : Int) (xs : List Int) (a : Option Addr) (n c : Nat) (hB : IsB wB a n c xs) (hBB : B + 3000 < 1000000000) (hi : 3000 < oi) :
    Calls Try.prog 29 #[.pointer (some ⟨x, 0, none⟩), .pointer (some ⟨y, 0, none⟩), .agg #[.int .i64 8, .bool ow, .int .i64 oi, .int .i64 oa, .int .i64 ob, .slice a n c]] w fun e w' => e = .returned (.bool true) ∧ ∃ G', NowP w w' x y cl G' (B + 3000) T := by
  obtain ⟨w0, hw0⟩ : ∃ w0, w0 = w.alloc (.cells #[.int .i64 8, .bool ow, .int .i64 oi, .int .i64 oa, .int .i64 ob, .slice a n c] 53) := ⟨_, rfl⟩
  have b0 : Below w.heap.size w w0 := by rw [hw0]; exact (Below.refl _ _).alloc (Nat.le_refl _) _
  have r0 : w0.heap[w.heap.size]? = some (.cells #[.int .i64 8, .bool ow, .int .i64 oi, .int .i64 oa, .int .i64 ob, .slice a n c] 53 (0, 0)) := by rw [hw0]; exact heap_alloc_new _ _
  obtain ⟨c0, c1, c2, c3, c4, c5⟩ := cells6 r0
  have hold := h.old
  have hP0 := h.below b0
  have HP := hd hP0
  obtain ⟨S, S', hx, hy, hdis, hTT⟩ := hP0
  have nS : ∀ k, w.heap.size ≤ k → ¬ S k ∧ ¬ S' k := fun k hk => ⟨fun hs => by have := hold k ((hTT k).2 (.inl hs)); omega, fun hs => by have := hold k ((hTT k).2 (.inr hs)); omega⟩
  have hlt0 : w.heap.size < w0.heap.size := block_lt r0
  have HX := hd hx
  have HY := hd hy
  have HD := hd (And.intro hdis hTT)
  have HB0 := hd (And.intro b0 r0)
  have HN := hd nS
  have HT := hd (And.intro hT (And.intro hbw hB))
  clear h b0 r0 hx hy hdis hTT nS hT hbw hB hold
  have HS := hd (lsend_any wB w0 x y cl G B T HP.out hcl HT.out.1 (HT.out.2.1.trans (HB0.out.1.mono HT.out.2.1.size)) ⟨8, ow, oi, oa, ob, xs⟩ a n c HT.out.2.2 3000 (by omega) hBB)
  unfold opv at HS
  simp only at HS
  go_enter Try.func29, Try.ntmps29
  go_wp2_with fail
  rw [← hw0]
  clear hw0
  refine HS.out.mono ?_
  rintro e u ⟨rfl, G', hG'⟩
  have Z : Hid (∃ G', NowP w u x y cl G' (B + 3000) T) := ⟨G', hG'.from HB0.out.1⟩
  clear hG' HS
  go_wp2
  go_ret
  exact ⟨rfl, Z.out⟩


set_option maxRecDepth 100000 in
set_option maxHeartbeats 8000000 in
theorem step_drop (wB w : World) (x y : Nat) (cl : Int) (G : List DG) (B : Nat) (T : Nat → Prop) (h : PS w x y cl G B T) (hcl : 1 ≤ cl) (hT : ∀ k, T k → wB.heap.size ≤ k) (hbw : Below wB.heap.size wB w) (ow : Bool) (oi oa ob : Int) (xs : List Int) (a : Option Addr) (n c : Nat) (hB : IsB wB a n c xs) (hBB : B + 3000 < 1000000000) :
    Calls Try.prog 29 #[.pointer (some ⟨x, 0, none⟩), .pointer (some ⟨y, 0, none⟩), .agg #[.int .i64 3, .bool ow, .int .i64 oi, .int .i64 oa, .int .i64 ob, .slice a n c]] w fun e w' => e = .returned (.bool true) ∧ ∃ G', NowP w w' x y cl G' (B + 3000) T := by
  obtain ⟨w0, hw0⟩ : ∃ w0, w0 = w.alloc (.cells #[.int .i64 3, .bool ow, .int .i64 oi, .int .i64 oa, .int .i64 ob, .slice a n c] 53) := ⟨_, rfl⟩
  have b0 : Below w.heap.size w w0 := by rw [hw0]; exact (Below.refl _ _).alloc (Nat.le_refl _) _
  have r0 : w0.heap[w.heap.size]? = some (.cells #[.int .i64 3, .bool ow, .int .i64 oi, .int .i64 oa, .int .i64 ob, .slice a n c] 53 (0, 0)) := by rw [hw0]; exact heap_alloc_new _ _
  obtain ⟨c0, c1, c2, c3, c4, c5⟩ := cells6 r0
  have hold := h.old
  have hP0 := h.below b0
  have HP := hd hP0
  obtain ⟨S, S', hx, hy, hdis, hTT⟩ := hP0
  have nS : ∀ k, w.heap.size ≤ k → ¬ S k ∧ ¬ S' k := fun k hk => ⟨fun hs => by have := hold k ((hTT k).2 (.inl hs)); omega, fun hs => by have := hold k ((hTT k).2 (.inr hs)); omega⟩
  have hlt0 : w.heap.size < w0.heap.size := block_lt r0
  have HX := hd hx
  have HY := hd hy
  have HD := hd (And.intro hdis hTT)
  have HB0 := hd (And.intro b0 r0)
  have HN := hd nS
  have HT := hd (And.intro hT (And.intro hbw hB))
  clear h b0 r0 hx hy hdis hTT nS hT hbw hB hold
  by_cases hi : isAt G.length oi
  · obtain ⟨j, rfl⟩ : ∃ j : Nat, oi = j := ⟨oi.toNat, by have := hi.1; omega⟩
    have hj : j < G.length := by have := hi.2; omega
    go_enter Try.func29, Try.ntmps29
    go_wp2_with fail
    rw [← hw0]
    clear hw0
    refine (drop_good x cl G B S w0 HX.out j hj).mono ?_
    rintro e u ⟨rfl, k3, k4⟩
    have ru := k4.keeps HB0.out.2 (HN.out _ (Nat.le_refl _)).1
    have yu := HY.out.fr k4 (fun k h1 h2 => HD.out.1 k h2 h1)
    obtain ⟨d0, d1, d2, d3, d4, d5⟩ := cells6 ru
    have HU := hd (And.intro yu (NowB.mono (B' := B + 3000) ⟨S, k3, fun k hk => .inl hk, k4⟩ (by omega)))
    clear ru yu k3 k4
    go_wp2_with fail
    refine (rdrop_good y cl G S' u HU.out.1 j hj).mono ?_
    rintro e v ⟨rfl, hY⟩
    have Z : Hid (∃ G', NowP w v x y cl G' (B + 3000) T) := ⟨_, (pair_xy (B := B) HD.out.1 HD.out.2 HY.out HU.out.2 hY).from HB0.out.1⟩
    clear hY
    go_wp2
    go_ret
    exact ⟨rfl, Z.out⟩
  · go_enter Try.func29, Try.ntmps29
    go_wp2_with fail
    rw [← hw0]
    clear hw0
    refine (drop_bad x cl G B S w0 HX.out oi hi).mono ?_
    rintro e u ⟨rfl, rfl⟩
    go_wp2_with fail
    refine (rdrop_bad y cl G S' u HY.out oi hi).mono ?_
    rintro e v ⟨rfl, bv⟩
    have Z : Hid (∃ G', NowP w v x y cl G' (B + 3000) T) := ⟨_, (NowP.same HP.out (by omega) bv).from HB0.out.1⟩
    clear bv
    go_wp2
    go_ret
    exact ⟨rfl, Z.out⟩


set_option maxRecDepth 100000 in
set_option maxHeartbeats 8000000 in
theorem step_double (wB w : World) (x y : Nat) (cl : Int) (G : List DG) (B : Nat) (T : Nat → Prop) (h : PS w x y cl G B T) (hcl : 1 ≤ cl) (hT : ∀ k, T k → wB.heap.size ≤ k) (hbw : Below wB.heap.size wB w) (ow : Bool) (oi oa ob : Int) (xs : List Int) (a : Option Addr) (n c : Nat) (hB : IsB wB a n c xs) (hBB : B + 3000 < 1000000000) :
    Calls Try.prog 29 #[.pointer (some ⟨x, 0, none⟩), .pointer (some ⟨y, 0, none⟩), .agg #[.int .i64 4, .bool ow, .int .i64 oi, .int .i64 oa, .int .i64 ob, .slice a n c]] w fun e w' => e = .returned (.bool true) ∧ ∃ G', NowP w w' x y cl G' (B + 3000) T := by
  obtain ⟨w0, hw0⟩ : ∃ w0, w0 = w.alloc (.cells #[.int .i64 4, .bool ow, .int .i64 oi, .int .i64 oa, .int .i64 ob, .slice a n c] 53) := ⟨_, rfl⟩
  have b0 : Below w.heap.size w w0 := by rw [hw0]; exact (Below.refl _ _).alloc (Nat.le_refl _) _
  have r0 : w0.heap[w.heap.size]? = some (.cells #[.int .i64 4, .bool ow, .int .i64 oi, .int .i64 oa, .int .i64 ob, .slice a n c] 53 (0, 0)) := by rw [hw0]; exact heap_alloc_new _ _
  obtain ⟨c0, c1, c2, c3, c4, c5⟩ := cells6 r0
  have hold := h.old
  have hP0 := h.below b0
  have HP := hd hP0
  obtain ⟨S, S', hx, hy, hdis, hTT⟩ := hP0
  have nS : ∀ k, w.heap.size ≤ k → ¬ S k ∧ ¬ S' k := fun k hk => ⟨fun hs => by have := hold k ((hTT k).2 (.inl hs)); omega, fun hs => by have := hold k ((hTT k).2 (.inr hs)); omega⟩
  have hlt0 : w.heap.size < w0.heap.size := block_lt r0
  have HX := hd hx
  have HY := hd hy
  have HD := hd (And.intro hdis hTT)
  have HB0 := hd (And.intro b0 r0)
  have HN := hd nS
  have HT := hd (And.intro hT (And.intro hbw hB))
  clear h b0 r0 hx hy hdis hTT nS hT hbw hB hold
  go_enter Try.func29, Try.ntmps29
  go_wp2_with fail
  rw [← hw0]
  clear hw0
  refine (double_any x cl G B S w0 HX.out (by omega) oi).mono ?_
  rintro e u ⟨rfl, hX⟩
  have hX0 := hX
  obtain ⟨S1, k1, k2, k4⟩ := hX
  have ru := k4.keeps HB0.out.2 (HN.out _ (Nat.le_refl _)).1
  have yu := HY.out.fr k4 (fun k h1 h2 => HD.out.1 k h2 h1)
  obtain ⟨d0, d1, d2, d3, d4, d5⟩ := cells6 ru
  have HU := hd (And.intro yu (hX0.mono (B' := B + 3000) (by omega)))
  clear ru yu hX0 k1 k2 k4
  go_wp2_with fail
  refine (rdouble_any y cl G S' u HU.out.1 oi).mono ?_
  rintro e v ⟨rfl, hY⟩
  have Z : Hid (∃ G', NowP w v x y cl G' (B + 3000) T) := ⟨_, (pair_xy (B := B) HD.out.1 HD.out.2 HY.out HU.out.2 hY).from HB0.out.1⟩
  clear hY
  generalize doubleE G.length oi = de
  go_wp2
  go_ret
  exact ⟨rfl, Z.out⟩


set_option maxRecDepth 100000 in
set_option maxHeartbeats 8000000 in
theorem step_flip (wB w : World) (x y : Nat) (cl : Int) (G : List DG) (B : Nat) (T : Nat → Prop) (h : PS w x y cl G B T) (hcl : 1 ≤ cl) (hT : ∀ k, T k → wB.heap.size ≤ k) (hbw : Below wB.heap.size wB w) (ow : Bool) (oi oa ob : Int) (xs : List Int) (a : Option Addr) (n c : Nat) (hB : IsB wB a n c xs) (hBB : B + 3000 < 1000000000) :
    Calls Try.prog 29 #[.pointer (some ⟨x, 0, none⟩), .pointer (some ⟨y, 0, none⟩), .agg #[.int .i64 5, .bool ow, .int .i64 oi, .int .i64 oa, .int .i64 ob, .slice a n c]] w fun e w' => e = .returned (.bool true) ∧ ∃ G', NowP w w' x y cl G' (B + 3000) T := by
  obtain ⟨w0, hw0⟩ : ∃ w0, w0 = w.alloc (.cells #[.int .i64 5, .bool ow, .int .i64 oi, .int .i64 oa, .int .i64 ob, .slice a n c] 53) := ⟨_, rfl⟩
  have b0 : Below w.heap.size w w0 := by rw [hw0]; exact (Below.refl _ _).alloc (Nat.le_refl _) _
  have r0 : w0.heap[w.heap.size]? = some (.cells #[.int .i64 5, .bool ow, .int .i64 oi, .int .i64 oa, .int .i64 ob, .slice a n c] 53 (0, 0)) := by rw [hw0]; exact heap_alloc_new _ _
  obtain ⟨c0, c1, c2, c3, c4, c5⟩ := cells6 r0
  have hold := h.old
  have hP0 := h.below b0
  have HP := hd hP0
  obtain ⟨S, S', hx, hy, hdis, hTT⟩ := hP0
  have nS : ∀ k, w.heap.size ≤ k → ¬ S k ∧ ¬ S' k := fun k hk => ⟨fun hs => by have := hold k ((hTT k).2 (.inl hs)); omega, fun hs => by have := hold k ((hTT k).2 (.inr hs)); omega⟩
  have hlt0 : w.heap.size < w0.heap.size := block_lt r0
  have HX := hd hx
  have HY := hd hy
  have HD := hd (And.intro hdis hTT)
  have HB0 := hd (And.intro b0 r0)
  have HN := hd nS
  have HT := hd (And.intro hT (And.intro hbw hB))
  clear h b0 r0 hx hy hdis hTT nS hT hbw hB hold
  go_enter Try.func29, Try.ntmps29
  go_wp2_with fail
  rw [← hw0]
  clear hw0
  refine (flip_any x cl G B S w0 HX.out oi oa ob).mono ?_
  rintro e u ⟨rfl, k3, k4⟩
  have ru := k4.keeps HB0.out.2 (HN.out _ (Nat.le_refl _)).1
  have yu := HY.out.fr k4 (fun k h1 h2 => HD.out.1 k h2 h1)
  obtain ⟨d0, d1, d2, d3, d4, d5⟩ := cells6 ru
  have HU := hd (And.intro yu (NowB.mono (B' := B + 3000) ⟨S, k3, fun k hk => .inl hk, k4⟩ (by omega)))
  clear ru yu k3 k4
  go_wp2_with fail
  refine (rflip_any y cl G S' u HU.out.1 oi oa ob).mono ?_
  rintro e v ⟨rfl, hY1, hY2⟩
  have Z : Hid (∃ G', NowP w v x y cl G' (B + 3000) T) := ⟨_, (pair_xy (B := B) HD.out.1 HD.out.2 HY.out HU.out.2 ⟨S', hY1, fun k hk => .inl hk, hY2⟩).from HB0.out.1⟩
  clear hY1 hY2
  generalize flipE G oi oa ob = fe
  go_wp2
  go_ret
  exact ⟨rfl, Z.out⟩


set_option maxRecDepth 100000 in
set_option maxHeartbeats 8000000 in
theorem step_count (wB w : World) (x y : Nat) (cl : Int) (G : List DG) (B : Nat) (T : Nat → Prop) (h : PS w x y cl G B T) (hcl : 1 ≤ cl) (hT : ∀ k, T k → wB.heap.size ≤ k) (hbw : Below wB.heap.size wB w) (ow : Bool) (oi oa ob : Int) (xs : List Int) (a : Option Addr) (n c : Nat) (hB : IsB wB a n c xs) (hBB : B + 3000 < 1000000000) :
    Calls Try.prog 29 #[.pointer (some ⟨x, 0, none⟩), .pointer (some ⟨y, 0, none⟩), .agg #[.int .i64 6, .bool ow, .int .i64 oi, .int .i64 oa, .int .i64 ob, .slice a n c]] w fun e w' => e = .returned (.bool true) ∧ ∃ G', NowP w w' x y cl G' (B + 3000) T := by
  obtain ⟨w0, hw0⟩ : ∃ w0, w0 = w.alloc (.cells #[.int .i64 6, .bool ow, .int .i64 oi, .int .i64 oa, .int .i64 ob, .slice a n c] 53) := ⟨_, rfl⟩
  have b0 : Below w.heap.size w w0 := by rw [hw0]; exact (Below.refl _ _).alloc (Nat.le_refl _) _
  have r0 : w0.heap[w.heap.size]? = some (.cells #[.int .i64 6, .bool ow, .int .i64 oi, .int .i64 oa, .int .i64 ob, .slice a n c] 53 (0, 0)) := by rw [hw0]; exact heap_alloc_new _ _
  obtain ⟨c0, c1, c2, c3, c4, c5⟩ := cells6 r0
  have hold := h.old
  have hP0 := h.below b0
  have HP := hd hP0
  obtain ⟨S, S', hx, hy, hdis, hTT⟩ := hP0
  have nS : ∀ k, w.heap.size ≤ k → ¬ S k ∧ ¬ S' k := fun k hk => ⟨fun hs => by have := hold k ((hTT k).2 (.inl hs)); omega, fun hs => by have := hold k ((hTT k).2 (.inr hs)); omega⟩
  have hlt0 : w.heap.size < w0.heap.size := block_lt r0
  have HX := hd hx
  have HY := hd hy
  have HD := hd (And.intro hdis hTT)
  have HB0 := hd (And.intro b0 r0)
  have HN := hd nS
  have HT := hd (And.intro hT (And.intro hbw hB))
  clear h b0 r0 hx hy hdis hTT nS hT hbw hB hold
  go_enter Try.func29, Try.ntmps29
  go_wp2_with fail
  rw [← hw0]
  clear hw0
  refine (count_any x cl G B S w0 HX.out).mono ?_
  rintro e u ⟨rfl, rfl⟩
  go_wp2_with fail
  refine (rcount_any y cl G S' u HY.out).mono ?_
  rintro e v ⟨rfl, rfl⟩
  have Z : Hid (∃ G', NowP w v x y cl G' (B + 3000) T) := ⟨_, (NowP.same HP.out (by omega) (Below.refl _ _)).from HB0.out.1⟩
  generalize (G.length : Int) = gl
  go_wp2
  go_ret
  exact ⟨rfl, Z.out⟩


set_option maxRecDepth 100000 in
set_option maxHeartbeats 8000000 in
theorem step_flight (wB w : World) (x y : Nat) (cl : Int) (G : List DG) (B : Nat) (T : Nat → Prop) (h : PS w x y cl G B T) (hcl : 1 ≤ cl) (hT : ∀ k, T k → wB.heap.size ≤ k) (hbw : Below wB.heap.size wB w) (ow : Bool) (oi oa ob : Int) (xs : List Int) (a : Option Addr) (n c : Nat) (hB : IsB wB a n c xs) (hBB : B + 3000 < 1000000000) :
    Calls Try.prog 29 #[.pointer (some ⟨x, 0, none⟩), .pointer (some ⟨y, 0, none⟩), .agg #[.int .i64 7, .bool ow, .int .i64 oi, .int .i64 oa, .int .i64 ob, .slice a n c]] w fun e w' => e = .returned (.bool true) ∧ ∃ G', NowP w w' x y cl G' (B + 3000) T := by
  obtain ⟨w0, hw0⟩ : ∃ w0, w0 = w.alloc (.cells #[.int .i64 7, .bool ow, .int .i64 oi, .int .i64 oa, .int .i64 ob, .slice a n c] 53) := ⟨_, rfl⟩
  have b0 : Below w.heap.size w w0 := by rw [hw0]; exact (Below.refl _ _).alloc (Nat.le_refl _) _
  have r0 : w0.heap[w.heap.size]? = some (.cells #[.int .i64 7, .bool ow, .int .i64 oi, .int .i64 oa, .int .i64 ob, .slice a n c] 53 (0, 0)) := by rw [hw0]; exact heap_alloc_new _ _
  obtain ⟨c0, c1, c2, c3, c4, c5⟩ := cells6 r0
  have hold := h.old
  have hP0 := h.below b0
  have HP := hd hP0
  obtain ⟨S, S', hx, hy, hdis, hTT⟩ := hP0
  have nS : ∀ k, w.heap.size ≤ k → ¬ S k ∧ ¬ S' k := fun k hk => ⟨fun hs => by have := hold k ((hTT k).2 (.inl hs)); omega, fun hs => by have := hold k ((hTT k).2 (.inr hs)); omega⟩
  have hlt0 : w.heap.size < w0.heap.size := block_lt r0
  have HX := hd hx
  have HY := hd hy
  have HD := hd (And.intro hdis hTT)
  have HB0 := hd (And.intro b0 r0)
  have HN := hd nS
  have HT := hd (And.intro hT (And.intro hbw hB))
  clear h b0 r0 hx hy hdis hTT nS hT hbw hB hold
  go_enter Try.func29, Try.ntmps29
  go_wp2_with fail
  rw [← hw0]
  clear hw0
  refine (flight_any x cl G B S w0 HX.out).mono ?_
  rintro e u ⟨v1, rfl, ⟨β1, L1, hF1, hL1⟩, bu⟩
  obtain ⟨a1, cc1, hv1, I1⟩ := hF1.isG
  have l1 : L1.length = G.length := by rw [← hL1]; simp
  rw [l1] at hv1 I1
  subst hv1
  have HU := hd (And.intro (HY.out.below bu) (And.intro I1 (And.intro hL1 bu)))
  clear hF1 I1 hL1 bu l1
  go_wp2_with fail
  refine (rflight_any y cl G S' u HU.out.1).mono ?_
  rintro e v ⟨a2, cc2, L2, rfl, I2, hL2, bv⟩
  have HV := hd (And.intro (HU.out.2.1.below bv) (And.intro I2 (And.intro (show L1.map It.d = L2.map It.d by rw [HU.out.2.2.1, hL2]) (HU.out.2.2.2.trans (bv.mono HU.out.2.2.2.size)))))
  clear I2 hL2 bv
  go_wp2_with fail
  refine (flights_true a1 a2 G.length cc1 cc2 L1 L2 v HV.out.1 HV.out.2.1 HV.out.2.2.1).mono ?_
  rintro e q ⟨rfl, bq⟩
  have Z : Hid (∃ G', NowP w q x y cl G' (B + 3000) T) := ⟨_, (NowP.same HP.out (by omega) (HV.out.2.2.2.trans (bq.mono HV.out.2.2.2.size))).from HB0.out.1⟩
  clear bq
  go_wp2
  go_ret
  exact ⟨rfl, Z.out⟩


set_option maxRecDepth 100000 in
set_option maxHeartbeats 8000000 in
theorem step_other (wB w : World) (x y : Nat) (cl : Int) (G : List DG) (B : Nat) (T : Nat → Prop) (h : PS w x y cl G B T) (hcl : 1 ≤ cl) (hT : ∀ k, T k → wB.heap.size ≤ k) (hbw : Below wB.heap.size wB w) (ok : Int) (ow : Bool) (oi oa ob : Int) (xs : List Int) (a : Option Addr) (n c : Nat) (hB : IsB wB a n c xs) (hBB : B + 3000 < 1000000000) (h1 : ok ≠ 1) (h2 : ok ≠ 2) (h3 : ok ≠ 3) (h4 : ok ≠ 4) (h5 : ok ≠ 5) (h6 : ok ≠ 6) (h7 : ok ≠ 7) (h8 : ok ≠ 8) :
    Calls Try.prog 29 #[.pointer (some ⟨x, 0, none⟩), .pointer (some ⟨y, 0, none⟩), .agg #[.int .i64 ok, .bool ow, .int .i64 oi, .int .i64 oa, .int .i64 ob, .slice a n c]] w fun e w' => e = .returned (.bool true) ∧ ∃ G', NowP w w' x y cl G' (B + 3000) T := by
  obtain ⟨w0, hw0⟩ : ∃ w0, w0 = w.alloc (.cells #[.int .i64 ok, .bool ow, .int .i64 oi, .int .i64 oa, .int .i64 ob, .slice a n c] 53) := ⟨_, rfl⟩
  have b0 : Below w.heap.size w w0 := by rw [hw0]; exact (Below.refl _ _).alloc (Nat.le_refl _) _
  have r0 : w0.heap[w.heap.size]? = some (.cells #[.int .i64 ok, .bool ow, .int .i64 oi, .int .i64 oa, .int .i64 ob, .slice a n c] 53 (0, 0)) := by rw [hw0]; exact heap_alloc_new _ _
  obtain ⟨c0, c1, c2, c3, c4, c5⟩ := cells6 r0
  have hold := h.old
  have hP0 := h.below b0
  have HP := hd hP0
  obtain ⟨S, S', hx, hy, hdis, hTT⟩ := hP0
  have nS : ∀ k, w.heap.size ≤ k → ¬ S k ∧ ¬ S' k := fun k hk => ⟨fun hs => by have := hold k ((hTT k).2 (.inl hs)); omega, fun hs => by have := hold k ((hTT k).2 (.inr hs)); omega⟩
  have hlt0 : w.heap.size < w0.heap.size := block_lt r0
  have HX := hd hx
  have HY := hd hy
  have HD := hd (And.intro hdis hTT)
  have HB0 := hd (And.intro b0 r0)
  have HN := hd nS
  have HT := hd (And.intro hT (And.intro hbw hB))
  clear h b0 r0 hx hy hdis hTT nS hT hbw hB hold
  have Z : Hid (∃ G', NowP w w0 x y cl G' (B + 3000) T) := ⟨_, (NowP.same HP.out (by omega) (Below.refl _ _)).from HB0.out.1⟩
  go_enter Try.func29, Try.ntmps29
  go_wp2
  go_ret
  rw [← hw0]
  exact ⟨rfl, Z.out⟩


end Go.Proofs.Ytnglcnilckolkaa
