/-
  NetPlays: step.
-/
import Derived.Test.YtnglcnilckolkaaPb
import Derived.Test.YtnglcnilckolkaaRe
import Derived.Test.YtnglcnilckolkaaRf
import Derived.Test.YtnglcnilckolkaaRg
import Derived.Test.YtnglcnilckolkaaP6
namespace Go.Proofs.Ytnglcnilckolkaa
open Go.RowKit
set_option linter.unusedVariables false

set_option maxRecDepth 100000 in
set_option maxHeartbeats 8000000 in
theorem step_deliver (wB w : World) (x y : Nat) (cl : Int) (G : List DG) (B : Nat) (T : Nat → Prop) (h : PS w x y cl G B T) (hcl : 1 ≤ cl) (hT : ∀ k, T k → wB.heap.size ≤ k) (hbw : Below wB.heap.size wB w) (ow : Bool) (oi oa ob : Int) (xs : List Int) (a : Option Addr) (n c : Nat) (hB : IsB wB a n c xs) (hBB : B + 3000 < 1000000000) :
    Calls Try.prog 29 #[.pointer (some ⟨x, 0, none⟩), .pointer (some ⟨y, 0, none⟩), .agg #[.int .i64 2, .bool ow, .int .i64 oi, .int .i64 oa, .int .i64 ob, .slice a n c]] w fun e w' => e = .returned (.bool true) ∧ ∃ G', NowP w w' x y cl G' (B + 3000) T := by
  obtain ⟨w0, hw0⟩ : ∃ w0, w0 = w.alloc (.cells #[.int .i64 2, .bool ow, .int .i64 oi, .int .i64 oa, .int .i64 ob, .slice a n c] 53) := ⟨_, rfl⟩
  have b0 : Below w.heap.size w w0 := by rw [hw0]; exact (Below.refl _ _).alloc (Nat.le_refl _) _
  have r0 : w0.heap[w.heap.size]? = some (.cells #[.int .i64 2, .bool ow, .int .i64 oi, .int .i64 oa, .int .i64 ob, .slice a n c] 53 (0, 0)) := by rw [hw0]; exact heap_alloc_new _ _
  obtain ⟨c0, c1, c2, c3, c4, c5⟩ := cells6 r0
  have hold := h.old
  have hP0 := h.below b0
  have HP := hd hP0
  obtain ⟨S, S', hx, hy, hdis, hTT⟩ := hP0
  have nS : ∀ k, w.heap.size ≤ k → ¬ S k ∧ ¬ S' k := fun k hk => ⟨fun hs => by have := hold k ((hTT k).2 (.inl hs)); omega, fun hs => by have := hold k ((hTT k).2 (.inr hs)); omega⟩
  have hlt0 : w.heap.size < w0.heap.size := block_lt r0
  have HX := hd hx
  have HY := hd hy
  have HD := hd (And.intro hdis hTT)
  have HB0 := hd (And.intro b0 r0)
  have HN := hd nS
  have HT := hd (And.intro hT (And.intro hbw hB))
  clear h b0 r0 hx hy hdis hTT nS hT hbw hB hold
  by_cases hi : isAt G.length oi
  · obtain ⟨j, rfl⟩ : ∃ j : Nat, oi = j := ⟨oi.toNat, by have := hi.1; omega⟩
    have hj : j < G.length := by have := hi.2; omega
    go_enter Try.func29, Try.ntmps29
    go_wp2_with fail
    rw [← hw0]
    clear hw0
    have DG1 := deliver_good x cl G B S w0 HX.out j hj
    have DG2 := fun u h => rdeliver_good y cl G S' u h j hj
    have HD2 := hd DG2
    refine DG1.mono ?_
    clear DG1 DG2
    generalize G.getD j zDG = dd at *
    rintro e u ⟨v, rfl, γ, k1, k2, k3, k4⟩
    obtain ⟨a1, cc1, rfl⟩ := k1.sv_of
    obtain ⟨u2, hu2⟩ : ∃ u2, u2 = u.alloc (.cells #[.int .i64 dd.f, .int .i64 dd.t, .slice a1 dd.b.length cc1, .bool dd.s] 37) := ⟨_, rfl⟩
    have b2 : Below u.heap.size u u2 := by rw [hu2]; exact (Below.refl _ _).alloc (Nat.le_refl _) _
    have r2 : u2.heap[u.heap.size]? = some (.cells #[.int .i64 dd.f, .int .i64 dd.t, .slice a1 dd.b.length cc1, .bool dd.s] 37 (0, 0)) := by rw [hu2]; exact heap_alloc_new _ _
    have ru := k4.keeps HB0.out.2 (HN.out _ (Nat.le_refl _)).1
    have ru2 := (b2.block _ (block_lt ru)).trans ru
    have yu := (HY.out.fr k4 (fun k h1 h2 => HD.out.1 k h2 h1)).below b2
    have s2 := SRow.fr k1 (S := fun _ => False) (Fr.of_below b2) (fun _ _ h => h)
    obtain ⟨d0, d1, d2, d3, d4, d5⟩ := cells6 ru
    have hwu : w.heap.size < u.heap.size := block_lt ru
    have hsu := k4.size
    have HU := hd (And.intro yu (And.intro ((NowB.mono (B' := B + 3000) ⟨S, k3, fun k hk => .inl hk, k4⟩ (by omega)).on b2) (And.intro s2 (And.intro k2 r2))))
    clear ru ru2 yu k1 k2 k3 k4 s2 r2 b2
    unfold dgv
    go_wp2_with fail
    rw [← hu2]
    clear hu2
    refine (HD2.out u2 HU.out.1).mono ?_
    rintro e v ⟨a2, cc2, rfl, hI2, hY⟩
    have hY0 := hY
    obtain ⟨S2, m1, m2, m3⟩ := hY
    obtain ⟨yu, hNX, s2, k2, r2⟩ := HU.out
    have rv := m3.keeps r2 (HN.out _ (by omega)).2
    have sv := SRow.fr s2 m3 (fun g hg => (HN.out g (by have := k2 g hg; omega)).2)
    obtain ⟨p0, p1, p2, p3⟩ := cells4 rv
    obtain ⟨v2, hv2⟩ : ∃ v2, v2 = v.alloc (.cells #[.int .i64 dd.f, .int .i64 dd.t, .slice a2 dd.b.length cc2, .bool dd.s] 37) := ⟨_, rfl⟩
    have bv : Below v.heap.size v v2 := by rw [hv2]; exact (Below.refl _ _).alloc (Nat.le_refl _) _
    have rv2 := (bv.block _ (block_lt rv)).trans rv
    have rw2 : v2.heap[v.heap.size]? = some (.cells #[.int .i64 dd.f, .int .i64 dd.t, .slice a2 dd.b.length cc2, .bool dd.s] 37 (0, 0)) := by rw [hv2]; exact heap_alloc_new _ _
    obtain ⟨q0, q1, q2, q3⟩ := cells4 rv2
    obtain ⟨t0, t1, t2, t3⟩ := cells4 rw2
    have hulv : u.heap.size < v.heap.size := block_lt rv
    obtain ⟨a1', c1', hv1', hI1⟩ := SB.isB sv
    injection hv1' with z1 z2 z3
    subst z1
    subst z3
    have HV := hd (And.intro (hI1.below bv) (And.intro (hI2.below bv) (And.intro hY0 bv)))
    clear yu hNX s2 k2 r2 rv sv hY0 m1 m2 m3 hI1 hI2 bv rv2 rw2 z2
    go_wp2_with fail
    rw [← hv2]
    clear hv2
    refine (alike_true dd a1 a2 cc1 cc2 v2 HV.out.1 HV.out.2.1).mono ?_
    rintro e q ⟨rfl, bq⟩
    have Z : Hid (∃ G', NowP w q x y cl G' (B + 3000) T) := ⟨_, (((pair_xy (B := B) HD.out.1 HD.out.2 HY.out HU.out.2.1 HV.out.2.2.1).on (HV.out.2.2.2.trans (bq.mono HV.out.2.2.2.size))).from HB0.out.1)⟩
    clear bq
    go_wp2
    go_ret
    exact ⟨rfl, Z.out⟩
  · go_enter Try.func29, Try.ntmps29
    go_wp2_with fail
    rw [← hw0]
    clear hw0
    refine (deliver_bad x cl G B S w0 HX.out oi hi).mono ?_
    rintro e u ⟨rfl, bu⟩
    obtain ⟨u2, hu2⟩ : ∃ u2, u2 = u.alloc (.cells #[.int .i64 0, .int .i64 0, .slice none 0 0, .bool false] 37) := ⟨_, rfl⟩
    have b2 : Below u.heap.size u u2 := by rw [hu2]; exact (Below.refl _ _).alloc (Nat.le_refl _) _
    have r2 : u2.heap[u.heap.size]? = some (.cells #[.int .i64 0, .int .i64 0, .slice none 0 0, .bool false] 37 (0, 0)) := by rw [hu2]; exact heap_alloc_new _ _
    have bu2 := bu.trans (b2.mono bu.size)
    have ru2 := (bu.block _ (block_lt HB0.out.2)).trans HB0.out.2
    obtain ⟨d0, d1, d2, d3, d4, d5⟩ := cells6 ru2
    have hwu : w.heap.size < u.heap.size := block_lt ru2
    have HU := hd (And.intro (HY.out.below bu2) (And.intro r2 bu2))
    clear bu b2 r2 bu2 ru2
    unfold dgv zDG
    simp only
    go_wp2_with fail
    rw [← hu2]
    clear hu2
    refine (rdeliver_bad y cl G S' u2 HU.out.1 oi hi).mono ?_
    rintro e v ⟨rfl, bv⟩
    obtain ⟨v2, hv2⟩ : ∃ v2, v2 = v.alloc (.cells #[.int .i64 0, .int .i64 0, .slice none 0 0, .bool false] 37) := ⟨_, rfl⟩
    have bv2 : Below u2.heap.size u2 v2 := by rw [hv2]; exact bv.alloc bv.size _
    have rv2 := (bv2.block _ (block_lt HU.out.2.1)).trans HU.out.2.1
    have rw2 : v2.heap[v.heap.size]? = some (.cells #[.int .i64 0, .int .i64 0, .slice none 0 0, .bool false] 37 (0, 0)) := by rw [hv2]; exact heap_alloc_new _ _
    obtain ⟨q0, q1, q2, q3⟩ := cells4 rv2
    obtain ⟨t0, t1, t2, t3⟩ := cells4 rw2
    have rv := (bv.block _ (block_lt HU.out.2.1)).trans HU.out.2.1
    obtain ⟨p0, p1, p2, p3⟩ := cells4 rv
    have hulv : u.heap.size < v.heap.size := block_lt rv
    have HV := hd (HU.out.2.2.trans (bv2.mono HU.out.2.2.size))
    clear bv bv2 rv2 rw2 rv
    go_wp2_with fail
    rw [← hv2]
    clear hv2
    refine (alike_true ⟨0, 0, [], false⟩ none none 0 0 v2 (isB_nil _) (isB_nil _)).mono ?_
    rintro e q ⟨rfl, bq⟩
    have Z : Hid (∃ G', NowP w q x y cl G' (B + 3000) T) := ⟨_, (NowP.same HP.out (by omega) (HV.out.trans (bq.mono HV.out.size))).from HB0.out.1⟩
    clear bq
    go_wp2
    go_ret
    exact ⟨rfl, Z.out⟩


end Go.Proofs.Ytnglcnilckolkaa
