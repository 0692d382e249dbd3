/-
  The document's Look.
-/
import Derived.Test.YtmbnimlibnheeabDoorRe
namespace Go.Proofs.YtmbnimlibnheeabDoor
open Go.RowKit
set_option linter.unusedVariables false

set_option maxRecDepth 100000 in
set_option maxHeartbeats 4000000 in
theorem rlook_bad (x : Nat) (r : Rf) (o : OpE) (S : Nat → Prop) (w : World) (h : RefAt w x r S) (hv : validP o ≠ 0) :
    Calls Tryd.prog 31 #[.pointer (some ⟨x, 0, none⟩), o.val] w fun e w' => e = .returned (.tuple #[.agg #[.int .i64 0, .int .i64 0, .int .u8 0, .int .i64 0, .int .i64 0], .int .i64 (validP o)]) ∧ Below w.heap.size w w' := by
  obtain ⟨V, hV⟩ : ∃ V, validP o = V := ⟨_, rfl⟩
  have HV := hd hV
  rw [hV] at hv ⊢
  have hv' : (V != 0) = true := by simpa using hv
  obtain ⟨k, ps, c, q, s⟩ := o
  simp only [OpE.val]
  clear h hV hv
  go_enter Tryd.func31, Tryd.ntmps31
  go_wp2_with fail
  refine (rvalid_any k ps c q s _).mono ?_
  rintro e w1 ⟨rfl, hb⟩
  obtain ⟨hp, hr, hB, hz⟩ := two_of hb
  obtain ⟨⟨r0, r1, r2, r3, r4⟩, ⟨f0, f1, f2, f3, f4⟩⟩ := cells5 hr
  have m1 : w.heap.size + 1 < w1.heap.size := by omega
  have HB := hd hB
  rw [HV.out]
  clear hb hp hr hB hz
  go_wp2
  refine bodyPost_ret (v := .tuple #[.agg #[.int .i64 0, .int .i64 0, .int .u8 0, .int .i64 0, .int .i64 0], .int .i64 V]) (by simp [results, Tryd.results31, go_sem, r0, r1, r2, r3, r4]) rfl ?_
  exact ⟨rfl, HB.out.trans ((Fr.set5 w1 (w.heap.size + 1) 0 0 0 0 0 0).below HB.out.size (fun k h => by omega))⟩

set_option maxRecDepth 100000 in
set_option maxHeartbeats 4000000 in
theorem rlook_good (x : Nat) (r : Rf) (o : OpE) (S : Nat → Prop) (w : World) (h : RefAt w x r S) (hl : r.own.length ≤ 10000) (hfl : r.far.length ≤ 10000) (hv : validP o = 0) :
    Calls Tryd.prog 31 #[.pointer (some ⟨x, 0, none⟩), o.val] w fun e w' => e = .returned (.tuple #[(rpast r o).val, .int .i64 0]) ∧ Below w.heap.size w w' := by
  have C : Hid (∀ U, Below w.heap.size w U → Calls Tryd.prog 33 #[.pointer (some ⟨x, 0, none⟩), o.val] U fun e w' => ∃ a n c, e = .returned (.tuple #[.slice a n c, (rpast r o).val]) ∧ Below U.heap.size U w') := fun U hU => by
    refine (rline_any x r o S U (h.below hU) hl hfl).mono ?_
    rintro e w' ⟨g, c, rfl, -, -, hb⟩
    exact ⟨_, _, _, rfl, hb⟩
  have HV := hd hv
  generalize rpast r o = R at *
  obtain ⟨rk, rp, rc, rq, rs⟩ := R
  obtain ⟨k, ps, c, q, s⟩ := o
  simp only [OpE.val] at C ⊢
  clear h hv hl hfl
  go_enter Tryd.func31, Tryd.ntmps31
  go_wp2_with fail
  refine (rvalid_any k ps c q s _).mono ?_
  rintro e w1 ⟨rfl, hb⟩
  obtain ⟨hp, hr, hB, hz⟩ := two_of hb
  obtain ⟨⟨y0, y1, y2, y3, y4⟩, -⟩ := cells5 hp
  have m0 : w.heap.size < w1.heap.size := by omega
  have HB := hd hB
  have HR := hd hr
  rw [HV.out]
  clear hb hp hr hB hz
  go_wp2_with fail
  refine (C.out _ HB.out).mono ?_
  rintro e w2 ⟨a, n, c', rfl, hb2⟩
  have hr2 := (hb2.block _ (block_lt HR.out)).trans HR.out
  obtain ⟨⟨r0, r1, r2, r3, r4⟩, ⟨f0, f1, f2, f3, f4⟩⟩ := cells5 hr2
  have m1 : w.heap.size + 1 < w2.heap.size := block_lt hr2
  have HB2 := hd (HB.out.trans (hb2.mono HB.out.size))
  have n1 : ¬ (w2.heap.size = w.heap.size + 1) := by omega
  have n2 : ¬ (w.heap.size + 1 = w2.heap.size) := by omega
  have B5 : Hid (∀ W, Fr (· = w.heap.size + 1) w2 W → Below w.heap.size w (W.alloc (.cells #[.int .i64 rk, .int .i64 rp, .int .u8 rc, .int .i64 rq, .int .i64 rs] 37))) := fun W h => (HB2.out.trans (h.below HB2.out.size (fun k h => by omega))).alloc (Nat.le_trans HB2.out.size h.size) _
  clear hb2 hr2 HR C HB HB2 y0 y1 y2 y3 y4 m0
  go_wp2
  refine bodyPost_ret (v := .tuple #[.agg #[.int .i64 rk, .int .i64 rp, .int .u8 rc, .int .i64 rq, .int .i64 rs], .int .i64 0]) (by simp [results, Tryd.results31, go_sem, r0, r1, r2, r3, r4, m1]) rfl ?_
  exact ⟨rfl, B5.out _ (Fr.set5 w2 (w.heap.size + 1) 0 rk rp rc rq rs)⟩

theorem rlook_any (x : Nat) (r : Rf) (o : OpE) (S : Nat → Prop) (w : World) (h : RefAt w x r S) (hl : r.own.length ≤ 10000) (hfl : r.far.length ≤ 10000) :
    Calls Tryd.prog 31 #[.pointer (some ⟨x, 0, none⟩), o.val] w fun e w' => e = .returned (.tuple #[(rlookO r o).val, .int .i64 (validP o)]) ∧ Below w.heap.size w w' := by
  by_cases hv : validP o = 0
  · refine (rlook_good x r o S w h hl hfl hv).mono ?_
    rintro e w' ⟨rfl, hb⟩
    rw [rlookO, if_pos hv, hv]
    exact ⟨rfl, hb⟩
  · refine (rlook_bad x r o S w h hv).mono ?_
    rintro e w' ⟨rfl, hb⟩
    rw [rlookO, if_neg hv]
    exact ⟨rfl, hb⟩

end Go.Proofs.YtmbnimlibnheeabDoor
