/-
  Texts put together: Na Wa Wb Nb Nc.
-/
import Derived.Test.YtmbnimlibnheeabDoorMb
import Derived.Test.YtmbnimlibnheeabDoorUa
import Derived.Deep.QuietTactic
import Derived.BigQuiet
import Derived.Deep.RegionHeld3
import Derived.Laws.NewDeep
/-! Na -/
namespace Go.Proofs.YtmbnimlibnheeabDoor
open Go.RowKit
set_option linter.unusedVariables false

set_option maxRecDepth 100000 in
set_option maxHeartbeats 4000000 in
theorem copied_any (a : Option Addr) (n c : Nat) (xs : List OpE) (w : World) (hE : IsO w a n c xs) (hn : n * 40 ≤ 281474976710656) :
    Calls Tryd.prog 54 #[.slice a n c] w fun e w' => ∃ v, e = .returned v ∧ OwnO w' w.heap.size v xs ∧ Below w.heap.size w w' := by
  obtain ⟨i0, hi0, hz0, hz1, hz2⟩ := info_parts Tryd.infoO
  have HE := hd hE
  have HN : Hid (xs.length = n) := hE.1
  have n63 : n ≤ 9223372036854775807 := by omega
  clear hE
  go_enter Tryd.func54, Tryd.ntmps54
  go_wp2_with (first | (at_make; refine wpList_make_k _ rfl _ _ 68 rfl 37 i0 _ Tryd.underlying68 hi0 hz0 _ _ _ _ n n rfl rfl rfl rfl (Nat.le_refl _) (by rw [hz2]; omega) (by omega) ?_; intro w3 cur hg3 hcur hb3) | fail)
  have hl3 : cur.length = n * 5 := by
    have := hcur.out
    rw [hz1] at this
    rw [this, show (Value.agg #[.int .i64 0, .int .i64 0, .int .u8 0, .int .i64 0, .int .i64 0]).cells = #[.int .i64 0, .int .i64 0, .int .u8 0, .int .i64 0, .int .i64 0] from rfl, made_zero, cO_len]
    simp
  obtain ⟨w4, hr4, hR4, hF4⟩ := run_copyO w3 a n c n w.heap.size xs cur (HE.out.below hb3.out) hg3.out hl3 (Nat.le_refl _) n63
  have R : Hid (OwnO w4 w.heap.size (.slice (some ⟨w.heap.size, 0, none⟩) n n) xs ∧ Below w.heap.size w w4) := by
    refine ⟨⟨_, n, Nat.le_refl _, by rw [HN.out], by rw [HN.out]; exact hR4⟩, hb3.out.trans (hF4.below hb3.out.size (fun k h => by rw [h]; exact Nat.le_refl _))⟩
  clear hg3 hcur hb3 hi0 hz0 hz1 hz2 hl3 hR4 hF4
  rw [hr4]
  go_wp2
  go_ret
  exact ⟨_, rfl, R.out⟩

end Go.Proofs.YtmbnimlibnheeabDoor

/-! Wa -/
namespace Go.Proofs.YtmbnimlibnheeabDoor
open Go.RowKit
set_option linter.unusedVariables false

/-- The table of rules, as its text lays it. -/
def Table (w : World) : Prop :=
  0 < w.heap.size ∧ w.cell? ⟨0, 0, none⟩ = some (.int .i64 0) ∧ w.cell? ⟨0, 1, none⟩ = some (.int .i64 0) ∧ w.cell? ⟨0, 2, none⟩ = some (.int .i64 0) ∧
  w.cell? ⟨0, 3, none⟩ = some (.int .i64 0) ∧ w.cell? ⟨0, 4, none⟩ = some (.int .i64 1) ∧ w.cell? ⟨0, 5, none⟩ = some (.int .i64 2) ∧
  w.cell? ⟨0, 6, none⟩ = some (.int .i64 0) ∧ w.cell? ⟨0, 7, none⟩ = some (.int .i64 3) ∧ w.cell? ⟨0, 8, none⟩ = some (.int .i64 4)

theorem Table.below {B : Nat} {w w' : World} (h : Table w) (hb : Below B w w') (hB : 0 < B) : Table w' := by
  obtain ⟨h0, r⟩ := h
  have hc : ∀ i, w'.cell? ⟨0, i, none⟩ = w.cell? ⟨0, i, none⟩ := fun i => hb.cell (p := ⟨0, i, none⟩) hB
  refine ⟨Nat.lt_of_lt_of_le h0 hb.size, ?_⟩
  simp only [hc]
  exact r

def rowP (k : Int) : Nat := if k = 1 then 1 else if k = 2 then 2 else 0

theorem row_any (k : Int) (w : World) : Calls Tryd.prog 60 #[.int .i64 k] w fun e w' => e = .returned (.int .i64 (rowP k)) ∧ w = w' := by
  by_cases h1 : k = 1
  · subst h1
    rw [show rowP 1 = 1 from rfl]
    go_enter Tryd.func60, Tryd.ntmps60
    go_wp2
    go_ret
    exact ⟨rfl, rfl⟩
  · by_cases h2 : k = 2
    · subst h2
      rw [show rowP 2 = 2 from rfl]
      go_enter Tryd.func60, Tryd.ntmps60
      go_wp2
      go_ret
      exact ⟨rfl, rfl⟩
    · rw [show rowP k = 0 from by simp [rowP, h1, h2]]
      have b1 : (k == 1) = false := by simpa using h1
      have b2 : (k == 2) = false := by simpa using h2
      clear h1 h2
      go_enter Tryd.func60, Tryd.ntmps60
      go_wp2
      go_ret
      exact ⟨rfl, rfl⟩

theorem pushed_any (a : OpE) (l : Bool) (w : World) : Calls Tryd.prog 61 #[a.val, .bool l] w fun e w' =>
    e = .returned (OpE.val ⟨a.kind, if l then wrap64 (a.pos + 1) else a.pos, a.ch, a.cl, a.sq⟩) ∧ Below w.heap.size w w' := by
  obtain ⟨k, p, c, q, s⟩ := a
  simp only [OpE.val]
  cases l
  · simp only [Bool.false_eq_true, if_false]
    go_enter Tryd.func61, Tryd.ntmps61
    go_wp2
    refine bodyPost_ret (v := .agg #[.int .i64 k, .int .i64 p, .int .u8 c, .int .i64 q, .int .i64 s]) (by simp [results, Tryd.results61, go_sem]) rfl ?_
    exact ⟨rfl, ((Below.refl _ _).alloc (Nat.le_refl _) _).alloc (by simp) _⟩
  · simp only [if_true]
    go_enter Tryd.func61, Tryd.ntmps61
    go_wp2
    refine bodyPost_ret (v := .agg #[.int .i64 k, .int .i64 (wrap64 (p + 1)), .int .u8 c, .int .i64 q, .int .i64 s]) (by simp [results, Tryd.results61, go_sem]) rfl ?_
    exact ⟨rfl, ((Below.refl _ _).alloc (Nat.le_refl _) _).alloc (by simp) _⟩

theorem pulled_any (a : OpE) (l : Bool) (w : World) : Calls Tryd.prog 62 #[a.val, .bool l] w fun e w' =>
    e = .returned (OpE.val ⟨a.kind, if l then wrap64 (a.pos - 1) else a.pos, a.ch, a.cl, a.sq⟩) ∧ Below w.heap.size w w' := by
  obtain ⟨k, p, c, q, s⟩ := a
  simp only [OpE.val]
  cases l
  · simp only [Bool.false_eq_true, if_false]
    go_enter Tryd.func62, Tryd.ntmps62
    go_wp2
    refine bodyPost_ret (v := .agg #[.int .i64 k, .int .i64 p, .int .u8 c, .int .i64 q, .int .i64 s]) (by simp [results, Tryd.results62, go_sem]) rfl ?_
    exact ⟨rfl, ((Below.refl _ _).alloc (Nat.le_refl _) _).alloc (by simp) _⟩
  · simp only [if_true]
    go_enter Tryd.func62, Tryd.ntmps62
    go_wp2
    refine bodyPost_ret (v := .agg #[.int .i64 k, .int .i64 (wrap64 (p - 1)), .int .u8 c, .int .i64 q, .int .i64 s]) (by simp [results, Tryd.results62, go_sem]) rfl ?_
    exact ⟨rfl, ((Below.refl _ _).alloc (Nat.le_refl _) _).alloc (by simp) _⟩

theorem nothing_any (a : OpE) (w : World) : Calls Tryd.prog 63 #[a.val] w fun e w' =>
    e = .returned (OpE.val ⟨0, 0, 0, a.cl, a.sq⟩) ∧ Below w.heap.size w w' := by
  obtain ⟨k, p, c, q, s⟩ := a
  simp only [OpE.val]
  go_enter Tryd.func63, Tryd.ntmps63
  go_wp2
  refine bodyPost_ret (v := .agg #[.int .i64 0, .int .i64 0, .int .u8 0, .int .i64 q, .int .i64 s]) (by simp [results, Tryd.results63, go_sem]) rfl ?_
  exact ⟨rfl, ((Below.refl _ _).alloc (Nat.le_refl _) _).alloc (by simp) _⟩

end Go.Proofs.YtmbnimlibnheeabDoor

/-! Wb -/
namespace Go.Proofs.YtmbnimlibnheeabDoor
open Go.RowKit
set_option linter.unusedVariables false

theorem row_is (k r : Int) (w : World) (h : (rowP k : Int) = r) : Calls Tryd.prog 60 #[.int .i64 k] w fun e w' => e = .returned (.int .i64 r) ∧ w' = w := by
  rw [← h]
  exact (row_any k w).mono fun _ _ h => ⟨h.1, h.2.symm⟩

theorem res_below (w : World) (o1 o2 o3 : Obj) (m : Nat) : Below w.heap.size w ((((w.alloc o1).alloc o2).alloc o3).drewN m) :=
  below_drewN ((((Below.refl _ _).alloc (Nat.le_refl _) _).alloc (by simp) _).alloc (by simp; omega) _) m

theorem res_cell {w w1 : World} {o1 o2 : Obj} {cs : Array Value} {t : TypeId} {m : Nat} (b : Below (((w.alloc o1).alloc o2).alloc (.cells cs t (0, 0))).heap.size ((((w.alloc o1).alloc o2).alloc (.cells cs t (0, 0))).drewN m) w1) :
    (∀ i, w1.cell? ⟨w.heap.size + 1 + 1, i, none⟩ = cs[i]?) ∧ (∀ i, w1.frozen? ⟨w.heap.size + 1 + 1, i, none⟩ = false) ∧ Below w.heap.size w w1 := by
  have h : w1.heap[w.heap.size + 1 + 1]? = some (.cells cs t (0, 0)) := by
    rw [b.block (w.heap.size + 1 + 1) (by simp)]
    have := heap_alloc_new ((w.alloc o1).alloc o2) (.cells cs t (0, 0))
    simpa using this
  refine ⟨fun i => ?_, fun i => ?_, ?_⟩
  · simp [World.cell?, h]
  · simp [World.frozen?, h]
  · have b0 : Below w.heap.size w (((w.alloc o1).alloc o2).alloc (.cells cs t (0, 0))) := (((Below.refl _ _).alloc (Nat.le_refl _) _).alloc (by simp) _).alloc (by simp; omega) _
    exact (below_drewN b0 m).trans (b.mono (by simp; omega))

set_option maxHeartbeats 4000000 in
theorem sh_nn (k k' p c q s p' c' q' s' : Int) (f : Bool) (w : World) (hT : Table w) (hk : rowP k = 0) (hk' : rowP k' = 0) : Calls Tryd.prog 58 #[.agg #[.int .i64 k, .int .i64 p, .int .u8 c, .int .i64 q, .int .i64 s], .agg #[.int .i64 k', .int .i64 p', .int .u8 c', .int .i64 q', .int .i64 s'], .bool f] w fun e w' =>
    e = .returned (.agg #[.int .i64 k, .int .i64 p, .int .u8 c, .int .i64 q, .int .i64 s]) ∧ Below w.heap.size w w' := by
  have HK := hd hk
  clear hk
  have HK' := hd hk'
  clear hk'
  obtain ⟨h0, t0, t1, t2, t3, t4, t5, t6, t7, t8⟩ := hT
  have n1 : ¬ (0 = w.heap.size) := by omega
  have n2 : ¬ (0 = w.heap.size + 1) := by omega
  have n3 : ¬ (0 = w.heap.size + 1 + 1) := by omega
  go_enter Tryd.func58, Tryd.ntmps58
  go_wp2_with fail
  go_quiet (first | (go_at_call_of 60 (Value.int .i64 k); exact Calls.quiet_of_same (row_is k 0 _ (by rw [HK.out]; rfl))) | (go_at_call_of 60 (Value.int .i64 k'); exact Calls.quiet_of_same (row_is k' 0 _ (by rw [HK'.out]; rfl))))
  go_wp2
  refine bodyPost_ret (v := .agg #[.int .i64 k, .int .i64 p, .int .u8 c, .int .i64 q, .int .i64 s]) (by simp [results, Tryd.results58, go_sem]) rfl ?_
  exact ⟨rfl, ((((res_below w _ _ _ _).setCell (by simp; omega) _).setCell (by simp; omega) _).setCell (by simp; omega) _).setCell (by simp; omega) _ |>.setCell (by simp; omega) _⟩

set_option maxHeartbeats 4000000 in
theorem sh_n1 (k p c q s p' c' q' s' : Int) (f : Bool) (w : World) (hT : Table w) (hk : rowP k = 0) : Calls Tryd.prog 58 #[.agg #[.int .i64 k, .int .i64 p, .int .u8 c, .int .i64 q, .int .i64 s], .agg #[.int .i64 1, .int .i64 p', .int .u8 c', .int .i64 q', .int .i64 s'], .bool f] w fun e w' =>
    e = .returned (.agg #[.int .i64 k, .int .i64 p, .int .u8 c, .int .i64 q, .int .i64 s]) ∧ Below w.heap.size w w' := by
  have HK := hd hk
  clear hk
  obtain ⟨h0, t0, t1, t2, t3, t4, t5, t6, t7, t8⟩ := hT
  have n1 : ¬ (0 = w.heap.size) := by omega
  have n2 : ¬ (0 = w.heap.size + 1) := by omega
  have n3 : ¬ (0 = w.heap.size + 1 + 1) := by omega
  go_enter Tryd.func58, Tryd.ntmps58
  go_wp2_with fail
  go_quiet (first | (go_at_call_of 60 (Value.int .i64 k); exact Calls.quiet_of_same (row_is k 0 _ (by rw [HK.out]; rfl))) | (go_at_call_of 60 (Value.int .i64 1); exact Calls.quiet_of_same (row_is 1 1 _ rfl)))
  go_wp2
  refine bodyPost_ret (v := .agg #[.int .i64 k, .int .i64 p, .int .u8 c, .int .i64 q, .int .i64 s]) (by simp [results, Tryd.results58, go_sem]) rfl ?_
  exact ⟨rfl, ((((res_below w _ _ _ _).setCell (by simp; omega) _).setCell (by simp; omega) _).setCell (by simp; omega) _).setCell (by simp; omega) _ |>.setCell (by simp; omega) _⟩

set_option maxHeartbeats 4000000 in
theorem sh_n2 (k p c q s p' c' q' s' : Int) (f : Bool) (w : World) (hT : Table w) (hk : rowP k = 0) : Calls Tryd.prog 58 #[.agg #[.int .i64 k, .int .i64 p, .int .u8 c, .int .i64 q, .int .i64 s], .agg #[.int .i64 2, .int .i64 p', .int .u8 c', .int .i64 q', .int .i64 s'], .bool f] w fun e w' =>
    e = .returned (.agg #[.int .i64 k, .int .i64 p, .int .u8 c, .int .i64 q, .int .i64 s]) ∧ Below w.heap.size w w' := by
  have HK := hd hk
  clear hk
  obtain ⟨h0, t0, t1, t2, t3, t4, t5, t6, t7, t8⟩ := hT
  have n1 : ¬ (0 = w.heap.size) := by omega
  have n2 : ¬ (0 = w.heap.size + 1) := by omega
  have n3 : ¬ (0 = w.heap.size + 1 + 1) := by omega
  go_enter Tryd.func58, Tryd.ntmps58
  go_wp2_with fail
  go_quiet (first | (go_at_call_of 60 (Value.int .i64 k); exact Calls.quiet_of_same (row_is k 0 _ (by rw [HK.out]; rfl))) | (go_at_call_of 60 (Value.int .i64 2); exact Calls.quiet_of_same (row_is 2 2 _ rfl)))
  go_wp2
  refine bodyPost_ret (v := .agg #[.int .i64 k, .int .i64 p, .int .u8 c, .int .i64 q, .int .i64 s]) (by simp [results, Tryd.results58, go_sem]) rfl ?_
  exact ⟨rfl, ((((res_below w _ _ _ _).setCell (by simp; omega) _).setCell (by simp; omega) _).setCell (by simp; omega) _).setCell (by simp; omega) _ |>.setCell (by simp; omega) _⟩

set_option maxHeartbeats 4000000 in
theorem sh_1n (k' p c q s p' c' q' s' : Int) (f : Bool) (w : World) (hT : Table w) (hk' : rowP k' = 0) : Calls Tryd.prog 58 #[.agg #[.int .i64 1, .int .i64 p, .int .u8 c, .int .i64 q, .int .i64 s], .agg #[.int .i64 k', .int .i64 p', .int .u8 c', .int .i64 q', .int .i64 s'], .bool f] w fun e w' =>
    e = .returned (.agg #[.int .i64 1, .int .i64 p, .int .u8 c, .int .i64 q, .int .i64 s]) ∧ Below w.heap.size w w' := by
  have HK' := hd hk'
  clear hk'
  obtain ⟨h0, t0, t1, t2, t3, t4, t5, t6, t7, t8⟩ := hT
  have n1 : ¬ (0 = w.heap.size) := by omega
  have n2 : ¬ (0 = w.heap.size + 1) := by omega
  have n3 : ¬ (0 = w.heap.size + 1 + 1) := by omega
  go_enter Tryd.func58, Tryd.ntmps58
  go_wp2_with fail
  go_quiet (first | (go_at_call_of 60 (Value.int .i64 1); exact Calls.quiet_of_same (row_is 1 1 _ rfl)) | (go_at_call_of 60 (Value.int .i64 k'); exact Calls.quiet_of_same (row_is k' 0 _ (by rw [HK'.out]; rfl))))
  go_wp2
  refine bodyPost_ret (v := .agg #[.int .i64 1, .int .i64 p, .int .u8 c, .int .i64 q, .int .i64 s]) (by simp [results, Tryd.results58, go_sem]) rfl ?_
  exact ⟨rfl, ((((res_below w _ _ _ _).setCell (by simp; omega) _).setCell (by simp; omega) _).setCell (by simp; omega) _).setCell (by simp; omega) _ |>.setCell (by simp; omega) _⟩

set_option maxHeartbeats 4000000 in
theorem sh_2n (k' p c q s p' c' q' s' : Int) (f : Bool) (w : World) (hT : Table w) (hk' : rowP k' = 0) : Calls Tryd.prog 58 #[.agg #[.int .i64 2, .int .i64 p, .int .u8 c, .int .i64 q, .int .i64 s], .agg #[.int .i64 k', .int .i64 p', .int .u8 c', .int .i64 q', .int .i64 s'], .bool f] w fun e w' =>
    e = .returned (.agg #[.int .i64 2, .int .i64 p, .int .u8 c, .int .i64 q, .int .i64 s]) ∧ Below w.heap.size w w' := by
  have HK' := hd hk'
  clear hk'
  obtain ⟨h0, t0, t1, t2, t3, t4, t5, t6, t7, t8⟩ := hT
  have n1 : ¬ (0 = w.heap.size) := by omega
  have n2 : ¬ (0 = w.heap.size + 1) := by omega
  have n3 : ¬ (0 = w.heap.size + 1 + 1) := by omega
  go_enter Tryd.func58, Tryd.ntmps58
  go_wp2_with fail
  go_quiet (first | (go_at_call_of 60 (Value.int .i64 2); exact Calls.quiet_of_same (row_is 2 2 _ rfl)) | (go_at_call_of 60 (Value.int .i64 k'); exact Calls.quiet_of_same (row_is k' 0 _ (by rw [HK'.out]; rfl))))
  go_wp2
  refine bodyPost_ret (v := .agg #[.int .i64 2, .int .i64 p, .int .u8 c, .int .i64 q, .int .i64 s]) (by simp [results, Tryd.results58, go_sem]) rfl ?_
  exact ⟨rfl, ((((res_below w _ _ _ _).setCell (by simp; omega) _).setCell (by simp; omega) _).setCell (by simp; omega) _).setCell (by simp; omega) _ |>.setCell (by simp; omega) _⟩

set_option maxHeartbeats 4000000 in
theorem sh_11l (p c q s p' c' q' s' : Int) (f : Bool) (w : World) (hT : Table w) (hl : p' < p) : Calls Tryd.prog 58 #[.agg #[.int .i64 1, .int .i64 p, .int .u8 c, .int .i64 q, .int .i64 s], .agg #[.int .i64 1, .int .i64 p', .int .u8 c', .int .i64 q', .int .i64 s'], .bool f] w fun e w' =>
    e = .returned (.agg #[.int .i64 1, .int .i64 (wrap64 (p + 1)), .int .u8 c, .int .i64 q, .int .i64 s]) ∧ Below w.heap.size w w' := by
  obtain ⟨h0, t0, t1, t2, t3, t4, t5, t6, t7, t8⟩ := hT
  have n1 : ¬ (0 = w.heap.size) := by omega
  have n2 : ¬ (0 = w.heap.size + 1) := by omega
  have n3 : ¬ (0 = w.heap.size + 1 + 1) := by omega
  go_enter Tryd.func58, Tryd.ntmps58
  go_wp2_with fail
  go_quiet (first | (go_at_call_of 60 (Value.int .i64 1); exact Calls.quiet_of_same (row_is 1 1 _ rfl)))
  go_wp2_with fail
  refine (pushed_any ⟨1, p, c, q, s⟩ true _).mono ?_
  rintro e w1 ⟨rfl, b1⟩
  simp only [OpE.val]
  obtain ⟨c1, f1, b2⟩ := res_cell b1
  have B2 := hd b2
  have x0 := c1 0
  have x1 := c1 1
  have x2 := c1 2
  have x3 := c1 3
  have x4 := c1 4
  have y0 := f1 0
  have y1 := f1 1
  have y2 := f1 2
  have y3 := f1 3
  have y4 := f1 4
  simp at x0 x1 x2 x3 x4
  clear c1 f1 b1 b2
  go_wp2
  refine bodyPost_ret (v := .agg #[.int .i64 1, .int .i64 (wrap64 (p + 1)), .int .u8 c, .int .i64 q, .int .i64 s]) (by simp [results, Tryd.results58, go_sem, x0, x1, x2, x3, x4]) rfl ?_
  exact ⟨rfl, ((((B2.out.setCell (by simp; omega) _).setCell (by simp; omega) _).setCell (by simp; omega) _).setCell (by simp; omega) _).setCell (by simp; omega) _⟩

set_option maxHeartbeats 4000000 in
theorem sh_11et (p c q s c' q' s' : Int) (w : World) (hT : Table w) : Calls Tryd.prog 58 #[.agg #[.int .i64 1, .int .i64 p, .int .u8 c, .int .i64 q, .int .i64 s], .agg #[.int .i64 1, .int .i64 p, .int .u8 c', .int .i64 q', .int .i64 s'], .bool true] w fun e w' =>
    e = .returned (.agg #[.int .i64 1, .int .i64 p, .int .u8 c, .int .i64 q, .int .i64 s]) ∧ Below w.heap.size w w' := by
  obtain ⟨h0, t0, t1, t2, t3, t4, t5, t6, t7, t8⟩ := hT
  have n1 : ¬ (0 = w.heap.size) := by omega
  have n2 : ¬ (0 = w.heap.size + 1) := by omega
  have n3 : ¬ (0 = w.heap.size + 1 + 1) := by omega
  go_enter Tryd.func58, Tryd.ntmps58
  go_wp2_with fail
  go_quiet (first | (go_at_call_of 60 (Value.int .i64 1); exact Calls.quiet_of_same (row_is 1 1 _ rfl)))
  go_wp2_with fail
  refine (pushed_any ⟨1, p, c, q, s⟩ false _).mono ?_
  rintro e w1 ⟨rfl, b1⟩
  simp only [OpE.val]
  obtain ⟨c1, f1, b2⟩ := res_cell b1
  have B2 := hd b2
  have x0 := c1 0
  have x1 := c1 1
  have x2 := c1 2
  have x3 := c1 3
  have x4 := c1 4
  have y0 := f1 0
  have y1 := f1 1
  have y2 := f1 2
  have y3 := f1 3
  have y4 := f1 4
  simp at x0 x1 x2 x3 x4
  clear c1 f1 b1 b2
  go_wp2
  refine bodyPost_ret (v := .agg #[.int .i64 1, .int .i64 p, .int .u8 c, .int .i64 q, .int .i64 s]) (by simp [results, Tryd.results58, go_sem, x0, x1, x2, x3, x4]) rfl ?_
  exact ⟨rfl, ((((B2.out.setCell (by simp; omega) _).setCell (by simp; omega) _).setCell (by simp; omega) _).setCell (by simp; omega) _).setCell (by simp; omega) _⟩

set_option maxHeartbeats 4000000 in
theorem sh_11ef (p c q s c' q' s' : Int) (w : World) (hT : Table w) : Calls Tryd.prog 58 #[.agg #[.int .i64 1, .int .i64 p, .int .u8 c, .int .i64 q, .int .i64 s], .agg #[.int .i64 1, .int .i64 p, .int .u8 c', .int .i64 q', .int .i64 s'], .bool false] w fun e w' =>
    e = .returned (.agg #[.int .i64 1, .int .i64 (wrap64 (p + 1)), .int .u8 c, .int .i64 q, .int .i64 s]) ∧ Below w.heap.size w w' := by
  obtain ⟨h0, t0, t1, t2, t3, t4, t5, t6, t7, t8⟩ := hT
  have n1 : ¬ (0 = w.heap.size) := by omega
  have n2 : ¬ (0 = w.heap.size + 1) := by omega
  have n3 : ¬ (0 = w.heap.size + 1 + 1) := by omega
  go_enter Tryd.func58, Tryd.ntmps58
  go_wp2_with fail
  go_quiet (first | (go_at_call_of 60 (Value.int .i64 1); exact Calls.quiet_of_same (row_is 1 1 _ rfl)))
  go_wp2_with fail
  refine (pushed_any ⟨1, p, c, q, s⟩ true _).mono ?_
  rintro e w1 ⟨rfl, b1⟩
  simp only [OpE.val]
  obtain ⟨c1, f1, b2⟩ := res_cell b1
  have B2 := hd b2
  have x0 := c1 0
  have x1 := c1 1
  have x2 := c1 2
  have x3 := c1 3
  have x4 := c1 4
  have y0 := f1 0
  have y1 := f1 1
  have y2 := f1 2
  have y3 := f1 3
  have y4 := f1 4
  simp at x0 x1 x2 x3 x4
  clear c1 f1 b1 b2
  go_wp2
  refine bodyPost_ret (v := .agg #[.int .i64 1, .int .i64 (wrap64 (p + 1)), .int .u8 c, .int .i64 q, .int .i64 s]) (by simp [results, Tryd.results58, go_sem, x0, x1, x2, x3, x4]) rfl ?_
  exact ⟨rfl, ((((B2.out.setCell (by simp; omega) _).setCell (by simp; omega) _).setCell (by simp; omega) _).setCell (by simp; omega) _).setCell (by simp; omega) _⟩

set_option maxHeartbeats 4000000 in
theorem sh_11g (p c q s p' c' q' s' : Int) (f : Bool) (w : World) (hT : Table w) (hl : decide (p' < p) = false) (he : (p' == p) = false) : Calls Tryd.prog 58 #[.agg #[.int .i64 1, .int .i64 p, .int .u8 c, .int .i64 q, .int .i64 s], .agg #[.int .i64 1, .int .i64 p', .int .u8 c', .int .i64 q', .int .i64 s'], .bool f] w fun e w' =>
    e = .returned (.agg #[.int .i64 1, .int .i64 p, .int .u8 c, .int .i64 q, .int .i64 s]) ∧ Below w.heap.size w w' := by
  obtain ⟨h0, t0, t1, t2, t3, t4, t5, t6, t7, t8⟩ := hT
  have n1 : ¬ (0 = w.heap.size) := by omega
  have n2 : ¬ (0 = w.heap.size + 1) := by omega
  have n3 : ¬ (0 = w.heap.size + 1 + 1) := by omega
  go_enter Tryd.func58, Tryd.ntmps58
  go_wp2_with fail
  go_quiet (first | (go_at_call_of 60 (Value.int .i64 1); exact Calls.quiet_of_same (row_is 1 1 _ rfl)))
  go_wp2_with fail
  refine (pushed_any ⟨1, p, c, q, s⟩ false _).mono ?_
  rintro e w1 ⟨rfl, b1⟩
  simp only [OpE.val]
  obtain ⟨c1, f1, b2⟩ := res_cell b1
  have B2 := hd b2
  have x0 := c1 0
  have x1 := c1 1
  have x2 := c1 2
  have x3 := c1 3
  have x4 := c1 4
  have y0 := f1 0
  have y1 := f1 1
  have y2 := f1 2
  have y3 := f1 3
  have y4 := f1 4
  simp at x0 x1 x2 x3 x4
  clear c1 f1 b1 b2
  go_wp2
  refine bodyPost_ret (v := .agg #[.int .i64 1, .int .i64 p, .int .u8 c, .int .i64 q, .int .i64 s]) (by simp [results, Tryd.results58, go_sem, x0, x1, x2, x3, x4]) rfl ?_
  exact ⟨rfl, ((((B2.out.setCell (by simp; omega) _).setCell (by simp; omega) _).setCell (by simp; omega) _).setCell (by simp; omega) _).setCell (by simp; omega) _⟩

set_option maxHeartbeats 4000000 in
theorem sh_12l (p c q s p' c' q' s' : Int) (f : Bool) (w : World) (hT : Table w) (hl : p' < p) : Calls Tryd.prog 58 #[.agg #[.int .i64 1, .int .i64 p, .int .u8 c, .int .i64 q, .int .i64 s], .agg #[.int .i64 2, .int .i64 p', .int .u8 c', .int .i64 q', .int .i64 s'], .bool f] w fun e w' =>
    e = .returned (.agg #[.int .i64 1, .int .i64 (wrap64 (p - 1)), .int .u8 c, .int .i64 q, .int .i64 s]) ∧ Below w.heap.size w w' := by
  obtain ⟨h0, t0, t1, t2, t3, t4, t5, t6, t7, t8⟩ := hT
  have n1 : ¬ (0 = w.heap.size) := by omega
  have n2 : ¬ (0 = w.heap.size + 1) := by omega
  have n3 : ¬ (0 = w.heap.size + 1 + 1) := by omega
  go_enter Tryd.func58, Tryd.ntmps58
  go_wp2_with fail
  go_quiet (first | (go_at_call_of 60 (Value.int .i64 1); exact Calls.quiet_of_same (row_is 1 1 _ rfl)) | (go_at_call_of 60 (Value.int .i64 2); exact Calls.quiet_of_same (row_is 2 2 _ rfl)))
  go_wp2_with fail
  refine (pulled_any ⟨1, p, c, q, s⟩ true _).mono ?_
  rintro e w1 ⟨rfl, b1⟩
  simp only [OpE.val]
  obtain ⟨c1, f1, b2⟩ := res_cell b1
  have B2 := hd b2
  have x0 := c1 0
  have x1 := c1 1
  have x2 := c1 2
  have x3 := c1 3
  have x4 := c1 4
  have y0 := f1 0
  have y1 := f1 1
  have y2 := f1 2
  have y3 := f1 3
  have y4 := f1 4
  simp at x0 x1 x2 x3 x4
  clear c1 f1 b1 b2
  go_wp2
  refine bodyPost_ret (v := .agg #[.int .i64 1, .int .i64 (wrap64 (p - 1)), .int .u8 c, .int .i64 q, .int .i64 s]) (by simp [results, Tryd.results58, go_sem, x0, x1, x2, x3, x4]) rfl ?_
  exact ⟨rfl, ((((B2.out.setCell (by simp; omega) _).setCell (by simp; omega) _).setCell (by simp; omega) _).setCell (by simp; omega) _).setCell (by simp; omega) _⟩

set_option maxHeartbeats 4000000 in
theorem sh_12g (p c q s p' c' q' s' : Int) (f : Bool) (w : World) (hT : Table w) (hl : decide (p' < p) = false) : Calls Tryd.prog 58 #[.agg #[.int .i64 1, .int .i64 p, .int .u8 c, .int .i64 q, .int .i64 s], .agg #[.int .i64 2, .int .i64 p', .int .u8 c', .int .i64 q', .int .i64 s'], .bool f] w fun e w' =>
    e = .returned (.agg #[.int .i64 1, .int .i64 p, .int .u8 c, .int .i64 q, .int .i64 s]) ∧ Below w.heap.size w w' := by
  obtain ⟨h0, t0, t1, t2, t3, t4, t5, t6, t7, t8⟩ := hT
  have n1 : ¬ (0 = w.heap.size) := by omega
  have n2 : ¬ (0 = w.heap.size + 1) := by omega
  have n3 : ¬ (0 = w.heap.size + 1 + 1) := by omega
  go_enter Tryd.func58, Tryd.ntmps58
  go_wp2_with fail
  go_quiet (first | (go_at_call_of 60 (Value.int .i64 1); exact Calls.quiet_of_same (row_is 1 1 _ rfl)) | (go_at_call_of 60 (Value.int .i64 2); exact Calls.quiet_of_same (row_is 2 2 _ rfl)))
  go_wp2_with fail
  refine (pulled_any ⟨1, p, c, q, s⟩ false _).mono ?_
  rintro e w1 ⟨rfl, b1⟩
  simp only [OpE.val]
  obtain ⟨c1, f1, b2⟩ := res_cell b1
  have B2 := hd b2
  have x0 := c1 0
  have x1 := c1 1
  have x2 := c1 2
  have x3 := c1 3
  have x4 := c1 4
  have y0 := f1 0
  have y1 := f1 1
  have y2 := f1 2
  have y3 := f1 3
  have y4 := f1 4
  simp at x0 x1 x2 x3 x4
  clear c1 f1 b1 b2
  go_wp2
  refine bodyPost_ret (v := .agg #[.int .i64 1, .int .i64 p, .int .u8 c, .int .i64 q, .int .i64 s]) (by simp [results, Tryd.results58, go_sem, x0, x1, x2, x3, x4]) rfl ?_
  exact ⟨rfl, ((((B2.out.setCell (by simp; omega) _).setCell (by simp; omega) _).setCell (by simp; omega) _).setCell (by simp; omega) _).setCell (by simp; omega) _⟩

set_option maxHeartbeats 4000000 in
theorem sh_21l (p c q s p' c' q' s' : Int) (f : Bool) (w : World) (hT : Table w) (hl : p' ≤ p) : Calls Tryd.prog 58 #[.agg #[.int .i64 2, .int .i64 p, .int .u8 c, .int .i64 q, .int .i64 s], .agg #[.int .i64 1, .int .i64 p', .int .u8 c', .int .i64 q', .int .i64 s'], .bool f] w fun e w' =>
    e = .returned (.agg #[.int .i64 2, .int .i64 (wrap64 (p + 1)), .int .u8 c, .int .i64 q, .int .i64 s]) ∧ Below w.heap.size w w' := by
  obtain ⟨h0, t0, t1, t2, t3, t4, t5, t6, t7, t8⟩ := hT
  have n1 : ¬ (0 = w.heap.size) := by omega
  have n2 : ¬ (0 = w.heap.size + 1) := by omega
  have n3 : ¬ (0 = w.heap.size + 1 + 1) := by omega
  go_enter Tryd.func58, Tryd.ntmps58
  go_wp2_with fail
  go_quiet (first | (go_at_call_of 60 (Value.int .i64 2); exact Calls.quiet_of_same (row_is 2 2 _ rfl)) | (go_at_call_of 60 (Value.int .i64 1); exact Calls.quiet_of_same (row_is 1 1 _ rfl)))
  go_wp2_with fail
  refine (pushed_any ⟨2, p, c, q, s⟩ true _).mono ?_
  rintro e w1 ⟨rfl, b1⟩
  simp only [OpE.val]
  obtain ⟨c1, f1, b2⟩ := res_cell b1
  have B2 := hd b2
  have x0 := c1 0
  have x1 := c1 1
  have x2 := c1 2
  have x3 := c1 3
  have x4 := c1 4
  have y0 := f1 0
  have y1 := f1 1
  have y2 := f1 2
  have y3 := f1 3
  have y4 := f1 4
  simp at x0 x1 x2 x3 x4
  clear c1 f1 b1 b2
  go_wp2
  refine bodyPost_ret (v := .agg #[.int .i64 2, .int .i64 (wrap64 (p + 1)), .int .u8 c, .int .i64 q, .int .i64 s]) (by simp [results, Tryd.results58, go_sem, x0, x1, x2, x3, x4]) rfl ?_
  exact ⟨rfl, ((((B2.out.setCell (by simp; omega) _).setCell (by simp; omega) _).setCell (by simp; omega) _).setCell (by simp; omega) _).setCell (by simp; omega) _⟩

set_option maxHeartbeats 4000000 in
theorem sh_21g (p c q s p' c' q' s' : Int) (f : Bool) (w : World) (hT : Table w) (hl : decide (p' ≤ p) = false) : Calls Tryd.prog 58 #[.agg #[.int .i64 2, .int .i64 p, .int .u8 c, .int .i64 q, .int .i64 s], .agg #[.int .i64 1, .int .i64 p', .int .u8 c', .int .i64 q', .int .i64 s'], .bool f] w fun e w' =>
    e = .returned (.agg #[.int .i64 2, .int .i64 p, .int .u8 c, .int .i64 q, .int .i64 s]) ∧ Below w.heap.size w w' := by
  obtain ⟨h0, t0, t1, t2, t3, t4, t5, t6, t7, t8⟩ := hT
  have n1 : ¬ (0 = w.heap.size) := by omega
  have n2 : ¬ (0 = w.heap.size + 1) := by omega
  have n3 : ¬ (0 = w.heap.size + 1 + 1) := by omega
  go_enter Tryd.func58, Tryd.ntmps58
  go_wp2_with fail
  go_quiet (first | (go_at_call_of 60 (Value.int .i64 2); exact Calls.quiet_of_same (row_is 2 2 _ rfl)) | (go_at_call_of 60 (Value.int .i64 1); exact Calls.quiet_of_same (row_is 1 1 _ rfl)))
  go_wp2_with fail
  refine (pushed_any ⟨2, p, c, q, s⟩ false _).mono ?_
  rintro e w1 ⟨rfl, b1⟩
  simp only [OpE.val]
  obtain ⟨c1, f1, b2⟩ := res_cell b1
  have B2 := hd b2
  have x0 := c1 0
  have x1 := c1 1
  have x2 := c1 2
  have x3 := c1 3
  have x4 := c1 4
  have y0 := f1 0
  have y1 := f1 1
  have y2 := f1 2
  have y3 := f1 3
  have y4 := f1 4
  simp at x0 x1 x2 x3 x4
  clear c1 f1 b1 b2
  go_wp2
  refine bodyPost_ret (v := .agg #[.int .i64 2, .int .i64 p, .int .u8 c, .int .i64 q, .int .i64 s]) (by simp [results, Tryd.results58, go_sem, x0, x1, x2, x3, x4]) rfl ?_
  exact ⟨rfl, ((((B2.out.setCell (by simp; omega) _).setCell (by simp; omega) _).setCell (by simp; omega) _).setCell (by simp; omega) _).setCell (by simp; omega) _⟩

set_option maxHeartbeats 4000000 in
theorem sh_22e (p c q s c' q' s' : Int) (f : Bool) (w : World) (hT : Table w) : Calls Tryd.prog 58 #[.agg #[.int .i64 2, .int .i64 p, .int .u8 c, .int .i64 q, .int .i64 s], .agg #[.int .i64 2, .int .i64 p, .int .u8 c', .int .i64 q', .int .i64 s'], .bool f] w fun e w' =>
    e = .returned (.agg #[.int .i64 0, .int .i64 0, .int .u8 0, .int .i64 q, .int .i64 s]) ∧ Below w.heap.size w w' := by
  obtain ⟨h0, t0, t1, t2, t3, t4, t5, t6, t7, t8⟩ := hT
  have n1 : ¬ (0 = w.heap.size) := by omega
  have n2 : ¬ (0 = w.heap.size + 1) := by omega
  have n3 : ¬ (0 = w.heap.size + 1 + 1) := by omega
  go_enter Tryd.func58, Tryd.ntmps58
  go_wp2_with fail
  go_quiet (first | (go_at_call_of 60 (Value.int .i64 2); exact Calls.quiet_of_same (row_is 2 2 _ rfl)))
  go_wp2_with fail
  refine (nothing_any ⟨2, p, c, q, s⟩ _).mono ?_
  rintro e w1 ⟨rfl, b1⟩
  simp only [OpE.val]
  obtain ⟨c1, f1, b2⟩ := res_cell b1
  have B2 := hd b2
  have x0 := c1 0
  have x1 := c1 1
  have x2 := c1 2
  have x3 := c1 3
  have x4 := c1 4
  have y0 := f1 0
  have y1 := f1 1
  have y2 := f1 2
  have y3 := f1 3
  have y4 := f1 4
  simp at x0 x1 x2 x3 x4
  clear c1 f1 b1 b2
  go_wp2
  refine bodyPost_ret (v := .agg #[.int .i64 0, .int .i64 0, .int .u8 0, .int .i64 q, .int .i64 s]) (by simp [results, Tryd.results58, go_sem, x0, x1, x2, x3, x4]) rfl ?_
  exact ⟨rfl, ((((B2.out.setCell (by simp; omega) _).setCell (by simp; omega) _).setCell (by simp; omega) _).setCell (by simp; omega) _).setCell (by simp; omega) _⟩

set_option maxHeartbeats 4000000 in
theorem sh_22l (p c q s p' c' q' s' : Int) (f : Bool) (w : World) (hT : Table w) (hl : p' < p) (he : (p' == p) = false) : Calls Tryd.prog 58 #[.agg #[.int .i64 2, .int .i64 p, .int .u8 c, .int .i64 q, .int .i64 s], .agg #[.int .i64 2, .int .i64 p', .int .u8 c', .int .i64 q', .int .i64 s'], .bool f] w fun e w' =>
    e = .returned (.agg #[.int .i64 2, .int .i64 (wrap64 (p - 1)), .int .u8 c, .int .i64 q, .int .i64 s]) ∧ Below w.heap.size w w' := by
  obtain ⟨h0, t0, t1, t2, t3, t4, t5, t6, t7, t8⟩ := hT
  have n1 : ¬ (0 = w.heap.size) := by omega
  have n2 : ¬ (0 = w.heap.size + 1) := by omega
  have n3 : ¬ (0 = w.heap.size + 1 + 1) := by omega
  go_enter Tryd.func58, Tryd.ntmps58
  go_wp2_with fail
  go_quiet (first | (go_at_call_of 60 (Value.int .i64 2); exact Calls.quiet_of_same (row_is 2 2 _ rfl)))
  go_wp2_with fail
  refine (pulled_any ⟨2, p, c, q, s⟩ true _).mono ?_
  rintro e w1 ⟨rfl, b1⟩
  simp only [OpE.val]
  obtain ⟨c1, f1, b2⟩ := res_cell b1
  have B2 := hd b2
  have x0 := c1 0
  have x1 := c1 1
  have x2 := c1 2
  have x3 := c1 3
  have x4 := c1 4
  have y0 := f1 0
  have y1 := f1 1
  have y2 := f1 2
  have y3 := f1 3
  have y4 := f1 4
  simp at x0 x1 x2 x3 x4
  clear c1 f1 b1 b2
  go_wp2
  refine bodyPost_ret (v := .agg #[.int .i64 2, .int .i64 (wrap64 (p - 1)), .int .u8 c, .int .i64 q, .int .i64 s]) (by simp [results, Tryd.results58, go_sem, x0, x1, x2, x3, x4]) rfl ?_
  exact ⟨rfl, ((((B2.out.setCell (by simp; omega) _).setCell (by simp; omega) _).setCell (by simp; omega) _).setCell (by simp; omega) _).setCell (by simp; omega) _⟩

set_option maxHeartbeats 4000000 in
theorem sh_22g (p c q s p' c' q' s' : Int) (f : Bool) (w : World) (hT : Table w) (hl : decide (p' < p) = false) (he : (p' == p) = false) : Calls Tryd.prog 58 #[.agg #[.int .i64 2, .int .i64 p, .int .u8 c, .int .i64 q, .int .i64 s], .agg #[.int .i64 2, .int .i64 p', .int .u8 c', .int .i64 q', .int .i64 s'], .bool f] w fun e w' =>
    e = .returned (.agg #[.int .i64 2, .int .i64 p, .int .u8 c, .int .i64 q, .int .i64 s]) ∧ Below w.heap.size w w' := by
  obtain ⟨h0, t0, t1, t2, t3, t4, t5, t6, t7, t8⟩ := hT
  have n1 : ¬ (0 = w.heap.size) := by omega
  have n2 : ¬ (0 = w.heap.size + 1) := by omega
  have n3 : ¬ (0 = w.heap.size + 1 + 1) := by omega
  go_enter Tryd.func58, Tryd.ntmps58
  go_wp2_with fail
  go_quiet (first | (go_at_call_of 60 (Value.int .i64 2); exact Calls.quiet_of_same (row_is 2 2 _ rfl)))
  go_wp2_with fail
  refine (pulled_any ⟨2, p, c, q, s⟩ false _).mono ?_
  rintro e w1 ⟨rfl, b1⟩
  simp only [OpE.val]
  obtain ⟨c1, f1, b2⟩ := res_cell b1
  have B2 := hd b2
  have x0 := c1 0
  have x1 := c1 1
  have x2 := c1 2
  have x3 := c1 3
  have x4 := c1 4
  have y0 := f1 0
  have y1 := f1 1
  have y2 := f1 2
  have y3 := f1 3
  have y4 := f1 4
  simp at x0 x1 x2 x3 x4
  clear c1 f1 b1 b2
  go_wp2
  refine bodyPost_ret (v := .agg #[.int .i64 2, .int .i64 p, .int .u8 c, .int .i64 q, .int .i64 s]) (by simp [results, Tryd.results58, go_sem, x0, x1, x2, x3, x4]) rfl ?_
  exact ⟨rfl, ((((B2.out.setCell (by simp; omega) _).setCell (by simp; omega) _).setCell (by simp; omega) _).setCell (by simp; omega) _).setCell (by simp; omega) _⟩

theorem rowP_zero {k : Int} (h : rowP k = 0) : ¬ (k = 1 ∨ k = 2) := by
  unfold rowP at h
  split at h
  · omega
  · split at h
    · omega
    · omega
theorem rowP_cases (k : Int) : k = 1 ∨ k = 2 ∨ rowP k = 0 := by
  unfold rowP
  by_cases h1 : k = 1
  · exact .inl h1
  · by_cases h2 : k = 2
    · exact .inr (.inl h2)
    · exact .inr (.inr (by rw [if_neg h1, if_neg h2]))

theorem shiftP_none {a b : OpE} {f : Bool} (h : ¬ ((a.kind = 1 ∨ a.kind = 2) ∧ (b.kind = 1 ∨ b.kind = 2))) : shiftP a b f = a := by
  unfold shiftP
  rw [if_pos h]

theorem shift_any (a b : OpE) (f : Bool) (w : World) (hT : Table w) : Calls Tryd.prog 58 #[a.val, b.val, .bool f] w fun e w' =>
    e = .returned (shiftP a b f).val ∧ Below w.heap.size w w' := by
  obtain ⟨k, p, c, q, s⟩ := a
  obtain ⟨k', p', c', q', s'⟩ := b
  rcases rowP_cases k with rfl | rfl | hk
  · rcases rowP_cases k' with rfl | rfl | hk'
    · by_cases hl : p' < p
      · rw [show shiftP ⟨1, p, c, q, s⟩ ⟨1, p', c', q', s'⟩ f = ⟨1, wrap64 (p + 1), c, q, s⟩ from by simp [shiftP, hl]]
        exact sh_11l _ _ _ _ _ _ _ _ _ w hT hl
      · by_cases he : p' = p
        · subst he
          cases f
          · rw [show shiftP ⟨1, p', c, q, s⟩ ⟨1, p', c', q', s'⟩ false = ⟨1, wrap64 (p' + 1), c, q, s⟩ from by simp [shiftP]]
            exact sh_11ef _ _ _ _ _ _ _ w hT
          · rw [show shiftP ⟨1, p', c, q, s⟩ ⟨1, p', c', q', s'⟩ true = ⟨1, p', c, q, s⟩ from by simp [shiftP]]
            exact sh_11et _ _ _ _ _ _ _ w hT
        · rw [show shiftP ⟨1, p, c, q, s⟩ ⟨1, p', c', q', s'⟩ f = ⟨1, p, c, q, s⟩ from by simp [shiftP, hl, he]]
          exact sh_11g _ _ _ _ _ _ _ _ _ w hT (by simpa using hl) (by simpa using he)
    · by_cases hl : p' < p
      · rw [show shiftP ⟨1, p, c, q, s⟩ ⟨2, p', c', q', s'⟩ f = ⟨1, wrap64 (p - 1), c, q, s⟩ from by simp [shiftP, hl]]
        exact sh_12l _ _ _ _ _ _ _ _ _ w hT hl
      · rw [show shiftP ⟨1, p, c, q, s⟩ ⟨2, p', c', q', s'⟩ f = ⟨1, p, c, q, s⟩ from by simp [shiftP, hl]]
        exact sh_12g _ _ _ _ _ _ _ _ _ w hT (by simpa using hl)
    · rw [shiftP_none (by have := rowP_zero hk'; simp only; omega)]
      exact sh_1n k' _ _ _ _ _ _ _ _ _ w hT hk'
  · rcases rowP_cases k' with rfl | rfl | hk'
    · by_cases hl : p' ≤ p
      · rw [show shiftP ⟨2, p, c, q, s⟩ ⟨1, p', c', q', s'⟩ f = ⟨2, wrap64 (p + 1), c, q, s⟩ from by
          unfold shiftP; rw [if_neg (by simp), if_neg (by simp), if_pos (by simp; omega)]; simp]
        exact sh_21l _ _ _ _ _ _ _ _ _ w hT hl
      · rw [show shiftP ⟨2, p, c, q, s⟩ ⟨1, p', c', q', s'⟩ f = ⟨2, p, c, q, s⟩ from by
          unfold shiftP; rw [if_neg (by simp), if_neg (by simp), if_neg (by simp; omega)]]
        exact sh_21g _ _ _ _ _ _ _ _ _ w hT (by simpa using hl)
    · by_cases he : p' = p
      · subst he
        rw [show shiftP ⟨2, p', c, q, s⟩ ⟨2, p', c', q', s'⟩ f = ⟨0, 0, 0, q, s⟩ from by simp [shiftP]]
        exact sh_22e _ _ _ _ _ _ _ _ w hT
      · have he' : ¬ p = p' := fun h => he h.symm
        by_cases hl : p' < p
        · rw [show shiftP ⟨2, p, c, q, s⟩ ⟨2, p', c', q', s'⟩ f = ⟨2, wrap64 (p - 1), c, q, s⟩ from by simp [shiftP, hl, he']]
          exact sh_22l _ _ _ _ _ _ _ _ _ w hT hl (by simpa using he)
        · rw [show shiftP ⟨2, p, c, q, s⟩ ⟨2, p', c', q', s'⟩ f = ⟨2, p, c, q, s⟩ from by simp [shiftP, hl, he']]
          exact sh_22g _ _ _ _ _ _ _ _ _ w hT (by simpa using hl) (by simpa using he)
    · rw [shiftP_none (by have := rowP_zero hk'; simp only; omega)]
      exact sh_2n k' _ _ _ _ _ _ _ _ _ w hT hk'
  · rw [shiftP_none (by have := rowP_zero hk; simp only; omega)]
    rcases rowP_cases k' with rfl | rfl | hk'
    · exact sh_n1 k _ _ _ _ _ _ _ _ _ w hT hk
    · exact sh_n2 k _ _ _ _ _ _ _ _ _ w hT hk
    · exact sh_nn k k' _ _ _ _ _ _ _ _ _ w hT hk hk'

end Go.Proofs.YtmbnimlibnheeabDoor

/-! Nb -/
namespace Go.Proofs.YtmbnimlibnheeabDoor
open Go.RowKit
set_option linter.unusedVariables false

theorem cellsF {w : World} {g : Nat} {a b c d e : Value} {t : TypeId} (h : w.heap[g]? = some (.cells #[a, b, c, d, e] t (0, 0))) :
    (w.cell? ⟨g, 0, none⟩ = some a ∧ w.cell? ⟨g, 1, none⟩ = some b ∧ w.cell? ⟨g, 2, none⟩ = some c ∧ w.cell? ⟨g, 3, none⟩ = some d ∧ w.cell? ⟨g, 4, none⟩ = some e) ∧
    (w.frozen? ⟨g, 0, none⟩ = false ∧ w.frozen? ⟨g, 1, none⟩ = false ∧ w.frozen? ⟨g, 2, none⟩ = false ∧ w.frozen? ⟨g, 3, none⟩ = false ∧ w.frozen? ⟨g, 4, none⟩ = false) := by
  simp [World.cell?, World.frozen?, h]

def set5 (w : World) (g i : Nat) (a b c d e : Int) : World :=
  ((((w.setCell ⟨g, i, none⟩ (.int .i64 a)).setCell ⟨g, i + 1, none⟩ (.int .i64 b)).setCell ⟨g, i + 2, none⟩ (.int .u8 c)).setCell ⟨g, i + 3, none⟩ (.int .i64 d)).setCell ⟨g, i + 4, none⟩ (.int .i64 e)

theorem Fr.set5 (w : World) (g i : Nat) (a b c d e : Int) : Fr (· = g) w (Go.Proofs.YtmbnimlibnheeabDoor.set5 w g i a b c d e) := by
  have h : ∀ (w : World) i u, Fr (· = g) w (w.setCell ⟨g, i, none⟩ u) := fun w i u => Fr.setCell w ⟨g, i, none⟩ u rfl
  exact (h _ _ _).trans ((h _ _ _).trans ((h _ _ _).trans ((h _ _ _).trans (h _ _ _))))

theorem set5_op {w : World} {g : Nat} {x : OpE} (h : w.heap[g]? = some (.cells (opc x).toArray 37 (0, 0))) (a b c d e : Int) : (Go.Proofs.YtmbnimlibnheeabDoor.set5 w g 0 a b c d e).heap[g]? = some (.cells (opc ⟨a, b, c, d, e⟩).toArray 37 (0, 0)) := by
  have u1 := set_row h 0 (.int .i64 a)
  have u2 := set_row u1 1 (.int .i64 b)
  have u3 := set_row u2 2 (.int .u8 c)
  have u4 := set_row u3 3 (.int .i64 d)
  have u5 := set_row u4 4 (.int .i64 e)
  unfold Go.Proofs.YtmbnimlibnheeabDoor.set5
  rw [u5]
  simp [opc]

/-- The operation at block o, the line at block g. -/
def CRel (w wr : World) (g o n c : Nat) (x : OpE) (L : List OpE) : Prop :=
  RowO wr g n c L ∧ wr.heap[o]? = some (.cells (opc x).toArray 37 (0, 0)) ∧ wr.heap[o + 1]? = some (.cells (opc zop).toArray 37 (0, 0)) ∧ Fr (· = g) w wr

def cArr (xs : List OpE) (op : OpE) (f : Bool) (k : Nat) : OpE := (throughP op (xs.take k) f).1
def cLin (xs : List OpE) (op : OpE) (f : Bool) (k : Nat) : List OpE := (throughP op (xs.take k) f).2 ++ xs.drop k

theorem cArr_next (xs : List OpE) (op : OpE) (f : Bool) (k : Nat) (h : k < xs.length) : cArr xs op f (k + 1) = shiftP (cArr xs op f k) xs[k] (!f) := by
  unfold cArr
  rw [List.take_succ_eq_append_getElem h, throughP_snoc]

theorem cLin_len (xs : List OpE) (op : OpE) (f : Bool) (k : Nat) (h : k ≤ xs.length) : (cLin xs op f k).length = xs.length := by
  unfold cLin
  rw [List.length_append, throughP_len]
  simp
  omega

theorem cLin_at (xs : List OpE) (op : OpE) (f : Bool) (k : Nat) (h : k < xs.length) : (cLin xs op f k)[k]? = some xs[k] := by
  unfold cLin
  have hl : (throughP op (xs.take k) f).2.length = k := by rw [throughP_len]; simp; omega
  rw [List.getElem?_append_right (by omega), hl, Nat.sub_self, List.getElem?_drop]
  simp

theorem cLin_next (xs : List OpE) (op : OpE) (f : Bool) (k : Nat) (h : k < xs.length) : cLin xs op f (k + 1) = (cLin xs op f k).set k (shiftP xs[k] (cArr xs op f k) f) := by
  unfold cLin cArr
  have hl : (throughP op (xs.take k) f).2.length = k := by rw [throughP_len]; simp; omega
  rw [List.take_succ_eq_append_getElem h, throughP_snoc, List.set_append_right _ _ (by omega), hl, Nat.sub_self]
  have e : xs.drop k = xs[k] :: xs.drop (k + 1) := List.drop_eq_getElem_cons h
  rw [e, List.set_cons_zero, List.append_assoc]
  rfl

set_option maxRecDepth 100000 in
set_option maxHeartbeats 8000000 in
theorem carry_any (op : OpE) (g n c : Nat) (xs : List OpE) (f : Bool) (w : World) (hT : Table w) (hg0 : 0 < g) (hR : RowO w g n c xs) :
    Calls Tryd.prog 55 #[op.val, .slice (some ⟨g, 0, none⟩) n c, .bool f] w fun e w' =>
      e = .returned (throughP op xs f).1.val ∧ RowO w' g n c (throughP op xs f).2 ∧ Fr (· = g) w w' := by
  have hgl := hR.lt
  have hnc := hR.isO.2.1
  have hc63 := hR.isO.2.2.1
  have HL := hd hR.isO.1
  have HR := hd hR
  have HT := hd hT
  clear hR hT
  have HO : Hid (cArr xs op f 0 = op) := by unfold cArr; rfl
  have HE : Hid (cArr xs op f n = (throughP op xs f).1 ∧ cLin xs op f n = (throughP op xs f).2) := by
    unfold cArr cLin
    have := HL.out
    rw [List.take_of_length_le (by omega), List.drop_of_length_le (by omega), List.append_nil]
    exact ⟨rfl, rfl⟩
  have HS : Hid (∀ j (h : j < n) (hx : j < xs.length), cArr xs op f (j + 1) = shiftP (cArr xs op f j) xs[j] (!f) ∧ cLin xs op f (j + 1) = (cLin xs op f j).set j (shiftP xs[j] (cArr xs op f j) f) ∧ (cLin xs op f j)[j]? = some xs[j] ∧ (cLin xs op f j).length = n) := fun j h hx =>
    ⟨cArr_next xs op f j hx, cLin_next xs op f j hx, cLin_at xs op f j hx, by rw [cLin_len xs op f j (by omega)]; exact HL.out⟩
  have HY0 := hd (show cLin xs op f 0 = xs by unfold cLin; simp [throughP])
  generalize cArr xs op f = X at *
  generalize cLin xs op f = Y at *
  generalize (throughP op xs f).1 = R1 at *
  generalize (throughP op xs f).2 = R2 at *
  obtain ⟨k, p, c', q, s⟩ := op
  obtain ⟨rk, rp, rc, rq, rs⟩ := R1
  simp only [OpE.val]
  go_enter Tryd.func55, Tryd.ntmps55
  go_wp2
  have S0 : Hid (CRel w ((w.alloc (.cells #[.int .i64 k, .int .i64 p, .int .u8 c', .int .i64 q, .int .i64 s] 37)).alloc (.cells #[.int .i64 0, .int .i64 0, .int .u8 0, .int .i64 0, .int .i64 0] 37)) g w.heap.size n c (X 0) (Y 0)) := by
    rw [HO.out, HY0.out]
    refine ⟨(HR.out.fr (S := (· = w.heap.size)) (Fr.alloc _ _ _) (by omega)).fr (S := (· = w.heap.size)) (Fr.alloc _ _ _) (by omega), ?_, ?_, (Fr.alloc _ _ _).trans (Fr.alloc _ _ _)⟩
    · rw [((Below.refl _ _).alloc (Nat.le_refl _) _).block _ (by simp)]
      exact heap_alloc_new w _
    · have := heap_alloc_new (w.alloc (.cells #[.int .i64 k, .int .i64 p, .int .u8 c', .int .i64 q, .int .i64 s] 37)) (.cells #[.int .i64 0, .int .i64 0, .int .u8 0, .int .i64 0, .int .i64 0] 37)
      rw [show (w.alloc (.cells #[.int .i64 k, .int .i64 p, .int .u8 c', .int .i64 q, .int .i64 s] 37)).heap.size = w.heap.size + 1 by simp] at this
      exact this
  clear HR HO HY0
  go_loopw [11] (fun i wr => ∃ j : Nat, j ≤ n ∧ i = .int .i64 j ∧ Hid (CRel w wr g w.heap.size n c (X j) (Y j))) (fun i _ => n - (intOf i).toNat)
  case atStart => exact ⟨0, Nat.zero_le _, rfl, S0⟩
  case round =>
    obtain ⟨j, hj, rfl, hr⟩ := hrel
    clear S0
    obtain ⟨hR, hO, hZ, hF⟩ := hr.out
    by_cases hlt : j < n
    · have jx : j < xs.length := by have := HL.out; omega
      obtain ⟨s1, s2, s3, s4⟩ := HS.out j hlt jx
      have jy : j < (Y j).length := by rw [s4]; exact hlt
      have e5 : (Y j)[j] = xs[j] := by
        have := List.getElem?_eq_getElem jy
        rw [s3] at this
        exact (Option.some.inj this).symm
      obtain ⟨y0, y1, y2, y3, y4⟩ := hR.at j hlt jy
      rw [e5] at y0 y1 y2 y3 y4
      have S1 := hd s1
      have S2 := hd s2
      generalize xs[j] = x at *
      generalize X j = xj at *
      obtain ⟨vk, vp, vc, vq, vs⟩ := xj
      obtain ⟨uk, up, uc, uq, us⟩ := x
      obtain ⟨⟨o0, o1, o2, o3, o4⟩, ⟨of0, of1, of2, of3, of4⟩⟩ := cellsF hO
      have i1 : (j : Int) < (n : Int) := by omega
      have ol := block_lt hO
      have zl := block_lt hZ
      have gl := hR.lt
      have F0 := hd hF
      have R0 := hd hR
      have O0 := hd hO
      have Z0 := hd hZ
      clear hr hR hO hZ hF s1 s2 s3 s4 e5 HS HE jy jx
      obtain ⟨⟨ak, ap, ac, aq, as'⟩, hA⟩ : ∃ A, shiftP ⟨uk, up, uc, uq, us⟩ ⟨vk, vp, vc, vq, vs⟩ f = A := ⟨_, rfl⟩
      obtain ⟨⟨bk, bp, bc, bq, bs⟩, hB⟩ : ∃ A, shiftP ⟨vk, vp, vc, vq, vs⟩ ⟨uk, up, uc, uq, us⟩ (!f) = A := ⟨_, rfl⟩
      rw [hA] at S2
      rw [hB] at S1
      have HA := hd hA
      have HB := hd hB
      clear hA hB
      go_wp2_with fail
      refine (shift_any ⟨uk, up, uc, uq, us⟩ ⟨vk, vp, vc, vq, vs⟩ f _ ?_).mono ?_
      · exact HT.out.below (B := 1) ((F0.out.below (B := 1) (by omega) (fun k h => by omega)).trans (((Below.refl wr.heap.size wr).alloc (Nat.le_refl _) _).mono (by omega))) (by omega)
      rintro e w1 ⟨rfl, b1⟩
      rw [HA.out]
      simp only [OpE.val]
      have b01 : Below wr.heap.size wr w1 := ((Below.refl wr.heap.size wr).alloc (Nat.le_refl _) _).trans (b1.mono (by simp))
      have X1 : w1.heap[wr.heap.size]? = some (.cells #[.int .i64 uk, .int .i64 up, .int .u8 uc, .int .i64 uq, .int .i64 us] 37 (0, 0)) := (b1.block _ (by simp)).trans (heap_alloc_new wr _)
      have O1 : w1.heap[w.heap.size]? = some (.cells #[.int .i64 vk, .int .i64 vp, .int .u8 vc, .int .i64 vq, .int .i64 vs] 37 (0, 0)) := (b01.block _ ol).trans O0.out
      have R1 := R0.out.fr (S := fun _ => False) (Fr.of_below b01) (fun h => h)
      have jy : j < (Y j).length := by rw [R1.isO.1]; exact hlt
      obtain ⟨⟨x0, x1, x2, x3, x4⟩, -⟩ := cellsF X1
      obtain ⟨⟨p0, p1, p2, p3, p4⟩, ⟨pf0, pf1, pf2, pf3, pf4⟩⟩ := cellsF O1
      obtain ⟨q0, q1, q2, q3, q4⟩ := R1.at j hlt jy
      have qf0 := R1.frozen (j * 5)
      have qf1 := R1.frozen (j * 5 + 1)
      have qf2 := R1.frozen (j * 5 + 2)
      have qf3 := R1.frozen (j * 5 + 3)
      have qf4 := R1.frozen (j * 5 + 4)
      generalize (Y j)[j] = yj at *
      have z01 := b1.size
      simp at z01
      have m1 : ¬ (w.heap.size = g) := by omega
      have m2 : ¬ (wr.heap.size = g) := by omega
      have m3 : ¬ (g = w.heap.size) := by omega
      have m4 : ¬ (g = wr.heap.size) := by omega
      have B01 := hd b01
      have HX1 := hd X1
      have HO1 := hd O1
      have HR1 := hd R1
      clear b1 b01 X1 O1 R1 jy y0 y1 y2 y3 y4 o0 o1 o2 o3 o4 of0 of1 of2 of3 of4 z01
      go_wp2_with fail
      obtain ⟨W1, hW1⟩ : ∃ W1, W1 = set5 w1 g (j * 5) ak ap ac aq as' := ⟨_, rfl⟩
      have FW : Fr (· = g) w1 W1 := by
        rw [hW1]
        exact Fr.set5 _ _ _ _ _ _ _ _
      have RW : RowO W1 g n c (Y (j + 1)) := by
        rw [hW1, S2.out]
        exact HR1.out.set5 j ak ap ac aq as' hlt
      have F1 : Fr (· = g) w W1 := (F0.out.trans (Fr.of_below B01.out)).trans FW
      refine (shift_any ⟨vk, vp, vc, vq, vs⟩ ⟨uk, up, uc, uq, us⟩ (!f) (set5 w1 g (j * 5) ak ap ac aq as') ?_).mono ?_
      · rw [← hW1]
        exact HT.out.below (B := 1) (F1.below (B := 1) (by omega) (fun k h => by omega)) (by omega)
      rintro e w2 ⟨rfl, b2⟩
      rw [← hW1] at b2
      rw [HB.out]
      simp only [OpE.val]
      have O2 : w2.heap[w.heap.size]? = some (.cells #[.int .i64 vk, .int .i64 vp, .int .u8 vc, .int .i64 vq, .int .i64 vs] 37 (0, 0)) := (b2.block _ (Nat.lt_of_lt_of_le (block_lt HO1.out) FW.size)).trans (FW.keeps HO1.out m1)
      have Z2 : w2.heap[w.heap.size + 1]? = some (.cells (opc zop).toArray 37 (0, 0)) := by
        have z1 := (B01.out.block _ zl).trans Z0.out
        exact (b2.block _ (Nat.lt_of_lt_of_le (block_lt z1) FW.size)).trans (FW.keeps z1 (by omega))
      have R2' := RW.fr (S := fun _ => False) (Fr.of_below b2) (fun h => h)
      have F2 : Fr (· = g) w w2 := F1.trans (Fr.of_below b2)
      obtain ⟨⟨t0, t1, t2, t3, t4⟩, ⟨tf0, tf1, tf2, tf3, tf4⟩⟩ := cellsF O2
      have G : Hid (CRel w (set5 w2 w.heap.size 0 bk bp bc bq bs) g w.heap.size n c (X (j + 1)) (Y (j + 1))) := by
        rw [S1.out]
        have FO := Fr.set5 w2 w.heap.size 0 bk bp bc bq bs
        exact ⟨R2'.fr FO m3, set5_op (x := ⟨vk, vp, vc, vq, vs⟩) O2 bk bp bc bq bs, FO.keeps Z2 (by omega), F2.next FO (fun k hk h => by omega)⟩
      clear O2 Z2 R2' F2 b2 F1 RW FW hW1 x0 x1 x2 x3 x4 p0 p1 p2 p3 p4 pf0 pf1 pf2 pf3 pf4 q0 q1 q2 q3 q4 qf0 qf1 qf2 qf3 qf4 HR1 HO1 HX1 B01
      go_wp2
      exact ⟨⟨j + 1, by omega, by go_num, G⟩, by simp [intOf]; omega⟩
    · obtain rfl : j = n := by omega
      obtain ⟨e1, e2⟩ := HE.out
      rw [e1] at hO
      rw [e2] at hR
      have o5 := hO
      obtain ⟨⟨o0, o1, o2, o3, o4⟩, -⟩ := cellsF o5
      obtain ⟨⟨z0, z1, z2, z3, z4⟩, ⟨zf0, zf1, zf2, zf3, zf4⟩⟩ := cellsF hZ
      have hz := block_lt hZ
      have G : Hid (∀ W, Fr (· = w.heap.size + 1) wr W → RowO W g j c R2 ∧ Fr (· = g) w W) := fun W h => ⟨hR.fr h (by omega), hF.next h (fun k hk h => by omega)⟩
      clear hr hR hO hZ hF o5 HS HE e1 e2
      go_wp2
      refine bodyPost_ret (v := .agg #[.int .i64 rk, .int .i64 rp, .int .u8 rc, .int .i64 rq, .int .i64 rs]) (by simp [results, Tryd.results55, go_sem, z0, z1, z2, z3, z4]) rfl ?_
      exact ⟨rfl, G.out _ (Fr.set5 wr (w.heap.size + 1) 0 rk rp rc rq rs)⟩
end Go.Proofs.YtmbnimlibnheeabDoor

/-! Nc -/
namespace Go.Proofs.YtmbnimlibnheeabDoor
open Go.RowKit
set_option linter.unusedVariables false

theorem two_of {w w1 : World} {ca cb : Array Value} {t : TypeId} (b : Below ((w.alloc (.cells ca t (0, 0))).alloc (.cells cb t (0, 0))).heap.size ((w.alloc (.cells ca t (0, 0))).alloc (.cells cb t (0, 0))) w1) :
    w1.heap[w.heap.size]? = some (.cells ca t (0, 0)) ∧ w1.heap[w.heap.size + 1]? = some (.cells cb t (0, 0)) ∧ Below w.heap.size w w1 ∧ w.heap.size + 2 ≤ w1.heap.size := by
  have hs : ∀ (w : World) o, (w.alloc o).heap.size = w.heap.size + 1 := fun w o => by simp
  have k : ∀ (w : World) o i, i < w.heap.size → (w.alloc o).heap[i]? = w.heap[i]? := fun w o i hi => ((Below.refl w.heap.size w).alloc (Nat.le_refl _) o).block i hi
  refine ⟨?_, ?_, ?_, ?_⟩
  · rw [b.block _ (by simp only [hs]; omega), k _ _ _ (by simp only [hs]; omega)]
    exact heap_alloc_new w _
  · rw [b.block _ (by simp only [hs]; omega)]
    have := heap_alloc_new (w.alloc (.cells ca t (0, 0))) (.cells cb t (0, 0))
    rwa [hs] at this
  · have b0 : Below w.heap.size w ((w.alloc (.cells ca t (0, 0))).alloc (.cells cb t (0, 0))) := ((Below.refl _ _).alloc (Nat.le_refl _) _).alloc (by simp only [hs]; omega) _
    exact b0.trans (b.mono (by simp only [hs]; omega))
  · have := b.size
    simp only [hs] at this
    omega

set_option maxHeartbeats 4000000 in
theorem through_bad (op : OpE) (a : Option Addr) (n c : Nat) (f : Bool) (w : World) (hn : 4096 < n) :
    Calls Tryd.prog 46 #[op.val, .slice a n c, .bool f] w fun e w' => e = .returned (.tuple #[zop.val, .slice none 0 0, .int .i64 50]) ∧ Below w.heap.size w w' := by
  obtain ⟨k, p, c', q, s⟩ := op
  have i1 : (n : Int) > 4096 := by omega
  simp only [OpE.val, zop]
  go_enter Tryd.func46, Tryd.ntmps46
  go_wp2
  refine bodyPost_ret (v := .tuple #[.agg #[.int .i64 0, .int .i64 0, .int .u8 0, .int .i64 0, .int .i64 0], .slice none 0 0, .int .i64 50]) (by simp [results, Tryd.results46, go_sem]) rfl ?_
  exact ⟨rfl, ((Below.refl _ _).alloc (Nat.le_refl _) _).alloc (by simp) _⟩

set_option maxHeartbeats 4000000 in
theorem through_any (op : OpE) (a : Option Addr) (n c : Nat) (xs : List OpE) (f : Bool) (w : World) (hT : Table w) (hE : IsO w a n c xs) (hn : n ≤ 4096) :
    Calls Tryd.prog 46 #[op.val, .slice a n c, .bool f] w fun e w' => ∃ v, e = .returned (.tuple #[(throughP op xs f).1.val, v, .int .i64 0]) ∧ OwnO w' w.heap.size v (throughP op xs f).2 ∧ Below w.heap.size w w' := by
  have i1 : ¬ (n : Int) > 4096 := by omega
  have HE := hd hE
  have HT := hd hT
  clear hT hE
  obtain ⟨⟨rk, rp, rc, rq, rs⟩, h1⟩ : ∃ R, (throughP op xs f).1 = R := ⟨_, rfl⟩
  obtain ⟨R2, h2⟩ : ∃ R, (throughP op xs f).2 = R := ⟨_, rfl⟩
  have H1 := hd h1
  have H2 := hd h2
  rw [h1, h2]
  clear h1 h2
  obtain ⟨k, p, c', q, s⟩ := op
  simp only [OpE.val]
  go_enter Tryd.func46, Tryd.ntmps46
  go_wp2_with fail
  refine (copied_any a n c xs _ (HE.out.below (((Below.refl _ _).alloc (Nat.le_refl _) _).alloc (by simp) _)) (by omega)).mono ?_
  rintro e w1 ⟨v, rfl, hO, b1⟩
  obtain ⟨hp, hr, hB, hz⟩ := two_of b1
  obtain ⟨g, cg, hg, rfl, hR⟩ := hO
  obtain ⟨⟨p0, p1, p2, p3, p4⟩, -⟩ := cellsF hp
  simp at hg
  rw [HE.out.1] at hR ⊢
  have T1 := hd (HT.out.below hB HT.out.1)
  have HR := hd hR
  have HB := hd hB
  have HZ := hd hr
  have g0 : 0 < g := by have := HT.out.1; omega
  clear hp hr hR hB hz b1
  go_wp2_with fail
  refine (carry_any ⟨k, p, c', q, s⟩ g n cg xs f w1 T1.out g0 HR.out).mono ?_
  rintro e w2 ⟨rfl, hR2, hF2⟩
  rw [H1.out]
  rw [H2.out] at hR2
  simp only [OpE.val]
  have hr2 := hF2.keeps HZ.out (by omega)
  obtain ⟨⟨r0, r1, r2, r3, r4⟩, ⟨f0, f1, f2, f3, f4⟩⟩ := cellsF hr2
  have hl := hR2.isO.1
  have G : Hid (∀ W, Fr (· = w.heap.size + 1) w2 W → OwnO W w.heap.size (.slice (some ⟨g, 0, none⟩) n cg) R2 ∧ Below w.heap.size w W) := fun W h =>
    ⟨⟨g, cg, by omega, by rw [hl], by rw [hl]; exact hR2.fr h (by omega)⟩, (HB.out.trans (hF2.below HB.out.size (fun k h => by omega))).trans (h.below (Nat.le_trans HB.out.size hF2.size) (fun k h => by omega))⟩
  clear hR2 hF2 hr2 hl p0 p1 p2 p3 p4
  go_wp2
  refine bodyPost_ret (v := .tuple #[.agg #[.int .i64 rk, .int .i64 rp, .int .u8 rc, .int .i64 rq, .int .i64 rs], .slice (some ⟨g, 0, none⟩) n cg, .int .i64 0]) (by simp [results, Tryd.results46, go_sem, r0, r1, r2, r3, r4]) rfl ?_
  exact ⟨_, rfl, G.out _ (Fr.set5 w2 (w.heap.size + 1) 0 rk rp rc rq rs)⟩

end Go.Proofs.YtmbnimlibnheeabDoor
