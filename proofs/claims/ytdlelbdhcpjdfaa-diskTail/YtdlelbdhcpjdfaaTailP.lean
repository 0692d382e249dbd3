/-
  DiskTail: the row.
-/
import Derived.Test.YtdlelbdhcpjdfaaTb
import Derived.Test.YtdlelbdhcpjdfaaTd
import Derived.Test.YtdlelbdhcpjdfaaOpen
namespace Go.Proofs.Ytdlelbdhcpjdfaa
open Go.ChangeShapes Go.WideShapes Go.ChangeAt Go.RowKit Go.Deep Go.Joins
set_option linter.unusedVariables false

set_option maxRecDepth 100000 in
theorem tail_off (a : Option Addr) (n c : Nat) (a' : Option Addr) (m c' : Nat) (keep at_ mask : Int) (w : World) (hn : 262144 < n + m) :
    Calls Try.prog 5 #[crashVal a n c a' m c' keep at_ mask] w fun x w' => x = .returned (.bool true) ∧ Below w.heap.size w w' := by
  unfold crashVal
  by_cases h0 : 262144 < n
  · have j1 : (262144 : Int) < (n : Int) := by omega
    go_enter Try.func5, Try.ntmps5
    go_wp2
    go_quiet (fail)
    have B1 : Hid (Below w.heap.size w ((w.alloc (.cells #[.slice a n c, .slice a' m c', .int .i64 keep, .int .i64 at_, .int .i64 mask] 39)).drewN nq)) := below_drewN ((Below.refl _ _).alloc (Nat.le_refl _) _) nq
    generalize (w.alloc (.cells #[.slice a n c, .slice a' m c', .int .i64 keep, .int .i64 at_, .int .i64 mask] 39)).drewN nq = w1 at *
    go_wp2
    go_ret
    exact ⟨rfl, B1.out⟩
  · have j1 : ¬ (262144 : Int) < (n : Int) := by omega
    have j2 : (262144 : Int) - (n : Int) < (m : Int) := by omega
    go_enter Try.func5, Try.ntmps5
    go_wp2
    go_quiet (fail)
    have B1 : Hid (Below w.heap.size w ((w.alloc (.cells #[.slice a n c, .slice a' m c', .int .i64 keep, .int .i64 at_, .int .i64 mask] 39)).drewN nq)) := below_drewN ((Below.refl _ _).alloc (Nat.le_refl _) _) nq
    generalize (w.alloc (.cells #[.slice a n c, .slice a' m c', .int .i64 keep, .int .i64 at_, .int .i64 mask] 39)).drewN nq = w1 at *
    go_wp2
    go_ret
    exact ⟨rfl, B1.out⟩

theorem diskTail_any (a : Option Addr) (n c : Nat) (xs : List Int) (a' : Option Addr) (m c' : Nat) (ys : List Int) (keep at_ mask : Int) (w : World) (hx : IsB w a n c xs) (hy : IsB w a' m c' ys) :
    Calls Try.prog 5 #[crashVal a n c a' m c' keep at_ mask] w fun x w' => x = .returned (.bool true) ∧ Below w.heap.size w w' := by
  by_cases hn : n + m ≤ 262144
  · by_cases hk : keep < 0 ∨ (m : Int) < keep
    · exact tail_keep a n c xs a' m c' ys keep at_ mask w hx hy hn hk
    · obtain ⟨k, rfl⟩ := Int.eq_ofNat_of_zero_le (show 0 ≤ keep by omega)
      by_cases hm : mask = 0
      · subst hm
        exact tail_plain a n c xs a' m c' ys k at_ w hx hy hn (by omega)
      · by_cases hg : 0 ≤ mask ∧ mask ≤ 255 ∧ 0 ≤ at_ ∧ at_ < (k : Int)
        · obtain ⟨j, rfl⟩ := Int.eq_ofNat_of_zero_le hg.2.2.1
          exact tail_mask a n c xs a' m c' ys k j mask w hx hy hn (by omega) (by omega) hm hg.1 hg.2.1
        · exact tail_garble a n c xs a' m c' ys k at_ mask w hx hy hn (by omega) (by omega) hm hg
  · exact tail_off a n c a' m c' keep at_ mask w (by omega)

theorem cells39 : Try.prog.cellsOf 39 = 5 := by kernel_rfl

set_option maxRecDepth 100000 in
theorem DiskTail_lifted (os : Os) (started : os.Started) (H : Type) (enc : TypeId × Value → H) :
    ReturnsInHanded {} Try.checked os 5 .any (Rows.diskTailSpec.pre6 enc Try.prog Try.f5 Rows.diskTailRow.domain false) (Rows.diskTailSpec.post enc Try.prog Try.f5 false true false false) := by
  refine returnsInHanded_of_change_sized (C := Try.checked) own started (by kernel_rfl) Try.func5
    (ChangeSpec.witness6 (enc := enc) (C := Try.checked) false ⟨#[], #[.agg #[.slice none 0 0, .slice none 0 0, .int .i64 0, .int .i64 0, .int .i64 0]], []⟩ 8 (by kernel_rfl) (by kernel_rfl) (by kernel_rfl) (by kernel_rfl)) ?_
  intro W base args ds gs before hval0 hW hcnd hsz0 _
  have hval : ∀ (j : Nat) t v, Try.f5.params[j]? = some t → args[j]? = some v → Value.okWide Try.prog W .any base t v := hval0
  have hsz : (DataW.weightsEach Try.prog (Try.f5.params.toList ++ Rows.diskTailSpec.plain.varTypes Try.prog) (ds ++ gs)).all (· ≤ reachBytes) = true := hsz0
  have hW' := hW
  obtain ⟨p, q, hA0, hV, rfl, hfz, hnd⟩ := hW
  have hA : DataW.TrodAll enc Try.prog W 0 (fun _ => true) true Try.f5.params.toList args.toList ds p := hA0
  rw [Try.params5] at hA hval hsz
  obtain ⟨v0, vs0, d0, ds0, p0, q0, hargs, rfl, rfl, h0, r0⟩ := trodAll_cons hA
  obtain ⟨rfl, rfl, rfl⟩ := trodAll_nil r0
  obtain rfl : args = #[v0] := by cases args; simp_all
  obtain ⟨rfl, rfl⟩ := trodVars_none hV
  have lt0 : ∀ x ∈ p0, x.block < W.heap.size := by obtain ⟨m, hm⟩ := h0; exact DataW.trod_lt m _ _ _ hm
  have s0 : Fits 39 d0 := fits_of hsz (j := 0) rfl rfl
  obtain ⟨u0, u1, u2, u3, u4, y0, y1, y2, y3, y4, nn, rfl, rfl, g0, g1, g2, g3, g4⟩ := open_agg5 Try.underlying39 (by kernel_rfl) cells39 (hval 0 39 v0 rfl rfl) h0
  have t0 : Fits 22 y0.1 := fun k hk => s0 k (by simp only [DataW.weights, Try.underlying39]; exact DataW.weights_mem_each (j := 0) (t := 22) rfl rfl k hk)
  have t1 : Fits 22 y1.1 := fun k hk => s0 k (by simp only [DataW.weights, Try.underlying39]; exact DataW.weights_mem_each (j := 1) (t := 22) rfl rfl k hk)
  obtain ⟨a0, n0, c0, xs, rfl, w0, b0⟩ := isB_of (d := y0.1) (p := y0.2) g0 t0
  obtain ⟨a1, n1, c1, ys, rfl, w1, b1⟩ := isB_of (d := y1.1) (p := y1.2) g1 t1
  obtain ⟨z2, e2, _, _⟩ := DataW.trod_int Try.underlying3 g2
  obtain ⟨z3, e3, _, _⟩ := DataW.trod_int Try.underlying3 g3
  obtain ⟨z4, e4, _, _⟩ := DataW.trod_int Try.underlying3 g4
  simp at e2 e3 e4
  subst e2 e3 e4
  clear hA0 hval0
  refine (diskTail_any a0 n0 c0 xs a1 n1 c1 ys z2 z3 z4 W w0 w1).mono fun e W' ⟨he, bel⟩ => ?_
  subst he
  exact ⟨_, rfl, _, _, _, [], _, [], hW', trodAll_mk1 (shut_bool Try.underlying4 _), (trodAll_cons_mk (Below.trod laidOut (by kernel_rfl) (of_decide_eq_true (by kernel_rfl)) h0 bel lt0) trodAll_mk0), rfl, bel.frame _, fun h => by cases h⟩

theorem diskTail_holds : Rows.DiskTailSaid :=
  OpenClaim.holds_of_wide 5 Try.f5 rfl rfl rfl rfl rfl rfl rfl ⟨rfl, rfl, rfl, rfl, rfl⟩ rfl rfl rfl rfl rfl (by kernel_rfl) Try.func5 (by kernel_rfl)
    (of_decide_eq_true (by kernel_rfl)) (by unfold Func.isWrapper; first | (rw [if_pos (by decide +kernel)]; kernel_rfl) | (rw [if_neg (by decide +kernel)]; exact ⟨rfl, rfl⟩))
    (fun os started H enc _ => DiskTail_lifted os started H enc)
#print axioms diskTail_holds
end Go.Proofs.Ytdlelbdhcpjdfaa
