/-
  DiskCuts: the row.
-/
import Derived.Test.YtdlelbdhcpjdfaaCb
import Derived.Test.YtdlelbdhcpjdfaaCc
import Derived.Test.YtdlelbdhcpjdfaaCd
import Derived.Test.YtdlelbdhcpjdfaaOpen
namespace Go.Proofs.Ytdlelbdhcpjdfaa
open Go.ChangeShapes Go.WideShapes Go.ChangeAt Go.RowKit Go.Deep Go.Joins
set_option linter.unusedVariables false

set_option maxRecDepth 100000 in
theorem cuts_off (a : Option Addr) (n c : Nat) (a' : Option Addr) (m c' : Nat) (N : Int) (a2 : Option Addr) (l c2 : Nat) (w : World) (hn : 262144 < n + m) :
    Calls Try.prog 6 #[shearVal a n c a' m c' N a2 l c2] w fun x w' => x = .returned (.bool true) ∧ Below w.heap.size w w' := by
  unfold shearVal
  by_cases h0 : 262144 < n
  · have j1 : (262144 : Int) < (n : Int) := by omega
    go_enter Try.func6, Try.ntmps6
    go_wp2
    go_quiet (fail)
    have B1 : Hid (Below w.heap.size w ((w.alloc (.cells #[.slice a n c, .slice a' m c', .int .i64 N, .slice a2 l c2] 42)).drewN nq)) := below_drewN ((Below.refl _ _).alloc (Nat.le_refl _) _) nq
    generalize (w.alloc (.cells #[.slice a n c, .slice a' m c', .int .i64 N, .slice a2 l c2] 42)).drewN nq = w1 at *
    go_wp2
    go_ret
    exact ⟨rfl, B1.out⟩
  · have j1 : ¬ (262144 : Int) < (n : Int) := by omega
    have j2 : (262144 : Int) - (n : Int) < (m : Int) := by omega
    go_enter Try.func6, Try.ntmps6
    go_wp2
    go_quiet (fail)
    have B1 : Hid (Below w.heap.size w ((w.alloc (.cells #[.slice a n c, .slice a' m c', .int .i64 N, .slice a2 l c2] 42)).drewN nq)) := below_drewN ((Below.refl _ _).alloc (Nat.le_refl _) _) nq
    generalize (w.alloc (.cells #[.slice a n c, .slice a' m c', .int .i64 N, .slice a2 l c2] 42)).drewN nq = w1 at *
    go_wp2
    go_ret
    exact ⟨rfl, B1.out⟩

theorem diskCuts_any (a : Option Addr) (n c : Nat) (xs : List Int) (a' : Option Addr) (m c' : Nat) (ys : List Int) (a2 : Option Addr) (l c2 : Nat) (zs : List Int) (N : Int) (w : World) (hx : IsB w a n c xs) (hy : IsB w a' m c' ys) (hnil : a' = none → c' = 0) (hz : IsB w a2 l c2 zs) (hlb : l ≤ 140737488351232) :
    Calls Try.prog 6 #[shearVal a n c a' m c' N a2 l c2] w fun x w' => x = .returned (.bool true) ∧ Below w.heap.size w w' := by
  by_cases hn : n + m ≤ 262144
  · by_cases hN : N < 0 ∨ (n : Int) + (m : Int) < N
    · exact cuts_bad a n c xs a' m c' ys a2 l c2 zs N w hx hy hnil hz hlb hn hN
    · obtain ⟨q, rfl⟩ := Int.eq_ofNat_of_zero_le (show 0 ≤ N by omega)
      by_cases hq : q < n
      · by_cases hl : 262144 < q + l
        · exact cuts_lt_bad a n c xs a' m c' ys a2 l c2 zs q w hx hy hnil hz hlb hn (by omega) hq hl
        · exact cuts_lt a n c xs a' m c' ys a2 l c2 zs q w hx hy hnil hz hlb hn (by omega) hq (by omega)
      · by_cases hl : 262144 < q + l
        · exact cuts_ge_bad a n c xs a' m c' ys a2 l c2 zs q w hx hy hnil hz hlb hn (by omega) (by omega) hl
        · exact cuts_ge a n c xs a' m c' ys a2 l c2 zs q w hx hy hnil hz hlb hn (by omega) (by omega) (by omega)
  · exact cuts_off a n c a' m c' N a2 l c2 w (by omega)

theorem nil_of {H : Type} {enc : TypeId × Value → H} {W : World} {fuel : Nat} {a : Option Addr} {n c : Nat} {y : DataW H × List MemPlace}
    (hf : DataW.trod enc Try.prog W 0 (fun _ => true) true fuel 22 [.slice a n c] = some y) : a = none → c = 0 := by
  intro e
  subst e
  rcases open_ints Try.underlying22 Try.underlying5 (by kernel_rfl) hf with ⟨hcs, _⟩ | ⟨x, l, cc, zs, hcs, _⟩
  · simp at hcs
    exact hcs.2
  · simp at hcs

theorem cells42 : Try.prog.cellsOf 42 = 4 := by kernel_rfl

set_option maxRecDepth 100000 in
theorem DiskCuts_lifted (os : Os) (started : os.Started) (H : Type) (enc : TypeId × Value → H) :
    ReturnsInHanded {} Try.checked os 6 .any (Rows.diskCutsSpec.pre6 enc Try.prog Try.f6 Rows.diskCutsRow.domain false) (Rows.diskCutsSpec.post enc Try.prog Try.f6 false true false false) := by
  refine returnsInHanded_of_change_sized (C := Try.checked) own started (by kernel_rfl) Try.func6
    (ChangeSpec.witness6 (enc := enc) (C := Try.checked) false ⟨#[], #[.agg #[.slice none 0 0, .slice none 0 0, .int .i64 0, .slice none 0 0]], []⟩ 8 (by kernel_rfl) (by kernel_rfl) (by kernel_rfl) (by kernel_rfl)) ?_
  intro W base args ds gs before hval0 hW hcnd hsz0 _
  have hval : ∀ (j : Nat) t v, Try.f6.params[j]? = some t → args[j]? = some v → Value.okWide Try.prog W .any base t v := hval0
  have hsz : (DataW.weightsEach Try.prog (Try.f6.params.toList ++ Rows.diskCutsSpec.plain.varTypes Try.prog) (ds ++ gs)).all (· ≤ reachBytes) = true := hsz0
  have hW' := hW
  obtain ⟨p, q, hA0, hV, rfl, hfz, hnd⟩ := hW
  have hA : DataW.TrodAll enc Try.prog W 0 (fun _ => true) true Try.f6.params.toList args.toList ds p := hA0
  rw [Try.params6] at hA hval hsz
  obtain ⟨v0, vs0, d0, ds0, p0, q0, hargs, rfl, rfl, h0, r0⟩ := trodAll_cons hA
  obtain ⟨rfl, rfl, rfl⟩ := trodAll_nil r0
  obtain rfl : args = #[v0] := by cases args; simp_all
  obtain ⟨rfl, rfl⟩ := trodVars_none hV
  have lt0 : ∀ x ∈ p0, x.block < W.heap.size := by obtain ⟨m, hm⟩ := h0; exact DataW.trod_lt m _ _ _ hm
  have s0 : Fits 42 d0 := fits_of hsz (j := 0) rfl rfl
  obtain ⟨u0, u1, u2, u3, y0, y1, y2, y3, nn, rfl, rfl, rfl, g0, g1, g2, g3⟩ := open_agg4 Try.underlying42 (by kernel_rfl) cells42 (hval 0 42 v0 rfl rfl) h0
  have t0 : Fits 22 y0.1 := fun k hk => s0 k (by simp only [DataW.weights, Try.underlying42]; exact DataW.weights_mem_each (j := 0) (t := 22) rfl rfl k hk)
  have t1 : Fits 22 y1.1 := fun k hk => s0 k (by simp only [DataW.weights, Try.underlying42]; exact DataW.weights_mem_each (j := 1) (t := 22) rfl rfl k hk)
  have t3 : Fits 22 y3.1 := fun k hk => s0 k (by simp only [DataW.weights, Try.underlying42]; exact DataW.weights_mem_each (j := 3) (t := 22) rfl rfl k hk)
  obtain ⟨a0, n0, c0, xs, rfl, w0, b0⟩ := isB_of (d := y0.1) (p := y0.2) g0 t0
  obtain ⟨a1, n1, c1, ys, rfl, w1, b1⟩ := isB_of (d := y1.1) (p := y1.2) g1 t1
  obtain ⟨a3, n3, c3, zs, rfl, w3, b3⟩ := isB_of (d := y3.1) (p := y3.2) g3 t3
  have hnil := nil_of g1
  obtain ⟨z2, e2, _, _⟩ := DataW.trod_int Try.underlying3 g2
  simp at e2
  subst e2
  clear hA0 hval0
  refine (diskCuts_any a0 n0 c0 xs a1 n1 c1 ys a3 n3 c3 zs z2 W w0 w1 hnil w3 b3).mono fun e W' ⟨he, bel⟩ => ?_
  subst he
  exact ⟨_, rfl, _, _, _, [], _, [], hW', trodAll_mk1 (shut_bool Try.underlying4 _), (trodAll_cons_mk (Below.trod laidOut (by kernel_rfl) (of_decide_eq_true (by kernel_rfl)) h0 bel lt0) trodAll_mk0), rfl, bel.frame _, fun h => by cases h⟩

theorem diskCuts_holds : Rows.DiskCutsSaid :=
  OpenClaim.holds_of_wide 6 Try.f6 rfl rfl rfl rfl rfl rfl rfl ⟨rfl, rfl, rfl, rfl, rfl⟩ rfl rfl rfl rfl rfl (by kernel_rfl) Try.func6 (by kernel_rfl)
    (of_decide_eq_true (by kernel_rfl)) (by unfold Func.isWrapper; first | (rw [if_pos (by decide +kernel)]; kernel_rfl) | (rw [if_neg (by decide +kernel)]; exact ⟨rfl, rfl⟩))
    (fun os started H enc _ => DiskCuts_lifted os started H enc)
#print axioms diskCuts_holds
end Go.Proofs.Ytdlelbdhcpjdfaa
