/-
  Held of an inbox of numbers.
-/
import Derived.Test.YtpjnhjijipcjkaaJc
import Derived.Test.YtpjnhjijipcjkaaJl
import Derived.Test.YtpjnhjijipcjkaaMA
import Derived.RangeFuncNested
import Derived.RangeFuncBound
import Derived.RangeFuncCalls
import Derived.RangeFuncLeaves
import Derived.Shelf.RegionOpen
import Derived.OwnWalkIn
import Derived.TacticsInMore
import Derived.LoopNIn
import Derived.LoopIn
import Derived.Maps.AppendAt
import Derived.Shelf.Slices.In.SortNone
namespace Go.Proofs.Ytpjnhjijipcjkaa
open Go.RowKit Go.Shelf Go.Sort
attribute [local go_sem] Oper.semAt_some
set_option linter.unusedVariables false

def heldL (p : Ib) : List Int := (p.H.map (fun q => (q.1 : Int))).mergeSort leI

theorem Try.infoI3 : (Try.prog.info? 3).map (fun i => (i.zero, i.size, i.bytes)) = some (some (.int .i64 0), 1, 8) := by kernel_rfl

theorem cl_ei (xs : List Int) : cl ei xs = xs.map encZ := by
  induction xs with
  | nil => rfl
  | cons x xs ih => rw [cl_cons, ih]; rfl

theorem sf_of_owns {w : World} {base : Nat} {v : Value} {xs : List Int} (h : w.ownsRow base 3 1 v xs.length (xs.map encZ)) : ∃ β, SF ei 1 w 3 β v xs ∧ ∀ g, β = some g → base ≤ g := by
  rcases h.2 with ⟨rfl, h0⟩ | ⟨g, cap, cur, rfl, hbg, hh, hnc, hcm, hcs, htk⟩
  · exact ⟨none, ⟨rfl, List.eq_nil_of_length_eq_zero h0⟩, fun g h => by cases h⟩
  · refine ⟨some g, ⟨cap, rfl, cur.toList, by simpa using hh, ?_, rfl, hnc, hcm, by simpa using hcs⟩, fun k hk => by injection hk with hk; omega⟩
    rw [cl_ei]
    exact htk

theorem i_keys (mb : Option Nat) (W : World) : Calls Try.prog 40 #[.map mb] W fun e w' => e = .returned (.func (.func 54) #[] #[.pointer (some ⟨W.heap.size, 0, none⟩)]) ∧ w' = W.alloc (.cells #[.map mb] 80) := by
  go_enter Try.func40, Try.ntmps40
  go_wp2
  go_ret
  exact ⟨rfl, rfl⟩

theorem sort_row (g cap base : Nat) (cur : Array Value) (ss : List Int) (W : World) (hbg : base ≤ g) (hh : W.heap[g]? = some (.cells cur 3 (0, 0))) (hnc : ss.length ≤ cap) (hcm : cap ≤ maxLen) (hcs : cur.size = cap * 1) (ht : cur.toList.take ss.length = ss.map encZ) (hn : ss.length ≤ 1000000) :
    Calls Try.prog 41 #[.slice (some ⟨g, 0, none⟩) ss.length cap] W fun e W' => e = .returned (.tuple #[]) ∧ W'.ownsRow base 3 1 (.slice (some ⟨g, 0, none⟩) ss.length cap) ss.length ((ss.mergeSort leI).map encZ) ∧ W.grownBy W' (some g) := by
  refine (Any.slices_Sort_int laysSort g 0 cap ss W (holds_of_block_i hh ht) (Array.getElem?_eq_some_iff.1 hh).1 (by omega)).mono ?_
  rintro e W' ⟨rfl, n, os, rfl⟩
  exact ⟨rfl, ownsRow_sorted_i (by simp) hbg hh hnc hcm hcs, grownBy_sorted_i _⟩

theorem sort_none (a : Option Addr) (c : Nat) (W : World) : Calls Try.prog 41 #[.slice a 0 c] W fun e W' => e = .returned (.tuple #[]) ∧ W' = W :=
  calls_of_every_depth fun D => AnyS.slices_Sort_int_none_alone laysSort D a c W

set_option maxRecDepth 100000 in
set_option maxHeartbeats 4000000 in
theorem i_held (x b : Nat) (p : Ib) (w : World) (h : IK 82 w x b p) :
    Calls Try.prog 21 #[.pointer (some ⟨x, 0, none⟩)] w fun e w' => ∃ v, e = .returned v ∧ (∃ β, SF ei 1 w' 3 β v (heldL p) ∧ ∀ g, β = some g → w.heap.size ≤ g) ∧ Below w.heap.size w w' := by
  obtain ⟨D0, hown, hsz, hperm⟩ := h.mp.keys h.ok.once
  have hbx := h.box
  have hlen := h.ok.len
  have hr2 := h.ok.r2
  have HP : Hid (∀ ys : List Int, ys.Perm (intKeys D0) → ys.mergeSort leI = heldL p) := fun ys hy => mergeSort_of_perm_i (hy.trans hperm.symm)
  have c2 : ∀ o, (w.alloc o).cell? ⟨x, 2, none⟩ = some (.map (some b)) := fun o => by
    have := cell_row ((Fr.alloc (fun _ => False) w o).keeps hbx (fun h => h)) 2
    simpa using this
  have hbl := hown.lt
  clear h hperm
  have hfK : Fence.wide.fn 40 := trivial
  have hfS : Fence.wide.fn 41 := trivial
  refine (callsIn_wide (n := 8)).1 ?_
  refine callsIn_of_wp_marks Try.func21 rfl trivial ?_ rfl
  simp only [Try.ntmps21, List.size_toArray, List.length_cons, List.length_nil, Nat.reduceAdd, Nat.reduceSub, Array.replicate_succ, Array.replicate_zero, List.push_toArray, List.append_toArray, List.nil_append, List.cons_append]
  gi_wp2_with (gi_at_call 40; refine (callsIn_wide.2 (i_keys _ _)).mono ?_; rintro e w' ⟨rfl, rfl⟩)
  obtain ⟨W0, hW0⟩ : ∃ W0, (w.alloc (.cells #[.slice none 0 0] 22)).alloc (.cells #[.map (some b)] 80) = W0 := ⟨_, rfl⟩
  have hs0 : W0.heap.size = w.heap.size + 2 := by rw [← hW0]; simp
  have hbB : Boxed W0 w.heap.size 22 (.slice none 0 0) := by rw [← hW0]; exact (Boxed.new w _ _).alloc _
  have hbM : Boxed W0 (w.heap.size + 1) 80 (.map (some b)) := by
    rw [← hW0]
    have := Boxed.new (w.alloc (.cells #[.slice none 0 0] 22)) 80 (.map (some b))
    rwa [World.size_alloc] at this
  have hB0 : RowKit.Below w.heap.size w W0 := by rw [← hW0]; exact ((Below.refl _ w).alloc (Nat.le_refl _) _).alloc (by simp) _
  have hown0 : W0.ownsMap Try.prog 3 RV b p.H.length D0 := by
    rw [← hW0]
    exact (hown.alloc _).alloc _
  rw [hW0]
  refine wpIn_rangeFunc_ownF (α := Int) rfl (by omega) (gf := 54) (lb := #[.pointer (some ⟨w.heap.size + 1, 0, none⟩)]) rfl trivial (enters_of Try.func54 (by kernel_rfl) rfl)
    (encs := fun x => #[encZ x]) (Kp := KeepsWalks) (AnyZI.keys_stops (ρ := keysL_ren) keysL Fence.wide 7 trivial rfl (by omega) (w.heap.size + 1) b p.H.length D0 W0 (by omega) hbM.cell hown0)
    walksK_t walksK_b (Below.refl _ _) (fun _ => rfl)
    (fun pre W => (∃ v, Boxed W w.heap.size 22 v ∧ W.ownsRow w.heap.size 3 1 v pre.length (pre.map encZ) ∧ (v = .slice none 0 0 ↔ pre = [])) ∧ RowKit.Below w.heap.size w W)
    (fun _ _ _ => False)
    (OwnFrom.and (Own.from (holdsRow_own w.heap.size w.heap.size 22 3 1 (fun pre : List Int => pre.length) (fun pre => pre.map encZ) (fun pre v => (v = .slice none 0 0 ↔ pre = []))) _) (ownFrom_below (Nat.le_refl _) (by omega)))
    (fun _ _ _ _ _ hs _ _ => hs)
    ⟨⟨_, hbB, World.ownsRow_nil _ _ _ _, by simp⟩, hB0⟩
    (fun x' => { tmps := #[.pointer (some ⟨x, 0, none⟩), undef, .slice none 0 0, .pointer (some ⟨w.heap.size, 0, none⟩), .int .i64 x', .pointer (some ⟨x, 0, none⟩), .pointer (some ⟨x, 0, none⟩), .pointer (some ⟨x, 2, none⟩), .map (some b), .func (.func 54) #[] #[.pointer (some ⟨w.heap.size + 1, 0, none⟩)], .int .i64 x', undef, undef, undef, undef, undef, undef, undef], defers := [] }) ?assign ?body ?done ?stop
  case assign =>
    intro l x W K hK
    gi_wp2
    exact hK
  case body =>
    rintro l pre y W ⟨⟨v, hv, hrow, hnil⟩, hB⟩ hlt
    obtain ⟨i0, hi, hz0, hz1, hz2⟩ := info_parts Try.infoI3
    have hc := hv.cell
    have hle : w.heap.size ≤ w.heap.size := Nat.le_refl _
    have hbd : pre.length + 1 ≤ maxLen := by unfold maxLen; omega
    have hWs := hB.size
    have HB := hd hB
    have HN := hd hnil
    clear hnil
    gi_wp2_with (gi_at_builtin; refine wpListIn_append_own _ rfl _ _ 22 rfl w.heap.size 3 i0 (.int .i64 0) 1 8 Try.underlying22 hi hz0 hz1 hz2 rfl (by decide) _ _ _ rfl (hrow.alloc _) ⟨W.heap.size, 0, none⟩ 1 1 [encZ y] rfl rfl (cell_one_new _ _ _) (by simp [Value.oneCell']) (by omega) (by omega) (by have := HB.out.size; simp; omega) ?_; intro v' w1 hown' hgrow _; obtain ⟨g', cap', rfl⟩ := ownsRow_succ hown'; obtain ⟨hv1, hv2, hr2, hk2, hb2⟩ := hv.appended (by decide) hrow HB.out.size hle hown' hgrow; have hc1 := hv1.cell; have hf1 := hv1.frozen)
    refine ⟨hk2, hk2.walks, ⟨_, hv2, ?_, by simp⟩, HB.out.trans hb2⟩
    simpa using hr2
  case done =>
    rintro D ys W hD ⟨hperm, -⟩ ⟨⟨v, hv, hrow, hnil⟩, hB⟩ hK
    have hyl : ys.length = p.H.length := by
      have h1 := hperm.length_eq
      have h2 := (HP.out ys hperm).symm ▸ (List.length_mergeSort (le := leI) ys)
      rw [← h2]
      simp [heldL]
    have HE := hd (HP.out ys hperm)
    have hc := hv.cell
    rcases hrow.2 with ⟨rfl, h0⟩ | ⟨g, cap, cur, rfl, hbg, hh, hnc, hcm, hcs, htk⟩
    · have hy0 : ys = [] := List.eq_nil_of_length_eq_zero h0
      subst hy0
      have Z : Hid (RowKit.Below w.heap.size w (W.putObj D (.deferred none)) ∧ heldL p = []) := ⟨hB.trans (belowK_b (w := w) (Nat.le_refl _) W D _ _ (by omega) hK rfl rfl), by rw [← HE.out]; simp⟩
      have HK := hd hK
      clear hrow hnil hB hK HE hperm
      gi_wp2_with (gi_at_call 41; refine (callsIn_wide.2 (sort_none _ _ _)).mono ?_; rintro e w' ⟨rfl, rfl⟩)
      refine ⟨by simp, .inl ⟨_, _, rfl, run_takeDeferred HK.out, ?_⟩⟩
      refine ⟨_, results_tmp rfl _ _ _, _, rfl, ⟨none, ⟨rfl, Z.out.2⟩, fun g h => by cases h⟩, Z.out.1⟩
    · have hsort := sort_row g cap w.heap.size cur ys W hbg hh hnc hcm hcs (by simpa using htk) (by omega)
      rw [HE.out] at hsort
      have HSo := hd hsort
      have HW : Hid (∀ W', W'.ownsRow w.heap.size 3 1 (.slice (some ⟨g, 0, none⟩) ys.length cap) ys.length ((heldL p).map encZ) → W.grownBy W' (some g) → W'.cell? ⟨w.heap.size, 0, none⟩ = some (.slice (some ⟨g, 0, none⟩) ys.length cap) ∧ W'.heap[D]? = some (.deferred (some [])) ∧ (∃ β, SF ei 1 (W'.putObj D (.deferred none)) 3 β (.slice (some ⟨g, 0, none⟩) ys.length cap) (heldL p) ∧ ∀ g, β = some g → w.heap.size ≤ g) ∧ RowKit.Below w.heap.size w (W'.putObj D (.deferred none))) := by
        intro W' ho hg
        have hKO : KeepsOthers W W' := KeepsOthers.of_grownBy hg (fun j o ej hj => by
          injection ej with ej
          subst ej
          rw [hh] at hj
          cases hj
          rfl)
        have hK' := hKO.same D _ hK rfl
        have hB' : RowKit.Below w.heap.size w W' := hB.grown hg hB.size (fun k e => by cases e; exact hbg)
        refine ⟨(hv.kept hg (fun e => ?_)).cell, hK', ?_, hB'.trans (belowK_b (w := w) (Nat.le_refl _) W' D _ _ (by omega) hK' rfl rfl)⟩
        · injection e with e
          subst e
          rw [show W.heap[w.heap.size]? = _ from hv] at hh
          cases hh
        · have hl : (heldL p).length = ys.length := by rw [hyl]; simp [heldL]
          rw [← hl] at ho ⊢
          exact sf_of_owns (ownsRow_putObj ho _ hK' rfl)
      clear hrow hnil hB hK HE hperm hh hcs htk hbg hsort hv hnc hcm hyl hown0 hown hbB hbM hB0 hbx HP hsz
      gi_wp2_with fail
      refine (callsIn_wide.2 HSo.out).mono ?_
      rintro e w' ⟨rfl, ho, hg⟩
      obtain ⟨q1, q2, q3⟩ := HW.out _ ho hg
      have Q2 := hd q2
      have Q3 := hd q3
      clear q2 q3 ho hg hc HSo HW
      gi_wp2
      refine ⟨by simp, .inl ⟨_, _, rfl, run_takeDeferred Q2.out, ?_⟩⟩
      refine ⟨.slice (some ⟨g, 0, none⟩) ys.length cap, ?_, _, rfl, Q3.out⟩
      simp [results, Try.results21, go_sem]
  case stop =>
    rintro D c pre W _ _ h _
    exact h.elim

end Go.Proofs.Ytpjnhjijipcjkaa
