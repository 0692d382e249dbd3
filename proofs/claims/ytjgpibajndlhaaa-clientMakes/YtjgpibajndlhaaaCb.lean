/-
  New, made, have.
-/
import Derived.Test.YtjgpibajndlhaaaCa
import Derived.Deep.RegionHeld3
import Derived.Shelf.RegionOpenPlain
import Derived.Deep.RegionLaw
import Derived.Deep.QuietTactic
import Derived.BigQuiet
namespace Go.Proofs.Ytjgpibajndlhaaa
open Go.RowKit
set_option linter.unusedVariables false
variable {T : Nat → Prop}

def zc0 : Array Value := #[.int .i64 0, .int .i64 0, .int .i64 0, .slice none 0 0, .slice none 0 0, .pointer none, .int .i64 0, .int .i64 0, .int .i64 0, .int .i64 0, .int .i64 0, .int .i64 0, .int .i64 0, .int .i64 0, .int .i64 0, .int .i64 0, .int .i64 0, .int .i64 0, .int .i64 0, .int .i64 0, .int .i64 0, .int .i64 0, .int .i64 0, .int .i64 0, .int .i64 0, .int .i64 0, .int .i64 0, .int .i64 0, .int .i64 0, .int .i64 0, .int .i64 0, .int .i64 0, .int .i64 0, .int .i64 0, .int .i64 0, .int .i64 0, .int .i64 0, .int .i64 0, .int .i64 0, .int .i64 0, .int .i64 0, .int .i64 0, .int .i64 0, .int .i64 0, .int .i64 0, .int .i64 0, .int .i64 0, .int .i64 0, .int .i64 0, .int .i64 0, .int .i64 0, .int .i64 0, .int .i64 0, .int .i64 0, .int .i64 0, .int .i64 0, .int .i64 0, .int .i64 0, .int .i64 0, .int .i64 0, .int .i64 0, .int .i64 0, .int .i64 0, .int .i64 0, .int .i64 0, .int .i64 0, .int .i64 0, .int .i64 0, .int .i64 0, .int .i64 0, .int .i64 0, .pointer none, .pointer none, .nilIface]
theorem Try.infoC : (Try.prog.info? 64).map (fun i => i.zero) = some (some (.agg zc0)) := by kernel_rfl
theorem zeroC : ∃ Z : Array Value, (∀ W, (zeroValue 64).run Try.prog W = .ok (.agg Z) W) ∧ Z.size = 74 ∧ Z[1]? = some (.int .i64 0) ∧ Z[2]? = some (.int .i64 0) ∧ Z[3]? = some (.slice none 0 0) ∧ Z[4]? = some (.slice none 0 0) := by
  refine ⟨zc0, fun W => ?_, by simp [zc0], by simp [zc0], by simp [zc0], by simp [zc0], by simp [zc0]⟩
  cases hq : Try.prog.info? 64 with
  | none => have := Try.infoC; rw [hq] at this; cases this
  | some i =>
    have h := Try.infoC
    rw [hq] at h
    have h' : i.zero = some (.agg zc0) := by simpa using h
    simp [zeroValue, typeInfo, hq, h']

theorem cb_new {w : World} {id : Int} {z a b : Nat} {Z : Array Value} (h : Z.size = 74 ∧ Z[1]? = some (.int .i64 0) ∧ Z[2]? = some (.int .i64 0) ∧ Z[3]? = some (.slice none 0 0) ∧ Z[4]? = some (.slice none 0 0)) :
    CB (w.alloc (.cells (((((Z.setIfInBounds 0 (.int .i64 id)).setIfInBounds 5 (.pointer (some ⟨z, 0, none⟩))).setIfInBounds 71 (.pointer (some ⟨a, 0, none⟩))).setIfInBounds 72 (.pointer (some ⟨b, 0, none⟩))).setIfInBounds 73 (.iface 59 (.agg #[]))) 64)) w.heap.size id (.slice none 0 0) (.slice none 0 0) b z := by
  obtain ⟨h0, h1, h2, h3, h4⟩ := h
  refine ⟨_, heap_alloc_new w _, by simp [h0], ?_, ?_, ?_, ?_, ?_, ?_, ?_, ?_⟩ <;> simp [h0] <;> first | exact (Array.getElem?_eq_some_iff.1 h1).2 | exact (Array.getElem?_eq_some_iff.1 h2).2 | exact (Array.getElem?_eq_some_iff.1 h3).2 | exact (Array.getElem?_eq_some_iff.1 h4).2

set_option maxRecDepth 100000 in
set_option maxHeartbeats 4000000 in
theorem cnew_any (id : Int) (w : World) (h1 : 1 ≤ id) (h2 : id ≤ 64) : Calls Try.prog 5 #[.int .i64 id] w fun e w' => ∃ x z, e = .returned (.tuple #[.pointer (some ⟨x, 0, none⟩), .int .i64 0]) ∧ CL (TG w.heap.size) w' x z id [] [] none ⟨false, [], 0⟩ ∧ Below w.heap.size w w' := by
  have n1 : ¬ id < 1 := by omega
  have n2 : ¬ 64 < id := by omega
  clear h1 h2
  go_enter Try.func5, Try.ntmps5
  go_wp2_with fail
  refine (newLink_any _).mono ?_
  rintro e w1 ⟨a, b, rfl, i1, b1⟩
  go_wp2_with fail
  obtain ⟨lk, hlk⟩ : ∃ n, n = w1.heap.size := ⟨_, rfl⟩
  generalize hU : w1.alloc (.cells #[.pointer (some ⟨a, 0, none⟩), .pointer (some ⟨b, 0, none⟩)] 53) = U
  have X : U.heap[lk]? = some (.cells #[.pointer (some ⟨a, 0, none⟩), .pointer (some ⟨b, 0, none⟩)] 53 (0, 0)) := by rw [← hU, hlk]; exact heap_alloc_new w1 _
  have BU : Below w.heap.size w U := by rw [← hU]; exact b1.alloc b1.size _
  have IU : IB U b := by rw [← hU]; exact i1.fr (S := fun _ => False) (Fr.alloc _ _ _) (fun h => h)
  rw [← hlk]
  have c0 := cell_row X 0
  have c1 := cell_row X 1
  simp at c0 c1
  have lt := block_lt X
  have C1 : Hid (∀ W, Below U.heap.size U W → Calls Try.prog 16 #[.bool false] W fun e w' => ∃ z, e = .returned (.pointer (some ⟨z, 0, none⟩)) ∧ w'.cell? ⟨lk, 0, none⟩ = some (.pointer (some ⟨a, 0, none⟩)) ∧ w'.cell? ⟨lk, 1, none⟩ = some (.pointer (some ⟨b, 0, none⟩)) ∧ lk < w'.heap.size ∧ Hid (SpT (TG w.heap.size) w' z ⟨false, [], 0⟩ ∧ Below U.heap.size U w')) := by
    intro W hW
    refine (new_any false W).mono ?_
    rintro e w' ⟨z, rfl, S, h1, h1', h2⟩
    have hB : Below U.heap.size U w' := hW.trans (h2.mono hW.size)
    refine ⟨z, rfl, (hB.cell (p := ⟨lk, 0, none⟩) lt).trans c0, (hB.cell (p := ⟨lk, 1, none⟩) lt).trans c1, Nat.lt_of_lt_of_le lt hB.size, h1.t (fun k hk => Nat.le_trans BU.size (Nat.le_trans hW.size (h1' k hk))), hB⟩
  have HX := hd (And.intro IU BU)
  have ZN : Hid (∀ W z, SpT (TG w.heap.size) W z ⟨false, [], 0⟩ ∧ Below U.heap.size U W → ∀ {Z : Array Value}, (Z.size = 74 ∧ Z[1]? = some (.int .i64 0) ∧ Z[2]? = some (.int .i64 0) ∧ Z[3]? = some (.slice none 0 0) ∧ Z[4]? = some (.slice none 0 0)) → CL (TG w.heap.size) (W.alloc (.cells (((((Z.setIfInBounds 0 (.int .i64 id)).setIfInBounds 5 (.pointer (some ⟨z, 0, none⟩))).setIfInBounds 71 (.pointer (some ⟨a, 0, none⟩))).setIfInBounds 72 (.pointer (some ⟨b, 0, none⟩))).setIfInBounds 73 (.iface 59 (.agg #[]))) 64)) W.heap.size z id [] [] none ⟨false, [], 0⟩ ∧ Below w.heap.size w (W.alloc (.cells (((((Z.setIfInBounds 0 (.int .i64 id)).setIfInBounds 5 (.pointer (some ⟨z, 0, none⟩))).setIfInBounds 71 (.pointer (some ⟨a, 0, none⟩))).setIfInBounds 72 (.pointer (some ⟨b, 0, none⟩))).setIfInBounds 73 (.iface 59 (.agg #[]))) 64))) := by
    rintro W z ⟨h1, h2⟩ Z hZ
    have hB := BU.trans (h2.mono BU.size)
    exact ⟨⟨b, _, _, none, cb_new hZ, (IU.fr (S := fun _ => False) (Fr.of_below h2) (fun h => h)).fr (S := fun _ => False) (Fr.alloc _ _ _) (fun h => h), ⟨rfl, rfl⟩, ⟨rfl, rfl⟩, h1.fr (S := fun _ => False) (Fr.alloc _ _ _) (fun _ _ h => h), hB.size, fun g hg => by cases hg⟩, hB.alloc hB.size _⟩
  clear X hU i1 b1 hlk IU BU
  obtain ⟨Z, hz, hZ⟩ := zeroC
  have hz0 : ¬ Z = #[] := by rintro rfl; simp at hZ
  have hz1 := hZ.1
  have HZ := hd hZ
  clear hZ
  go_region_law (first | (go_simp; go_at_call 16; refine (C1.out _ (by repeat (first | exact Below.refl _ _ | refine Below.drew ?_ | refine below_drewN ?_ _))).mono ?_; rintro ex w3 ⟨z, rfl, k0, k1, k2, k3⟩))
  all_goals go_wp2
  all_goals refine bodyPost_ret (v := .tuple #[.pointer (some ⟨w3.heap.size, 0, none⟩), .int .i64 0]) (by simp [results, Try.results5, go_sem]) rfl ?_
  all_goals exact ⟨_, _, rfl, ZN.out _ _ k3.out HZ.out⟩

theorem made_any (x z : Nat) (id : Int) (ds : List El) (es : List (Int × OpE)) (βp : Option Nat) (p : Sp) (w : World) (h : CL T w x z id ds es βp p) :
    Calls Try.prog 20 #[.pointer (some ⟨x, 0, none⟩)] w fun e w' => e = .returned (.int .i64 p.last) ∧ w' = w := by
  obtain ⟨y, vt, vp, βt, c, i, t, e, s, _⟩ := h
  obtain ⟨S, hS, -⟩ := s.at
  obtain ⟨⟨hl, -, -, -, -, -, c5, -⟩, -⟩ := c.cells
  have HS := hd hS
  clear c i t e s hS
  go_enter Try.func20, Try.ntmps20
  go_wp2_with fail
  refine (last_any z p S w HS.out).mono ?_
  rintro e w' ⟨rfl, rfl⟩
  go_wp2
  go_ret
  exact ⟨rfl, rfl⟩

theorem cum_any (y : Nat) (w : World) (h : IB w y) : Calls Try.prog 28 #[.pointer (some ⟨y, 0, none⟩)] w fun e w' => e = .returned (.int .i64 0) ∧ w' = w := by
  obtain ⟨a, b, h⟩ := h
  have c1 := cell_row h 1
  simp at c1
  clear h
  go_enter Try.func28, Try.ntmps28
  go_wp2
  go_ret
  exact ⟨rfl, rfl⟩

set_option maxRecDepth 100000 in
set_option maxHeartbeats 2000000 in
theorem have_any (x z : Nat) (id : Int) (ds : List El) (es : List (Int × OpE)) (βp : Option Nat) (p : Sp) (w : World) (h : CL T w x z id ds es βp p) :
    Calls Try.prog 21 #[.pointer (some ⟨x, 0, none⟩)] w fun e w' => e = .returned (.int .i64 0) ∧ ∃ m, w' = w.drewN m := by
  obtain ⟨y, vt, vp, βt, c, i, t, e, s, _⟩ := h
  obtain ⟨⟨hl, -, -, c2, -, -, -, c6, -⟩, -⟩ := c.cells
  have HI : Hid (∀ m, IB (w.drewN m) y) := fun m => i.fr (S := fun _ => False) (Fr.drewN _ _ _) (fun h => h)
  clear c i t e s
  go_enter Try.func21, Try.ntmps21
  go_wp2
  go_quiet ((go_at_call 28; exact Calls.quiet_of_same (cum_any _ _ (HI.out _))))
  go_wp2
  go_ret
  exact ⟨rfl, _, rfl⟩

end Go.Proofs.Ytjgpibajndlhaaa
