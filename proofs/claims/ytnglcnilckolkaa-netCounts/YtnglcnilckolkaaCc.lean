/-
  NetCounts: others.
-/
import Derived.Test.YtnglcnilckolkaaCb
namespace Go.Proofs.Ytnglcnilckolkaa
open Go.RowKit
set_option linter.unusedVariables false

theorem IsG.take {w : World} {a : Option Addr} {n c : Nat} {L : List It} (h : IsG w a n c L) (m : Nat) (hm : m ≤ n) : IsG w a m c (L.take m) := by
  obtain ⟨⟨h1, h2, h3, h4⟩, h5⟩ := h
  refine ⟨⟨by simp; omega, by omega, h3, fun hn => ?_⟩, fun x hx => h5 x (List.mem_of_mem_take hx)⟩
  obtain ⟨b, off, e, hlt, hc⟩ := h4 (by omega)
  refine ⟨b, off, e, hlt, fun j v hj => hc j v ?_⟩
  rw [← cO_take L m (by omega), List.getElem?_take] at hj
  split at hj
  · exact hj
  · cases hj

theorem IsG.drop {w : World} {b off n c : Nat} {L : List It} (h : IsG w (some ⟨b, off, none⟩) n c L) (m : Nat) (hm : m ≤ n) : IsG w (some ⟨b, off + m * 4, none⟩) (n - m) (c - m) (L.drop m) := by
  obtain ⟨⟨h1, h2, h3, h4⟩, h5⟩ := h
  refine ⟨⟨by simp; omega, by omega, by omega, fun hn => ?_⟩, fun x hx => h5 x (List.mem_of_mem_drop hx)⟩
  obtain ⟨b', off', e, hlt, hc⟩ := h4 (by omega)
  have e' := Option.some.inj e
  simp at e'
  obtain ⟨rfl, rfl⟩ := e'
  refine ⟨b, off + m * 4, rfl, hlt, fun j v hj => ?_⟩
  have hs : cO L = cO (L.take m) ++ cO (L.drop m) := by rw [← cO_app, List.take_append_drop]
  have hl : (cO (L.take m)).length = m * 4 := by rw [cO_len, List.length_take]; congr 1; omega
  have := hc (m * 4 + j) v (by rw [hs, List.getElem?_append_right (by omega), hl, Nat.add_sub_cancel_left]; exact hj)
  rw [← Nat.add_assoc] at this
  exact this

theorem IsG.none {w : World} {a : Option Addr} {c : Nat} (hc : c ≤ 9223372036854775807) : IsG w a 0 c [] := ⟨⟨rfl, Nat.zero_le _, hc, fun h => by omega⟩, by simp⟩

theorem map_take' (L : List It) (m : Nat) : (L.take m).map It.d = (L.map It.d).take m := by rw [List.map_take]
theorem map_drop' (L : List It) (m : Nat) : (L.drop m).map It.d = (L.map It.d).drop m := by rw [List.map_drop]

set_option maxRecDepth 100000 in
set_option maxHeartbeats 4000000 in
/-- others, behind a call that put one more. -/
theorem others_put (al bl : Option Addr) (n cl cl' : Nat) (L L' : List It) (o : OpV) (a : Option Addr) (m c : Nat) (d : DG) (w : World) (h : IsG w al n cl L) (h' : IsG w bl (n + 1) cl' L') (hk : isPut o.kind) (he : L'.map It.d = L.map It.d ++ [d]) :
    Calls Try.prog 27 #[.slice al n cl, .slice bl (n + 1) cl', opv o a m c] w fun e w' => e = .returned (.bool true) ∧ Below w.heap.size w w' := by
  have hm1 : moreP o.kind = 1 := by unfold moreP; rw [if_pos hk]
  obtain ⟨ok, ow, oi, oa, ob, xs⟩ := o
  simp only at hm1
  have b0 : Below w.heap.size w (w.alloc (.cells #[.int .i64 ok, .bool ow, .int .i64 oi, .int .i64 oa, .int .i64 ob, .slice a m c] 53)) := (Below.refl _ _).alloc (Nat.le_refl _) _
  have hb : (n : Int) + 1 - 1 = (n : Int) := by omega
  have hnl : L.length = n := h.1.1
  have hc : n + 1 ≤ cl' ∧ cl' ≤ 9223372036854775807 := ⟨h'.1.2.1, h'.1.2.2.1⟩
  have hc2 : (n : Int) ≤ (cl' : Int) := by omega
  have hc3 : n ≤ cl' := by omega
  have F : Hid (Calls Try.prog 20 #[.slice al n cl, .slice bl n cl'] (w.alloc (.cells #[.int .i64 ok, .bool ow, .int .i64 oi, .int .i64 oa, .int .i64 ob, .slice a m c] 53)) fun e w' => e = .returned (.bool true) ∧ Below w.heap.size w w') := by
    refine (flights_true al bl n cl cl' L (L'.take n) _ (h.below b0) ((h'.take n (by omega)).below b0) ?_).mono (fun e w' h => ⟨h.1, b0.trans (h.2.mono b0.size)⟩)
    rw [map_take', he, List.take_left' (by simp [hnl])]
  have HM := hd hm1
  clear h h' he hk hm1 hnl b0
  unfold opv
  go_enter Try.func27, Try.ntmps27
  go_wp2_with fail
  refine (more_any ok _).mono ?_
  rintro e w1 ⟨rfl, rfl⟩
  rw [HM.out]
  go_wp2_with fail
  refine F.out.mono ?_
  rintro e w2 ⟨rfl, b2⟩
  have B2 := hd b2
  clear b2
  go_wp2
  go_ret
  exact ⟨rfl, B2.out⟩

def KeepJ (w : World) (j : Nat) (U : World) : Prop := Below w.heap.size w U ∧ U.cell? ⟨w.heap.size, 2, none⟩ = some (.int .i64 j) ∧ w.heap.size < U.heap.size
theorem KeepJ.below {w : World} {j : Nat} {U V : World} (h : KeepJ w j U) (hb : Below U.heap.size U V) : KeepJ w j V :=
  ⟨h.1.trans (hb.mono h.1.size), (hb.cell (p := ⟨w.heap.size, 2, none⟩) h.2.2).trans h.2.1, Nat.lt_of_lt_of_le h.2.2 hb.size⟩
theorem KeepJ.drew {w : World} {j : Nat} {U : World} (h : KeepJ w j U) : KeepJ w j U.drew := ⟨h.1.drew, h.2.1, h.2.2⟩
theorem KeepJ.drewN {w : World} {j : Nat} {U : World} (h : KeepJ w j U) (k : Nat) : KeepJ w j (U.drewN k) := ⟨below_drewN h.1 k, h.2.1, h.2.2⟩

end Go.Proofs.Ytnglcnilckolkaa
