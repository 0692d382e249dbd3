/-
  DocFresh: copied.
-/
import Derived.Test.YtbgpmekjcepmaabFa
import Derived.Test.YtbgpmekjcepmaabRowsV
import Derived.Test.YtbgpmekjcepmaabVd
import Derived.Test.YtbgpmekjcepmaabSOForm
namespace Go.Proofs.Ytbgpmekjcepmaab
open Go.RowKit
set_option linter.unusedVariables false

/-- append of a whole text onto an empty list of the call's own. -/
theorem run_copied (w : World) (g : Nat) (a : Option Addr) (n c : Nat) (xs : List El) (hg : w.heap[g]? = some (.cells #[] 46 (0, 0))) (hE : IsE w a n c xs) (hn : n ≤ 1000) :
    ∃ v' w', (∀ ty, (Builtin.append_ #[22, 22] ty #[.slice (some ⟨g, 0, none⟩) 0 0, .slice a n c]).run Try.prog w = .ok v' w') ∧ OwnE w' g v' xs ∧ Fr (fun _ => False) w w' := by
  obtain ⟨i0, hi0, hz0, hz1, hz2⟩ := info_parts Try.infoE
  by_cases h0 : n = 0
  · subst h0
    obtain rfl := List.eq_nil_of_length_eq_zero hE.1
    refine ⟨.slice (some ⟨g, 0, none⟩) 0 0, w, fun ty => ?_, ⟨g, Nat.le_refl _, 0, rfl, [], hg, rfl, rfl, Nat.le_refl _, by omega, rfl⟩, Fr.refl _ _⟩
    have hl : ∀ (x : Addr), (loadCells x 0).run Try.prog w = .ok #[] w := fun x => by simpa using run_loadCells_list (P := Try.prog) w x [] (by simp)
    cases a <;> simp [Builtin.append_, run_underlying Try.underlying22, Builtin.lenOf, Builtin.firstCells, sizeOf, typeInfo, hi0, storeCells, hl]
  · obtain ⟨h1, h2, h3, h4⟩ := hE
    obtain ⟨b, off, rfl, hlt, hc⟩ := h4 (by omega)
    have hr := fun ty => run_append_grow (P := Try.prog) w 22 ty 46 i0 _ Try.underlying22 hi0 hz0 ⟨g, 0, none⟩ 0 0 [] (by simp) (by simp) ⟨b, off, none⟩ n c (cE xs) (by rw [hz1, cE_len, h1]) (fun j v hj => by rw [add_lit]; exact hc j v hj) (by omega) (by omega) (growslice_fits (by omega) (by rw [hz2]; omega))
    have hG1 := grownCap_ge w (0 + n) 0 46
    have hG2 := grownCap_le_maxLen w (0 + n) 0 46 (by unfold maxLen; omega)
    generalize grownCap w (0 + n) 0 46 = G at hr hG1 hG2
    refine ⟨_, _, hr, ⟨w.heap.size, Nat.le_of_lt (block_lt hg), G, by rw [h1, Nat.zero_add], ?_⟩, (Fr.drew _ w).trans (Fr.alloc _ _ _)⟩
    rw [Nat.zero_add] at hG1
    refine ⟨((cE xs).toArray ++ Builtin.zeroCells #[.int .u8 0, .int .i64 0, .int .i64 0] (G - (0 + n))).toList, ?_, ?_, rfl, by omega, hG2, ?_⟩
    · rw [show w.heap.size = w.drew.heap.size from rfl, heap_alloc_new]
      simp [Value.cells]
    · rw [Array.toList_append, List.toList_toArray, ← cE_len, List.take_left]
    · rw [Array.toList_append, List.length_append, zero_len, List.toList_toArray, cE_len, h1]
      omega

set_option maxRecDepth 100000 in
set_option maxHeartbeats 2000000 in
theorem copied_any (a : Option Addr) (n c : Nat) (xs : List El) (w : World) (hE : IsE w a n c xs) (hn : n ≤ 1000) :
    Calls Try.prog 28 #[.slice a n c] w fun e w' => ∃ v, e = .returned v ∧ OwnE w' w.heap.size v xs ∧ Below w.heap.size w w' := by
  have bA : Below w.heap.size w (w.alloc (.cells #[] 46)) := (Below.refl _ _).alloc (Nat.le_refl _) _
  obtain ⟨v', w', hr, hO, hF⟩ := run_copied (w.alloc (.cells #[] 46)) w.heap.size a n c xs (heap_alloc_new _ _) (hE.below bA) hn
  have R : Hid (OwnE w' w.heap.size v' xs ∧ Below w.heap.size w w') := ⟨hO, bA.trans (hF.below bA.size (fun k h => h.elim))⟩
  clear hO hF hE bA
  go_enter Try.func28, Try.ntmps28
  go_wp2_with (at_builtin; refine wpList_append_k _ rfl _ _ 22 22 rfl _ _ rfl rfl (hr _) ?_)
  go_ret
  exact ⟨_, rfl, R.out⟩

def avP (n i : Nat) : Int := if i = 0 then 0 else if i = 1 then ((n / 2 : Nat) : Int) else (n : Int) - 1
def chgA (n i : Nat) : OpE := if n = 0 then ⟨0, 0, 0, 1, 3⟩ else ⟨2, avP n i, 0, 1, 3⟩
def chgB (n : Nat) (c : Int) (i : Nat) : OpE := ⟨1, avP n i, c, 1, 4⟩
/-- The five changes. -/
def chgP (n : Nat) (c : Int) : List OpE := (List.range 3).map (chgA n) ++ (List.range 2).map (chgB n c)

theorem chgP_ok (n : Nat) (c : Int) (hn : n ≤ 300) (h0 : 32 ≤ c) (h1 : c ≤ 126) : ∀ o ∈ chgP n c, fitsP n o = 0 ∧ 0 ≤ o.ch ∧ o.ch ≤ 255 := by
  have nat : ∀ i, i < 3 → 0 < n → ∃ p : Nat, avP n i = (p : Int) ∧ p < n := by
    intro i hi hp
    unfold avP
    split
    · exact ⟨0, rfl, hp⟩
    · split
      · exact ⟨n / 2, rfl, by omega⟩
      · exact ⟨n - 1, by omega, by omega⟩
  have natB : ∀ i, i < 2 → ∃ p : Nat, avP n i = (p : Int) ∧ p ≤ n := by
    intro i hi
    unfold avP
    split
    · exact ⟨0, rfl, Nat.zero_le _⟩
    · rw [if_pos (by omega)]
      exact ⟨n / 2, rfl, by omega⟩
  intro o ho
  rcases List.mem_append.1 ho with ho | ho
  · obtain ⟨i, hi, rfl⟩ := List.mem_map.1 ho
    unfold chgA
    split
    · rename_i hz
      subst hz
      exact ⟨fits_nop (by omega) (by omega) (by omega) (by omega) (by omega), by simp, by simp⟩
    · obtain ⟨p, hp1, hp2⟩ := nat i (by simpa using hi) (by omega)
      rw [hp1]
      exact ⟨fits_del (by omega) (by omega) (by omega) (by omega) hp2 (by omega), by simp, by simp⟩
  · obtain ⟨i, hi, rfl⟩ := List.mem_map.1 ho
    unfold chgB
    obtain ⟨p, hp1, hp2⟩ := natB i (by simpa using hi)
    rw [hp1]
    exact ⟨fits_ins h0 h1 (by omega) (by omega) (by omega) (by omega) hp2 (by omega), by simp only; omega, by simp only; omega⟩

/-- A row of operations of the call's own. -/
def HRel (w wr : World) (v : Value) (L : List OpE) : Prop := ∃ β, SO wr β v L ∧ (∀ g, β = some g → w.heap.size ≤ g) ∧ Below w.heap.size w wr

theorem HRel.push {w wr : World} {v : Value} {L : List OpE} (h : HRel w wr v L) (o : OpE) (hL : L.length ≤ 1000) :
    ∃ v' w3, (∀ ty, (Builtin.append_ #[23, 23] ty #[v, .slice (some ⟨wr.heap.size, 0, none⟩) 1 1]).run Try.prog (wr.alloc (.cells (opc o).toArray 29)) = .ok v' w3) ∧ HRel w w3 v' (L ++ [o]) ∧ TFr 29 wr w3 := by
  obtain ⟨β, h1, h2, h3⟩ := h
  have B1 : Below wr.heap.size wr (wr.alloc (.cells (opc o).toArray 29)) := (Below.refl _ _).alloc (Nat.le_refl _) _
  obtain ⟨v', w3, hr, β', g1, g2, g3⟩ := run_pushO _ β v L (h1.below B1) wr.heap.size o (heap_alloc_new _ _) (by omega)
  refine ⟨v', w3, hr, ⟨β', g1, ?_, ?_⟩, ?_⟩
  · intro g hg
    rcases g2 with g2 | ⟨g', g2, g4⟩
    · exact h2 g (g2 ▸ hg)
    · obtain rfl : g' = g := Option.some.inj (g2.symm.trans hg)
      have := B1.size
      have := h3.size
      omega
  · exact (h3.trans (B1.mono h3.size)).trans (g3.below (Nat.le_trans h3.size B1.size) (fun g h => h2 g h))
  · refine ⟨fun k => β = some k, (Fr.of_below B1).trans g3, ?_⟩
    rintro g rfl
    obtain ⟨cap, -, cur, hh, -⟩ := h1
    exact ⟨_, hh⟩

theorem HRel.below {w wr wx : World} {v : Value} {L : List OpE} (h : HRel w wr v L) (hb : Below wr.heap.size wr wx) : HRel w wx v L := by
  obtain ⟨β, h1, h2, h3⟩ := h
  exact ⟨β, h1.below hb, h2, h3.trans (hb.mono h3.size)⟩

theorem HRel.of {w w1 wr : World} {v : Value} {L : List OpE} (h : HRel w1 wr v L) (hb : Below w.heap.size w w1) : HRel w wr v L := by
  obtain ⟨β, h1, h2, h3⟩ := h
  exact ⟨β, h1, fun g hg => Nat.le_trans hb.size (h2 g hg), hb.trans (h3.mono hb.size)⟩

theorem range_snoc (f : Nat → OpE) (k : Nat) : (List.range k).map f ++ [f k] = (List.range (k + 1)).map f := by
  rw [List.range_succ, List.map_append]
  rfl

end Go.Proofs.Ytbgpmekjcepmaab
