/-
  read and stands: both readers beside one another.
-/
import Derived.Test.YtkidhfednipdcabDoorRRefN
import Derived.Test.YtkidhfednipdcabDoorRTold
import Derived.Test.YtkidhfednipdcabDoorWalkA
namespace Go.Proofs.YtkidhfednipdcabDoor
open Go.RowKit
variable {D E : Nat → Prop}

/-- Every block that was there is as it was, but for the blocks r and s. -/
structure But2 (r s : Nat) (w w' : World) : Prop where
  os : w'.os = w.os
  tape : w'.tape = w.tape
  output : w'.output = w.output
  size : w.heap.size ≤ w'.heap.size
  block : ∀ k, k < w.heap.size → k ≠ r → k ≠ s → w'.heap[k]? = w.heap[k]?

theorem But2.refl (r s : Nat) (w : World) : But2 r s w w := ⟨rfl, rfl, rfl, Nat.le_refl _, fun _ _ _ _ => rfl⟩
theorem But2.trans {r s : Nat} {a b c : World} (h : But2 r s a b) (k : But2 r s b c) : But2 r s a c :=
  ⟨k.os.trans h.os, k.tape.trans h.tape, k.output.trans h.output, Nat.le_trans h.size k.size, fun i hi hr hs => (k.block i (Nat.lt_of_lt_of_le hi h.size) hr hs).trans (h.block i hi hr hs)⟩
theorem But.left {r : Nat} {w w' : World} (h : But r w w') (s : Nat) : But2 r s w w' := ⟨h.os, h.tape, h.output, h.size, fun k hk hr _ => h.block k hk hr⟩
theorem But.right {s : Nat} {w w' : World} (h : But s w w') (r : Nat) : But2 r s w w' := ⟨h.os, h.tape, h.output, h.size, fun k hk _ hs => h.block k hk hs⟩
theorem But2.of_below {r s : Nat} {w w' : World} (h : Below w.heap.size w w') : But2 r s w w' := ⟨h.os, h.tape, h.output, h.size, fun k hk _ _ => h.block k hk⟩
theorem But2.below {r s B : Nat} {w w' : World} (h : But2 r s w w') (hB : B ≤ w.heap.size) (hr : B ≤ r) (hs : B ≤ s) : Below B w w' :=
  ⟨h.os, h.tape, h.output, h.size, fun k hk => h.block k (by omega) (by omega) (by omega)⟩
theorem But2.cell {r s : Nat} {w w' : World} (h : But2 r s w w') {p : Addr} (hp : p.block < w.heap.size) (hr : p.block ≠ r) (hs : p.block ≠ s) : w'.cell? p = w.cell? p := World.cell?_of_block (w := w) (h.block p.block hp hr hs)
theorem IsB.but2 {w w' : World} {a : Option Addr} {n c r s : Nat} {xs : List Int} (h : IsB w a n c xs) (hb : But2 r s w w') (hr : ∀ b off, a = some ⟨b, off, none⟩ → b ≠ r ∧ b ≠ s) : IsB w' a n c xs := by
  obtain ⟨h1, h2, h3, h4⟩ := h
  refine ⟨h1, h2, h3, fun hn => ?_⟩
  obtain ⟨b, off, e, hlt, hc⟩ := h4 hn
  refine ⟨b, off, e, Nat.lt_of_lt_of_le hlt hb.size, fun i hi => ?_⟩
  rw [hb.cell (p := ⟨b, off + i, none⟩) hlt (hr b off e).1 (hr b off e).2]
  exact hc i hi

/-- The two readers, at one place of the same bytes. -/
structure PR (D E : Nat → Prop) (w : World) (r s : Nat) (xs : List Int) (p : Nat) (f : Bool) : Prop where
  rd : RD D w r xs p f
  rf : RF E w s xs p f
  ne : r ≠ s
  er : ∀ b, E b → b ≠ r
  ds : ∀ b, D b → b ≠ s

theorem PR.below {w w' : World} {r s : Nat} {xs : List Int} {p : Nat} {f : Bool} (h : PR D E w r s xs p f) (hb : Below w.heap.size w w') : PR D E w' r s xs p f :=
  ⟨h.rd.below hb, h.rf.below hb, h.ne, h.er, h.ds⟩
theorem PR.but2 {w w' : World} {r s u v : Nat} {xs : List Int} {p : Nat} {f : Bool} (h : PR D E w r s xs p f) (hb : But2 u v w w') (h1 : r ≠ u ∧ r ≠ v) (h2 : s ≠ u ∧ s ≠ v) (hD : ∀ b, D b → b ≠ u ∧ b ≠ v) (hE : ∀ b, E b → b ≠ u ∧ b ≠ v) : PR D E w' r s xs p f := by
  refine ⟨?_, ?_, h.ne, h.er, h.ds⟩
  · obtain ⟨a, n, c, hh, hB, hr, k1, k2⟩ := h.rd
    exact ⟨a, n, c, (hb.block r (block_lt hh) h1.1 h1.2).trans hh, hB.but2 hb (fun b off e => hD b (hr b off e).2), hr, k1, k2⟩
  · obtain ⟨a, n, c, hh, hB, hr, k1, k2⟩ := h.rf
    exact ⟨a, n, c, (hb.block s (block_lt hh) h2.1 h2.2).trans hh, hB.but2 hb (fun b off e => hE b (hr b off e).2), hr, k1, k2⟩

/-- What a read by both comes to. -/
def Both (D E : Nat → Prop) (w w' : World) (r s : Nat) (xs : List Int) : Prop := ∃ p f, PR D E w' r s xs p f ∧ But2 r s w w'

theorem both_bad {w w0 w1 w2 : World} {r s : Nat} {xs : List Int} {p : Nat} {f : Bool} (h : PR D E w r s xs p f) (h0 : Below w.heap.size w w0) (h1 : Bad D w0 w1 r xs p) (h2 : FBad E w1 w2 s xs p) : Both D E w w2 r s xs :=
  ⟨p, true, ⟨h1.1.but h2.2 h.ne h.ds, h2.1, h.ne, h.er, h.ds⟩, (But2.of_below h0).trans ((h1.2.left s).trans (h2.2.right r))⟩
theorem both_good {w w0 w1 w2 : World} {r s k : Nat} {xs : List Int} {p : Nat} {f : Bool} (h : PR D E w r s xs p f) (h0 : Below w.heap.size w w0) (h1 : Good D w0 w1 r xs p k) (h2 : FGood E w1 w2 s xs p k) : Both D E w w2 r s xs :=
  ⟨p + k, false, ⟨h1.1.but h2.2 h.ne h.ds, h2.1, h.ne, h.er, h.ds⟩, (But2.of_below h0).trans ((h1.2.left s).trans (h2.2.right r))⟩
theorem Both.more {w w1 w2 : World} {r s : Nat} {xs : List Int} (h : Both D E w w1 r s xs) (hb : Below w1.heap.size w1 w2) : Both D E w w2 r s xs := by
  obtain ⟨p, f, h1, h2⟩ := h
  exact ⟨p, f, h1.below hb, h2.trans (But2.of_below hb)⟩

set_option maxHeartbeats 1000000 in
theorem read1 (r s : Nat) (xs : List Int) (p : Nat) (f : Bool) (num N : Int) (which : Bool) (w : World) (h : PR D E w r s xs p f) (hr : Rng xs) :
    Calls Tryd.prog 22 #[.pointer (some ⟨r, 0, none⟩), .pointer (some ⟨s, 0, none⟩), .agg #[.int .i64 1, .bool which, .int .i64 N, .int .u64 num]] w fun e w' => e = .returned (.bool true) ∧ Both D E w w' r s xs := by
  have H := hd h
  have HR := hd hr
  have HB : Hid (Below w.heap.size w (w.alloc (.cells #[.int .i64 1, .bool which, .int .i64 N, .int .u64 num] 38))) := (Below.refl _ _).alloc (Nat.le_refl _) _
  clear h hr
  by_cases hc : f = false ∧ p + 1 ≤ xs.length
  · obtain ⟨rfl, hx⟩ := hc
    go_enter Tryd.func22, Tryd.ntmps22
    go_wp2_with fail
    refine (u8_good r xs p _ (H.out.rd.below HB.out) hx HR.out).mono ?_
    rintro e w1 ⟨rfl, hg⟩
    have G1 := hd hg
    clear hg
    go_wp2_with fail
    refine (refU8_good s xs p _ ((H.out.rf.below HB.out).but G1.out.2 H.out.ne.symm H.out.er) hx HR.out).mono ?_
    rintro e w2 ⟨rfl, hg⟩
    have R := hd (both_good H.out HB.out G1.out hg)
    clear hg G1 H HB HR
    generalize be ((xs.drop p).take 1) = v
    go_wp2
    go_ret
    exact ⟨by simp, R.out⟩
  · have hb : f = true ∨ (xs.length : Int) - p < 1 := by
      cases f
      · right
        have : ¬ p + 1 ≤ xs.length := fun h => hc ⟨rfl, h⟩
        omega
      · exact .inl rfl
    have HX := hd hb
    clear hb hc
    go_enter Tryd.func22, Tryd.ntmps22
    go_wp2_with fail
    refine (u8_bad r xs p f _ (H.out.rd.below HB.out) HX.out).mono ?_
    rintro e w1 ⟨rfl, hg⟩
    have G1 := hd hg
    clear hg
    go_wp2_with fail
    refine (refU8_bad s xs p f _ ((H.out.rf.below HB.out).but G1.out.2 H.out.ne.symm H.out.er) HX.out).mono ?_
    rintro e w2 ⟨rfl, hg⟩
    have R := hd (both_bad H.out HB.out G1.out hg)
    clear hg G1 H HB HR HX
    go_wp2
    go_ret
    exact ⟨rfl, R.out⟩

set_option maxHeartbeats 1000000 in
theorem read2 (r s : Nat) (xs : List Int) (p : Nat) (f : Bool) (num N : Int) (which : Bool) (w : World) (h : PR D E w r s xs p f) (hr : Rng xs) :
    Calls Tryd.prog 22 #[.pointer (some ⟨r, 0, none⟩), .pointer (some ⟨s, 0, none⟩), .agg #[.int .i64 2, .bool which, .int .i64 N, .int .u64 num]] w fun e w' => e = .returned (.bool true) ∧ Both D E w w' r s xs := by
  have H := hd h
  have HR := hd hr
  have HB : Hid (Below w.heap.size w (w.alloc (.cells #[.int .i64 2, .bool which, .int .i64 N, .int .u64 num] 38))) := (Below.refl _ _).alloc (Nat.le_refl _) _
  clear h hr
  by_cases hc : f = false ∧ p + 2 ≤ xs.length
  · obtain ⟨rfl, hx⟩ := hc
    go_enter Tryd.func22, Tryd.ntmps22
    go_wp2_with fail
    refine (u16_good r xs p _ (H.out.rd.below HB.out) hx HR.out).mono ?_
    rintro e w1 ⟨rfl, hg⟩
    have G1 := hd hg
    clear hg
    go_wp2_with fail
    refine (refU16_good s xs p _ ((H.out.rf.below HB.out).but G1.out.2 H.out.ne.symm H.out.er) hx HR.out).mono ?_
    rintro e w2 ⟨rfl, hg⟩
    have R := hd (both_good H.out HB.out G1.out hg)
    clear hg G1 H HB HR
    generalize be ((xs.drop p).take 2) = v
    go_wp2
    go_ret
    exact ⟨by simp, R.out⟩
  · have hb : f = true ∨ (xs.length : Int) - p < 2 := by
      cases f
      · right
        have : ¬ p + 2 ≤ xs.length := fun h => hc ⟨rfl, h⟩
        omega
      · exact .inl rfl
    have HX := hd hb
    clear hb hc
    go_enter Tryd.func22, Tryd.ntmps22
    go_wp2_with fail
    refine (u16_bad r xs p f _ (H.out.rd.below HB.out) HX.out).mono ?_
    rintro e w1 ⟨rfl, hg⟩
    have G1 := hd hg
    clear hg
    go_wp2_with fail
    refine (refU16_bad s xs p f _ ((H.out.rf.below HB.out).but G1.out.2 H.out.ne.symm H.out.er) HX.out).mono ?_
    rintro e w2 ⟨rfl, hg⟩
    have R := hd (both_bad H.out HB.out G1.out hg)
    clear hg G1 H HB HR HX
    go_wp2
    go_ret
    exact ⟨rfl, R.out⟩

set_option maxHeartbeats 1000000 in
theorem read3 (r s : Nat) (xs : List Int) (p : Nat) (f : Bool) (num N : Int) (which : Bool) (w : World) (h : PR D E w r s xs p f) (hr : Rng xs) :
    Calls Tryd.prog 22 #[.pointer (some ⟨r, 0, none⟩), .pointer (some ⟨s, 0, none⟩), .agg #[.int .i64 3, .bool which, .int .i64 N, .int .u64 num]] w fun e w' => e = .returned (.bool true) ∧ Both D E w w' r s xs := by
  have H := hd h
  have HR := hd hr
  have HB : Hid (Below w.heap.size w (w.alloc (.cells #[.int .i64 3, .bool which, .int .i64 N, .int .u64 num] 38))) := (Below.refl _ _).alloc (Nat.le_refl _) _
  clear h hr
  by_cases hc : f = false ∧ p + 4 ≤ xs.length
  · obtain ⟨rfl, hx⟩ := hc
    go_enter Tryd.func22, Tryd.ntmps22
    go_wp2_with fail
    refine (u32_good r xs p _ (H.out.rd.below HB.out) hx HR.out).mono ?_
    rintro e w1 ⟨rfl, hg⟩
    have G1 := hd hg
    clear hg
    go_wp2_with fail
    refine (refU32_good s xs p _ ((H.out.rf.below HB.out).but G1.out.2 H.out.ne.symm H.out.er) hx HR.out).mono ?_
    rintro e w2 ⟨rfl, hg⟩
    have R := hd (both_good H.out HB.out G1.out hg)
    clear hg G1 H HB HR
    generalize be ((xs.drop p).take 4) = v
    go_wp2
    go_ret
    exact ⟨by simp, R.out⟩
  · have hb : f = true ∨ (xs.length : Int) - p < 4 := by
      cases f
      · right
        have : ¬ p + 4 ≤ xs.length := fun h => hc ⟨rfl, h⟩
        omega
      · exact .inl rfl
    have HX := hd hb
    clear hb hc
    go_enter Tryd.func22, Tryd.ntmps22
    go_wp2_with fail
    refine (u32_bad r xs p f _ (H.out.rd.below HB.out) HX.out).mono ?_
    rintro e w1 ⟨rfl, hg⟩
    have G1 := hd hg
    clear hg
    go_wp2_with fail
    refine (refU32_bad s xs p f _ ((H.out.rf.below HB.out).but G1.out.2 H.out.ne.symm H.out.er) HX.out).mono ?_
    rintro e w2 ⟨rfl, hg⟩
    have R := hd (both_bad H.out HB.out G1.out hg)
    clear hg G1 H HB HR HX
    go_wp2
    go_ret
    exact ⟨rfl, R.out⟩

end Go.Proofs.YtkidhfednipdcabDoor
