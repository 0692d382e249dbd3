/-
  The net of the document: New, Count, none, bad, dup.
-/
import Derived.Test.YtnglcnilckolkaaFlips
namespace Go.Proofs.Ytnglcnilckolkaa
open Go.RowKit Go.Lib
set_option linter.unusedVariables false

/-- The net of the document at block y: L in flight; its blocks are among S. -/
structure RK (w : World) (y : Nat) (cl : Int) (L : List It) (S : Nat → Prop) (v : Value) (β : Option Nat) : Prop where
  net : w.heap[y]? = some (.cells #[.int .i64 cl, v] 77 (0, 0))
  so : SO w β v L
  rows : ∀ x ∈ L, SB w x.γ x.sv x.d.b
  short : ∀ x ∈ L, x.d.b.length ≤ 64
  sep : L.Pairwise (fun a b => ∀ g, a.γ = some g → b.γ ≠ some g)
  few : L.length ≤ 2048
  own : S y ∧ (∀ g, β = some g → S g) ∧ ∀ x ∈ L, ∀ g, x.γ = some g → S g
  old : ∀ k, S k → k < w.heap.size

def RB (w : World) (y : Nat) (cl : Int) (G : List DG) (S : Nat → Prop) : Prop := ∃ L v β, RK w y cl L S v β ∧ L.map It.d = G

theorem RK.fr {S T : Nat → Prop} {w w' : World} {y : Nat} {cl : Int} {L : List It} {v : Value} {β : Option Nat} (h : RK w y cl L S v β) (hF : Fr T w w') (hS : ∀ k, S k → ¬ T k) : RK w' y cl L S v β :=
  ⟨hF.keeps h.net (hS _ h.own.1), h.so.fr hF (fun g hg => hS g (h.own.2.1 g hg)), fun x hx => SRow.fr (h.rows x hx) hF (fun g hg => hS g (h.own.2.2 x hx g hg)), h.short, h.sep, h.few, h.own, fun k hk => Nat.lt_of_lt_of_le (h.old k hk) hF.size⟩
theorem RK.below {S : Nat → Prop} {w w' : World} {y : Nat} {cl : Int} {L : List It} {v : Value} {β : Option Nat} (h : RK w y cl L S v β) (hb : Below w.heap.size w w') : RK w' y cl L S v β :=
  h.fr (T := fun _ => False) (Fr.of_below hb) (fun _ _ h => h)
theorem RB.fr {S T : Nat → Prop} {w w' : World} {y : Nat} {cl : Int} {G : List DG} (h : RB w y cl G S) (hF : Fr T w w') (hS : ∀ k, S k → ¬ T k) : RB w' y cl G S := by
  obtain ⟨L, v, β, h, hG⟩ := h
  exact ⟨L, v, β, h.fr hF hS, hG⟩
theorem RB.below {S : Nat → Prop} {w w' : World} {y : Nat} {cl : Int} {G : List DG} (h : RB w y cl G S) (hb : Below w.heap.size w w') : RB w' y cl G S :=
  h.fr (T := fun _ => False) (Fr.of_below hb) (fun _ _ h => h)
theorem RB.old {S : Nat → Prop} {w : World} {y : Nat} {cl : Int} {G : List DG} (h : RB w y cl G S) : ∀ k, S k → k < w.heap.size := by
  obtain ⟨L, v, β, h, hG⟩ := h
  exact h.old

def NowR (w w' : World) (y : Nat) (cl : Int) (G : List DG) (S : Nat → Prop) : Prop := ∃ S', RB w' y cl G S' ∧ (∀ k, S' k → S k ∨ w.heap.size ≤ k) ∧ Fr S w w'
theorem NowR.same {w : World} {y : Nat} {cl : Int} {G : List DG} {S : Nat → Prop} (h : RB w y cl G S) : NowR w w y cl G S := ⟨S, h, fun k hk => .inl hk, Fr.refl _ _⟩
theorem NowR.sameB {w w' : World} {y : Nat} {cl : Int} {G : List DG} {S : Nat → Prop} (h : RB w y cl G S) (hb : Below w.heap.size w w') : NowR w w' y cl G S := ⟨S, h.below hb, fun k hk => .inl hk, Fr.of_below hb⟩

theorem rnew_bad (c : Int) (w : World) (h : c < 1 ∨ 64 < c) : Calls Try.prog 28 #[.int .i64 c] w fun e w' => e = .returned (.tuple #[.pointer none, .int .i64 70]) ∧ w' = w := by
  by_cases h1 : c < 1
  · go_enter Try.func28, Try.ntmps28
    go_wp2
    refine bodyPost_ret (v := .tuple #[.pointer none, .int .i64 70]) (by simp [results, Try.results28, go_sem]) rfl ?_
    exact ⟨rfl, rfl⟩
  · have h2 : 64 < c := by omega
    go_enter Try.func28, Try.ntmps28
    go_wp2
    refine bodyPost_ret (v := .tuple #[.pointer none, .int .i64 70]) (by simp [results, Try.results28, go_sem]) rfl ?_
    exact ⟨rfl, rfl⟩

theorem rnew_good (c : Int) (w : World) (h : 1 ≤ c ∧ c ≤ 64) : Calls Try.prog 28 #[.int .i64 c] w fun e w' => ∃ y, e = .returned (.tuple #[.pointer (some ⟨y, 0, none⟩), .int .i64 0]) ∧ ∃ S, RB w' y c [] S ∧ (∀ k, S k → w.heap.size ≤ k) ∧ Below w.heap.size w w' := by
  have h1 : ¬ c < 1 := by omega
  have h2 : ¬ 64 < c := by omega
  go_enter Try.func28, Try.ntmps28
  go_wp2
  refine bodyPost_ret (v := .tuple #[.pointer (some ⟨w.heap.size, 0, none⟩), .int .i64 0]) (by simp [results, Try.results28, go_sem]) rfl ?_
  refine ⟨_, rfl, fun k => k = w.heap.size, ⟨[], .slice none 0 0, none, ⟨heap_alloc_new _ _, ⟨rfl, rfl⟩, by simp, by simp, by simp, by simp, ⟨rfl, by simp, by simp⟩, ?_⟩, rfl⟩, ?_, ?_⟩
  · rintro k rfl
    simp
  · rintro k rfl
    exact Nat.le_refl _
  · exact (Below.refl _ _).alloc (Nat.le_refl _) _

theorem rcount_any (y : Nat) (cl : Int) (G : List DG) (S : Nat → Prop) (w : World) (h : RB w y cl G S) : Calls Try.prog 30 #[.pointer (some ⟨y, 0, none⟩)] w fun e w' => e = .returned (.int .i64 G.length) ∧ w' = w := by
  obtain ⟨L, v, β, h, hG⟩ := h
  have hl : G.length = L.length := by rw [← hG]; simp
  have c1 := cell_row h.net 1
  obtain ⟨a, c, rfl, -⟩ := h.so.form
  simp at c1
  rw [← hl] at c1
  clear h hl hG
  go_enter Try.func30, Try.ntmps30
  go_wp2
  go_ret
  exact ⟨rfl, rfl⟩

theorem rnone_rk (y : Nat) (cl : Int) (L : List It) (S : Nat → Prop) (v : Value) (β : Option Nat) (w : World) (h : RK w y cl L S v β) (i : Int) :
    Calls Try.prog 51 #[.pointer (some ⟨y, 0, none⟩), .int .i64 i] w fun e w' => e = .returned (.bool (decide (¬ isAt L.length i))) ∧ w' = w := by
  have c1 := cell_row h.net 1
  obtain ⟨a, c, rfl, -⟩ := h.so.form
  simp at c1
  clear h
  by_cases h1 : i < 0
  · have hb : decide (¬ isAt L.length i) = true := decide_eq_true (by unfold isAt; omega)
    rw [hb]
    go_enter Try.func51, Try.ntmps51
    go_wp2
    go_ret
    exact ⟨rfl, rfl⟩
  · by_cases h2 : (L.length : Int) ≤ i
    · have hb : decide (¬ isAt L.length i) = true := decide_eq_true (by unfold isAt; omega)
      rw [hb]
      go_enter Try.func51, Try.ntmps51
      go_wp2
      go_ret
      exact ⟨rfl, rfl⟩
    · have hb : decide (¬ isAt L.length i) = false := decide_eq_false (by unfold isAt; omega)
      rw [hb]
      go_enter Try.func51, Try.ntmps51
      go_wp2
      go_ret
      exact ⟨rfl, rfl⟩

theorem rbad_rk (y : Nat) (cl : Int) (L : List It) (S : Nat → Prop) (v : Value) (β : Option Nat) (w : World) (h : RK w y cl L S v β) (i : Int) :
    Calls Try.prog 52 #[.pointer (some ⟨y, 0, none⟩), .int .i64 i] w fun e w' => e = .returned (.bool (decide (i < 0 ∨ cl < i))) ∧ w' = w := by
  have c0 := cell_row h.net 0
  simp at c0
  clear h
  by_cases h1 : i < 0
  · have hb : decide (i < 0 ∨ cl < i) = true := decide_eq_true (by omega)
    rw [hb]
    go_enter Try.func52, Try.ntmps52
    go_wp2
    go_ret
    exact ⟨rfl, rfl⟩
  · by_cases h2 : cl < i
    · have hb : decide (i < 0 ∨ cl < i) = true := decide_eq_true (by omega)
      rw [hb]
      go_enter Try.func52, Try.ntmps52
      go_wp2
      go_ret
      exact ⟨rfl, rfl⟩
    · have hb : decide (i < 0 ∨ cl < i) = false := decide_eq_false (by omega)
      rw [hb]
      go_enter Try.func52, Try.ntmps52
      go_wp2
      go_ret
      exact ⟨rfl, rfl⟩

theorem RowB.sb {w : World} {g : Nat} {xs : List Int} (h : RowB w g xs) (hl : xs.length ≤ 1000000) : SB w (some g) (.slice (some ⟨g, 0, none⟩) xs.length xs.length) xs :=
  ⟨xs.length, by rw [ints_len], _, h, by rw [List.toList_toArray]; exact List.take_of_length_le (Nat.le_refl _), rfl, by rw [ints_len]; exact Nat.le_refl _, by omega, by simp [ints]⟩

set_option maxRecDepth 100000 in
set_option maxHeartbeats 4000000 in
theorem rdup_any (d : DG) (a : Option Addr) (n c : Nat) (w : World) (hB : IsB w a n c d.b) (hn : n ≤ 1000000) :
    Calls Try.prog 45 #[.agg #[.int .i64 d.f, .int .i64 d.t, .slice a n c, .bool d.s]] w fun e w' => ∃ g, e = .returned (.agg #[.int .i64 d.f, .int .i64 d.t, .slice (some ⟨g, 0, none⟩) n n, .bool d.s]) ∧ SB w' (some g) (.slice (some ⟨g, 0, none⟩) n n) d.b ∧ w.heap.size ≤ g ∧ Below w.heap.size w w' := by
  obtain ⟨i0, hi0, hz0, hz1, hz2⟩ := info_parts Try.info5
  obtain ⟨f, t, ys, s⟩ := d
  simp only at hB ⊢
  have HY := hd hB
  have hnc : n ≤ c ∧ c ≤ 9223372036854775807 := ⟨hB.2.1, hB.2.2.1⟩
  clear hB
  go_enter Try.func45, Try.ntmps45
  go_wp2_with (first | (at_make; refine wpList_make_b _ rfl _ _ 28 rfl 5 i0 Try.underlying28 hi0 hz0 hz1 hz2 _ _ _ _ n rfl rfl (by go_num) (by go_num) (by omega) ?_; intro w1 hg1 hb1 hs1) | fail)
  have k0 : w1.heap[w.heap.size]? = some (.cells #[.int .i64 f, .int .i64 t, .slice a n c, .bool s] 37 (0, 0)) := by
    rw [hb1.out.block _ (by simp; omega), heap_alloc_old _ _ (by simp)]
    exact heap_alloc_new _ _
  have k1 : w1.heap[w.heap.size + 1]? = some (.cells #[.int .i64 0, .int .i64 0, .slice none 0 0, .bool false] 37 (0, 0)) := by
    rw [hb1.out.block _ (by simp)]
    have := heap_alloc_new (w.alloc (.cells #[.int .i64 f, .int .i64 t, .slice a n c, .bool s] 37)) (.cells #[.int .i64 0, .int .i64 0, .slice none 0 0, .bool false] 37)
    rw [World.size_alloc] at this
    exact this
  have B1 : Below w.heap.size w w1 := (((Below.refl _ w).alloc (Nat.le_refl _) _).alloc (by simp) _).trans (hb1.out.mono (by simp; omega))
  have R0 : Hid (RowB w1 (w.heap.size + 1 + 1) (fillB ys n 0) ∧ w1.heap[w.heap.size]? = some (.cells #[.int .i64 f, .int .i64 t, .slice a n c, .bool s] 37 (0, 0)) ∧ w1.heap[w.heap.size + 1]? = some (.cells #[.int .i64 0, .int .i64 0, .slice none 0 0, .bool false] 37 (0, 0)) ∧ Below w.heap.size w w1) := by
    refine ⟨?_, k0, k1, B1⟩
    rw [fillB_zero]
    have := hg1.out
    simp only [World.size_alloc] at this
    exact this
  clear hg1 hb1 hs1 hi0 hz0 hz1 hz2 k0 k1 B1
  go_loopw [4] (fun v wr => ∃ k : Nat, k ≤ n ∧ v = .int .i64 k ∧ Hid (RowB wr (w.heap.size + 1 + 1) (fillB ys n k) ∧ wr.heap[w.heap.size]? = some (.cells #[.int .i64 f, .int .i64 t, .slice a n c, .bool s] 37 (0, 0)) ∧ wr.heap[w.heap.size + 1]? = some (.cells #[.int .i64 0, .int .i64 0, .slice none 0 0, .bool false] 37 (0, 0)) ∧ Below w.heap.size w wr)) (fun v _ => n - (intOf v).toNat)
  case atStart => exact ⟨0, Nat.zero_le _, rfl, R0⟩
  case round =>
    obtain ⟨k, hk, rfl, HR⟩ := hrel
    clear R0
    obtain ⟨p0, p1, p2, p3⟩ := cells4 HR.out.2.1
    by_cases hlt : k < n
    · have hlen := fillB_len ys n n k HY.out.1 (by omega) (by omega)
      have B1 := HY.out.below HR.out.2.2.2
      obtain ⟨b, off, rfl, hb, hc⟩ := B1.2.2.2 (by omega)
      have e1 := hc k hlt
      have e2 := cell_of HR.out.1 k (by omega)
      have f2 := frozen_row HR.out.1 k
      have i2 : (k : Int) < (n : Int) := by omega
      obtain ⟨z, hz⟩ : ∃ z, ys.getD k 0 = z := ⟨_, rfl⟩
      rw [hz] at e1
      have Z : Hid (RowB (wr.setCell ⟨w.heap.size + 1 + 1, k, none⟩ (.int .u8 z)) (w.heap.size + 1 + 1) (fillB ys n (k + 1)) ∧ (wr.setCell ⟨w.heap.size + 1 + 1, k, none⟩ (.int .u8 z)).heap[w.heap.size]? = some (.cells #[.int .i64 f, .int .i64 t, .slice (some ⟨b, off, none⟩) n c, .bool s] 37 (0, 0)) ∧ (wr.setCell ⟨w.heap.size + 1 + 1, k, none⟩ (.int .u8 z)).heap[w.heap.size + 1]? = some (.cells #[.int .i64 0, .int .i64 0, .slice none 0 0, .bool false] 37 (0, 0)) ∧ Below w.heap.size w (wr.setCell ⟨w.heap.size + 1 + 1, k, none⟩ (.int .u8 z))) := by
        have F : Fr (· = w.heap.size + 1 + 1) wr (wr.setCell ⟨w.heap.size + 1 + 1, k, none⟩ (.int .u8 z)) := Fr.setCell _ _ _ rfl
        refine ⟨?_, F.keeps HR.out.2.1 (by omega), F.keeps HR.out.2.2.1 (by omega), HR.out.2.2.2.setCell (by simp; omega) _⟩
        rw [← fillB_set ys n n k HY.out.1 hlt (by omega), hz]
        exact HR.out.1.set k z
      clear hlen B1 hc hz
      generalize (fillB ys n k).getD k 0 = zz at e2
      go_wp2_with fail
      exact ⟨⟨k + 1, by omega, by go_num, Z⟩, by simp [intOf]; omega⟩
    · obtain rfl : k = n := by omega
      have hF : fillB ys k k = ys := by
        unfold fillB
        rw [List.take_of_length_le (by rw [HY.out.1]; exact Nat.le_refl _)]
        simp
      obtain ⟨RW, r0, r1, bb⟩ := HR.out
      rw [hF] at RW
      have hS := RW.sb (by rw [HY.out.1]; omega)
      rw [HY.out.1] at hS
      have f0 := frozen_row r0 2
      obtain ⟨q0, q1, q2, q3⟩ := cells4 r1
      have g0 := frozen_row r1 0
      have g1 := frozen_row r1 1
      have g2 := frozen_row r1 2
      have g3 := frozen_row r1 3
      have R := hd (And.intro hS bb)
      clear RW r0 r1 bb hS hF HR hlt hk
      go_wp2
      refine bodyPost_ret (v := .agg #[.int .i64 f, .int .i64 t, .slice (some ⟨w.heap.size + 1 + 1, 0, none⟩) k k, .bool s]) (by simp [results, Try.results45, go_sem, *]) rfl ?_
      obtain ⟨hS, hB⟩ := R.out
      refine ⟨_, rfl, ?_, by omega, ?_⟩
      · refine SRow.fr hS (S := fun k => k = w.heap.size ∨ k = w.heap.size + 1) ?_ (fun g hg h => by injection hg with hg; omega)
        repeat (first | exact Fr.refl _ _ | refine Fr.trans ?_ (Fr.setCell _ _ _ (by first | exact .inl rfl | exact .inr rfl)))
      · repeat (first | exact hB | refine Below.setCell ?_ (by simp) _)

end Go.Proofs.Ytnglcnilckolkaa
