/-
  The document outbox.
-/
import Derived.Test.YtocpfioifamkmaaAg
namespace Go.Proofs.Ytocpfioifamkmaa
open Go.RowKit
set_option linter.unusedVariables false

/-- What is left is what was put, but for the acknowledged. -/
def Rk (p : St) (put : List Int) : Prop := p.last = put.length ∧ p.L = put.drop p.a

theorem Rk.len {p : St} {put : List Int} (h : Rk p put) : p.L.length = put.length - p.a ∧ p.a ≤ put.length := by
  have h1 := h.1
  unfold St.last at h1
  omega
theorem Rk.left {p : St} {put : List Int} (h : Rk p put) : ∀ i, i < p.L.length → ∃ y, (leftL p)[i]? = some ((p.a : Int) + 1 + i, y) ∧ put[p.a + i]? = some y := by
  intro i hi
  refine ⟨p.L[i], items_get p.a p.L i hi, ?_⟩
  have : p.L[i]? = put[p.a + i]? := by rw [h.2, List.getElem?_drop]
  rw [← this, List.getElem?_eq_getElem hi]
theorem Rk.due {p : St} {put : List Int} (h : Rk p put) : ∀ i, i < dueN p → ∃ y, (dueL p)[i]? = some ((p.a : Int) + 1 + i, y) ∧ put[p.a + i]? = some y := by
  intro i hi
  have hl : i < p.L.length := by simp [dueN] at hi; omega
  obtain ⟨y, h1, h2⟩ := h.left i hl
  refine ⟨y, ?_, h2⟩
  have : dueL p = (leftL p).take (dueN p) := by unfold dueL leftL; rw [items_take]
  rw [this, List.getElem?_take, if_pos hi]
  exact h1
theorem Rk.push {p : St} {put : List Int} (h : Rk p put) (hok : p.ok) (x : Int) (hf : ¬ 4096 ≤ p.last) : Rk (pushS p x) (put ++ [x]) := by
  have := h.len
  rw [pushS, if_neg hf]
  refine ⟨?_, ?_⟩
  · have := h.1; simp [St.last] at this ⊢; omega
  · show p.L ++ [x] = _
    rw [List.drop_append_of_le_length this.2, h.2]
theorem Rk.ack {p : St} {put : List Int} (h : Rk p put) (hok : p.ok) (n : Int) : Rk (ackS p n) put := by
  refine ⟨(ackS_last hok n).trans h.1, ?_⟩
  unfold ackS
  split
  · next hc =>
    show p.L.drop (n.toNat - p.a) = put.drop n.toNat
    rw [h.2, List.drop_drop]
    congr 1
    omega
  · exact h.2
theorem Rk.dueS {p : St} {put : List Int} (h : Rk p put) : Rk (dueS p) put := h
theorem Rk.reset (p : St) : Rk (resetS p) [] := ⟨rfl, rfl⟩

theorem Rk.ofAck {p : St} {put : List Int} (h : Rk p put) (hok : p.ok) (n : Int) : Rk (ackS p n) put := h.ack hok n

/-- The document outbox at block y: all that was put, its row at block β. -/
structure RK (w : World) (y : Nat) (p : St) (put : List Int) (v : Value) (β : Option Nat) : Prop where
  box : w.heap[y]? = some (.cells #[.int .i64 p.W, v, .int .i64 p.a, .int .i64 p.s] 88 (0, 0))
  row : SF ei 1 w 3 β v put
  ok : p.ok
  lk : Rk p put

def RAt (w : World) (y : Nat) (p : St) (S : Nat → Prop) : Prop := ∃ put v β, RK w y p put v β ∧ S y ∧ (∀ g, β = some g → S g) ∧ ∀ k, S k → k < w.heap.size

theorem RK.fr {S : Nat → Prop} {w w' : World} {y : Nat} {p : St} {put : List Int} {v : Value} {β : Option Nat} (h : RK w y p put v β) (hF : Fr S w w') (hy : ¬ S y) (hS : ∀ g, β = some g → ¬ S g) : RK w' y p put v β :=
  ⟨hF.keeps h.box hy, h.row.fr hF hS, h.ok, h.lk⟩
theorem RK.below {w w' : World} {y : Nat} {p : St} {put : List Int} {v : Value} {β : Option Nat} (h : RK w y p put v β) (hb : Below w.heap.size w w') : RK w' y p put v β :=
  h.fr (S := fun _ => False) (Fr.of_below hb) (fun h => h) (fun _ _ h => h)
theorem RAt.fr {S T : Nat → Prop} {w w' : World} {y : Nat} {p : St} (h : RAt w y p S) (hF : Fr T w w') (hS : ∀ k, S k → ¬ T k) : RAt w' y p S := by
  obtain ⟨put, v, β, h, h1, h2, h3⟩ := h
  exact ⟨put, v, β, h.fr hF (hS y h1) (fun g hg => hS g (h2 g hg)), h1, h2, fun k hk => Nat.lt_of_lt_of_le (h3 k hk) hF.size⟩
theorem RAt.below {S : Nat → Prop} {w w' : World} {y : Nat} {p : St} (h : RAt w y p S) (hb : Below w.heap.size w w') : RAt w' y p S :=
  h.fr (T := fun _ => False) (Fr.of_below hb) (fun _ _ h => h)
theorem RAt.old {S : Nat → Prop} {w : World} {y : Nat} {p : St} (h : RAt w y p S) : ∀ k, S k → k < w.heap.size := by
  obtain ⟨put, v, β, h, -, -, h3⟩ := h
  exact h3
theorem RAt.ok {S : Nat → Prop} {w : World} {y : Nat} {p : St} (h : RAt w y p S) : p.ok := by
  obtain ⟨put, v, β, h, -⟩ := h
  exact h.ok
def RNow (w w' : World) (y : Nat) (p : St) (S : Nat → Prop) : Prop := ∃ S', RAt w' y p S' ∧ (∀ k, S' k → S k ∨ w.heap.size ≤ k) ∧ Fr S w w'
theorem RAt.now {w w' : World} {y : Nat} {p : St} {S : Nat → Prop} (h : RAt w y p S) (hb : Below w.heap.size w w') : RNow w w' y p S := ⟨S, h.below hb, fun k hk => .inl hk, Fr.of_below hb⟩

theorem RK.y_ne {w : World} {y : Nat} {p : St} {put : List Int} {v : Value} {β : Option Nat} (h : RK w y p put v β) : β ≠ some y := by
  rintro rfl
  obtain ⟨cur, h1⟩ := h.row.blk
  have := h.box
  rw [h1] at this
  simp at this

theorem rnew_bad (W : Int) (w : World) (h : W < 1 ∨ 4096 < W) : Calls Try.prog 28 #[.int .i64 W] w fun e w' => e = .returned (.tuple #[.pointer none, .int .i64 80]) ∧ w' = w := by
  by_cases h1 : W < 1
  · go_enter Try.func28, Try.ntmps28
    go_wp2
    refine bodyPost_ret (v := .tuple #[.pointer none, .int .i64 80]) (by simp [results, Try.results28, go_sem]) rfl ?_
    exact ⟨rfl, rfl⟩
  · have h2 : 4096 < W := by omega
    go_enter Try.func28, Try.ntmps28
    go_wp2
    refine bodyPost_ret (v := .tuple #[.pointer none, .int .i64 80]) (by simp [results, Try.results28, go_sem]) rfl ?_
    exact ⟨rfl, rfl⟩
theorem rnew_good (W : Nat) (w : World) (hW1 : 1 ≤ W) (hW2 : W ≤ 4096) : Calls Try.prog 28 #[.int .i64 W] w fun e w' => ∃ x, e = .returned (.tuple #[.pointer (some ⟨x, 0, none⟩), .int .i64 0]) ∧ ∃ S, RAt w' x ⟨W, 0, 0, []⟩ S ∧ (∀ k, S k → w.heap.size ≤ k) ∧ Below w.heap.size w w' := by
  have h1 : ¬ (W : Int) < 1 := by omega
  have h2 : ¬ (4096 : Int) < W := by omega
  go_enter Try.func28, Try.ntmps28
  go_wp2
  refine bodyPost_ret (v := .tuple #[.pointer (some ⟨w.heap.size, 0, none⟩), .int .i64 0]) (by simp [results, Try.results28, go_sem]) rfl ?_
  refine ⟨_, rfl, fun k => k = w.heap.size, ⟨[], .slice none 0 0, none, ⟨heap_alloc_new w _, ⟨rfl, rfl⟩, ⟨hW1, hW2, Nat.le_refl _, by simp, by simp⟩, ⟨rfl, rfl⟩⟩, rfl, by simp, ?_⟩, ?_, ?_⟩
  · rintro k rfl; simp
  · rintro k rfl; omega
  · exact (Below.refl _ _).alloc (Nat.le_refl _) _

theorem racked_any (y : Nat) (p : St) (S : Nat → Prop) (w : World) (h : RAt w y p S) : Calls Try.prog 42 #[.pointer (some ⟨y, 0, none⟩)] w fun e w' => e = .returned (.int .i64 p.a) ∧ w' = w := by
  obtain ⟨put, v, β, h, -⟩ := h
  have c1 := cell_row h.box 2
  simp at c1
  clear h
  go_enter Try.func42, Try.ntmps42
  go_wp2
  go_ret
  exact ⟨rfl, rfl⟩
theorem rsent_any (y : Nat) (p : St) (S : Nat → Prop) (w : World) (h : RAt w y p S) : Calls Try.prog 44 #[.pointer (some ⟨y, 0, none⟩)] w fun e w' => e = .returned (.int .i64 p.s) ∧ w' = w := by
  obtain ⟨put, v, β, h, -⟩ := h
  have c1 := cell_row h.box 3
  simp at c1
  clear h
  go_enter Try.func44, Try.ntmps44
  go_wp2
  go_ret
  exact ⟨rfl, rfl⟩
theorem rlast_any (y : Nat) (p : St) (S : Nat → Prop) (w : World) (h : RAt w y p S) : Calls Try.prog 46 #[.pointer (some ⟨y, 0, none⟩)] w fun e w' => e = .returned (.int .i64 p.last) ∧ w' = w := by
  obtain ⟨put, v, β, h, -⟩ := h
  obtain ⟨a, c, rfl, -⟩ := h.row.form
  have c1 := cell_row h.box 1
  simp at c1
  rw [h.lk.1]
  clear h
  go_enter Try.func46, Try.ntmps46
  go_wp2
  go_ret
  exact ⟨rfl, rfl⟩

theorem rreset_any (y : Nat) (p : St) (S : Nat → Prop) (w : World) (h : RAt w y p S) :
    Calls Try.prog 38 #[.pointer (some ⟨y, 0, none⟩)] w fun e w' => e = .returned (.tuple #[]) ∧ RNow w w' y (resetS p) S := by
  obtain ⟨put, v, β, hK, hSx, hSβ, hS⟩ := h
  have c1 := cell_row hK.box 1
  have c2 := cell_row hK.box 2
  have c3 := cell_row hK.box 3
  simp at c1 c2 c3
  have f1 := frozen_row hK.box 1
  have f2 := frozen_row hK.box 2
  have f3 := frozen_row hK.box 3
  have HK := hd hK
  have HX := hd (And.intro hSx (And.intro hSβ hS))
  clear hK hSx hSβ hS
  go_enter Try.func38, Try.ntmps38
  go_wp2
  refine bodyPost_end (v := .tuple #[]) (by simp [results, Try.results38, go_sem]) rfl ?_
  refine ⟨rfl, ?_⟩
  have hx0 := HK.out.box
  have h1 := set_row (set_row (set_row hx0 1 (.slice none 0 0)) 2 (.int .i64 0)) 3 (.int .i64 0)
  refine ⟨fun k => k = y, ⟨[], .slice none 0 0, none, ⟨by simpa [resetS] using h1, ⟨rfl, rfl⟩, resetS_ok HK.out.ok, Rk.reset p⟩, rfl, by simp, ?_⟩, ?_, ?_⟩
  · rintro k rfl
    exact block_lt h1
  · rintro k rfl
    exact .inl HX.out.1
  · exact ((Fr.setCell _ _ _ HX.out.1).trans (Fr.setCell _ _ _ HX.out.1)).trans (Fr.setCell _ _ _ HX.out.1)

theorem rack_any (y : Nat) (p : St) (n : Int) (S : Nat → Prop) (w : World) (h : RAt w y p S) :
    Calls Try.prog 33 #[.pointer (some ⟨y, 0, none⟩), .int .i64 n] w fun e w' => e = .returned (.int .i64 (ackE p n)) ∧ RNow w w' y (ackS p n) S := by
  have H := hd h
  obtain ⟨put, v, β, hK, hSx, hSβ, hS⟩ := h
  have c2 := cell_row hK.box 2
  have c3 := cell_row hK.box 3
  simp at c2 c3
  have f2 := frozen_row hK.box 2
  have hok := hK.ok
  by_cases h1 : n < 0
  · have e1 : Hid (ackE p n = 82 ∧ ackS p n = p) := ⟨by rw [ackE, if_pos (.inl h1)], by rw [ackS, if_neg (by omega)]⟩
    clear hK hSx hSβ hS hok
    go_enter Try.func33, Try.ntmps33
    go_wp2
    go_ret
    rw [e1.out.1, e1.out.2]
    exact ⟨rfl, H.out.now (Below.refl _ _)⟩
  by_cases h2 : (p.s : Int) < n
  · have e1 : Hid (ackE p n = 82 ∧ ackS p n = p) := ⟨by rw [ackE, if_pos (.inr h2)], by rw [ackS, if_neg (by omega)]⟩
    clear hK hSx hSβ hS hok
    go_enter Try.func33, Try.ntmps33
    go_wp2
    go_ret
    rw [e1.out.1, e1.out.2]
    exact ⟨rfl, H.out.now (Below.refl _ _)⟩
  have e0 : ackE p n = 0 := by rw [ackE, if_neg (by omega)]
  rw [e0]
  by_cases h3 : (p.a : Int) < n
  · have HK := hd hK
    have HX := hd (And.intro hSx (And.intro hSβ hS))
    have HS : Hid (ackS p n = { p with a := n.toNat, L := p.L.drop (n.toNat - p.a) }) := by show _ = _; rw [ackS, if_pos (by omega)]
    have hn0 : Hid (((n.toNat : Nat) : Int) = n) := by show _ = _; omega
    clear hK hSx hSβ hS hok e0
    go_enter Try.func33, Try.ntmps33
    go_wp2
    go_ret
    refine ⟨rfl, ?_⟩
    have h1 := set_row HK.out.box 2 (.int .i64 n)
    have hF : Fr (· = y) w (w.setCell ⟨y, 2, none⟩ (.int .i64 n)) := Fr.setCell _ _ _ rfl
    refine ⟨fun k => k = y ∨ β = some k, ⟨put, v, β, ⟨?_, HK.out.row.fr hF (fun g hg he => HK.out.y_ne (by rw [hg, he])), ackS_ok HK.out.ok n, HK.out.lk.ack HK.out.ok n⟩, .inl rfl, fun g hg => .inr hg, ?_⟩, ?_, hF.mono (fun k _ hk => by rw [hk]; exact HX.out.1)⟩
    · rw [HS.out]
      simp only
      rw [hn0.out]
      simpa using h1
    · rintro k (rfl | hk)
      · exact block_lt h1
      · have := HK.out.row.lt k hk; simp; omega
    · rintro k (rfl | hk)
      · exact .inl HX.out.1
      · exact .inl (HX.out.2.1 k hk)
  · have e1 : Hid (ackS p n = p) := by show _ = _; rw [ackS, if_neg (by omega)]
    clear hK hSx hSβ hS hok e0
    go_enter Try.func33, Try.ntmps33
    go_wp2
    go_ret
    rw [e1.out]
    exact ⟨rfl, H.out.now (Below.refl _ _)⟩

end Go.Proofs.Ytocpfioifamkmaa
