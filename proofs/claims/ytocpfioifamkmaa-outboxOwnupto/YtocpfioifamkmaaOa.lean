/-
  Lists that were handed out, each with the items that it must have: sameList of two of them.
-/
import Derived.Test.YtocpfioifamkmaaSa
namespace Go.Proofs.Ytocpfioifamkmaa
open Go.RowKit
set_option linter.unusedVariables false

/-- A slice of items, as a value. -/
structure SV where
  a : Option Addr
  n : Nat
  c : Nat
def sv (s : SV) : List Value := [.slice s.a s.n s.c]
theorem sz_sv : Sz sv 1 := fun x => ⟨rfl, fun v hv => by simp [sv] at hv; subst hv; rfl⟩
theorem Try.infoSl : (Try.prog.info? 35).map (fun i => (i.zero, i.size, i.bytes)) = some (some (.slice none 0 0), 1, 24) := by kernel_rfl

/-- The slice holds xs, in a block of S. -/
def HI (w : World) (S : Nat → Prop) (s : SV) (xs : List (Int × Int)) : Prop :=
  xs.length = s.n ∧ s.n ≤ s.c ∧ s.c ≤ 9223372036854775807 ∧ (0 < s.n → ∃ b cur, s.a = some ⟨b, 0, none⟩ ∧ S b ∧ w.heap[b]? = some (.cells (List.toArray cur) 38 (0, 0)) ∧ cur.take (s.n * 2) = cl it xs)

theorem HI.fr {S T : Nat → Prop} {w w' : World} {s : SV} {xs : List (Int × Int)} (h : HI w S s xs) (hF : Fr T w w') (hS : ∀ k, S k → ¬ T k) : HI w' S s xs := by
  obtain ⟨h1, h2, h3, h4⟩ := h
  refine ⟨h1, h2, h3, fun hn => ?_⟩
  obtain ⟨b, cur, e1, e2, e3, e4⟩ := h4 hn
  exact ⟨b, cur, e1, e2, hF.keeps e3 (hS b e2), e4⟩
theorem HI.more {S S' : Nat → Prop} {w : World} {s : SV} {xs : List (Int × Int)} (h : HI w S s xs) (hS : ∀ k, S k → S' k) : HI w S' s xs := by
  obtain ⟨h1, h2, h3, h4⟩ := h
  refine ⟨h1, h2, h3, fun hn => ?_⟩
  obtain ⟨b, cur, e1, e2, e3, e4⟩ := h4 hn
  exact ⟨b, cur, e1, hS b e2, e3, e4⟩
theorem HI.typed {S : Nat → Prop} {w w' : World} {s : SV} {xs : List (Int × Int)} (h : HI w S s xs) (hS : ∀ b cur, S b → w.heap[b]? = some (.cells cur 38 (0, 0)) → w'.heap[b]? = w.heap[b]?) : HI w' S s xs := by
  obtain ⟨h1, h2, h3, h4⟩ := h
  refine ⟨h1, h2, h3, fun hn => ?_⟩
  obtain ⟨b, cur, e1, e2, e3, e4⟩ := h4 hn
  exact ⟨b, cur, e1, e2, (hS b _ e2 e3).trans e3, e4⟩
theorem HI.cell {S : Nat → Prop} {w w' : World} {s : SV} {xs : List (Int × Int)} (h : HI w S s xs) (hb : Below w.heap.size w w') (i : Nat) (hi : i < s.n) : ∃ b, s.a = some ⟨b, 0, none⟩ ∧ w'.cell? ⟨b, i * 2, none⟩ = some (.int .i64 (xs[i]'(by have := h.1; omega)).1) ∧ w'.cell? ⟨b, i * 2 + 1, none⟩ = some (.int .i64 (xs[i]'(by have := h.1; omega)).2) := by
  obtain ⟨h1, h2, h3, h4⟩ := h
  obtain ⟨b, cur, e1, e2, e3, e4⟩ := h4 (by omega)
  have e5 := (hb.block b (block_lt e3)).trans e3
  have hil : i < xs.length := by omega
  have hq : ∀ j, j < 2 → w'.cell? ⟨b, i * 2 + j, none⟩ = (it xs[i])[j]? := by
    intro j hj
    rw [cell_row e5, ← cl_get sz_it xs i j hil hj, ← e4, List.getElem?_take, if_pos (by omega)]
    simp
  refine ⟨b, e1, ?_, ?_⟩
  · have := hq 0 (by omega)
    simpa [it] using this
  · have := hq 1 (by omega)
    simpa [it] using this
theorem SF.hi {w : World} {β : Option Nat} {a : Option Addr} {n c : Nat} {xs : List (Int × Int)} {S : Nat → Prop} (h : SF it 2 w 38 β (.slice a n c) xs) (hS : ∀ b, β = some b → S b) : HI w S ⟨a, n, c⟩ xs := by
  cases β with
  | none =>
    obtain ⟨h1, rfl⟩ := h
    injection h1 with h1 h2 h3
    subst h1 h2 h3
    exact ⟨rfl, Nat.le_refl _, by simp, fun h => by simp at h⟩
  | some g =>
    obtain ⟨cap, h1, cur, hh, ht, hl, h2, h3, h4⟩ := h
    injection h1 with h1 h5 h6
    subst h1 h5 h6
    exact ⟨rfl, h2, h3, fun _ => ⟨g, cur, rfl, hS g rfl, hh, ht⟩⟩

set_option maxRecDepth 100000 in
set_option maxHeartbeats 4000000 in
theorem sameList_hi (S S' : Nat → Prop) (a a' : Option Addr) (n n' c c' : Nat) (xs : List (Int × Int)) (w : World) (h1 : HI w S ⟨a, n, c⟩ xs) (h2 : HI w S' ⟨a', n', c'⟩ xs) :
    Calls Try.prog 20 #[.slice a n c, .slice a' n' c'] w fun e w' => e = .returned (.bool true) ∧ ∃ m, w' = w.drewN m := by
  obtain rfl : n = n' := h1.1.symm.trans h2.1
  have H1 := hd h1
  have H2 := hd h2
  have nc := h1.2.1
  have cm := h1.2.2.1
  have nc' := h2.2.1
  have cm' := h2.2.2.1
  simp only at nc cm nc' cm'
  clear h1 h2
  go_enter Try.func20, Try.ntmps20
  go_wp2_with fail
  go_loopw [5] (fun v wr => ∃ k : Nat, k ≤ n ∧ v = .int .i64 k ∧ Hid (∃ m, wr = w.drewN m)) (fun v _ => n - (intOf v).toNat)
  case atStart => exact ⟨0, Nat.zero_le _, rfl, 0, rfl⟩
  case round =>
    obtain ⟨i, hi, rfl, HB⟩ := hrel
    obtain ⟨m, hm⟩ := HB.out
    by_cases hlt : i < n
    · have hb : Below w.heap.size w wr := by rw [hm]; exact below_drewN (Below.refl _ _) _
      obtain ⟨b, e1, c0, c1⟩ := H1.out.cell hb i hlt
      obtain ⟨b', e2, d0, d1⟩ := H2.out.cell hb i hlt
      simp only at e1 e2
      subst e1 e2
      have i1 : (i : Int) < (n : Int) := by omega
      generalize (xs[i]'(by have := H1.out.1; simp only at this; omega)).1 = z0 at c0 d0
      generalize (xs[i]'(by have := H1.out.1; simp only at this; omega)).2 = z1 at c1 d1
      have HM := hd hm
      clear hm hb
      go_wp2_with fail
      go_quiet (fail)
      go_wp2_with fail
      refine ⟨⟨i + 1, by omega, by go_num, ?_⟩, by simp [intOf]; omega⟩
      rw [HM.out]
      exact ⟨_, World.drewN_drewN _ _ _⟩
    · have i1 : ¬ (i : Int) < (n : Int) := by omega
      have HM := hd hm
      clear hm
      go_wp2
      go_ret
      exact ⟨rfl, m, HM.out⟩

end Go.Proofs.Ytocpfioifamkmaa
