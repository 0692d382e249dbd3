/-
  The document's inbox: its state, New, find, Cum, Head.
-/
import Derived.Test.YtpjnhjijipcjkaaMb
import Derived.Test.YtpjnhjijipcjkaaOc
namespace Go.Proofs.Ytpjnhjijipcjkaa
open Go.RowKit
set_option linter.unusedVariables false

/-- The document's inbox, without memory. -/
structure Rb where
  R : Nat
  c : Nat
  L : List (Nat × Int)
def iH (L : List (Nat × Int)) : List (Nat × Value) := L.map (fun q => (q.1, .int .i64 q.2))
def Rb.ib (p : Rb) : Ib := ⟨p.R, p.c, iH p.L⟩
def fN (L : List (Nat × Int)) (k : Nat) : Nat := L.findIdx (fun q => q.1 == k)
def fZ (L : List (Nat × Int)) (k : Nat) : Int := if fN L k < L.length then fN L k else -1

theorem has_iH (L : List (Nat × Int)) (k : Nat) : hasK (iH L) k = decide (fN L k < L.length) := by
  unfold hasK iH fN
  rw [List.any_map, Bool.eq_iff_iff, decide_eq_true_eq, List.any_eq_true, List.findIdx_lt_length]
  rfl
theorem at_iH {L : List (Nat × Int)} {k : Nat} (h : fN L k < L.length) : atK (iH L) k iz = .int .i64 (L[fN L k]).2 ∧ (L[fN L k]).1 = k := by
  have h1 : (L[fN L k]).1 = k := by
    have := List.findIdx_getElem (p := fun q : Nat × Int => q.1 == k) (w := h)
    exact eq_of_beq this
  refine ⟨?_, h1⟩
  unfold atK iH
  rw [List.find?_map]
  have h2 : L.find? ((fun q : Nat × Value => q.1 == k) ∘ fun q : Nat × Int => (q.1, Value.int .i64 q.2)) = some L[fN L k] := by
    have : L.find? (fun q => q.1 == k) = some L[fN L k] := by
      rw [List.find?_eq_some_iff_getElem]
      refine ⟨by simpa using h1, fN L k, h, rfl, fun j hj => ?_⟩
      have := List.not_of_lt_findIdx (p := fun q : Nat × Int => q.1 == k) hj
      simpa using this
    exact this
  rw [h2]
  rfl
theorem fN_before {L : List (Nat × Int)} {k j : Nat} (hj : j < fN L k) (hl : j < L.length) : (L[j]).1 ≠ k := by
  have := List.not_of_lt_findIdx (p := fun q : Nat × Int => q.1 == k) hj
  simpa using this
theorem fN_eq {L : List (Nat × Int)} {k i : Nat} (hi : i < L.length) (h1 : (L[i]).1 = k) (h2 : ∀ j (hj : j < i), (L[j]'(by omega)).1 ≠ k) : fN L k = i := by
  unfold fN
  rw [List.findIdx_eq hi]
  exact ⟨by simpa using h1, fun j hj => by simpa using h2 j hj⟩
theorem fN_none {L : List (Nat × Int)} {k : Nat} (h2 : ∀ j (hj : j < L.length), (L[j]).1 ≠ k) : ¬ fN L k < L.length := by
  intro h
  exact h2 _ h (at_iH h).2

def th (q : Nat × Int) : List Value := [.int .i64 q.1, .int .i64 q.2]
theorem sz_th : Sz th 2 := fun x => ⟨rfl, fun v hv => by simp [th] at hv; rcases hv with rfl | rfl <;> rfl⟩
theorem Try.infoTh : (Try.prog.info? 111).map (fun i => (i.zero, i.size, i.bytes)) = some (some (.agg #[.int .i64 0, .int .i64 0]), 2, 16) := by kernel_rfl

structure RK (w : World) (x : Nat) (p : Rb) (v : Value) (β : Option Nat) : Prop where
  box : w.heap[x]? = some (.cells #[.int .i64 p.R, .int .i64 p.c, v] 100 (0, 0))
  row : SF th 2 w 111 β v p.L
  ok : p.ib.ok
def RefAt (w : World) (x : Nat) (p : Rb) (S : Nat → Prop) : Prop := ∃ v β, RK w x p v β ∧ S x ∧ (∀ g, β = some g → S g) ∧ ∀ k, S k → k < w.heap.size
def refO (x : Nat) (p : Rb) : Thg := fun w S => RefAt w x p S

section
variable {w w' : World} {x : Nat} {p : Rb} {v : Value} {β : Option Nat} {S T : Nat → Prop}
theorem RK.fr (h : RK w x p v β) (hF : Fr S w w') (hx : ¬ S x) (hS : ∀ g, β = some g → ¬ S g) : RK w' x p v β := ⟨hF.keeps h.box hx, h.row.fr hF hS, h.ok⟩
theorem RK.below (h : RK w x p v β) (hb : RowKit.Below w.heap.size w w') : RK w' x p v β := h.fr (S := fun _ => False) (Fr.of_below hb) (fun h => h) (fun _ _ h => h)
theorem RK.len (h : RK w x p v β) : p.L.length ≤ 4096 := by
  have h1 := h.ok.len
  have h2 := h.ok.r2
  simp only [Rb.ib, iH, List.length_map] at h1 h2
  omega
theorem RK.x_ne (h : RK w x p v β) : β ≠ some x := by
  rintro rfl
  obtain ⟨cur, h1⟩ := h.row.blk
  have := h.box
  rw [h1] at this
  simp at this
theorem RefAt.fr (h : RefAt w x p S) (hF : Fr T w w') (hS : ∀ k, S k → ¬ T k) : RefAt w' x p S := by
  obtain ⟨v, β, h, h1, h2, h3⟩ := h
  exact ⟨v, β, h.fr hF (hS x h1) (fun g hg => hS g (h2 g hg)), h1, h2, fun k hk => Nat.lt_of_lt_of_le (h3 k hk) hF.size⟩
theorem RefAt.below (h : RefAt w x p S) (hb : RowKit.Below w.heap.size w w') : RefAt w' x p S := h.fr (T := fun _ => False) (Fr.of_below hb) (fun _ _ h => h)
end
theorem frm_ref (x : Nat) (p : Rb) : Frm (refO x p) := ⟨fun _ _ _ _ h hF hS => h.fr hF hS, fun _ _ ⟨_, _, _, _, _, h⟩ => h⟩
def RNow (w w' : World) (x : Nat) (p : Rb) (S : Nat → Prop) : Prop := ∃ S', RefAt w' x p S' ∧ (∀ k, S' k → S k ∨ w.heap.size ≤ k) ∧ Fr S w w'

theorem r_new_bad (R : Int) (w : World) (h : R < 1 ∨ 4096 < R) : Calls Try.prog 42 #[.int .i64 R] w fun e w' => e = .returned (.tuple #[.pointer none, .int .i64 90]) ∧ w' = w := by
  by_cases h1 : R < 1
  · go_enter Try.func42, Try.ntmps42
    go_wp2
    refine bodyPost_ret (v := .tuple #[.pointer none, .int .i64 90]) (by simp [results, Try.results42, go_sem]) rfl ?_
    exact ⟨rfl, rfl⟩
  · have h2 : 4096 < R := by omega
    go_enter Try.func42, Try.ntmps42
    go_wp2
    refine bodyPost_ret (v := .tuple #[.pointer none, .int .i64 90]) (by simp [results, Try.results42, go_sem]) rfl ?_
    exact ⟨rfl, rfl⟩
theorem r_new_good (R : Nat) (w : World) (hR1 : 1 ≤ R) (hR2 : R ≤ 4096) : Calls Try.prog 42 #[.int .i64 R] w fun e w' => ∃ x, e = .returned (.tuple #[.pointer (some ⟨x, 0, none⟩), .int .i64 0]) ∧ ∃ S, RefAt w' x ⟨R, 0, []⟩ S ∧ (∀ k, S k → w.heap.size ≤ k) ∧ RowKit.Below w.heap.size w w' := by
  have h1 : ¬ (R : Int) < 1 := by omega
  have h2 : ¬ (4096 : Int) < R := by omega
  go_enter Try.func42, Try.ntmps42
  go_wp2
  refine bodyPost_ret (v := .tuple #[.pointer (some ⟨w.heap.size, 0, none⟩), .int .i64 0]) (by simp [results, Try.results42, go_sem]) rfl ?_
  refine ⟨_, rfl, fun k => k = w.heap.size, ⟨.slice none 0 0, none, ⟨heap_alloc_new w _, ⟨rfl, rfl⟩, ⟨hR1, hR2, by simp [Rb.ib], by simp [Rb.ib, iH], by simp [Rb.ib, iH]⟩⟩, rfl, by simp, ?_⟩, ?_, ?_⟩
  · rintro k rfl; simp
  · rintro k rfl; omega
  · exact (Below.refl _ _).alloc (Nat.le_refl _) _
theorem r_cum (x : Nat) (p : Rb) (v : Value) (β : Option Nat) (w : World) (h : RK w x p v β) : Calls Try.prog 33 #[.pointer (some ⟨x, 0, none⟩)] w fun e w' => e = .returned (.int .i64 p.c) ∧ w' = w := by
  have c1 := cell_row h.box 1
  simp at c1
  clear h
  go_enter Try.func33, Try.ntmps33
  go_wp2
  go_ret
  exact ⟨rfl, rfl⟩

theorem rk_cells {w : World} {x : Nat} {p : Rb} {v : Value} {β : Option Nat} (h : RK w x p v β) : ∃ a c, v = .slice a p.L.length c ∧ p.L.length ≤ c ∧ c ≤ 9223372036854775807 ∧ ∀ i (hi : i < p.L.length), ∃ g, a = some ⟨g, 0, none⟩ ∧ β = some g ∧ w.cell? ⟨g, i * 2, none⟩ = some (.int .i64 (p.L[i].1 : Int)) ∧ w.cell? ⟨g, i * 2 + 1, none⟩ = some (.int .i64 p.L[i].2) := by
  have hr := h.row
  cases β with
  | none =>
    obtain ⟨rfl, h2⟩ := hr
    exact ⟨none, 0, by rw [h2]; rfl, by rw [h2]; simp, by omega, fun i hi => by rw [h2] at hi; simp at hi⟩
  | some g =>
    obtain ⟨cap, rfl, hR⟩ := hr
    have hR' := hR
    obtain ⟨cur, -, -, -, q1, q2, -⟩ := hR
    refine ⟨_, cap, rfl, q1, q2, fun i hi => ⟨g, rfl, rfl, ?_, ?_⟩⟩
    · have := hR'.cell sz_th i 0 hi (by omega)
      simpa [th] using this
    · have := hR'.cell sz_th i 1 hi (by omega)
      simpa [th] using this

set_option maxHeartbeats 1000000 in
theorem r_find (x k : Nat) (p : Rb) (v : Value) (β : Option Nat) (w : World) (h : RK w x p v β) :
    Calls Try.prog 66 #[.pointer (some ⟨x, 0, none⟩), .int .i64 k] w fun e w' => e = .returned (.int .i64 (fZ p.L k)) ∧ w' = w := by
  have hlen := h.len
  obtain ⟨a, c, rfl, hc1, hc2, hcell⟩ := rk_cells h
  have c2 := cell_row h.box 2
  simp at c2
  obtain ⟨n, hn⟩ : ∃ n, p.L.length = n := ⟨_, rfl⟩
  have HN := hd hn
  have HC := hd hcell
  rw [hn] at c2 hc1 hlen
  clear h hcell
  go_enter Try.func66, Try.ntmps66
  go_wp2_with fail
  go_loopw [5] (fun vi wr => ∃ i : Nat, i ≤ n ∧ vi = .int .i64 i ∧ wr = w ∧ Hid (∀ j (hj : j < i) (hl : j < p.L.length), (p.L[j]).1 ≠ k)) (fun vi _ => n - (intOf vi).toNat)
  case atStart => exact ⟨0, Nat.zero_le _, rfl, rfl, fun j hj => by omega⟩
  case round =>
    obtain ⟨i, hi, rfl, hw, HB⟩ := hrel
    subst hw
    by_cases hlt : i < n
    · have i1 : (i : Int) < (n : Int) := by omega
      have hil : i < p.L.length := by have := HN.out; omega
      obtain ⟨g, rfl, -, q0, -⟩ := HC.out i hil
      by_cases he : (p.L[i]).1 = k
      · have hf : Hid (fZ p.L k = i) := by
          show _ = _
          have := fN_eq hil he (fun j hj => HB.out j hj (by omega))
          unfold fZ
          rw [this, if_pos hil]
        rw [he] at q0
        clear HC HB hil he
        go_wp2_with fail
        go_ret
        rw [hf.out]
        exact ⟨rfl, rfl⟩
      · have Z : Hid (∀ j (hj : j < i + 1) (hl : j < p.L.length), (p.L[j]).1 ≠ k) := fun j hj hl => by
          by_cases e : j = i
          · subst e; exact he
          · exact HB.out j (by omega) hl
        have he' : ¬ ((p.L[i]).1 : Int) = (k : Int) := by omega
        generalize (p.L[i]).1 = kk at q0 he'
        clear HC HB hil he
        go_wp2_with fail
        exact ⟨⟨i + 1, by omega, by go_num, trivial, Z⟩, by simp [intOf]; omega⟩
    · have i1 : ¬ (i : Int) < (n : Int) := by omega
      have hf : Hid (fZ p.L k = -1) := by
        show _ = _
        unfold fZ
        rw [if_neg (fN_none (fun j hj => HB.out j (by have := HN.out; omega) hj))]
      clear HC HB
      go_wp2_with fail
      go_ret
      rw [hf.out]
      exact ⟨rfl, rfl⟩

end Go.Proofs.Ytpjnhjijipcjkaa
