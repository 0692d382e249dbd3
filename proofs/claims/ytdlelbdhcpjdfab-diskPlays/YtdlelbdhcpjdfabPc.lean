/-
  begun.
-/
import Derived.Test.YtdlelbdhcpjdfabPb
namespace Go.Proofs.Ytdlelbdhcpjdfab
open Go.RowKit
set_option linter.unusedVariables false

def pv (r : Nat) : Value := .pointer (some ⟨r, 0, none⟩)

/-- A file that lies in one block. -/
theorem DK.one {S : Nat → Prop} {w w' : World} {r : Nat} (h : DK w r none [] 0) (hF : Fr S w w') (hS : ¬ S r) : DK w' r none [] 0 := h.fr hF (by rintro k (rfl | e) hk; exact hS hk; cases e)
theorem RK.one {S : Nat → Prop} {w w' : World} {r : Nat} (h : RK w r none [] 0) (hF : Fr S w w') (hS : ¬ S r) : RK w' r none [] 0 := h.fr hF (by rintro k (rfl | e) hk; exact hS hk; cases e)

/-- What holds behind the first round. -/
def Beg1 (w wr : World) (P a c : Nat) : Prop :=
  wr.heap[P]? = some (.cells #[pv a, .pointer none, pv c, .pointer none] 63 (0, 0)) ∧ DK wr a none [] 0 ∧ RK wr c none [] 0 ∧ w.heap.size ≤ P ∧ P < a ∧ a < c ∧ c < wr.heap.size ∧ Below w.heap.size w wr

theorem Beg1.end {w wr : World} {P a c b d : Nat} (hh : wr.heap[P]? = some (.cells #[pv a, pv b, pv c, pv d] 63 (0, 0))) (h1 : DK wr a none [] 0) (h2 : RK wr c none [] 0) (h3 : DK wr b none [] 0) (h4 : RK wr d none [] 0) (hP : w.heap.size ≤ P) (pa : P < a) (ac : a < c) (cb : c < b) (bd : b < d) (hb : Below w.heap.size w wr) : QS w wr P := by
  refine ⟨fun _ => ⟨[], 0⟩, fun i => if i = 0 then a else b, fun _ => none, fun i => if i = 0 then c else d, fun _ => none, fun k => if k = a then 0 else if k = b then 1 else if k = c then 2 else if k = d then 3 else 4, ?_⟩
  refine ⟨by simpa [pv] using hh, ?_, ?_, ?_, ?_, ?_, hb⟩
  · intro i hi
    have : i = 0 ∨ i = 1 := by omega
    rcases this with rfl | rfl
    · simpa using h1
    · simpa using h3
  · intro i hi
    have : i = 0 ∨ i = 1 := by omega
    rcases this with rfl | rfl
    · simpa using h2
    · simpa using h4
  · intro i k hi hk
    have : i = 0 ∨ i = 1 := by omega
    rcases hk with e | e
    · rcases this with rfl | rfl
      · simp at e
        subst e
        simp
        omega
      · simp at e
        subst e
        simp
        omega
    · cases e
  · intro i k hi hk
    have : i = 0 ∨ i = 1 := by omega
    rcases hk with e | e
    · rcases this with rfl | rfl
      · simp at e
        subst e
        rw [if_neg (by omega), if_neg (by omega), if_pos rfl]
        omega
      · simp at e
        subst e
        rw [if_neg (by omega), if_neg (by omega), if_neg (by omega), if_pos rfl]
        omega
    · cases e
  · rw [if_neg (by omega), if_neg (by omega), if_neg (by omega), if_neg (by omega)]
    exact ⟨rfl, hP⟩

def BRel (w wr : World) (P k : Nat) : Prop :=
  (k = 0 ∧ wr.heap[P]? = some (.cells #[.pointer none, .pointer none, .pointer none, .pointer none] 63 (0, 0)) ∧ w.heap.size ≤ P ∧ Below w.heap.size w wr) ∨ (k = 1 ∧ ∃ a c, Beg1 w wr P a c) ∨ (k = 2 ∧ QS w wr P)

set_option maxRecDepth 100000 in
set_option maxHeartbeats 4000000 in
theorem begun_any (w : World) :
    Calls Try.prog 18 #[] w fun x w' => ∃ P, x = .returned (.tuple #[.pointer (some ⟨P, 0, none⟩), .bool true]) ∧ QS w w' P := by
  have S0 : Hid (BRel w (w.alloc (.cells #[.pointer none, .pointer none, .pointer none, .pointer none] 63)) w.heap.size 0) := .inl ⟨rfl, heap_alloc_new _ _, Nat.le_refl _, (Below.refl _ _).alloc (Nat.le_refl _) _⟩
  go_enter Try.func18, Try.ntmps18
  go_wp2
  obtain ⟨M, hM⟩ : ∃ M : Nat, M = 2 := ⟨_, rfl⟩
  have HM := hd hM
  clear hM
  go_loopw [3] (fun i wr => ∃ k : Nat, k ≤ M ∧ i = .int .i64 k ∧ Hid (BRel w wr w.heap.size k)) (fun i _ => M - (intOf i).toNat)
  case atStart => exact ⟨0, Nat.zero_le _, rfl, S0⟩
  case round =>
    obtain ⟨k, hk, rfl, hr⟩ := hrel
    clear S0
    have hPle : Hid (w.heap.size ≤ w.heap.size) := Nat.le_refl _
    generalize w.heap.size = P at *
    rcases hr.out with ⟨rfl, hh, hP, hb⟩ | ⟨rfl, a, c, hB⟩ | ⟨rfl, hQ⟩
    · have HH := hd hh
      have HPP := hd hP
      have BB := hd hb
      clear hr hh hP hb
      have H1 := hd ((Fr.drew (fun _ => False) wr).keeps HH.out (fun h => h))
      have hPl : P < wr.heap.size := block_lt HH.out
      have hm := HM.out
      have im : ((M : Nat) : Int) = 2 := by omega
      have LP := hd hPl
      clear hPl hm im
      go_wp2_with fail
      go_region_held3 (fun _ => True) (trivial) (first | (go_at_call 21; refine (new_any _).mono ?_; rintro e w2 ⟨r2, rfl, hr2, hD2, hb2⟩; have H2 := hd ((Fr.of_below hb2 : Fr (fun _ => False) _ _).keeps H1.out (fun h => h)); have q0 := (cell_row H2.out 0).trans rfl; have f0 := frozen_row H2.out 0; have G2 : Hid (wr.heap.size ≤ r2) := hr2; have K2b := hd hD2; have B12 : Hid (Below wr.heap.size wr w2) := (show Below wr.heap.size wr wr.drew from (Below.refl _ _).drew).trans hb2; have L2 := hd (hD2.lt r2 (.inl rfl)); clear hr2 hD2 hb2))
      have H3 : Hid ((w2.setCell ⟨P, 0, none⟩ (pv r2)).heap[P]? = some (.cells #[pv r2, .pointer none, .pointer none, .pointer none] 63 (0, 0))) := (set_row H2.out 0 _).trans rfl
      have K3 : Hid (DK (w2.setCell ⟨P, 0, none⟩ (pv r2)) r2 none [] 0) := K2b.out.one (Fr.setCell (S := (· = P)) w2 ⟨P, 0, none⟩ (pv r2) rfl) (by have h1 := G2.out; have h2 := LP.out; omega)
      have B3 : Hid (Below w.heap.size w (w2.setCell ⟨P, 0, none⟩ (pv r2))) := (BB.out.trans (B12.out.mono BB.out.size)).setCell (p := ⟨P, 0, none⟩) HPP.out _
      have L3 : Hid (r2 < (w2.setCell ⟨P, 0, none⟩ (pv r2)).heap.size) := by
        show _ < _
        simpa using L2.out
      clear q0 f0 H2 K2b L2
      unfold pv at H3 K3 B3 L3
      generalize hw3 : w2.setCell ⟨P, 0, none⟩ (.pointer (some ⟨r2, 0, none⟩)) = w3 at *
      have HW3 := hd hw3
      clear hw3
      have H4 := hd ((Fr.drew (fun _ => False) w3).keeps H3.out (fun h => h))
      go_wp2_with fail
      go_region_held3 (fun _ => True) (trivial) (first | (go_at_call 28; refine (rnew_any _).mono ?_; rintro e w4 ⟨r4, rfl, hr4, hD4, hb4⟩; have H5 := hd ((Fr.of_below hb4 : Fr (fun _ => False) _ _).keeps H4.out (fun h => h)); have q0 := (cell_row H5.out 2).trans rfl; have f0 := frozen_row H5.out 2; have G4 : Hid (r2 < r4) := Nat.lt_of_lt_of_le L3.out hr4; have R4b := hd hD4; have B34 : Hid (Below w3.heap.size w3 w4) := (show Below w3.heap.size w3 w3.drew from (Below.refl _ _).drew).trans hb4; have L4 := hd (hD4.lt r4 (.inl rfl)); clear hr4 hD4 hb4))
      have H6 : Hid ((w4.setCell ⟨P, 2, none⟩ (pv r4)).heap[P]? = some (.cells #[pv r2, .pointer none, pv r4, .pointer none] 63 (0, 0))) := (set_row H5.out 2 _).trans rfl
      have K6 : Hid (DK (w4.setCell ⟨P, 2, none⟩ (pv r4)) r2 none [] 0) := (K3.out.one (Fr.of_below B34.out : Fr (fun _ => False) _ _) (fun h => h)).one (Fr.setCell (S := (· = P)) w4 ⟨P, 2, none⟩ (pv r4) rfl) (by have h1 := G2.out; have h2 := LP.out; omega)
      have R6 : Hid (RK (w4.setCell ⟨P, 2, none⟩ (pv r4)) r4 none [] 0) := R4b.out.one (Fr.setCell (S := (· = P)) w4 ⟨P, 2, none⟩ (pv r4) rfl) (by have h1 := G2.out; have h2 := LP.out; have h3 := G4.out; omega)
      have B6 : Hid (Below w.heap.size w (w4.setCell ⟨P, 2, none⟩ (pv r4))) := (B3.out.trans (B34.out.mono B3.out.size)).setCell (p := ⟨P, 2, none⟩) HPP.out _
      have L6 : Hid (r4 < (w4.setCell ⟨P, 2, none⟩ (pv r4)).heap.size) := by
        show _ < _
        simpa using L4.out
      have q6 := (cell_row H6.out 0).trans rfl
      clear H5 R4b L4 q0 f0 H3 H4 K3 B3 L3
      unfold pv at q6 H6 K6 R6 B6 L6
      generalize w4.setCell ⟨P, 2, none⟩ (.pointer (some ⟨r4, 0, none⟩)) = w6 at *
      have Q9 : Hid (BRel w w6 P 1) := .inr (.inl ⟨rfl, r2, r4, H6.out, K6.out, R6.out, HPP.out, by have := G2.out; have := LP.out; omega, by have := G4.out; omega, L6.out, B6.out⟩)
      clear H6 K6 R6 B6 L6
      go_wp2
      have hm := HM.out
      exact ⟨⟨1, by omega, by go_num, Q9⟩, by simp [intOf]; omega⟩
    · obtain ⟨hh, h1, h2, hP, pa, ac, cl, hb⟩ := hB
      have HH := hd hh
      have K1 := hd h1
      have K2 := hd h2
      have HPP := hd (And.intro hP (And.intro pa (And.intro ac cl)))
      have BB := hd hb
      clear hr hh h1 h2 hP pa ac cl hb
      have H1 := hd ((Fr.drew (fun _ => False) wr).keeps HH.out (fun h => h))
      have hPl : P < wr.heap.size := block_lt HH.out
      have hm := HM.out
      have im : ((M : Nat) : Int) = 2 := by omega
      have LP := hd hPl
      clear hPl hm im
      go_wp2_with fail
      go_region_held3 (fun _ => True) (trivial) (first | (go_at_call 21; refine (new_any _).mono ?_; rintro e w2 ⟨r2, rfl, hr2, hD2, hb2⟩; have H2 := hd ((Fr.of_below hb2 : Fr (fun _ => False) _ _).keeps H1.out (fun h => h)); have q0 := (cell_row H2.out 1).trans rfl; have f0 := frozen_row H2.out 1; have G2 : Hid (wr.heap.size ≤ r2) := hr2; have K2b := hd hD2; have B12 : Hid (Below wr.heap.size wr w2) := (show Below wr.heap.size wr wr.drew from (Below.refl _ _).drew).trans hb2; have L2 := hd (hD2.lt r2 (.inl rfl)); clear hr2 hD2 hb2))
      have H3 : Hid ((w2.setCell ⟨P, 1, none⟩ (pv r2)).heap[P]? = some (.cells #[pv a, pv r2, pv c, .pointer none] 63 (0, 0))) := (set_row H2.out 1 _).trans rfl
      have K3 : Hid (DK (w2.setCell ⟨P, 1, none⟩ (pv r2)) r2 none [] 0) := K2b.out.one (Fr.setCell (S := (· = P)) w2 ⟨P, 1, none⟩ (pv r2) rfl) (by have h1 := G2.out; have h2 := LP.out; omega)
      have B3 : Hid (Below w.heap.size w (w2.setCell ⟨P, 1, none⟩ (pv r2))) := (BB.out.trans (B12.out.mono BB.out.size)).setCell (p := ⟨P, 1, none⟩) HPP.out.1 _
      have L3 : Hid (r2 < (w2.setCell ⟨P, 1, none⟩ (pv r2)).heap.size) := by
        show _ < _
        simpa using L2.out
      clear q0 f0 H2 K2b L2
      have A3 : Hid (DK (w2.setCell ⟨P, 1, none⟩ (pv r2)) a none [] 0) := (K1.out.one (Fr.of_below B12.out : Fr (fun _ => False) _ _) (fun h => h)).one (Fr.setCell (S := (· = P)) w2 ⟨P, 1, none⟩ (pv r2) rfl) (by have := HPP.out; omega)
      have C3 : Hid (RK (w2.setCell ⟨P, 1, none⟩ (pv r2)) c none [] 0) := (K2.out.one (Fr.of_below B12.out : Fr (fun _ => False) _ _) (fun h => h)).one (Fr.setCell (S := (· = P)) w2 ⟨P, 1, none⟩ (pv r2) rfl) (by have := HPP.out; omega)
      unfold pv at H3 K3 B3 L3 A3 C3
      generalize hw3 : w2.setCell ⟨P, 1, none⟩ (.pointer (some ⟨r2, 0, none⟩)) = w3 at *
      have HW3 := hd hw3
      clear hw3
      have H4 := hd ((Fr.drew (fun _ => False) w3).keeps H3.out (fun h => h))
      go_wp2_with fail
      go_region_held3 (fun _ => True) (trivial) (first | (go_at_call 28; refine (rnew_any _).mono ?_; rintro e w4 ⟨r4, rfl, hr4, hD4, hb4⟩; have H5 := hd ((Fr.of_below hb4 : Fr (fun _ => False) _ _).keeps H4.out (fun h => h)); have q0 := (cell_row H5.out 3).trans rfl; have f0 := frozen_row H5.out 3; have G4 : Hid (r2 < r4) := Nat.lt_of_lt_of_le L3.out hr4; have R4b := hd hD4; have B34 : Hid (Below w3.heap.size w3 w4) := (show Below w3.heap.size w3 w3.drew from (Below.refl _ _).drew).trans hb4; have L4 := hd (hD4.lt r4 (.inl rfl)); clear hr4 hD4 hb4))
      have H6 : Hid ((w4.setCell ⟨P, 3, none⟩ (pv r4)).heap[P]? = some (.cells #[pv a, pv r2, pv c, pv r4] 63 (0, 0))) := (set_row H5.out 3 _).trans rfl
      have K6 : Hid (DK (w4.setCell ⟨P, 3, none⟩ (pv r4)) r2 none [] 0) := (K3.out.one (Fr.of_below B34.out : Fr (fun _ => False) _ _) (fun h => h)).one (Fr.setCell (S := (· = P)) w4 ⟨P, 3, none⟩ (pv r4) rfl) (by have h1 := G2.out; have h2 := LP.out; omega)
      have R6 : Hid (RK (w4.setCell ⟨P, 3, none⟩ (pv r4)) r4 none [] 0) := R4b.out.one (Fr.setCell (S := (· = P)) w4 ⟨P, 3, none⟩ (pv r4) rfl) (by have h1 := G2.out; have h2 := LP.out; have h3 := G4.out; omega)
      have B6 : Hid (Below w.heap.size w (w4.setCell ⟨P, 3, none⟩ (pv r4))) := (B3.out.trans (B34.out.mono B3.out.size)).setCell (p := ⟨P, 3, none⟩) HPP.out.1 _
      have L6 : Hid (r4 < (w4.setCell ⟨P, 3, none⟩ (pv r4)).heap.size) := by
        show _ < _
        simpa using L4.out
      have A6 : Hid (DK (w4.setCell ⟨P, 3, none⟩ (pv r4)) a none [] 0) := (A3.out.one (Fr.of_below B34.out : Fr (fun _ => False) _ _) (fun h => h)).one (Fr.setCell (S := (· = P)) w4 ⟨P, 3, none⟩ (pv r4) rfl) (by have := HPP.out; omega)
      have C6 : Hid (RK (w4.setCell ⟨P, 3, none⟩ (pv r4)) c none [] 0) := (C3.out.one (Fr.of_below B34.out : Fr (fun _ => False) _ _) (fun h => h)).one (Fr.setCell (S := (· = P)) w4 ⟨P, 3, none⟩ (pv r4) rfl) (by have := HPP.out; omega)
      have q6 := (cell_row H6.out 1).trans rfl
      clear H5 R4b L4 q0 f0 H3 H4 K3 B3 L3
      unfold pv at q6 H6 K6 R6 B6 L6 A6 C6
      generalize w4.setCell ⟨P, 3, none⟩ (.pointer (some ⟨r4, 0, none⟩)) = w6 at *
      have Q9 : Hid (BRel w w6 P 2) := .inr (.inr ⟨rfl, Beg1.end H6.out A6.out C6.out K6.out R6.out HPP.out.1 HPP.out.2.1 HPP.out.2.2.1 (by have := G2.out; have := HPP.out.2.2.2; omega) (by have := G4.out; omega) B6.out⟩)
      clear H6 K6 R6 B6 L6 A6 C6
      go_wp2
      have hm := HM.out
      exact ⟨⟨2, by omega, by go_num, Q9⟩, by simp [intOf]; omega⟩
    · have Q := hd hQ
      clear hr hQ
      have hm := HM.out
      go_wp2
      go_ret2
      exact ⟨_, rfl, Q.out⟩

end Go.Proofs.Ytdlelbdhcpjdfab
