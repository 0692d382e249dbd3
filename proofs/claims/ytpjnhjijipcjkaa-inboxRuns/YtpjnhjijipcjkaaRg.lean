/-
  The document's inbox: Head, Put, Toss, Pop, Reset.
-/
import Derived.Test.YtpjnhjijipcjkaaRf
namespace Go.Proofs.Ytpjnhjijipcjkaa
open Go.RowKit
set_option linter.unusedVariables false

def rputS (p : Rb) (n z : Int) : Rb := if iputE p.ib n = 0 then { p with L := p.L ++ [(n.toNat, z)] } else p
def cutL (L : List (Nat × Int)) (k : Nat) : List (Nat × Int) := L.take (fN L k) ++ L.drop (fN L k + 1)
def rtossS (p : Rb) : Rb := { p with L := cutL p.L (p.c + 1) }
def rpopS (p : Rb) : Rb := if p.ib.hd = true then { p with c := p.c + 1, L := cutL p.L (p.c + 1) } else p
theorem rputS_ib (p : Rb) (n z : Int) : (rputS p n z).ib = iputS p.ib n (.int .i64 z) := by
  unfold rputS iputS
  split
  · simp [Rb.ib, iH]
  · rfl
theorem cut_split {A B : List (Nat × Int)} {q : Nat × Int} (ho : (A ++ q :: B).Pairwise (fun a b => a.1 ≠ b.1)) : cutK (iH (A ++ q :: B)) q.1 = iH (A ++ B) := by
  have hp := List.pairwise_append.1 ho
  have hq := List.pairwise_cons.1 hp.2.1
  have c1 : ∀ a ∈ A, a.1 ≠ q.1 := fun a ha => hp.2.2 a ha q (by simp)
  have c2 : ∀ a ∈ B, a.1 ≠ q.1 := fun a ha e => hq.1 a ha e.symm
  have f1 : ∀ M : List (Nat × Int), (∀ a ∈ M, a.1 ≠ q.1) → (iH M).filter (fun a => a.1 != q.1) = iH M := fun M hM => by
    rw [List.filter_eq_self]
    intro a ha
    obtain ⟨b, hb, rfl⟩ := List.mem_map.1 ha
    simpa using hM b hb
  unfold cutK
  have e2 : iH (A ++ q :: B) = iH A ++ (q.1, .int .i64 q.2) :: iH B := by simp [iH]
  rw [e2, List.filter_append, List.filter_cons_of_neg (by simp), f1 A c1, f1 B c2]
  simp [iH]
theorem cutL_iH {L : List (Nat × Int)} {k : Nat} (ho : (iH L).Pairwise (fun a b => a.1 ≠ b.1)) : iH (cutL L k) = cutK (iH L) k := by
  unfold cutL
  by_cases h : fN L k < L.length
  · have e1 : L.take (fN L k) ++ L[fN L k] :: L.drop (fN L k + 1) = L := by
      rw [← List.drop_eq_getElem_cons h, List.take_append_drop]
    have hk := (at_iH h).2
    have ho' : L.Pairwise (fun a b => a.1 ≠ b.1) := by
      unfold iH at ho
      rw [List.pairwise_map] at ho
      exact ho
    rw [← e1] at ho'
    have := cut_split ho'
    rw [hk, e1] at this
    exact this.symm
  · rw [List.take_of_length_le (by omega), List.drop_eq_nil_of_le (by omega), List.append_nil, cutK_none]
    rw [has_iH]
    simpa using h
theorem rtossS_ib {p : Rb} (h : p.ib.ok) : (rtossS p).ib = itossS p.ib := by
  unfold rtossS itossS
  simp only [Rb.ib]
  rw [cutL_iH h.once]
theorem rpopS_ib {p : Rb} (h : p.ib.ok) : (rpopS p).ib = ipopS p.ib := by
  unfold rpopS ipopS
  split
  · simp only [Rb.ib]
    rw [cutL_iH h.once]
  · rfl

set_option maxHeartbeats 1000000 in
theorem r_head (x : Nat) (p : Rb) (v : Value) (β : Option Nat) (w : World) (h : RK w x p v β) :
    Calls Try.prog 46 #[.pointer (some ⟨x, 0, none⟩)] w fun e w' => e = .returned (.tuple #[atK p.ib.H (p.c + 1) iz, .bool p.ib.hd]) ∧ w' = w := by
  have hc := h.ok.c2
  have hlen := h.len
  have CF : Hid (Calls Try.prog 66 #[.pointer (some ⟨x, 0, none⟩), .int .i64 ((p.c + 1 : Nat) : Int)] w fun e w' => e = .returned (.int .i64 (fZ p.L (p.c + 1))) ∧ w' = w) := r_find x (p.c + 1) p v β w h
  obtain ⟨a, c, rfl, hc1, hc2, hcell⟩ := rk_cells h
  have c1 := cell_row h.box 1
  have c2 := cell_row h.box 2
  simp at c1 c2
  simp only [Rb.ib] at hc
  have hw : IntKind.i64.wrap ((p.c : Int) + 1) = ((p.c + 1 : Nat) : Int) := by rw [IntKind.wrap_i64]; omega
  have hhd : p.ib.hd = decide (fN p.L (p.c + 1) < p.L.length) := has_iH _ _
  have HA : Hid (∀ hi : fN p.L (p.c + 1) < p.L.length, atK p.ib.H (p.c + 1) iz = .int .i64 (p.L[fN p.L (p.c + 1)]).2) := fun hi => (at_iH hi).1
  have HN : Hid (p.ib.hd = false → atK p.ib.H (p.c + 1) iz = iz) := fun hh => atK_none hh
  have HC := hd hcell
  have HD := hd hhd
  by_cases hf : fN p.L (p.c + 1) < p.L.length
  · have e1 : fZ p.L (p.c + 1) = fN p.L (p.c + 1) := by rw [fZ, if_pos hf]
    obtain ⟨g, rfl, -, -, q1⟩ := HC.out _ hf
    have HR : Hid (atK p.ib.H (p.c + 1) iz = .int .i64 (p.L[fN p.L (p.c + 1)]).2 ∧ p.ib.hd = true) := ⟨HA.out hf, by rw [HD.out, decide_eq_true hf]⟩
    rw [e1] at CF
    generalize (p.L[fN p.L (p.c + 1)]).2 = z at q1 HR
    obtain ⟨i, hi⟩ : ∃ i, fN p.L (p.c + 1) = i := ⟨_, rfl⟩
    obtain ⟨n, hn⟩ : ∃ n, p.L.length = n := ⟨_, rfl⟩
    rw [hi] at CF q1 hf
    rw [hn] at hf c2 hc1 hlen
    have i1 : ¬ (i : Int) < 0 := by omega
    clear h hcell HA HN HC HD hhd e1 hi hn
    go_enter Try.func46, Try.ntmps46
    go_wp2_with fail
    refine CF.out.mono ?_
    rintro e w1 ⟨rfl, rfl⟩
    clear CF
    go_wp2_with fail
    refine bodyPost_ret (v := .tuple #[.int .i64 z, .bool true]) (by simp [results, Try.results46, go_sem]) rfl ?_
    rw [HR.out.1, HR.out.2]
    exact ⟨rfl, rfl⟩
  · have e1 : fZ p.L (p.c + 1) = -1 := by rw [fZ, if_neg hf]
    have HR : Hid (atK p.ib.H (p.c + 1) iz = iz ∧ p.ib.hd = false) := by
      have : p.ib.hd = false := by rw [HD.out, decide_eq_false hf]
      exact ⟨HN.out this, this⟩
    rw [e1] at CF
    clear h hcell HA HN HC HD hhd e1 hf
    go_enter Try.func46, Try.ntmps46
    go_wp2_with fail
    refine CF.out.mono ?_
    rintro e w1 ⟨rfl, rfl⟩
    clear CF
    go_wp2_with fail
    refine bodyPost_ret (v := .tuple #[iz, .bool false]) (by simp [results, Try.results46, go_sem]) rfl ?_
    rw [HR.out.1, HR.out.2]
    exact ⟨rfl, rfl⟩

theorem r_reset (x : Nat) (p : Rb) (S : Nat → Prop) (w : World) (h : RefAt w x p S) :
    Calls Try.prog 63 #[.pointer (some ⟨x, 0, none⟩)] w fun e w' => e = .returned (.tuple #[]) ∧ RNow w w' x ⟨p.R, 0, []⟩ S := by
  obtain ⟨v, β, hK, hSx, hSβ, hS⟩ := h
  obtain ⟨a, c, rfl, -⟩ := rk_cells hK
  have c1 := cell_row hK.box 1
  have c2 := cell_row hK.box 2
  have f1 := frozen_row hK.box 1
  have f2 := frozen_row hK.box 2
  simp at c1 c2
  have Z : Hid (RNow w ((w.setCell ⟨x, 1, none⟩ (.int .i64 0)).setCell ⟨x, 2, none⟩ (.slice none 0 0)) x ⟨p.R, 0, []⟩ S) := by
    have F2 : Fr (· = x) w ((w.setCell ⟨x, 1, none⟩ (.int .i64 0)).setCell ⟨x, 2, none⟩ (.slice none 0 0)) := Fr.trans (S := (· = x)) (Fr.setCell _ _ _ rfl) (Fr.setCell _ _ _ rfl)
    have hb := set_row (set_row hK.box 1 (.int .i64 0)) 2 (.slice none 0 0)
    refine ⟨S, ⟨.slice none 0 0, none, ⟨by simpa using hb, ⟨rfl, rfl⟩, ⟨hK.ok.r1, hK.ok.r2, by simp [Rb.ib], by simp [Rb.ib, iH], by simp [Rb.ib, iH]⟩⟩, hSx, (fun g h => by cases h), fun k hk => Nat.lt_of_lt_of_le (hS k hk) F2.size⟩, fun k hk => .inl hk, F2.mono (fun k _ hk => by rw [hk]; exact hSx)⟩
  clear hK hSx hSβ hS
  go_enter Try.func63, Try.ntmps63
  go_wp2_with fail
  go_end0
  exact ⟨rfl, Z.out⟩

end Go.Proofs.Ytpjnhjijipcjkaa
