/-
  gone: Run as the sequence that is gone through.
-/
import Derived.Test.YtpjnhjijipcjkaaQf
namespace Go.Proofs.Ytpjnhjijipcjkaa
open Go.RowKit
set_option linter.unusedVariables false

section
variable {G : Thg} {w0 w : World} {K : Nat → Prop} {x a b r q bx : Nat} {k s nn v : Int} {ia : Option Addr} {il ic : Nat}
theorem gone_seq (N l D : Nat) (hN : 4 ≤ N) (hD : D = w.heap.size + 4) (hl : l = w.heap.size + 5) (lr : Loop) (W1 : World) (X : World → Prop) (hL : LB l D lr W1) (h0 : Gi G w0 w K x a b r q bx k s nn v ia il ic W1)
    (hY : ∀ t W, LB l D lr W → Gy G w0 w K x a b r q bx k s nn v ia il ic t W → YieldAt Fence.wide (N - 1 - 1) Try.prog l (encN t) W fun e W' => (e = .returned (.bool true) ∧ LB l D lr W' ∧ Gr G w0 w K x a b r q bx k s nn v ia il ic t W') ∨ (e = .returned (.bool false) ∧ X W')) :
    CallsIn Fence.wide (N - 1) Try.prog 52 (#[.func (.yield l) #[] #[]] ++ #[.pointer (some ⟨bx, 0, none⟩)]) W1 fun e W' => (∃ v, e = .returned v) ∧ ((LB l D lr W' ∧ Ge G w0 w K x a b r q bx k s nn v ia il ic W') ∨ X W') := by
  refine run1_at (N - 1) l bx a (by omega) (fun j W => LB l D lr W ∧ Gk G w0 w K x a b r q bx k s nn v ia il ic j W) (fun W => LB l D lr W ∧ Ge G w0 w K x a b r q bx k s nn v ia il ic W) X ?_ W1 ?_
  · rintro j W ⟨hLB, A, B, m, n, hG, hj, hb⟩
    refine ⟨by rw [cell_row hG.cb]; rfl, ?_⟩
    cases hh : A.ib.hd with
    | false =>
      left
      refine ⟨atK A.ib.H (A.c + 1) iz, (mk_head hG.mo 0 rfl).mono ?_⟩
      rintro e W' ⟨rfl, mo', bel⟩
      rw [hh]
      exact ⟨rfl, hLB.kp (hG.mo.kp bel) hD hl, A, B, m, n, hG.below bel, hh⟩
    | true =>
      right
      obtain ⟨z, hz⟩ := atK_int (L := A.L) (k := A.c + 1) hh
      refine ⟨z, ((A.c + 1 : Nat) : Int), (mk_head hG.mo 0 rfl).mono ?_⟩
      rintro e W1 ⟨rfl, mo1, bel⟩
      have hz' : atK A.ib.H (A.c + 1) iz = .int .i64 z := hz
      rw [hh, hz']
      have hG1 := hG.below bel
      have hL1 := hLB.kp (hG.mo.kp bel) hD hl
      refine ⟨rfl, by rw [cell_row hG1.cb]; rfl, (mk_pop hG1.mo 0 rfl).mono ?_⟩
      rintro e W2 ⟨rfl, mo2, kp2⟩
      rw [FP_0] at mo2
      have hG2 : GS G w0 w K x a b r q bx k s nn v ia il ic (rpopS A) A B m n W2 := hG1.step mo2 hG.hm kp2
      have hL2 := hL1.kp kp2 hD hl
      have hc := hG2.cum
      rw [rpop_c hh] at hc
      have hok := hG2.ok.c2
      have hc4 : A.c + 1 ≤ 4096 := by
        have e : (rpopS A).ib.c = A.c + 1 := rpop_c hh
        rw [← e]
        exact hok
      refine ⟨⟨_, rfl⟩, by rw [cell_row hG2.cb]; rfl, hc, ?_⟩
      obtain ⟨fn, tmps, asg, bd, hy1, hy2⟩ := hY (((A.c + 1 : Nat) : Int), z, j) W2 hL2 ⟨A, B, m, n, hG2, hh, rfl, hz', hc4, hj, hb⟩
      refine ⟨fn, tmps, asg, bd, hy1, hy2.mono ?_⟩
      rintro e W3 (⟨rfl, h3, j', hj', h4⟩ | ⟨rfl, h3⟩)
      · exact .inl ⟨rfl, j', hj', h3, h4⟩
      · exact .inr ⟨rfl, h3⟩
  · obtain ⟨j, hj⟩ := h0
    exact ⟨j, hL, hj⟩
end

end Go.Proofs.Ytpjnhjijipcjkaa
