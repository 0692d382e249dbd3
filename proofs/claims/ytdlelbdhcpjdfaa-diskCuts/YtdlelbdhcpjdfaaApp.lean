/-
  append onto a list of the call itself, of a list that may be nil or empty.
-/
import Derived.Test.YtdlelbdhcpjdfaaRow
import Derived.Test.YtdlelbdhcpjdfaaTa
import Derived.Deep.AppendLies
namespace Go.Proofs.Ytdlelbdhcpjdfaa
open Go.RowKit
set_option linter.unusedVariables false

theorem grown_below {B : Nat} {w w' w0 : World} {g : Nat} (hb : Below B w0 w) (hg : w.grownBy w' (some g)) (hB : B ≤ w.heap.size) (hBg : B ≤ g) : Below B w0 w' :=
  hb.grown hg hB (fun k hk => by obtain rfl := Option.some.inj hk; exact hBg)

theorem wpList_append_b {P : Program} (w : World) {ops : Array Oper} {rest : List Oper} {o : Oper} {a : Act} {Q : Exit → Act → World → Prop}
    (hgd : o.guard = none) (s x : Operand) (t : TypeId) (ho : o.op = Op.call { callee := Callee.builtin Builtin.append, args := #[s, x], argTypes := #[t, t] })
    (base : Nat) (i : TypeInfo) (ht : P.underlying t = some (.slice 5)) (hi : P.info? 5 = some i) (hz : i.zero = some (.int .u8 0)) (hsize : i.size = 1) (hby : i.bytes = 1)
    (g0 n : Nat) (xs : List Int) (hs : a.eval s = .slice (some ⟨g0, 0, none⟩) n n) (hown : Hid (w.ownsRow base 5 1 (.slice (some ⟨g0, 0, none⟩) n n) n (ints xs)))
    (sp : Option Addr) (m c : Nat) (ys : List Int) (hx : a.eval x = .slice sp m c) (hY : Hid (IsB w sp m c ys)) (hnil : sp = none → c = 0) (hnm : n + m ≤ 1000000) (w0 : World) (hb : Hid (Below base w0 w)) (hB : base ≤ w.heap.size)
    (hK : ∀ g cap w', Hid (RowB w' g (n + m) cap (xs ++ ys) ∧ base ≤ g ∧ Below base w0 w') → n + m ≤ cap → cap ≤ 9223372036854775807 → wpList P ops Q rest (a.put o.dst (.slice (some ⟨g, 0, none⟩) (n + m) cap)) w') :
    wpList P ops Q (o :: rest) a w := by
  have hl : ys.length = m := hY.out.1
  have hg0 : base ≤ g0 := (World.ownsRow.lt hown.out g0 rfl).1
  have hll : (ints ys).length = m * 1 := by rw [ints_len]; omega
  by_cases hm : m = 0
  · obtain rfl : ys = [] := List.eq_nil_of_length_eq_zero (by omega)
    refine wpList_append_fits_any w hgd s x t ho base 5 i 1 ht hi hsize g0 n n (ints xs) hs hown.out sp m c (ints []) hx hll (fun e => ⟨hm, hnil e⟩) (fun ad _ j u hj => by simp [ints] at hj) (ints_one _) (by omega) ?_
    intro w' h1 h2
    have e : ints xs ++ ints [] = ints (xs ++ []) := by simp [ints]
    rw [e] at h1
    have hR := rowB_of_own h1
    refine hK g0 n w' ⟨hR.1, hR.2, grown_below hb.out h2 hB hg0⟩ (by omega) ?_
    obtain ⟨_, _, _, _, _, h, _⟩ := hR.1
    exact h
  · obtain ⟨ad, rfl, hsrc⟩ := cells_of_isB hY.out (by rw [ints_len]; omega)
    refine wpList_append_lies w hgd s x t ho base 5 i (.int .u8 0) 1 1 ht hi hz hsize hby rfl (by decide) (.slice (some ⟨g0, 0, none⟩) n n) n (ints xs) hs hown.out ad m c (ints ys) hx hll hsrc (ints_one _) (by omega) (by unfold maxLen; omega) (by omega) hB w.heap.size rfl ?_
    intro g cap w' h1 h2 _ _
    have e : ints xs ++ ints ys = ints (xs ++ ys) := by simp [ints]
    rw [e] at h1
    have hR := rowB_of_own h1
    have hc := hR.1
    obtain ⟨_, _, _, _, h3, h4, _⟩ := hc
    exact hK g cap w' ⟨hR.1, hR.2, hb.out.grown h2 hB (fun k hk => (World.ownsRow.lt hown.out k hk).1)⟩ h3 h4

end Go.Proofs.Ytdlelbdhcpjdfaa
