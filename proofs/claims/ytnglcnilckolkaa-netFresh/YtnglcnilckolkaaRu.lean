/-
  NetFresh: more operations of a drawn region that are done with values known ahead.
-/
import Derived.Test.YtnglcnilckolkaaRs
namespace Go.Proofs.Ytnglcnilckolkaa
open Go.RowKit
set_option linter.unusedVariables false

section
variable {ops : Array Oper} {o : Oper} {a : Act} {w : World} {K : Act → World → Prop} {Q : Exit → Act → World → Prop} {i : Nat}

theorem og_indexT {g : Option (Nat × Bool)} (ho : ops[i]? = some o) (x y : Operand) (k : Nat) {d : Option Tmp} (h : (ops[i]?).map (fun o => (o.dst, o.op, o.guard)) = some (d, Op.indexAddr 43 x y, g)) (hw : gOk ops a g) {b len cap : Nat} (hx : a.eval x = .slice (some ⟨b, 0, none⟩) len cap) (hy : a.eval y = .int .i64 k) (hk : k < len) (hK : K (a.put d (.pointer (some ⟨b, k * 4, none⟩))) w) : wpOp Try.prog ops Q i K a w := by
  obtain ⟨h1, h2, h3⟩ := flds ho h
  refine og_plain ho h3 hw ?_
  have i1 : (k : Int) < (len : Int) := by omega
  have i0 : (0 : Int) ≤ (k : Int) := by omega
  unfold Oper.wp
  simp only [execOp, h2, hx, hy]
  go_simp
  exact hK
theorem og_loadD {g : Option (Nat × Bool)} (ho : ops[i]? = some o) (x : Operand) {d : Option Tmp} (h : (ops[i]?).map (fun o => (o.dst, o.op, o.guard)) = some (d, Op.load 37 x, g)) (hw : gOk ops a g) {b k n c : Nat} {f t : Int} {A : Option Addr} {s : Bool} (hx : a.eval x = .pointer (some ⟨b, k, none⟩)) (hc0 : w.cell? ⟨b, k, none⟩ = some (.int .i64 f)) (hc1 : w.cell? ⟨b, k + 1, none⟩ = some (.int .i64 t)) (hc2 : w.cell? ⟨b, k + 2, none⟩ = some (.slice A n c)) (hc3 : w.cell? ⟨b, k + 3, none⟩ = some (.bool s)) (hK : K (a.put d (.agg #[.int .i64 f, .int .i64 t, .slice A n c, .bool s])) w) : wpOp Try.prog ops Q i K a w := by
  obtain ⟨h1, h2, h3⟩ := flds ho h
  refine og_plain ho h3 hw ?_
  unfold Oper.wp
  simp only [execOp, h2, hx]
  go_simp
  exact hK
theorem og_indexC {g : Option (Nat × Bool)} (ho : ops[i]? = some o) (x : Operand) (k : Nat) {d : Option Tmp} (h : (ops[i]?).map (fun o => (o.dst, o.op, o.guard)) = some (d, Op.indexAddr 43 x (.const (.int .i64 k)), g)) (hw : gOk ops a g) {b len cap : Nat} (hx : a.eval x = .slice (some ⟨b, 0, none⟩) len cap) (hk : k < len) (hK : K (a.put d (.pointer (some ⟨b, k * 4, none⟩))) w) : wpOp Try.prog ops Q i K a w := by
  obtain ⟨h1, h2, h3⟩ := flds ho h
  refine og_plain ho h3 hw ?_
  have i1 : (k : Int) < (len : Int) := by omega
  have i0 : (0 : Int) ≤ (k : Int) := by omega
  unfold Oper.wp
  simp only [execOp, h2, hx]
  go_simp
  exact hK
theorem og_field0 {g : Option (Nat × Bool)} (ho : ops[i]? = some o) (x : Operand) {d : Option Tmp} (h : (ops[i]?).map (fun o => (o.dst, o.op, o.guard)) = some (d, Op.fieldAddr 37 x 0, g)) (hw : gOk ops a g) {b k : Nat} (hx : a.eval x = .pointer (some ⟨b, k, none⟩)) (hK : K (a.put d (.pointer (some ⟨b, k, none⟩))) w) : wpOp Try.prog ops Q i K a w := by
  obtain ⟨h1, h2, h3⟩ := flds ho h
  refine og_plain ho h3 hw ?_
  unfold Oper.wp
  simp only [execOp, h2, hx]
  go_simp
  exact hK
theorem og_loadI {g : Option (Nat × Bool)} (ho : ops[i]? = some o) (x : Operand) {d : Option Tmp} (h : (ops[i]?).map (fun o => (o.dst, o.op, o.guard)) = some (d, Op.load 3 x, g)) (hw : gOk ops a g) {b k : Nat} {n : Int} (hx : a.eval x = .pointer (some ⟨b, k, none⟩)) (hc : w.cell? ⟨b, k, none⟩ = some (.int .i64 n)) (hK : K (a.put d (.int .i64 n)) w) : wpOp Try.prog ops Q i K a w := by
  obtain ⟨h1, h2, h3⟩ := flds ho h
  refine og_plain ho h3 hw ?_
  unfold Oper.wp
  simp only [execOp, h2, hx]
  go_simp
  exact hK
theorem og_build2 {g : Option (Nat × Bool)} (ho : ops[i]? = some o) (t : Tmp) (m : Int) {d : Option Tmp} (h : (ops[i]?).map (fun o => (o.dst, o.op, o.guard)) = some (d, Op.build 37 #[(0, .const (.int .i64 m)), (2, .tmp t)], g)) (hw : gOk ops a g) {A : Option Addr} {n c : Nat} (hx : a.eval (.tmp t) = .slice A n c) (hK : K (a.put d (.agg #[.int .i64 m, .int .i64 0, .slice A n c, .bool false])) w) : wpOp Try.prog ops Q i K a w := by
  obtain ⟨h1, h2, h3⟩ := flds ho h
  refine og_plain ho h3 hw ?_
  have hx' : (a.tmps[t]?).getD undef = .slice A n c := by simpa [Act.eval] using hx
  unfold Oper.wp
  simp only [execOp, h2]
  go_simp
  exact hK
theorem wpOp_mono {K' : Act → World → Prop} (hm : ∀ a w, K a w → K' a w) (h : wpOp Try.prog ops Q i K a w) : wpOp Try.prog ops Q i K' a w := by
  unfold wpOp at h ⊢
  cases ho : ops[i]? with
  | none => rw [ho] at h; exact hm _ _ h
  | some o =>
    rw [ho] at h
    simp only at h ⊢
    split
    · rename_i hw
      rw [if_pos hw] at h
      rcases h with h | h
      · exact .inl (Oper.wp_mono hm h)
      · exact .inr h
    · rename_i hw
      rw [if_neg hw] at h
      exact hm _ _ h
/-- A region that is not drawn, by the same assertion. -/
theorem wp_region_seq {id : Nat} (hT : Earlier ops) (I : (Nat → Prop) → Act → World → Prop)
    (hs : ∀ (L L' : Nat → Prop) a w (i : Nat) (o : Oper), I L a w → ops[i]? = some o → ¬ L i → (∀ e ∈ o.after, Region.binds .any e = true → L e.on) → (∀ j, L' j ↔ (j = i ∨ L j)) → wpOp Try.prog ops Q i (I L') a w)
    (he : ∀ (L : Nat → Prop) a w, I L a w → (∀ i, i < ops.size → L i) → Q .normal a w)
    (h0 : ∀ L : Nat → Prop, (∀ i, ¬ L i) → I L a w) : (Code.region id ops false).wp Try.prog Q a w := by
  refine wp_region ?_
  have key : ∀ m k, k + m = ops.size → ∀ a w, I (fun j => j < k) a w → wpOps Try.prog ops Q (List.range' k m) a w := by
    intro m
    induction m with
    | zero =>
      intro k hk a w hI
      exact he _ a w hI (fun i hi => by omega)
    | succ m ih =>
      intro k hk a w hI
      rw [List.range'_succ, wpOps_cons]
      have hk' : k < ops.size := by omega
      refine wpOp_mono (fun a w h => ih (k + 1) (by omega) a w h) (hs _ _ a w k ops[k] hI (Array.getElem?_eq_getElem hk') (by omega) (fun e he hb => hT k ops[k] (Array.getElem?_eq_getElem hk') e he hb) (fun j => by omega))
  rw [List.range_eq_range']
  exact key _ 0 (by omega) a w (h0 _ (fun i => by omega))
end

end Go.Proofs.Ytnglcnilckolkaa
