/-
  Of the law: lists held against one another, still (by wip/tools/gen/bkeq.py).
-/
import Derived.Test.YtilidolbplglcaaGreatDoorMKq
import Derived.Laws.StructEq
namespace Go.Proofs.YtilidolbplglcaaGreatDoor
open Go.RowKit
set_option linter.unusedVariables false

/-- A list to be read. -/
def Rd {α : Type} (f : α → List Value) (k : Nat) (w : World) (v : Value) (xs : List α) : Prop :=
  ∃ a c, v = .slice a xs.length c ∧ (0 < xs.length → ∃ b off, a = some ⟨b, off, none⟩ ∧ b < w.heap.size ∧ ∀ i (h : i < xs.length) j u, (f xs[i])[j]? = some u → w.cell? ⟨b, off + i * k + j, none⟩ = some u)
/-- ... whose block, if it has any, is one of S. -/
def Rs {α : Type} (f : α → List Value) (k : Nat) (w : World) (S : Nat → Prop) (v : Value) (xs : List α) : Prop :=
  ∃ a c, v = .slice a xs.length c ∧ (0 < xs.length → ∃ b off, a = some ⟨b, off, none⟩ ∧ S b ∧ b < w.heap.size ∧ ∀ i (h : i < xs.length) j u, (f xs[i])[j]? = some u → w.cell? ⟨b, off + i * k + j, none⟩ = some u)
section
variable {α : Type} {f : α → List Value} {k : Nat} {w w' : World} {S T : Nat → Prop} {v : Value} {xs : List α}
theorem Rs.rd (h : Rs f k w S v xs) : Rd f k w v xs := by
  obtain ⟨a, c, e, h⟩ := h
  refine ⟨a, c, e, fun hn => ?_⟩
  obtain ⟨b, off, h1, -, h3⟩ := h hn
  exact ⟨b, off, h1, h3⟩
theorem Rd.below (h : Rd f k w v xs) (hb : Below w.heap.size w w') : Rd f k w' v xs := by
  obtain ⟨a, c, e, h⟩ := h
  refine ⟨a, c, e, fun hn => ?_⟩
  obtain ⟨b, off, h1, h2, h3⟩ := h hn
  exact ⟨b, off, h1, Nat.lt_of_lt_of_le h2 hb.size, fun i hi j u hu => (hb.cell (p := ⟨b, off + i * k + j, none⟩) h2).trans (h3 i hi j u hu)⟩
theorem Rs.fr (h : Rs f k w S v xs) (hF : Fr T w w') (hS : ∀ b, S b → ¬ T b) : Rs f k w' S v xs := by
  obtain ⟨a, c, e, h⟩ := h
  refine ⟨a, c, e, fun hn => ?_⟩
  obtain ⟨b, off, h1, h2, h3, h4⟩ := h hn
  refine ⟨b, off, h1, h2, Nat.lt_of_lt_of_le h3 hF.size, fun i hi j u hu => ?_⟩
  have e1 := hF.block b h3 (hS b h2)
  rw [← h4 i hi j u hu]
  unfold World.cell?
  simp only [e1]
theorem Rs.mono (h : Rs f k w S v xs) (hS : ∀ b, S b → T b) : Rs f k w T v xs := by
  obtain ⟨a, c, e, h⟩ := h
  refine ⟨a, c, e, fun hn => ?_⟩
  obtain ⟨b, off, h1, h2, h3⟩ := h hn
  exact ⟨b, off, h1, hS b h2, h3⟩
theorem SF.rs {t : TypeId} {β : Option Nat} (h : SF f k w t β v xs) (hz : Sz f k) : Rs f k w (fun g => β = some g) v xs := by
  cases β with
  | none =>
    obtain ⟨rfl, rfl⟩ := h
    exact ⟨none, 0, rfl, fun h => by simp at h⟩
  | some g =>
    obtain ⟨cap, rfl, hR⟩ := h
    refine ⟨some ⟨g, 0, none⟩, cap, rfl, fun _ => ⟨g, 0, rfl, rfl, hR.lt, fun i hi j u hu => ?_⟩⟩
    have hj : j < k := by
      rw [← (hz xs[i]).1]
      exact (List.getElem?_eq_some_iff.1 hu).1
    rw [Nat.zero_add]
    exact (hR.cell hz i j hi hj).trans hu
end
theorem IsL.rd {w : World} {a : Option Addr} {n c : Nat} {E : List Ed} (h : IsL w a n E) : Rd edc 6 w (.slice a n c) E := by
  obtain ⟨hn, h⟩ := h
  subst hn
  refine ⟨a, c, rfl, fun hn => ?_⟩
  obtain ⟨b, off, e, hlt, hc⟩ := h hn
  refine ⟨b, off, e, hlt, fun i hi j u hu => ?_⟩
  obtain ⟨c0, c1, c2, c3, c4, c5⟩ := hc i hi
  rcases j with _ | _ | _ | _ | _ | _ | j
  · exact c0.trans hu
  · exact c1.trans hu
  · exact c2.trans hu
  · exact c3.trans hu
  · exact c4.trans hu
  · exact c5.trans hu
  · simp [edc, opc] at hu
theorem opFields : Tryz.prog.underlying 46 = some (.struct (Tryz.prog.fieldsOf 46)) := by kernel_rfl
theorem opHeld : Tryz.prog.stoodInHeld 46 = false := by kernel_rfl
theorem opSame (k p c l s : Int) (W : World) : (Op.equalIn 10000 46 (.agg #[.int .i64 k, .int .i64 p, .int .u8 c, .int .i64 l, .int .i64 s]) (.agg #[.int .i64 k, .int .i64 p, .int .u8 c, .int .i64 l, .int .i64 s])).run Tryz.prog W = .ok true W := by
  rw [show (10000 : Nat) = 9999 + 1 from rfl, run_equalIn_struct W _ _ _ _ opFields opHeld]
  simp only [Program.fieldsOf, Tryz.underlying46]
  simp [Op.eqFields, part, go_sem]
theorem elFields : Tryz.prog.underlying 50 = some (.struct (Tryz.prog.fieldsOf 50)) := by kernel_rfl
theorem elHeld : Tryz.prog.stoodInHeld 50 = false := by kernel_rfl
theorem elSame (c l s : Int) (W : World) : (Op.equalIn 10000 50 (.agg #[.int .u8 c, .int .i64 l, .int .i64 s]) (.agg #[.int .u8 c, .int .i64 l, .int .i64 s])).run Tryz.prog W = .ok true W := by
  rw [show (10000 : Nat) = 9999 + 1 from rfl, run_equalIn_struct W _ _ _ _ elFields elHeld]
  simp only [Program.fieldsOf, Tryz.underlying50]
  simp [Op.eqFields, part, go_sem]
theorem edFields : Tryz.prog.underlying 48 = some (.struct (Tryz.prog.fieldsOf 48)) := by kernel_rfl
theorem edHeld : Tryz.prog.stoodInHeld 48 = false := by kernel_rfl
theorem edSame (t k p c l s : Int) (W : World) : (Op.equalIn 10000 48 (.agg #[.int .i64 t, .int .i64 k, .int .i64 p, .int .u8 c, .int .i64 l, .int .i64 s]) (.agg #[.int .i64 t, .int .i64 k, .int .i64 p, .int .u8 c, .int .i64 l, .int .i64 s])).run Tryz.prog W = .ok true W := by
  rw [show (10000 : Nat) = 9999 + 1 from rfl, run_equalIn_struct W _ _ _ _ edFields edHeld]
  simp only [Program.fieldsOf, Tryz.underlying48]
  simp [Op.eqFields, part, go_sem]
theorem meas {i n : Nat} (h : n - (i + 1) < n - i) : n - (intOf (.int .i64 ((i : Int) + 1))).toNat < n - (intOf (.int .i64 (i : Int))).toNat := by
  have e1 : (intOf (.int .i64 ((i : Int) + 1))).toNat = i + 1 := by simp [intOf]
  have e2 : (intOf (.int .i64 (i : Int))).toNat = i := by simp [intOf]
  rw [e1, e2]
  exact h
theorem wrn {i n : Nat} (h : i < n) (hn : n ≤ 1000000000000000) : wrap64 ((i : Int) + 1) = (i : Int) + 1 := by rw [wrap64]; omega

set_option maxRecDepth 100000 in
set_option maxHeartbeats 4000000 in
theorem eqOps_any (va vb : Value) (xs : List OpE) (w : World) (hA : Rd opc 5 w va xs) (hB : Rd opc 5 w vb xs) (hn : xs.length ≤ 1000000000000000) :
    Calls Tryz.prog 10 #[va, vb] w fun e w' => e = .returned (.bool true) ∧ Below w.heap.size w w' := by
  obtain ⟨a, c, rfl, hA⟩ := hA
  obtain ⟨b, d, rfl, hB⟩ := hB
  obtain ⟨n, hl⟩ : ∃ n, xs.length = n := ⟨_, rfl⟩
  have HA := hd hA
  have HB := hd hB
  have HL := hd hl
  have HYtilidolbplglcaaGreatDoor := hd hn
  rw [hl]
  clear hA hB hl hn
  go_enter Tryz.func10, Tryz.ntmps10
  go_wp2_with fail
  go_loopw [5] (fun v wr => ∃ i : Nat, i ≤ n ∧ v = .int .i64 (i : Int) ∧ Hid (Below w.heap.size w wr)) (fun v _ => n - (intOf v).toNat)
  case atStart => exact ⟨0, Nat.zero_le _, rfl, Below.refl _ _⟩
  case round =>
    obtain ⟨i, hi, rfl, HBl⟩ := hrel
    by_cases hin : i < n
    · have hix : i < xs.length := by have := HL.out; omega
      obtain ⟨ba, oa, rfl, la, hca⟩ := HA.out (by omega)
      obtain ⟨bb, ob, rfl, lb, hcb⟩ := HB.out (by omega)
      obtain ⟨⟨xk, xp, xc, xl, xs⟩, hx⟩ : ∃ z, xs[i] = z := ⟨_, rfl⟩
      have ka : ∀ j u, (opc ⟨xk, xp, xc, xl, xs⟩)[j]? = some u → wr.cell? ⟨ba, oa + i * 5 + j, none⟩ = some u := fun j u hu => (HBl.out.cell (p := ⟨ba, oa + i * 5 + j, none⟩) la).trans (hca i hix j u (by rw [hx]; exact hu))
      have kb : ∀ j u, (opc ⟨xk, xp, xc, xl, xs⟩)[j]? = some u → wr.cell? ⟨bb, ob + i * 5 + j, none⟩ = some u := fun j u hu => (HBl.out.cell (p := ⟨bb, ob + i * 5 + j, none⟩) lb).trans (hcb i hix j u (by rw [hx]; exact hu))
      have a0 := ka 0 _ rfl
      have b0 := kb 0 _ rfl
      have a1 := ka 1 _ rfl
      have b1 := kb 1 _ rfl
      have a2 := ka 2 _ rfl
      have b2 := kb 2 _ rfl
      have a3 := ka 3 _ rfl
      have b3 := kb 3 _ rfl
      have a4 := ka 4 _ rfl
      have b4 := kb 4 _ rfl
      simp only [Nat.add_zero] at a0 b0
      have la2 := Nat.lt_of_lt_of_le la HBl.out.size
      have lb2 := Nat.lt_of_lt_of_le lb HBl.out.size
      have i1 := gq4 hin
      have w1 := wrn hin (by have := HYtilidolbplglcaaGreatDoor.out; have := HL.out; omega)
      have hme := gq3 hin
      have hsame := opSame xk xp xc xl xs
      clear ka kb hca hcb hx
      go_wp2_with fail
      go_quiet (fail)
      go_wp2_with fail
      exact ⟨⟨i + 1, hin, by rw [w1]; go_num, below_drewN HBl.out _⟩, by rw [w1]; exact meas hme⟩
    · obtain rfl : i = n := by omega
      have i3 : ¬ ((i : Int) < (i : Int)) := by omega
      go_wp2_with fail
      go_ret
      exact ⟨rfl, HBl.out⟩

set_option maxRecDepth 100000 in
set_option maxHeartbeats 4000000 in
theorem eqElems_any (va vb : Value) (xs : List El) (w : World) (hA : Rd elc 3 w va xs) (hB : Rd elc 3 w vb xs) (hn : xs.length ≤ 1000000000000000) :
    Calls Tryz.prog 11 #[va, vb] w fun e w' => e = .returned (.bool true) ∧ Below w.heap.size w w' := by
  obtain ⟨a, c, rfl, hA⟩ := hA
  obtain ⟨b, d, rfl, hB⟩ := hB
  obtain ⟨n, hl⟩ : ∃ n, xs.length = n := ⟨_, rfl⟩
  have HA := hd hA
  have HB := hd hB
  have HL := hd hl
  have HYtilidolbplglcaaGreatDoor := hd hn
  rw [hl]
  clear hA hB hl hn
  go_enter Tryz.func11, Tryz.ntmps11
  go_wp2_with fail
  go_loopw [5] (fun v wr => ∃ i : Nat, i ≤ n ∧ v = .int .i64 (i : Int) ∧ Hid (Below w.heap.size w wr)) (fun v _ => n - (intOf v).toNat)
  case atStart => exact ⟨0, Nat.zero_le _, rfl, Below.refl _ _⟩
  case round =>
    obtain ⟨i, hi, rfl, HBl⟩ := hrel
    by_cases hin : i < n
    · have hix : i < xs.length := by have := HL.out; omega
      obtain ⟨ba, oa, rfl, la, hca⟩ := HA.out (by omega)
      obtain ⟨bb, ob, rfl, lb, hcb⟩ := HB.out (by omega)
      obtain ⟨⟨xc, xl, xs⟩, hx⟩ : ∃ z, xs[i] = z := ⟨_, rfl⟩
      have ka : ∀ j u, (elc (xc, xl, xs))[j]? = some u → wr.cell? ⟨ba, oa + i * 3 + j, none⟩ = some u := fun j u hu => (HBl.out.cell (p := ⟨ba, oa + i * 3 + j, none⟩) la).trans (hca i hix j u (by rw [hx]; exact hu))
      have kb : ∀ j u, (elc (xc, xl, xs))[j]? = some u → wr.cell? ⟨bb, ob + i * 3 + j, none⟩ = some u := fun j u hu => (HBl.out.cell (p := ⟨bb, ob + i * 3 + j, none⟩) lb).trans (hcb i hix j u (by rw [hx]; exact hu))
      have a0 := ka 0 _ rfl
      have b0 := kb 0 _ rfl
      have a1 := ka 1 _ rfl
      have b1 := kb 1 _ rfl
      have a2 := ka 2 _ rfl
      have b2 := kb 2 _ rfl
      simp only [Nat.add_zero] at a0 b0
      have la2 := Nat.lt_of_lt_of_le la HBl.out.size
      have lb2 := Nat.lt_of_lt_of_le lb HBl.out.size
      have i1 := gq4 hin
      have w1 := wrn hin (by have := HYtilidolbplglcaaGreatDoor.out; have := HL.out; omega)
      have hme := gq3 hin
      have hsame := elSame xc xl xs
      clear ka kb hca hcb hx
      go_wp2_with fail
      go_quiet (fail)
      go_wp2_with fail
      exact ⟨⟨i + 1, hin, by rw [w1]; go_num, below_drewN HBl.out _⟩, by rw [w1]; exact meas hme⟩
    · obtain rfl : i = n := by omega
      have i3 : ¬ ((i : Int) < (i : Int)) := by omega
      go_wp2_with fail
      go_ret
      exact ⟨rfl, HBl.out⟩

set_option maxRecDepth 100000 in
set_option maxHeartbeats 4000000 in
theorem eqEdits_any (va vb : Value) (xs : List Ed) (w : World) (hA : Rd edc 6 w va xs) (hB : Rd edc 6 w vb xs) (hn : xs.length ≤ 1000000000000000) :
    Calls Tryz.prog 8 #[va, vb] w fun e w' => e = .returned (.bool true) ∧ Below w.heap.size w w' := by
  obtain ⟨a, c, rfl, hA⟩ := hA
  obtain ⟨b, d, rfl, hB⟩ := hB
  obtain ⟨n, hl⟩ : ∃ n, xs.length = n := ⟨_, rfl⟩
  have HA := hd hA
  have HB := hd hB
  have HL := hd hl
  have HYtilidolbplglcaaGreatDoor := hd hn
  rw [hl]
  clear hA hB hl hn
  go_enter Tryz.func8, Tryz.ntmps8
  go_wp2_with fail
  go_loopw [5] (fun v wr => ∃ i : Nat, i ≤ n ∧ v = .int .i64 (i : Int) ∧ Hid (Below w.heap.size w wr)) (fun v _ => n - (intOf v).toNat)
  case atStart => exact ⟨0, Nat.zero_le _, rfl, Below.refl _ _⟩
  case round =>
    obtain ⟨i, hi, rfl, HBl⟩ := hrel
    by_cases hin : i < n
    · have hix : i < xs.length := by have := HL.out; omega
      obtain ⟨ba, oa, rfl, la, hca⟩ := HA.out (by omega)
      obtain ⟨bb, ob, rfl, lb, hcb⟩ := HB.out (by omega)
      obtain ⟨⟨xt, ⟨xk, xp, xc, xl, xs⟩⟩, hx⟩ : ∃ z, xs[i] = z := ⟨_, rfl⟩
      have ka : ∀ j u, (edc ⟨xt, ⟨xk, xp, xc, xl, xs⟩⟩)[j]? = some u → wr.cell? ⟨ba, oa + i * 6 + j, none⟩ = some u := fun j u hu => (HBl.out.cell (p := ⟨ba, oa + i * 6 + j, none⟩) la).trans (hca i hix j u (by rw [hx]; exact hu))
      have kb : ∀ j u, (edc ⟨xt, ⟨xk, xp, xc, xl, xs⟩⟩)[j]? = some u → wr.cell? ⟨bb, ob + i * 6 + j, none⟩ = some u := fun j u hu => (HBl.out.cell (p := ⟨bb, ob + i * 6 + j, none⟩) lb).trans (hcb i hix j u (by rw [hx]; exact hu))
      have a0 := ka 0 _ rfl
      have b0 := kb 0 _ rfl
      have a1 := ka 1 _ rfl
      have b1 := kb 1 _ rfl
      have a2 := ka 2 _ rfl
      have b2 := kb 2 _ rfl
      have a3 := ka 3 _ rfl
      have b3 := kb 3 _ rfl
      have a4 := ka 4 _ rfl
      have b4 := kb 4 _ rfl
      have a5 := ka 5 _ rfl
      have b5 := kb 5 _ rfl
      simp only [Nat.add_zero] at a0 b0
      have la2 := Nat.lt_of_lt_of_le la HBl.out.size
      have lb2 := Nat.lt_of_lt_of_le lb HBl.out.size
      have i1 := gq4 hin
      have w1 := wrn hin (by have := HYtilidolbplglcaaGreatDoor.out; have := HL.out; omega)
      have hme := gq3 hin
      have hsame := edSame xt xk xp xc xl xs
      clear ka kb hca hcb hx
      go_wp2_with fail
      go_quiet (fail)
      go_wp2_with fail
      exact ⟨⟨i + 1, hin, by rw [w1]; go_num, below_drewN HBl.out _⟩, by rw [w1]; exact meas hme⟩
    · obtain rfl : i = n := by omega
      have i3 : ¬ ((i : Int) < (i : Int)) := by omega
      go_wp2_with fail
      go_ret
      exact ⟨rfl, HBl.out⟩

/-- A list of marks. -/
def mkOp (m : Int) : OpE := ⟨0, m, 0, 0, 0⟩
set_option maxRecDepth 100000 in
set_option maxHeartbeats 4000000 in
theorem still_any (va : Value) (n : Nat) (m : Int) (w : World) (hA : Rd opc 5 w va (List.replicate n (mkOp m))) (hn : n ≤ 1000000000000000) :
    Calls Tryz.prog 14 #[va, .int .i64 m] w fun e w' => e = .returned (.bool true) ∧ Below w.heap.size w w' := by
  obtain ⟨a, c, rfl, hA⟩ := hA
  have HA := hd hA
  have HYtilidolbplglcaaGreatDoor := hd hn
  rw [List.length_replicate]
  clear hA hn
  go_enter Tryz.func14, Tryz.ntmps14
  go_wp2_with fail
  go_loopw [5] (fun v wr => ∃ i : Nat, i ≤ n ∧ v = .int .i64 (i : Int) ∧ Hid (Below w.heap.size w wr)) (fun v _ => n - (intOf v).toNat)
  case atStart => exact ⟨0, Nat.zero_le _, rfl, Below.refl _ _⟩
  case round =>
    obtain ⟨i, hi, rfl, HBl⟩ := hrel
    by_cases hin : i < n
    · obtain ⟨ba, oa, rfl, la, hca⟩ := HA.out (by simp; omega)
      have a1 := (HBl.out.cell (p := ⟨ba, oa + i * 5 + 1, none⟩) la).trans (hca i (by simpa using hin) 1 (.int .i64 m) (by simp [mkOp, opc]))
      have la2 := Nat.lt_of_lt_of_le la HBl.out.size
      have i1 := gq4 hin
      have w1 := wrn hin HYtilidolbplglcaaGreatDoor.out
      have hme := gq3 hin
      clear hca
      go_wp2_with fail
      exact ⟨⟨i + 1, hin, by rw [w1]; go_num, HBl⟩, by rw [w1]; exact meas hme⟩
    · obtain rfl : i = n := by omega
      have i3 : ¬ ((i : Int) < (i : Int)) := by omega
      go_wp2_with fail
      go_ret
      exact ⟨rfl, HBl.out⟩

end Go.Proofs.YtilidolbplglcaaGreatDoor
