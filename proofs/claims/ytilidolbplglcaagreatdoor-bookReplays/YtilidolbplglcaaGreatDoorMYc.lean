/-
  Texts put together: Yc Yd.
-/
import Derived.Test.YtilidolbplglcaaGreatDoorMKz
/-! Yc -/
namespace Go.Proofs.YtilidolbplglcaaGreatDoor
open Go.RowKit
set_option linter.unusedVariables false

section
variable {w w7 : World} {sx : Nat} {E W D U : List SV} {mk : Int} {vE vW vD vU : Value} {bE bW bD bU β : Option Nat} {S B : Nat → Prop}
set_option maxRecDepth 100000 in
/-- A copy of a list is put onto the shelf. -/
theorem EsS.cpD {aW : Option Addr} {nW cW : Nat} (h : EsS w w7 sx E W D U mk vE vW vD (.slice aW nW cW) bE bW bD bU S β B) (hlW : U.length = nW) (hnW : nW ≤ 30) {v : Value} {ys : List El} (hv : Rs elc 3 w7 S v ys) (hn : ys.length ≤ 2932031007500) :
    ∃ (u1 : SV) (W2 W4 : World) (a4 : Option Addr) (c4 : Nat) (S2 : Nat → Prop) (b2' : Option Nat),
      (∀ ty, (Builtin.append_ #[25, 25] ty #[.slice (some ⟨w7.heap.size, 0, none⟩) 0 0, v]).run Tryz.prog (w7.drew.alloc (.cells #[] 50)) = .ok u1.val W2) ∧
      (∀ ty, (Builtin.append_ #[36, 36] ty #[.slice aW nW cW, .slice (some ⟨W2.heap.size, 0, none⟩) 1 1]).run Tryz.prog (W2.alloc (.cells #[u1.val] 25)) = .ok (.slice a4 (nW + 1) c4) W4) ∧
      (∀ X : World, (X = w7.drew ∨ X = w7.drew.alloc (.cells #[] 50) ∨ X = W2 ∨ X = W2.alloc (.cells #[u1.val] 25) ∨ X = W4) → X.cell? ⟨sx, 3, none⟩ = some (.slice aW nW cW) ∧ X.frozen? ⟨sx, 3, none⟩ = false) ∧
      EsS w (W4.setCell ⟨sx, 3, none⟩ (.slice a4 (nW + 1) c4)) sx E W D (U ++ [u1]) mk vE vW vD (.slice a4 (nW + 1) c4) bE bW bD b2' S2 β B ∧ Rs elc 3 (W4.setCell ⟨sx, 3, none⟩ (.slice a4 (nW + 1) c4)) (fun k => w7.heap.size ≤ k ∧ S2 k) u1.val ys ∧ (∀ k, S k → S2 k) ∧ Fr (SB sx bE bW bD bU) w7 (W4.setCell ⟨sx, 3, none⟩ (.slice a4 (nW + 1) c4)) := by
  have bA : Below w7.heap.size w7 (w7.drew.alloc (.cells #[] 50)) := ((Below.refl _ _).drew).alloc (Nat.le_refl _) _
  have hg : (w7.drew.alloc (.cells #[] 50)).heap[w7.heap.size]? = some (.cells #[] 50 (0, 0)) := heap_alloc_new w7.drew _
  obtain ⟨i0, hi0, hz0, hz1, hz2⟩ := info_parts Tryz.infoE
  obtain ⟨v', W2, hr, g1, hSF, hg1, hF12⟩ := run_copyF szEl (P := Tryz.prog) _ 25 50 i0 _ 24 Tryz.underlying25 hi0 hz0 hz1 rfl hz2 w7.heap.size hg v ys (hv.fr (Fr.of_below (S := fun _ => False) bA) (fun _ _ h => h)).rd (by omega) (by omega)
  obtain ⟨ca, cc, rfl, -⟩ := hSF.form
  have hszA : (w7.drew.alloc (.cells #[] 50)).heap.size = w7.heap.size + 1 := by simp
  have F07 : Fr (fun _ => False) w7 W2 := (Fr.of_below (S := fun _ => False) bA).next hF12 (fun k hk he => by omega)
  have hg7 : w7.heap.size ≤ g1 := by rcases hg1 with h1 | h1 <;> omega
  have hgl := hSF.lt g1 rfl
  have ESm := h.list (S2 := fun k => S k ∨ k = g1) F07 (fun _ h => h.elim) (fun k hk => hk.imp id (fun h => by omega)) (fun k hk => by
    rcases hk with hk | hk
    · exact Nat.lt_of_lt_of_le (h.sl k hk) F07.size
    · rw [hk]; exact hgl)
  obtain ⟨a4, c4, W4, hap, k2, g4, k3, k4, k5⟩ := ESm.X.pushUs (u := W2.alloc (.cells #[SV.val (ca, ys.length, cc)] 25)) (ca, ys.length, cc) ((Below.refl _ _).alloc (Nat.le_refl _) _) W2.heap.size (heap_alloc_new W2 _) (by omega)
  rw [hlW] at hap k3 k4
  have r1 : Rs elc 3 W2 (fun k => w7.heap.size ≤ k ∧ (S k ∨ k = g1)) (SV.val (ca, ys.length, cc)) ys := (hSF.rs szEl).mono (fun b hb => by injection hb with hb; exact ⟨by omega, .inr hb.symm⟩)
  refine ⟨(ca, ys.length, cc), W2, W4, a4, c4, fun k => S k ∨ k = g1, some g4, hr, hap, ?_, ESm.shelf k3 k4 (fun k hk => hk.elim .inl (fun h => .inr (.inr (.inr (.inr h))))) ?_, r1.fr k4 (fun b hb hs => ESm.dj b hb.2 (hs.elim .inl (fun h => .inr (.inr (.inr (.inr h)))))), fun k hk => .inl hk, ?_⟩
  · have kk : ∀ X : World, X.heap[sx]? = w7.heap[sx]? → X.cell? ⟨sx, 3, none⟩ = some (.slice aW nW cW) ∧ X.frozen? ⟨sx, 3, none⟩ = false := fun X hX => by
      have hb := hX.trans h.X.blk
      exact ⟨by rw [cell_row hb]; rfl, frozen_row hb _⟩
    have lsx := block_lt h.X.blk
    have h2 : W2.heap[sx]? = w7.heap[sx]? := F07.block sx lsx (fun h => h)
    rintro X (rfl | rfl | rfl | rfl | rfl)
    · exact kk _ rfl
    · exact kk _ (bA.block sx lsx)
    · exact kk _ h2
    · refine kk _ (Eq.trans ?_ h2)
      exact ((Below.refl W2.heap.size W2).alloc (Nat.le_refl _) _ : Below W2.heap.size W2 (W2.alloc (.cells #[SV.val (ca, ys.length, cc)] 25))).block sx (Nat.lt_of_lt_of_le lsx F07.size)
    · refine kk _ (k2.trans ?_)
      exact h.X.blk.symm
  · intro k hk
    revert k hk
    rintro k (hk | hk | hk | hk | hk)
    · exact .inl (.inl hk)
    · exact .inl (.inr (.inl hk))
    · exact .inl (.inr (.inr (.inl hk)))
    · exact .inl (.inr (.inr (.inr (.inl hk))))
    · injection hk with hk
      subst hk
      exact k5.imp (fun h => .inr (.inr (.inr (.inr h)))) id

  · exact (F07.mono (fun _ _ h => h.elim)).next k4 (fun k hk hs => hs.elim .inl (fun h => .inr (.inr (.inr (.inr h)))))
end
section
variable {w : World} {sx : Nat} {E W D U : List SV} {mk : Int} {vE vW vD vU : Value} {bE bW bD bU β : Option Nat} {v : Value} {xs : List El}
/-- What is left behind. -/
def PostD (w w' : World) (sx : Nat) (E W D U : List SV) (mk : Int) (vE vW vD vU : Value) (bE bW bD bU β : Option Nat) (v : Value) (n : Nat) : Prop :=
  ∃ (x g u1 u2 : SV) (S' : Nat → Prop) (v1' v2' : Value) (b1' b2' : Option Nat), v = x.val ∧ EsS w w' sx E W (D ++ [x] ++ [g]) (U ++ [u1] ++ [u2]) (mk + 1) vE vW v1' v2' bE bW b1' b2' S' β (SB sx bE bW bD bU) ∧ Rs elc 3 w' S' x.val (List.replicate n ((0, -(mk + 1), 0) : El)) ∧ Rs elc 3 w' S' g.val (List.replicate (n + 3) ((0, -(mk + 1), 0) : El)) ∧ Rs elc 3 w' S' u1.val (List.replicate n ((0, -(mk + 1), 0) : El)) ∧ Rs elc 3 w' S' u2.val (List.replicate (n + 3) ((0, -(mk + 1), 0) : El))
set_option maxRecDepth 100000 in
set_option maxHeartbeats 8000000 in
theorem selems_any (hX : ShX w sx E W D U mk vE vW vD vU bE bW bD bU) (hL : SF elc 3 w 50 β v xs) (hdj : ∀ g, β = some g → ¬ SB sx bE bW bD bU g) (hE : D.length ≤ 20) (hW : U.length ≤ 20) (hmk : 0 ≤ mk ∧ mk ≤ 1000) (hn : xs.length ≤ 2932031007402) :
    Calls Tryz.prog 12 #[.pointer (some ⟨sx, 0, none⟩), v] w fun e w' => e = .returned (.tuple #[]) ∧ PostD w w' sx E W D U mk vE vW vD vU bE bW bD bU β v xs.length := by
  obtain ⟨a, c, rfl, -⟩ := hL.form
  obtain ⟨aE, cE, hvE, -⟩ := hX.d.form
  obtain ⟨aW, cW, hvW, -⟩ := hX.wd.form
  subst hvE hvW
  obtain ⟨n, hl⟩ : ∃ n, xs.length = n := ⟨_, rfl⟩
  obtain ⟨nE, hlE⟩ : ∃ n, D.length = n := ⟨_, rfl⟩
  obtain ⟨nW, hlW⟩ : ∃ n, U.length = n := ⟨_, rfl⟩
  have HL := hd hl
  have HLE := hd hlE
  have HLW := hd hlW
  rw [hl] at hn hL ⊢
  rw [hlE] at hE hX
  rw [hlW] at hW hX
  have ES0 : EsS w w sx E W D U mk vE vW (.slice aE nE cE) (.slice aW nW cW) bE bW bD bU (fun k => β = some k) β (SB sx bE bW bD bU) := ⟨hX, Fr.refl _ _, fun k hk => .inl hk, hdj, fun k hk => hL.lt k hk, fun k hk => .inl hk⟩
  obtain ⟨m1, m2⟩ := hX.mark (mk + 1)
  have ES1 := hd (ES0.shelf m1 m2 (fun k hk => .inl hk) (fun k hk => .inl hk))
  have HL1 := hd (And.intro (hL.fr m2 (fun g hg he => hdj g hg (.inl he))) (fun g (hg : β = some g) => hL.lt g hg))
  have b0 := cell_row hX.blk 2
  have b4 := cell_row hX.blk 4
  have f4 := frozen_row hX.blk 4
  simp at b0 b4
  have lsx := block_lt hX.blk
  have i30 : ¬ ((30 : Int) < (nE : Int)) := by omega
  have wm : wrap64 (mk + 1) = mk + 1 := by rw [wrap64]; omega
  have wn : wrap64 (-(mk + 1)) = -(mk + 1) := by rw [wrap64]; omega
  have HNX := hd (And.intro hn (And.intro hE hW))
  clear hX hL hdj ES0 m1 m2 hl hlE hlW hn hE hW hmk
  go_enter Tryz.func12, Tryz.ntmps12
  go_upto_region 2 with fail
  generalize w.setCell ⟨sx, 4, none⟩ (.int .i64 (mk + 1)) = w1 at *
  clear b0 b4 f4 lsx wm i30
  have b4 := cell_row ES1.out.X.blk 4
  simp at b4
  have lsx := block_lt ES1.out.X.blk
  have bA : Below w1.heap.size w1 (w1.alloc (.cells #[.int .u8 0, .int .i64 (-(mk + 1)), .int .i64 0] 50)) := (Below.refl _ _).alloc (Nat.le_refl _) _
  have hmb := heap_alloc_new w1 (.cells #[.int .u8 0, .int .i64 (-(mk + 1)), .int .i64 0] 50)
  have hz1 := ES1.out.fr.size
  have ES2 := hd (ES1.out.list (S2 := fun k => β = some k ∨ k = w1.heap.size) (Fr.of_below (S := fun _ => False) bA) (fun _ h => h.elim) (fun k hk => hk.imp id (fun h => by omega)) (fun k hk => by
    rcases hk with hk | hk
    · have := HL1.out.2 k hk; have := bA.size; omega
    · rw [hk]; exact block_lt hmb))
  have HL2 := hd (And.intro (HL1.out.1.fr (Fr.of_below (S := fun _ => False) bA) (fun _ _ h => h)) hmb)
  have HMB : Hid (∀ g, β = some g → w1.heap.size ≠ g) := fun g hg => by have := HL1.out.2 g hg; omega
  go_upto_region 4 with fail
  clear b4 lsx bA hmb hz1 ES1 wn
  generalize w1.alloc (.cells #[.int .u8 0, .int .i64 (-(mk + 1)), .int .i64 0] 50) = w2 at *
  generalize w1.heap.size = mb at *
  go_loopw [5] (fun iv wr => ∃ i : Nat, i ≤ n ∧ iv = .int .i64 (i : Int) ∧ Hid (EsS w wr sx E W D U (mk + 1) vE vW (.slice aE nE cE) (.slice aW nW cW) bE bW bD bU (fun k => β = some k ∨ k = mb) β (SB sx bE bW bD bU) ∧ SF elc 3 wr 50 β (.slice a n c) (List.replicate i ((0, -(mk + 1), 0) : El) ++ xs.drop i) ∧ wr.heap[mb]? = some (.cells #[.int .u8 0, .int .i64 (-(mk + 1)), .int .i64 0] 50 (0, 0)))) (fun iv _ => n - (intOf iv).toNat)
  case atStart => exact ⟨0, Nat.zero_le _, rfl, ES2.out, by simpa using HL2.out.1, HL2.out.2⟩
  case round =>
    clear ES2 HL2
    obtain ⟨i, hi, rfl, HR⟩ := hrel
    by_cases hin : i < n
    · have hix : i < xs.length := by have := HL.out; omega
      obtain ⟨hES, hSF, hM⟩ := HR.out
      cases β with
      | none =>
        exfalso
        obtain ⟨e1, -⟩ := hSF
        injection e1 with _ e2 _
        omega
      | some g =>
        obtain ⟨cap, e1, hRow⟩ := hSF
        injection e1 with e1 e2 e3
        subst e1 e3
        have hlen : (List.replicate i ((0, -(mk + 1), 0) : El) ++ xs.drop i).length = n := by rw [List.length_append, List.length_replicate, List.length_drop]; have := HL.out; omega
        have hil : i < (List.replicate i ((0, -(mk + 1), 0) : El) ++ xs.drop i).length := by omega
        have lg := hRow.lt
        have c0 := hRow.cell szEl i 0 hil (by omega)
        have c1 := hRow.cell szEl i 1 hil (by omega)
        have c2 := hRow.cell szEl i 2 hil (by omega)
        obtain ⟨⟨zc, zl, zs⟩, hz⟩ : ∃ z, (List.replicate i ((0, -(mk + 1), 0) : El) ++ xs.drop i)[i] = z := ⟨_, rfl⟩
        rw [hz] at c0 c1 c2
        simp only [elc, List.getElem?_cons_zero, List.getElem?_cons_succ, Nat.add_zero] at c0 c1 c2
        rw [hlen] at hRow
        obtain ⟨cur, hcur, -⟩ := id hRow
        have f0 := frozen_row hcur (i * 3)
        have f1 := frozen_row hcur (i * 3 + 1)
        have f2 := frozen_row hcur (i * 3 + 2)
        have m0 := fun j => cell_row hM j
        have m1 := m0 0
        have m2 := m0 1
        have m3 := m0 2
        simp at m1 m2 m3
        have lmb := block_lt hM
        have hNX := hRow.setN szEl i hin ((0, -(mk + 1), 0) : El)
        have hms := mark_step xs i ((0, -(mk + 1), 0) : El) hix
        rw [hms] at hNX
        have hlen2 : (List.replicate (i + 1) ((0, -(mk + 1), 0) : El) ++ xs.drop (i + 1)).length = n := by rw [List.length_append, List.length_replicate, List.length_drop]; have := HL.out; omega
        have hF := Fr.setCells g (elc ((0, -(mk + 1), 0) : El)) (i * 3) wr
        have Z : Hid (EsS w (wr.setCells g (i * 3) (elc ((0, -(mk + 1), 0) : El))) sx E W D U (mk + 1) vE vW (.slice aE nE cE) (.slice aW nW cW) bE bW bD bU (fun k => some g = some k ∨ k = mb) (some g) (SB sx bE bW bD bU) ∧ SF elc 3 (wr.setCells g (i * 3) (elc ((0, -(mk + 1), 0) : El))) 50 (some g) (.slice (some ⟨g, 0, none⟩) n c) (List.replicate (i + 1) ((0, -(mk + 1), 0) : El) ++ xs.drop (i + 1)) ∧ (wr.setCells g (i * 3) (elc ((0, -(mk + 1), 0) : El))).heap[mb]? = some (.cells #[.int .u8 0, .int .i64 (-(mk + 1)), .int .i64 0] 50 (0, 0))) := by
          refine ⟨hES.list hF (fun k hk => .inl (by rw [hk])) (fun k hk => .inl hk) (fun k hk => Nat.lt_of_lt_of_le (hES.sl k hk) hF.size), ⟨c, by rw [hlen2], by rw [hlen2]; exact hNX⟩, hF.keeps hM (HMB.out g rfl)⟩
        have i1 := gq4 hin
        have w1 := wrn hin (by have := HNX.out.1; omega)
        have hme := gq3 hin
        clear HR hRow hNX hms hlen hlen2 hil hz hES hM hF hcur m0
        go_wp2_with fail
        exact ⟨⟨i + 1, hin, by first | go_num | (rw [w1]; go_num), Z⟩, by first | exact meas hme | (rw [w1]; exact meas hme)⟩
    · obtain rfl : i = n := by omega
      have i3 : ¬ ((i : Int) < (i : Int)) := by omega
      have HF : Hid (EsS w wr sx E W D U (mk + 1) vE vW (.slice aE nE cE) (.slice aW nW cW) bE bW bD bU (fun k => β = some k ∨ k = mb) β (SB sx bE bW bD bU) ∧ SF elc 3 wr 50 β (.slice a i c) (List.replicate i ((0, -(mk + 1), 0) : El)) ∧ wr.heap[mb]? = some (.cells #[.int .u8 0, .int .i64 (-(mk + 1)), .int .i64 0] 50 (0, 0))) := by
        have h := HR.out
        rw [List.drop_eq_nil_of_le (by have := HL.out; omega), List.append_nil] at h
        exact h
      clear HR
      -- s.E gets the list
      obtain ⟨a3, c3, u3, hap, k2, g3, k3, k4, k5⟩ := HF.out.1.X.pushDs (u := wr.alloc (.cells #[.slice a i c] 25)) (a, i, c) ((Below.refl _ _).alloc (Nat.le_refl _) _) wr.heap.size (heap_alloc_new wr _) (by rw [HLE.out]; have := HNX.out.2.1; omega)
      rw [HLE.out] at hap k3 k4
      have ES7 := hd (HF.out.1.shelf k3 k4 (fun k hk => hk.elim .inl (fun h => .inr (.inr (.inr (.inl h))))) (by
        rintro k (hk | hk | hk | hk | hk)
        · exact .inl (.inl hk)
        · exact .inl (.inr (.inl hk))
        · exact .inl (.inr (.inr (.inl hk)))
        · injection hk with hk
          subst hk
          exact k5.imp (fun h => .inr (.inr (.inr (.inl h)))) id
        · exact .inl (.inr (.inr (.inr (.inr hk))))
      ))
      have HL7 : Hid (SF elc 3 (u3.setCell ⟨sx, 2, none⟩ (.slice a3 (nE + 1) c3)) 50 β (.slice a i c) (List.replicate i ((0, -(mk + 1), 0) : El)) ∧ (u3.setCell ⟨sx, 2, none⟩ (.slice a3 (nE + 1) c3)).heap[mb]? = some (.cells #[.int .u8 0, .int .i64 (-(mk + 1)), .int .i64 0] 50 (0, 0))) := by
        have hno : ∀ g, (β = some g ∨ g = mb) → ¬ (g = sx ∨ bD = some g) := fun g hg h => HF.out.1.dj g hg (h.elim .inl (fun h => .inr (.inr (.inr (.inl h)))))
        exact ⟨HF.out.2.1.fr k4 (fun g hg => hno g (.inl hg)), k4.keeps HF.out.2.2 (hno mb (.inr rfl))⟩
      have e0 := cell_row HF.out.1.X.blk 2
      have q0 := cell_row k2 2
      have f0 := frozen_row k2 2
      simp at e0 q0
      have lsx := block_lt HF.out.1.X.blk
      have lsu := block_lt k2
      have HAP := hd hap
      clear hap k2 k3 k4 k5 HF
      go_upto_region 8 with (at_builtin; refine wpList_append_k _ rfl _ _ 36 36 rfl _ _ rfl rfl (HAP.out _) ?_)
      clear e0 q0 f0 lsx lsu HAP
      generalize u3.setCell ⟨sx, 2, none⟩ (.slice a3 (nE + 1) c3) = w7 at *
      have HS1 := hd ES7.out.fr.size
      have HBW : Hid (∀ g, β = some g → g < w.heap.size) := HL1.out.2
      have rl : Rs elc 3 w7 (fun k => β = some k ∨ k = mb) (.slice a i c) (List.replicate i ((0, -(mk + 1), 0) : El)) := (HL7.out.1.rs szEl).mono (fun b hb => .inl hb)
      obtain ⟨u1, W2, W4, a4, c4, S2, b8, hA1, hA2, hG, h8, r8, hS12, F78⟩ := ES7.out.cpD HLW.out (by have := HNX.out.2.2; omega) rl (by rw [List.length_replicate]; have := HNX.out.1; omega)
      have E8 := hd (And.intro h8 (And.intro r8 (And.intro hS12 (And.intro (HL7.out.1.fr F78 (fun g hg => ES7.out.dj g (.inl hg))) (F78.keeps HL7.out.2 (ES7.out.dj mb (.inr rfl)))))))
      have HS7 : Hid (w.heap.size ≤ w7.heap.size) := HS1.out
      clear h8 r8 hS12 F78 rl HL7 ES7 HS1
      refine shD8 _ w7 sx (.slice a i c) (.slice aW nW cW) u1.val (.slice a4 (nW + 1) c4) W2 W4 rfl rfl (by simp) ⟨_, _, _, rfl⟩ ⟨_, _, _, rfl⟩ ?g8 hA1 hA2 ?k8
      case g8 =>
        intro s hs
        rcases s with _ | _ | _ | _ | _ | s
        · exact hG _ (.inl rfl)
        · exact hG _ (.inr (.inl rfl))
        · exact hG _ (.inr (.inr (.inl rfl)))
        · exact hG _ (.inr (.inr (.inr (.inl rfl))))
        · exact hG _ (.inr (.inr (.inr (.inr rfl))))
        · omega
      case k8 =>
        intro V8
        clear hA1 hA2 hG
        rename_i K0 hK0
        refine hK0 _ _ ?_
        clear hK0
        simp only [List.range, List.range.loop, List.map_cons, List.map_nil, slshD8, List.getD_cons_zero, List.getD_cons_succ, puts, List.foldl_cons, List.foldl_nil, Act.put, List.setIfInBounds_toArray, List.set_cons_succ, List.set_cons_zero]
        generalize W4.setCell ⟨sx, 3, none⟩ (.slice a4 (nW + 1) c4) = w8 at *
        obtain ⟨h8, r8, hS12, hL8, hM8⟩ := E8.out
        have bA : Below w8.heap.size w8 (w8.alloc (.cells #[.int .u8 0, .int .i64 (-(mk + 1)), .int .i64 0, .int .u8 0, .int .i64 (-(mk + 1)), .int .i64 0, .int .u8 0, .int .i64 (-(mk + 1)), .int .i64 0] 50)) := (Below.refl _ _).alloc (Nat.le_refl _) _
        have hnew := heap_alloc_new w8 (.cells #[.int .u8 0, .int .i64 (-(mk + 1)), .int .i64 0, .int .u8 0, .int .i64 (-(mk + 1)), .int .i64 0, .int .u8 0, .int .i64 (-(mk + 1)), .int .i64 0] 50)
        obtain ⟨i0, hi0, hz0, hz1, hz2⟩ := info_parts Tryz.infoE
        have hSA := hL8.fr (Fr.of_below (S := fun _ => False) bA) (fun _ _ h => h)
        obtain ⟨v9, w9, hap, hN⟩ := run_pushF szEl (P := Tryz.prog) _ 25 0 50 i0 _ 24 Tryz.underlying25 hi0 hz0 hz1 rfl hz2 β _ _ hSA ⟨w8.heap.size, 0, none⟩ 3 3 (List.replicate 3 ((0, -(mk + 1), 0) : El)) rfl (fun j z hj => by
          rw [add_lit, cell_row hnew, Nat.zero_add, List.getElem?_toArray]
          exact hj) (by omega) (by rw [List.length_replicate]; have := HNX.out.1; omega) (by rw [List.length_replicate]; have := HNX.out.1; omega)
        have hap2 : ∀ ty, (Builtin.append_ #[25, 25] ty #[.slice a i c, .slice (some ⟨w8.heap.size, 0, none⟩) 3 3]).run Tryz.prog (w8.alloc (.cells #[.int .u8 0, .int .i64 (-(mk + 1)), .int .i64 0, .int .u8 0, .int .i64 (-(mk + 1)), .int .i64 0, .int .u8 0, .int .i64 (-(mk + 1)), .int .i64 0] 50)) = .ok v9 w9 := fun ty => hap
        obtain ⟨S9, r1, r2, r3, r4, r5⟩ := NowF.marks szEl hSA hN
        obtain ⟨va, vc, e9, -⟩ := id r2
        rw [List.length_replicate] at e9
        subst e9
        have F89 : Fr (fun k => β = some k) w8 w9 := (Fr.of_below bA).trans r4
        have hz8 := bA.size
        have ES9 := h8.list (S2 := fun k => S2 k ∨ S9 k) F89 (fun k hk => hS12 k (.inl hk)) (fun k hk => by
          rcases hk with hk | hk
          · exact .inl hk
          · rcases r3 k hk with h | h
            · exact .inl (hS12 k (.inl h))
            · exact .inr (by omega)) (fun k hk => by
          rcases hk with hk | hk
          · exact Nat.lt_of_lt_of_le (h8.sl k hk) F89.size
          · exact r5 k hk)
        have r8' := r8.fr F89 (fun b hb he => by have := HBW.out b he; have := HS7.out; omega)
        have E9 := hd (And.intro ES9 (And.intro (r1.mono (T := fun k => S2 k ∨ S9 k) (fun b hb => .inr hb)) (And.intro (r2.mono (T := fun k => S2 k ∨ S9 k) (fun b hb => .inr hb)) (r8'.mono (T := fun k => S2 k ∨ S9 k) (fun b hb => .inl hb.2)))))
        have m0 := fun j => cell_row hM8 j
        have m1 := m0 0
        have m2 := m0 1
        have m3 := m0 2
        simp at m1 m2 m3
        have lmb := block_lt hM8
        have HAP9 := hd hap2
        clear hap hap2 hN hSA hnew bA r1 r2 r3 r4 r5 hi0 hz0 hz1 hz2 r8 r8' h8 hS12 hL8 hM8 ES9 E8 F89 hz8 m0 HS7
        go_upto_region 10 with (at_builtin; refine wpList_append_k _ rfl _ _ 25 25 rfl _ _ rfl rfl (HAP9.out _) ?_)
        clear HAP9 lmb m1 m2 m3
        obtain ⟨h9, l9, gg9, uu9⟩ := E9.out
        have hl9 : (D ++ [((a, i, c) : SV)]).length = nE + 1 := by rw [List.length_append, HLE.out]; rfl
        obtain ⟨a10, c10, u10, hap, k2, g10, k3, k4, k5⟩ := h9.X.pushDs (u := w9.alloc (.cells #[.slice va (i + 3) vc] 25)) (va, i + 3, vc) ((Below.refl _ _).alloc (Nat.le_refl _) _) w9.heap.size (heap_alloc_new w9 _) (by rw [hl9]; have := HNX.out.2.1; omega)
        rw [hl9] at hap k3 k4
        have hno : ∀ g, (S2 g ∨ S9 g) → ¬ (g = sx ∨ some g3 = some g) := fun g hg h => h9.dj g hg (h.elim .inl (fun h => .inr (.inr (.inr (.inl h)))))
        have E10 := hd (And.intro (h9.shelf k3 k4 (fun k hk => hk.elim .inl (fun h => .inr (.inr (.inr (.inl h))))) (by
          rintro k (hk | hk | hk | hk | hk)
          · exact .inl (.inl hk)
          · exact .inl (.inr (.inl hk))
          · exact .inl (.inr (.inr (.inl hk)))
          · injection hk with hk
            subst hk
            exact k5.imp (fun h => .inr (.inr (.inr (.inl h)))) id
          · exact .inl (.inr (.inr (.inr (.inr hk))))
      )) (And.intro (l9.fr k4 hno) (And.intro (gg9.fr k4 hno) (uu9.fr k4 hno))))
        have e0 := cell_row h9.X.blk 2
        have q0 := cell_row k2 2
        have f0 := frozen_row k2 2
        simp at e0 q0
        have lsx := block_lt h9.X.blk
        have lsu := block_lt k2
        have HAP := hd hap
        clear hap k2 k3 k4 k5 h9 l9 gg9 uu9 hno E9 hl9
        go_upto_region 11 with (at_builtin; refine wpList_append_k _ rfl _ _ 36 36 rfl _ _ rfl rfl (HAP.out _) ?_)
        clear e0 q0 f0 lsx lsu HAP
        generalize u10.setCell ⟨sx, 2, none⟩ (.slice a10 (nE + 1 + 1) c10) = w10 at *
        obtain ⟨h10, l10, gg10, uu10⟩ := E10.out
        have hl10 : (U ++ [u1]).length = nW + 1 := by rw [List.length_append, HLW.out]; rfl
        obtain ⟨u2, X2, X4, a12, c12, S12, b12, hA1, hA2, hG, h12, r12, hS, F12⟩ := h10.cpD hl10 (by have := HNX.out.2.2; omega) gg10 (by rw [List.length_replicate]; have := HNX.out.1; omega)
        have Z : Hid (PostD w (X4.setCell ⟨sx, 3, none⟩ (.slice a12 (nW + 1 + 1) c12)) sx E W D U mk vE vW (.slice aE nE cE) (.slice aW nW cW) bE bW bD bU β (.slice a i c) i) :=
          ⟨(a, i, c), (va, i + 3, vc), u1, u2, S12, _, _, _, _, rfl, h12, (l10.fr F12 (fun b hb => h10.dj b hb)).mono hS, (gg10.fr F12 (fun b hb => h10.dj b hb)).mono hS, (uu10.fr F12 (fun b hb => h10.dj b hb)).mono hS, r12.mono (fun b hb => hb.2)⟩
        clear h12 r12 hS F12 h10 l10 gg10 uu10 E10 hl10
        refine shD11 _ w10 sx (.slice va (i + 3) vc) (.slice a4 (nW + 1) c4) u2.val (.slice a12 (nW + 1 + 1) c12) X2 X4 rfl rfl (by simp) ⟨_, _, _, rfl⟩ ⟨_, _, _, rfl⟩ ?g11 hA1 hA2 ?k11
        case g11 =>
          intro s hs
          rcases s with _ | _ | _ | _ | _ | s
          · exact hG _ (.inl rfl)
          · exact hG _ (.inr (.inl rfl))
          · exact hG _ (.inr (.inr (.inl rfl)))
          · exact hG _ (.inr (.inr (.inr (.inl rfl))))
          · exact hG _ (.inr (.inr (.inr (.inr rfl))))
          · omega
        case k11 =>
          intro V11
          clear hA1 hA2 hG
          go_wp2_with fail
          refine bodyPost_end (results_none rfl _ _ _) rfl ?_
          exact ⟨rfl, Z.out⟩
end

end Go.Proofs.YtilidolbplglcaaGreatDoor

/-! Yd -/
namespace Go.Proofs.YtilidolbplglcaaGreatDoor
open Go.RowKit
set_option linter.unusedVariables false

def mkEd (m : Int) : Ed := ⟨-(m + 1), ⟨0, 0, 0, 0, 0⟩⟩
def mkEl (m : Int) : El := (0, -(m + 1), 0)
section
variable {w0 w : World} {K : Nat → Prop} {F : Nat → Thg} {sx : Nat} {E W D U : List SV} {mk : Int} {β : Option Nat} {v : Value}
theorem mo_edits (h : MO w0 w K F) (h0 : F 0 = shO sx E W D U mk) (i : Nat) (hi0 : 0 ≠ i) {xs : List Ed} (hi : F i = lsO edc 6 48 β v xs) (hE : E.length ≤ 20) (hW : W.length ≤ 20) (hmk : 0 ≤ mk ∧ mk ≤ 1000) (hn : xs.length ≤ 2932031007402) :
    Calls Tryz.prog 9 #[.pointer (some ⟨sx, 0, none⟩), v] w fun e w' => e = .returned (.tuple #[]) ∧ ∃ x g u1 u2 : SV, v = x.val ∧ MO w0 w' K (setO (setO F 0 (shO sx (E ++ [x] ++ [g]) (W ++ [u1] ++ [u2]) D U (mk + 1))) i (mkO edc 6 (mkEd mk) [(x.val, xs.length), (g.val, xs.length + 3), (u1.val, xs.length), (u2.val, xs.length + 3)])) ∧ KP K w w' := by
  obtain ⟨S1, S2, g1, g2, d, hN⟩ := h.two 0 i hi0
  rw [h0] at g1
  rw [hi] at g2
  obtain ⟨vE, vW, vD, vU, bE, bW, bD, bU, hX, hS1⟩ := g1
  obtain ⟨hL, hS2⟩ := g2
  refine (sedits_any hX hL (fun g hg hs => d g ((hS1 g).2 hs) ((hS2 g).2 hg)) hE hW hmk hn).mono ?_
  rintro e w' ⟨rfl, x, g, u1, u2, S', v1', v2', b1', b2', hv, hES, r1, r2, r3, r4⟩
  refine ⟨rfl, x, g, u1, u2, hv, hN _ _ w' (SB sx b1' b2' bD bU) S' (frm_sh _ _ _ _ _ _) (frm_mk _ _ _ _) ⟨_, _, _, _, _, _, _, _, hES.X, fun _ => Iff.rfl⟩ ⟨fun z hz => ?_, hES.sl⟩ (fun k h1 h2 => hES.dj k h2 h1) (fun k hk => (hES.sb k hk).imp (fun h => (hS1 k).2 h) id) (fun k hk => (hES.so k hk).imp (fun h => (hS2 k).2 h) id) (hES.fr.mono (fun k _ hk => hk.elim (fun h => .inr ((hS2 k).2 h)) (fun h => .inl ((hS1 k).2 h))))⟩
  simp only [List.mem_cons, List.not_mem_nil, or_false] at hz
  rcases hz with rfl | rfl | rfl | rfl
  · exact r1
  · exact r2
  · exact r3
  · exact r4
theorem mo_elems (h : MO w0 w K F) (h0 : F 0 = shO sx E W D U mk) (i : Nat) (hi0 : 0 ≠ i) {xs : List El} (hi : F i = lsO elc 3 50 β v xs) (hE : D.length ≤ 20) (hW : U.length ≤ 20) (hmk : 0 ≤ mk ∧ mk ≤ 1000) (hn : xs.length ≤ 2932031007402) :
    Calls Tryz.prog 12 #[.pointer (some ⟨sx, 0, none⟩), v] w fun e w' => e = .returned (.tuple #[]) ∧ ∃ x g u1 u2 : SV, v = x.val ∧ MO w0 w' K (setO (setO F 0 (shO sx E W (D ++ [x] ++ [g]) (U ++ [u1] ++ [u2]) (mk + 1))) i (mkO elc 3 (mkEl mk) [(x.val, xs.length), (g.val, xs.length + 3), (u1.val, xs.length), (u2.val, xs.length + 3)])) ∧ KP K w w' := by
  obtain ⟨S1, S2, g1, g2, d, hN⟩ := h.two 0 i hi0
  rw [h0] at g1
  rw [hi] at g2
  obtain ⟨vE, vW, vD, vU, bE, bW, bD, bU, hX, hS1⟩ := g1
  obtain ⟨hL, hS2⟩ := g2
  refine (selems_any hX hL (fun g hg hs => d g ((hS1 g).2 hs) ((hS2 g).2 hg)) hE hW hmk hn).mono ?_
  rintro e w' ⟨rfl, x, g, u1, u2, S', v1', v2', b1', b2', hv, hES, r1, r2, r3, r4⟩
  refine ⟨rfl, x, g, u1, u2, hv, hN _ _ w' (SB sx bE bW b1' b2') S' (frm_sh _ _ _ _ _ _) (frm_mk _ _ _ _) ⟨_, _, _, _, _, _, _, _, hES.X, fun _ => Iff.rfl⟩ ⟨fun z hz => ?_, hES.sl⟩ (fun k h1 h2 => hES.dj k h2 h1) (fun k hk => (hES.sb k hk).imp (fun h => (hS1 k).2 h) id) (fun k hk => (hES.so k hk).imp (fun h => (hS2 k).2 h) id) (hES.fr.mono (fun k _ hk => hk.elim (fun h => .inr ((hS2 k).2 h)) (fun h => .inl ((hS1 k).2 h))))⟩
  simp only [List.mem_cons, List.not_mem_nil, or_false] at hz
  rcases hz with rfl | rfl | rfl | rfl
  · exact r1
  · exact r2
  · exact r3
  · exact r4
theorem mo_marked (h : MO w0 w K F) (i : Nat) {xs : List OpE} (hi : F i = lsO opc 5 46 β v xs) (m : Int) (hn : xs.length ≤ 4096) :
    Calls Tryz.prog 13 #[v, .int .i64 m] w fun e w' => ∃ g, e = .returned g ∧ MO w0 w' K (setO F i (mkO opc 5 (mkOp m) [(v, xs.length), (g, xs.length + 2)])) ∧ KP K w w' := by
  obtain ⟨S, g1, hN⟩ := h.now i
  rw [hi] at g1
  obtain ⟨hL, hS⟩ := g1
  refine (marked_any v xs β m w hL hn).mono ?_
  rintro e w' ⟨g, rfl, S', r1, r2, r3, r4, r5⟩
  refine ⟨g, rfl, hN _ w' S' (frm_mk _ _ _ _) ⟨fun z hz => ?_, r5⟩ (fun k hk => (r3 k hk).imp (fun h => (hS k).2 h) id) (r4.mono (fun k _ hk => (hS k).2 hk))⟩
  simp only [List.mem_cons, List.not_mem_nil, or_false] at hz
  rcases hz with rfl | rfl
  · exact r1
  · exact r2
end
/-- Of each pair of the shelf: both are the same list. -/
def PrS {α : Type} (f : α → List Value) (k : Nat) (w : World) (E W : List SV) : Prop := E.length = W.length ∧ ∀ i (h : i < E.length) (h2 : i < W.length), ∃ ys : List α, ys.length ≤ 1000000000000000 ∧ Rd f k w E[i].val ys ∧ Rd f k w W[i].val ys
theorem PrS.below {α : Type} {f : α → List Value} {k : Nat} {w w' : World} {E W : List SV} (h : PrS f k w E W) (hb : Below w.heap.size w w') : PrS f k w' E W :=
  ⟨h.1, fun i h1 h2 => by
    obtain ⟨ys, h3, h4, h5⟩ := h.2 i h1 h2
    exact ⟨ys, h3, h4.below hb, h5.below hb⟩⟩

end Go.Proofs.YtilidolbplglcaaGreatDoor
