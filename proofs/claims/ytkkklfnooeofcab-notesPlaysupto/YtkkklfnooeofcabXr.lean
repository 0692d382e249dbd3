/-
  The law's asks: regions whose order is drawn, with one call each.
-/
import Derived.Test.YtkkklfnooeofcabXq
namespace Go.Proofs.Ytkkklfnooeofcab
open Go.RowKit
set_option linter.unusedVariables false

noncomputable def opsAA : Array Oper := (Try.f9.body.bind (opsAt 6)).getD #[]
theorem opsAA_size : opsAA.size = 15 := by kernel_rfl
theorem opsAA_earlier : Earlier opsAA := by
  have h : (List.range 15).all (fun i => ((opsAA[i]?).map (fun o => o.after.all (fun e => !Region.binds .any e || decide (e.on < i)))).getD true) = true := by kernel_rfl
  intro i o ho e he hb
  have hi : i < 15 := by
    have := (Array.getElem?_eq_some_iff.1 ho).1
    rwa [opsAA_size] at this
  have h1 := List.all_eq_true.1 h i (List.mem_range.2 hi)
  rw [ho] at h1
  simp only [Option.map_some, Option.getD_some, Array.all_eq_true'] at h1
  have h2 := h1 e he
  rw [hb] at h2
  simpa using h2
def slAA (j : Nat) : Nat := ([34, 35, 36, 37, 38, 39, 40, 41, 42, 33, 43, 44, 8, 913, 9] : List Nat).getD j 0
def DAA : List Nat := [0, 1, 2, 3, 4, 5, 6, 7, 8, 9, 10, 11, 12, 14]
def VAA (X off B r q n c g cd : Nat) (av : Option Addr) (id0 id cl : Int) (wo : ByteArray) (p qq : Int) (go sh : Bool) (er : Int) (sd : List (Int × ByteArray)) (j : Nat) : Option Value := [some (.pointer (some ⟨X, off, none⟩)), some (.pointer (some ⟨X, off, none⟩)), some (.pointer (some ⟨X, off + 1, none⟩)), some (.pointer (some ⟨q, 0, none⟩)), some (.pointer (some ⟨B, 7, none⟩)), some (.slice av n c), some (.pointer (some ⟨B, 2, none⟩)), some (.int .i64 id0), none, none, none, some (.int .i64 er), none, none, some (.int .i64 er)].getD j none
set_option maxRecDepth 100000 in
set_option maxHeartbeats 4000000 in
theorem regAA (a0 : Act) (w : World) {Q : Exit → Act → World → Prop} (X off B r q n c g cd : Nat) (av : Option Addr) (id0 id cl : Int) (wo : ByteArray) (p qq : Int) (go sh : Bool) (er : Int) (sd : List (Int × ByteArray)) (hX : X < w.heap.size) (hB : B < w.heap.size) (hb2 : w.cell? ⟨B, 2, none⟩ = some (.int .i64 id0)) (hb7 : w.cell? ⟨B, 7, none⟩ = some (.slice av n c)) (hx1 : w.cell? ⟨X, off + 1, none⟩ = some (.pointer (some ⟨q, 0, none⟩))) (hC : ∀ W, Below w.heap.size w W → Calls Try.prog 17 #[.pointer (some ⟨q, 0, none⟩), .slice av n c, .int .i64 id0] W fun e w' => ∃ x, e = .returned (.tuple #[.agg (nvA id cl wo p qq go sh x), .int .i64 er]) ∧ RL W sd x w' ∧ Below W.heap.size W w') (hzz : 44 < a0.tmps.size) (H0 : a0.eval (.tmp 0) = .pointer (some ⟨X, off, none⟩)) (H3 : a0.eval (.tmp 3) = .pointer (some ⟨B, 0, none⟩))
    (hK : ∀ (L : Nat → Prop) (val : Nat → Value) (u : World), (∀ i, i < 15 → L i) → WK w 8 9 10 12 13 id cl wo p qq go sh er sd L val u → (∀ j, (VAA X off B r q n c g cd av id0 id cl wo p qq go sh er sd) j = none ∨ (VAA X off B r q n c g cd av id0 id cl wo p qq go sh er sd) j = some (val j) ∨ j ∉ DAA) → Q .normal (puts a0 (DAA.map fun j => (slAA j, val j))) u) :
    (Code.region 6 opsAA true).wp Try.prog Q a0 w := by
  have inj : ∀ i ∈ DAA, ∀ j ∈ DAA, slAA i = slAA j → i = j := by
    have h : DAA.all (fun i => DAA.all (fun j => decide (slAA i = slAA j → i = j))) = true := by kernel_rfl
    intro i hi j hj he
    exact (of_decide_eq_true (List.all_eq_true.1 (List.all_eq_true.1 h i hi) j hj)) he
  have hz : ∀ j ∈ DAA, slAA j < a0.tmps.size := by
    have h : DAA.all (fun i => decide (slAA i ≤ 44)) = true := by kernel_rfl
    intro j hj
    have := of_decide_eq_true (List.all_eq_true.1 h j hj)
    omega
  have hcg : ∀ (L L' : Nat → Prop) (val val' : Nat → Value) u, (∀ k ∈ ([8, 9, 10, 12, 13] : List Nat), (L' k ↔ L k)) → (∀ k ∈ ([8, 9, 10, 12] : List Nat), val' k = val k) → WK w 8 9 10 12 13 id cl wo p qq go sh er sd L val u → WK w 8 9 10 12 13 id cl wo p qq go sh er sd L' val' u := by
    intro L L' val val' u hl hv hw
    simp at hl hv
    unfold WK at hw ⊢
    simp only [hl, hv]
    exact hw
  have hKD : ∀ k ∈ ([8, 9, 10, 12] : List Nat), k ∈ DAA := by decide
  refine wp_region_inv (by kernel_rfl) opsAA_earlier (fun L a u => JR opsAA slAA DAA (VAA X off B r q n c g cd av id0 id cl wo p qq go sh er sd) a0 (WK w 8 9 10 12 13 id cl wo p qq go sh er sd) L a u) ?_ ?_ ?_
  · rintro L L' a' u i o h ho hno hall hu
    clear hK
    have q0 := (h.fe.ev (j := 0) (by decide)).trans H0
    have q3 := (h.fe.ev (j := 3) (by decide)).trans H3
    have hi : i < 15 := by
      have := (Array.getElem?_eq_some_iff.1 ho).1
      rwa [opsAA_size] at this
    match i, hi with
    | 0, _ =>
      refine og_move (g := none) ho (.tmp 0) (d := some 34) (by kernel_rfl) trivial q0 ?_
      exact h.next hcg hKD ho hall (by decide) (by decide) (by decide) inj hz hu rfl
    | 1, _ =>
      refine og_nil (g := none) ho (.tmp 34) (d := some 35) (by kernel_rfl) trivial (show a'.eval (.tmp 34) = .pointer (some ⟨X, off, none⟩) from h.e 0 (by decide) (dep ho hall 0 (by kernel_rfl)) _ rfl) ?_
      exact h.next hcg hKD ho hall (by decide) (by decide) (by decide) inj hz hu rfl
    | 2, _ =>
      obtain ⟨h1, h2, h3⟩ := flds (d := some 36) (p := Op.fieldAddr 31 (.tmp 35) 1) (g := none) ho (by kernel_rfl)
      have g0 := (show a'.eval (.tmp 35) = .pointer (some ⟨X, off, none⟩) from h.e 1 (by decide) (dep ho hall 1 (by kernel_rfl)) _ rfl)
      refine og_plain ho h3 trivial ?_
      unfold Oper.wp
      simp only [execOp, h2, g0]
      go_simp
      exact h.next hcg hKD ho hall (by decide) (by decide) (by decide) inj hz hu rfl
    | 3, _ =>
      have c0 := (h.w.1.cell (p := ⟨X, off + 1, none⟩) hX).trans hx1
      obtain ⟨h1, h2, h3⟩ := flds (d := some 37) (p := Op.load 27 (.tmp 36)) (g := none) ho (by kernel_rfl)
      have g0 := (show a'.eval (.tmp 36) = .pointer (some ⟨X, off + 1, none⟩) from h.e 2 (by decide) (dep ho hall 2 (by kernel_rfl)) _ rfl)
      refine og_plain ho h3 trivial ?_
      unfold Oper.wp
      simp only [execOp, h2, g0]
      go_simp
      exact h.next hcg hKD ho hall (by decide) (by decide) (by decide) inj hz hu rfl
    | 4, _ =>
      obtain ⟨h1, h2, h3⟩ := flds (d := some 38) (p := Op.fieldAddr 36 (.tmp 3) 7) (g := none) ho (by kernel_rfl)
      have g0 := q3
      refine og_plain ho h3 trivial ?_
      unfold Oper.wp
      simp only [execOp, h2, g0]
      go_simp
      exact h.next hcg hKD ho hall (by decide) (by decide) (by decide) inj hz hu rfl
    | 5, _ =>
      have c0 := (h.w.1.cell (p := ⟨B, 7, none⟩) hB).trans hb7
      obtain ⟨h1, h2, h3⟩ := flds (d := some 39) (p := Op.load 24 (.tmp 38)) (g := none) ho (by kernel_rfl)
      have g0 := (show a'.eval (.tmp 38) = .pointer (some ⟨B, 7, none⟩) from h.e 4 (by decide) (dep ho hall 4 (by kernel_rfl)) _ rfl)
      refine og_plain ho h3 trivial ?_
      unfold Oper.wp
      simp only [execOp, h2, g0]
      go_simp
      exact h.next hcg hKD ho hall (by decide) (by decide) (by decide) inj hz hu rfl
    | 6, _ =>
      obtain ⟨h1, h2, h3⟩ := flds (d := some 40) (p := Op.fieldAddr 36 (.tmp 3) 2) (g := none) ho (by kernel_rfl)
      have g0 := q3
      refine og_plain ho h3 trivial ?_
      unfold Oper.wp
      simp only [execOp, h2, g0]
      go_simp
      exact h.next hcg hKD ho hall (by decide) (by decide) (by decide) inj hz hu rfl
    | 7, _ =>
      have c0 := (h.w.1.cell (p := ⟨B, 2, none⟩) hB).trans hb2
      obtain ⟨h1, h2, h3⟩ := flds (d := some 41) (p := Op.load 3 (.tmp 40)) (g := none) ho (by kernel_rfl)
      have g0 := (show a'.eval (.tmp 40) = .pointer (some ⟨B, 2, none⟩) from h.e 6 (by decide) (dep ho hall 6 (by kernel_rfl)) _ rfl)
      refine og_plain ho h3 trivial ?_
      unfold Oper.wp
      simp only [execOp, h2, g0]
      go_simp
      exact h.next hcg hKD ho hall (by decide) (by decide) (by decide) inj hz hu rfl
    | 8, _ =>
      refine og_calls (g := none) ho 17 #[.tmp 37, .tmp 39, .tmp 41] #[27, 24, 3] (d := some 42) (by kernel_rfl) trivial Try.func17 rfl (by kernel_rfl) (vs := #[.pointer (some ⟨q, 0, none⟩), .slice av n c, .int .i64 id0]) (by simp only [List.map_toArray, List.map_cons, List.map_nil]; rw [(show a'.eval (.tmp 37) = .pointer (some ⟨q, 0, none⟩) from h.e 3 (by decide) (dep ho hall 3 (by kernel_rfl)) _ rfl), (show a'.eval (.tmp 39) = .slice av n c from h.e 5 (by decide) (dep ho hall 5 (by kernel_rfl)) _ rfl), (show a'.eval (.tmp 41) = .int .i64 id0 from h.e 7 (by decide) (dep ho hall 7 (by kernel_rfl)) _ rfl)]) (hC u h.w.1) ?_
      rintro e w' ⟨x, rfl, q3, q4⟩
      refine ⟨_, rfl, h.put ho hall (by decide) inj hz hu (fun v' hv' => by cases hv') (fun val h1 h2 => ?_)⟩
      exact h.w.call hu (by decide) (fun hl => hno (anc_spec h.dc 60 9 8 (by kernel_rfl) hl)) (fun hl => hno (anc_spec h.dc 60 10 8 (by kernel_rfl) hl)) (fun hl => hno (anc_spec h.dc 60 13 8 (by kernel_rfl) hl)) (h2 12 (by decide) (by decide)) h1 (q3.of h.w.1.size) q4
    | 9, _ =>
      refine og_move (g := none) ho (.tmp 42) (d := some 33) (by kernel_rfl) trivial (v := a'.eval (.tmp 42)) rfl ?_
      refine h.put ho hall (by decide) inj hz hu (fun v' hv' => by cases hv') (fun val h1 h2 => ?_)
      exact h.w.move hu (by decide) (h2 8 (by decide) (by decide)) (h2 10 (by decide) (by decide)) (h2 12 (by decide) (by decide)) h1
    | 10, _ =>
      have lm : L 9 := dep ho hall 9 (by kernel_rfl)
      have lc : L 8 := anc_spec h.dc 60 9 8 (by kernel_rfl) lm
      obtain ⟨x, hx, -⟩ := h.w.2.1 lc
      have hm : a'.eval (.tmp 33) = .tuple #[.agg (nvA id cl wo p qq go sh x), .int .i64 er] := (h.w.2.2.1 lm).trans hx
      obtain ⟨h1, h2, h3⟩ := flds (d := some 43) (p := Op.extract (.tmp 33) 0) (g := none) ho (by kernel_rfl)
      refine og_plain ho h3 trivial ?_
      unfold Oper.wp
      simp only [execOp, h2, hm]
      go_simp
      refine h.put ho hall (by decide) inj hz hu (fun v' hv' => by cases hv') (fun val h1 h2 => ?_)
      exact h.w.take hu (by decide) (h2 8 (by decide) (by decide)) (h2 9 (by decide) (by decide)) (h2 12 (by decide) (by decide)) hx h1
    | 11, _ =>
      have lm : L 9 := dep ho hall 9 (by kernel_rfl)
      have lc : L 8 := anc_spec h.dc 60 9 8 (by kernel_rfl) lm
      obtain ⟨x, hx, -⟩ := h.w.2.1 lc
      have hm : a'.eval (.tmp 33) = .tuple #[.agg (nvA id cl wo p qq go sh x), .int .i64 er] := (h.w.2.2.1 lm).trans hx
      obtain ⟨h1, h2, h3⟩ := flds (d := some 44) (p := Op.extract (.tmp 33) 1) (g := none) ho (by kernel_rfl)
      refine og_plain ho h3 trivial ?_
      unfold Oper.wp
      simp only [execOp, h2, hm]
      go_simp
      exact h.next hcg hKD ho hall (by decide) (by decide) (by decide) inj hz hu rfl
    | 12, _ =>
      obtain ⟨h1, h2, h3⟩ := flds (d := some 8) (p := Op.alloc 47) (g := none) ho (by kernel_rfl)
      refine og_plain ho h3 trivial ?_
      unfold Oper.wp
      simp only [execOp, h2]
      go_simp
      refine h.put ho hall (by decide) inj hz hu (fun v' hv' => by cases hv') (fun val h1 h2 => ?_)
      exact h.w.lay hu (by decide) (fun hl => hno (anc_spec h.dc 60 13 12 (by kernel_rfl) hl)) (h2 8 (by decide) (by decide)) (h2 9 (by decide) (by decide)) (h2 10 (by decide) (by decide)) h1
    | 13, _ =>
      obtain ⟨h1, h2, h3⟩ := flds (d := none) (p := Op.store 47 (.tmp 8) (.tmp 43)) (g := none) ho (by kernel_rfl)
      have lal : L 12 := dep ho hall 12 (by kernel_rfl)
      have lx : L 10 := dep ho hall 10 (by kernel_rfl)
      have lc : L 8 := anc_spec h.dc 60 10 8 (by kernel_rfl) lx
      obtain ⟨x, hx, hv⟩ := h.w.2.2.2.1 lx
      obtain ⟨y, hy, hR⟩ := h.w.2.1 lc
      have exy : y = x := by
        rw [hx] at hy
        simpa [nvA] using hy.symm
      subst exy
      obtain ⟨β, hS, -⟩ := hR
      obtain ⟨ra, rc, rfl, -, -⟩ := hS.form
      obtain ⟨z, hz1, hz2, hz3, -⟩ := h.w.2.2.2.2 lal
      have hz4 := hz3 hno
      have g0 : a'.eval (.tmp 8) = .pointer (some ⟨z, 0, none⟩) := hz1
      have g1 : a'.eval (.tmp 43) = .agg (nvA id cl wo p qq go sh (.slice ra sd.length rc)) := hv
      have c0 := cell_row hz4 0; have c1 := cell_row hz4 1; have c2 := cell_row hz4 2; have c3 := cell_row hz4 3
      have c4 := cell_row hz4 4; have c5 := cell_row hz4 5; have c6 := cell_row hz4 6; have c7 := cell_row hz4 7
      have z0 := frozen_row hz4 0; have z1 := frozen_row hz4 1; have z2 := frozen_row hz4 2; have z3 := frozen_row hz4 3
      have z4 := frozen_row hz4 4; have z5 := frozen_row hz4 5; have z6 := frozen_row hz4 6; have z7 := frozen_row hz4 7
      simp at c0 c1 c2 c3 c4 c5 c6 c7
      unfold nvA at g1
      refine og_plain ho h3 trivial ?_
      unfold Oper.wp
      simp only [execOp, h2, g0, g1]
      go_simp
      refine h.eff ho hall (by decide) hu ?_
      exact h.w.store hu (by decide) lal hx hz1 hz4 (fr_sets8 u z (.int .i64 id) (.int .i64 cl) (.string wo) (.int .i64 p) (.int .i64 qq) (.bool go) (.bool sh) (.slice ra sd.length rc)) (set8_row hz4 (.int .i64 id) (.int .i64 cl) (.string wo) (.int .i64 p) (.int .i64 qq) (.bool go) (.bool sh) (.slice ra sd.length rc))
    | 14, _ =>
      refine og_assign (g := none) ho (.tmp 44) (d := some 9) (by kernel_rfl) trivial (show a'.eval (.tmp 44) = .int .i64 er from h.e 11 (by decide) (dep ho hall 11 (by kernel_rfl)) _ rfl) ?_
      exact h.next hcg hKD ho hall (by decide) (by decide) (by decide) inj hz hu rfl
    | i + 15, hi => omega
  · rintro L a' u h hall
    rw [opsAA_size] at hall
    rw [h.done hz]
    refine hK L _ u hall h.w (fun j => ?_)
    by_cases hj : j ∈ DAA
    · cases hv : (VAA X off B r q n c g cd av id0 id cl wo p qq go sh er sd) j with
      | none => exact .inl rfl
      | some v =>
        refine .inr (.inl ?_)
        have hjN : j < 15 := by
          have hh : DAA.all (fun i => decide (i < 15)) = true := by kernel_rfl
          exact of_decide_eq_true (List.all_eq_true.1 hh j hj)
        rw [h.e j hj (hall j hjN) v hv]
    · exact .inr (.inr hj)
  · intro L hL
    refine JR.start hL ?_
    exact WK.start hL

noncomputable def opsAB : Array Oper := (Try.f9.body.bind (opsAt 7)).getD #[]
theorem opsAB_size : opsAB.size = 14 := by kernel_rfl
theorem opsAB_earlier : Earlier opsAB := by
  have h : (List.range 14).all (fun i => ((opsAB[i]?).map (fun o => o.after.all (fun e => !Region.binds .any e || decide (e.on < i)))).getD true) = true := by kernel_rfl
  intro i o ho e he hb
  have hi : i < 14 := by
    have := (Array.getElem?_eq_some_iff.1 ho).1
    rwa [opsAB_size] at this
  have h1 := List.all_eq_true.1 h i (List.mem_range.2 hi)
  rw [ho] at h1
  simp only [Option.map_some, Option.getD_some, Array.all_eq_true'] at h1
  have h2 := h1 e he
  rw [hb] at h2
  simpa using h2
def slAB (j : Nat) : Nat := ([46, 47, 48, 49, 50, 51, 52, 53, 45, 54, 55, 10, 912, 11] : List Nat).getD j 0
def DAB : List Nat := [0, 1, 2, 3, 4, 5, 6, 7, 8, 9, 10, 11, 13]
def VAB (X off B r q n c g cd : Nat) (av : Option Addr) (id0 id cl : Int) (wo : ByteArray) (p qq : Int) (go sh : Bool) (er : Int) (sd : List (Int × ByteArray)) (j : Nat) : Option Value := [some (.pointer (some ⟨X, off, none⟩)), some (.pointer (some ⟨X, off, none⟩)), some (.pointer (some ⟨X, off, none⟩)), some (.pointer (some ⟨r, 0, none⟩)), some (.slice (some ⟨g, 0, none⟩) n cd), some (.pointer (some ⟨B, 2, none⟩)), some (.int .i64 id0), none, none, none, some (.int .i64 er), none, none, some (.int .i64 er)].getD j none
set_option maxRecDepth 100000 in
set_option maxHeartbeats 4000000 in
theorem regAB (a0 : Act) (w : World) {Q : Exit → Act → World → Prop} (X off B r q n c g cd : Nat) (av : Option Addr) (id0 id cl : Int) (wo : ByteArray) (p qq : Int) (go sh : Bool) (er : Int) (sd : List (Int × ByteArray)) (hX : X < w.heap.size) (hB : B < w.heap.size) (hb2 : w.cell? ⟨B, 2, none⟩ = some (.int .i64 id0)) (hx0 : w.cell? ⟨X, off, none⟩ = some (.pointer (some ⟨r, 0, none⟩))) (hC : ∀ W, Below w.heap.size w W → Calls Try.prog 11 #[.pointer (some ⟨r, 0, none⟩), .slice (some ⟨g, 0, none⟩) n cd, .int .i64 id0] W fun e w' => ∃ x, e = .returned (.tuple #[.agg (nvA id cl wo p qq go sh x), .int .i64 er]) ∧ RL W sd x w' ∧ Below W.heap.size W w') (hzz : 55 < a0.tmps.size) (H0 : a0.eval (.tmp 0) = .pointer (some ⟨X, off, none⟩)) (H6 : a0.eval (.tmp 6) = .slice (some ⟨g, 0, none⟩) n cd) (H3 : a0.eval (.tmp 3) = .pointer (some ⟨B, 0, none⟩))
    (hK : ∀ (L : Nat → Prop) (val : Nat → Value) (u : World), (∀ i, i < 14 → L i) → WK w 7 8 9 11 12 id cl wo p qq go sh er sd L val u → (∀ j, (VAB X off B r q n c g cd av id0 id cl wo p qq go sh er sd) j = none ∨ (VAB X off B r q n c g cd av id0 id cl wo p qq go sh er sd) j = some (val j) ∨ j ∉ DAB) → Q .normal (puts a0 (DAB.map fun j => (slAB j, val j))) u) :
    (Code.region 7 opsAB true).wp Try.prog Q a0 w := by
  have inj : ∀ i ∈ DAB, ∀ j ∈ DAB, slAB i = slAB j → i = j := by
    have h : DAB.all (fun i => DAB.all (fun j => decide (slAB i = slAB j → i = j))) = true := by kernel_rfl
    intro i hi j hj he
    exact (of_decide_eq_true (List.all_eq_true.1 (List.all_eq_true.1 h i hi) j hj)) he
  have hz : ∀ j ∈ DAB, slAB j < a0.tmps.size := by
    have h : DAB.all (fun i => decide (slAB i ≤ 55)) = true := by kernel_rfl
    intro j hj
    have := of_decide_eq_true (List.all_eq_true.1 h j hj)
    omega
  have hcg : ∀ (L L' : Nat → Prop) (val val' : Nat → Value) u, (∀ k ∈ ([7, 8, 9, 11, 12] : List Nat), (L' k ↔ L k)) → (∀ k ∈ ([7, 8, 9, 11] : List Nat), val' k = val k) → WK w 7 8 9 11 12 id cl wo p qq go sh er sd L val u → WK w 7 8 9 11 12 id cl wo p qq go sh er sd L' val' u := by
    intro L L' val val' u hl hv hw
    simp at hl hv
    unfold WK at hw ⊢
    simp only [hl, hv]
    exact hw
  have hKD : ∀ k ∈ ([7, 8, 9, 11] : List Nat), k ∈ DAB := by decide
  refine wp_region_inv (by kernel_rfl) opsAB_earlier (fun L a u => JR opsAB slAB DAB (VAB X off B r q n c g cd av id0 id cl wo p qq go sh er sd) a0 (WK w 7 8 9 11 12 id cl wo p qq go sh er sd) L a u) ?_ ?_ ?_
  · rintro L L' a' u i o h ho hno hall hu
    clear hK
    have q0 := (h.fe.ev (j := 0) (by decide)).trans H0
    have q6 := (h.fe.ev (j := 6) (by decide)).trans H6
    have q3 := (h.fe.ev (j := 3) (by decide)).trans H3
    have hi : i < 14 := by
      have := (Array.getElem?_eq_some_iff.1 ho).1
      rwa [opsAB_size] at this
    match i, hi with
    | 0, _ =>
      refine og_move (g := none) ho (.tmp 0) (d := some 46) (by kernel_rfl) trivial q0 ?_
      exact h.next hcg hKD ho hall (by decide) (by decide) (by decide) inj hz hu rfl
    | 1, _ =>
      refine og_nil (g := none) ho (.tmp 46) (d := some 47) (by kernel_rfl) trivial (show a'.eval (.tmp 46) = .pointer (some ⟨X, off, none⟩) from h.e 0 (by decide) (dep ho hall 0 (by kernel_rfl)) _ rfl) ?_
      exact h.next hcg hKD ho hall (by decide) (by decide) (by decide) inj hz hu rfl
    | 2, _ =>
      obtain ⟨h1, h2, h3⟩ := flds (d := some 48) (p := Op.fieldAddr 31 (.tmp 47) 0) (g := none) ho (by kernel_rfl)
      have g0 := (show a'.eval (.tmp 47) = .pointer (some ⟨X, off, none⟩) from h.e 1 (by decide) (dep ho hall 1 (by kernel_rfl)) _ rfl)
      refine og_plain ho h3 trivial ?_
      unfold Oper.wp
      simp only [execOp, h2, g0]
      go_simp
      exact h.next hcg hKD ho hall (by decide) (by decide) (by decide) inj hz hu rfl
    | 3, _ =>
      have c0 := (h.w.1.cell (p := ⟨X, off, none⟩) hX).trans hx0
      obtain ⟨h1, h2, h3⟩ := flds (d := some 49) (p := Op.load 23 (.tmp 48)) (g := none) ho (by kernel_rfl)
      have g0 := (show a'.eval (.tmp 48) = .pointer (some ⟨X, off, none⟩) from h.e 2 (by decide) (dep ho hall 2 (by kernel_rfl)) _ rfl)
      refine og_plain ho h3 trivial ?_
      unfold Oper.wp
      simp only [execOp, h2, g0]
      go_simp
      exact h.next hcg hKD ho hall (by decide) (by decide) (by decide) inj hz hu rfl
    | 4, _ =>
      refine og_move (g := none) ho (.tmp 6) (d := some 50) (by kernel_rfl) trivial q6 ?_
      exact h.next hcg hKD ho hall (by decide) (by decide) (by decide) inj hz hu rfl
    | 5, _ =>
      obtain ⟨h1, h2, h3⟩ := flds (d := some 51) (p := Op.fieldAddr 36 (.tmp 3) 2) (g := none) ho (by kernel_rfl)
      have g0 := q3
      refine og_plain ho h3 trivial ?_
      unfold Oper.wp
      simp only [execOp, h2, g0]
      go_simp
      exact h.next hcg hKD ho hall (by decide) (by decide) (by decide) inj hz hu rfl
    | 6, _ =>
      have c0 := (h.w.1.cell (p := ⟨B, 2, none⟩) hB).trans hb2
      obtain ⟨h1, h2, h3⟩ := flds (d := some 52) (p := Op.load 3 (.tmp 51)) (g := none) ho (by kernel_rfl)
      have g0 := (show a'.eval (.tmp 51) = .pointer (some ⟨B, 2, none⟩) from h.e 5 (by decide) (dep ho hall 5 (by kernel_rfl)) _ rfl)
      refine og_plain ho h3 trivial ?_
      unfold Oper.wp
      simp only [execOp, h2, g0]
      go_simp
      exact h.next hcg hKD ho hall (by decide) (by decide) (by decide) inj hz hu rfl
    | 7, _ =>
      refine og_calls (g := none) ho 11 #[.tmp 49, .tmp 50, .tmp 52] #[23, 24, 3] (d := some 53) (by kernel_rfl) trivial Try.func11 rfl (by kernel_rfl) (vs := #[.pointer (some ⟨r, 0, none⟩), .slice (some ⟨g, 0, none⟩) n cd, .int .i64 id0]) (by simp only [List.map_toArray, List.map_cons, List.map_nil]; rw [(show a'.eval (.tmp 49) = .pointer (some ⟨r, 0, none⟩) from h.e 3 (by decide) (dep ho hall 3 (by kernel_rfl)) _ rfl), (show a'.eval (.tmp 50) = .slice (some ⟨g, 0, none⟩) n cd from h.e 4 (by decide) (dep ho hall 4 (by kernel_rfl)) _ rfl), (show a'.eval (.tmp 52) = .int .i64 id0 from h.e 6 (by decide) (dep ho hall 6 (by kernel_rfl)) _ rfl)]) (hC u h.w.1) ?_
      rintro e w' ⟨x, rfl, q3, q4⟩
      refine ⟨_, rfl, h.put ho hall (by decide) inj hz hu (fun v' hv' => by cases hv') (fun val h1 h2 => ?_)⟩
      exact h.w.call hu (by decide) (fun hl => hno (anc_spec h.dc 60 8 7 (by kernel_rfl) hl)) (fun hl => hno (anc_spec h.dc 60 9 7 (by kernel_rfl) hl)) (fun hl => hno (anc_spec h.dc 60 12 7 (by kernel_rfl) hl)) (h2 11 (by decide) (by decide)) h1 (q3.of h.w.1.size) q4
    | 8, _ =>
      refine og_move (g := none) ho (.tmp 53) (d := some 45) (by kernel_rfl) trivial (v := a'.eval (.tmp 53)) rfl ?_
      refine h.put ho hall (by decide) inj hz hu (fun v' hv' => by cases hv') (fun val h1 h2 => ?_)
      exact h.w.move hu (by decide) (h2 7 (by decide) (by decide)) (h2 9 (by decide) (by decide)) (h2 11 (by decide) (by decide)) h1
    | 9, _ =>
      have lm : L 8 := dep ho hall 8 (by kernel_rfl)
      have lc : L 7 := anc_spec h.dc 60 8 7 (by kernel_rfl) lm
      obtain ⟨x, hx, -⟩ := h.w.2.1 lc
      have hm : a'.eval (.tmp 45) = .tuple #[.agg (nvA id cl wo p qq go sh x), .int .i64 er] := (h.w.2.2.1 lm).trans hx
      obtain ⟨h1, h2, h3⟩ := flds (d := some 54) (p := Op.extract (.tmp 45) 0) (g := none) ho (by kernel_rfl)
      refine og_plain ho h3 trivial ?_
      unfold Oper.wp
      simp only [execOp, h2, hm]
      go_simp
      refine h.put ho hall (by decide) inj hz hu (fun v' hv' => by cases hv') (fun val h1 h2 => ?_)
      exact h.w.take hu (by decide) (h2 7 (by decide) (by decide)) (h2 8 (by decide) (by decide)) (h2 11 (by decide) (by decide)) hx h1
    | 10, _ =>
      have lm : L 8 := dep ho hall 8 (by kernel_rfl)
      have lc : L 7 := anc_spec h.dc 60 8 7 (by kernel_rfl) lm
      obtain ⟨x, hx, -⟩ := h.w.2.1 lc
      have hm : a'.eval (.tmp 45) = .tuple #[.agg (nvA id cl wo p qq go sh x), .int .i64 er] := (h.w.2.2.1 lm).trans hx
      obtain ⟨h1, h2, h3⟩ := flds (d := some 55) (p := Op.extract (.tmp 45) 1) (g := none) ho (by kernel_rfl)
      refine og_plain ho h3 trivial ?_
      unfold Oper.wp
      simp only [execOp, h2, hm]
      go_simp
      exact h.next hcg hKD ho hall (by decide) (by decide) (by decide) inj hz hu rfl
    | 11, _ =>
      obtain ⟨h1, h2, h3⟩ := flds (d := some 10) (p := Op.alloc 47) (g := none) ho (by kernel_rfl)
      refine og_plain ho h3 trivial ?_
      unfold Oper.wp
      simp only [execOp, h2]
      go_simp
      refine h.put ho hall (by decide) inj hz hu (fun v' hv' => by cases hv') (fun val h1 h2 => ?_)
      exact h.w.lay hu (by decide) (fun hl => hno (anc_spec h.dc 60 12 11 (by kernel_rfl) hl)) (h2 7 (by decide) (by decide)) (h2 8 (by decide) (by decide)) (h2 9 (by decide) (by decide)) h1
    | 12, _ =>
      obtain ⟨h1, h2, h3⟩ := flds (d := none) (p := Op.store 47 (.tmp 10) (.tmp 54)) (g := none) ho (by kernel_rfl)
      have lal : L 11 := dep ho hall 11 (by kernel_rfl)
      have lx : L 9 := dep ho hall 9 (by kernel_rfl)
      have lc : L 7 := anc_spec h.dc 60 9 7 (by kernel_rfl) lx
      obtain ⟨x, hx, hv⟩ := h.w.2.2.2.1 lx
      obtain ⟨y, hy, hR⟩ := h.w.2.1 lc
      have exy : y = x := by
        rw [hx] at hy
        simpa [nvA] using hy.symm
      subst exy
      obtain ⟨β, hS, -⟩ := hR
      obtain ⟨ra, rc, rfl, -, -⟩ := hS.form
      obtain ⟨z, hz1, hz2, hz3, -⟩ := h.w.2.2.2.2 lal
      have hz4 := hz3 hno
      have g0 : a'.eval (.tmp 10) = .pointer (some ⟨z, 0, none⟩) := hz1
      have g1 : a'.eval (.tmp 54) = .agg (nvA id cl wo p qq go sh (.slice ra sd.length rc)) := hv
      have c0 := cell_row hz4 0; have c1 := cell_row hz4 1; have c2 := cell_row hz4 2; have c3 := cell_row hz4 3
      have c4 := cell_row hz4 4; have c5 := cell_row hz4 5; have c6 := cell_row hz4 6; have c7 := cell_row hz4 7
      have z0 := frozen_row hz4 0; have z1 := frozen_row hz4 1; have z2 := frozen_row hz4 2; have z3 := frozen_row hz4 3
      have z4 := frozen_row hz4 4; have z5 := frozen_row hz4 5; have z6 := frozen_row hz4 6; have z7 := frozen_row hz4 7
      simp at c0 c1 c2 c3 c4 c5 c6 c7
      unfold nvA at g1
      refine og_plain ho h3 trivial ?_
      unfold Oper.wp
      simp only [execOp, h2, g0, g1]
      go_simp
      refine h.eff ho hall (by decide) hu ?_
      exact h.w.store hu (by decide) lal hx hz1 hz4 (fr_sets8 u z (.int .i64 id) (.int .i64 cl) (.string wo) (.int .i64 p) (.int .i64 qq) (.bool go) (.bool sh) (.slice ra sd.length rc)) (set8_row hz4 (.int .i64 id) (.int .i64 cl) (.string wo) (.int .i64 p) (.int .i64 qq) (.bool go) (.bool sh) (.slice ra sd.length rc))
    | 13, _ =>
      refine og_assign (g := none) ho (.tmp 55) (d := some 11) (by kernel_rfl) trivial (show a'.eval (.tmp 55) = .int .i64 er from h.e 10 (by decide) (dep ho hall 10 (by kernel_rfl)) _ rfl) ?_
      exact h.next hcg hKD ho hall (by decide) (by decide) (by decide) inj hz hu rfl
    | i + 14, hi => omega
  · rintro L a' u h hall
    rw [opsAB_size] at hall
    rw [h.done hz]
    refine hK L _ u hall h.w (fun j => ?_)
    by_cases hj : j ∈ DAB
    · cases hv : (VAB X off B r q n c g cd av id0 id cl wo p qq go sh er sd) j with
      | none => exact .inl rfl
      | some v =>
        refine .inr (.inl ?_)
        have hjN : j < 14 := by
          have hh : DAB.all (fun i => decide (i < 14)) = true := by kernel_rfl
          exact of_decide_eq_true (List.all_eq_true.1 hh j hj)
        rw [h.e j hj (hall j hjN) v hv]
    · exact .inr (.inr hj)
  · intro L hL
    refine JR.start hL ?_
    exact WK.start hL

noncomputable def opsAC : Array Oper := (Try.f9.body.bind (opsAt 8)).getD #[]
theorem opsAC_size : opsAC.size = 14 := by kernel_rfl
theorem opsAC_earlier : Earlier opsAC := by
  have h : (List.range 14).all (fun i => ((opsAC[i]?).map (fun o => o.after.all (fun e => !Region.binds .any e || decide (e.on < i)))).getD true) = true := by kernel_rfl
  intro i o ho e he hb
  have hi : i < 14 := by
    have := (Array.getElem?_eq_some_iff.1 ho).1
    rwa [opsAC_size] at this
  have h1 := List.all_eq_true.1 h i (List.mem_range.2 hi)
  rw [ho] at h1
  simp only [Option.map_some, Option.getD_some, Array.all_eq_true'] at h1
  have h2 := h1 e he
  rw [hb] at h2
  simpa using h2
def slAC (j : Nat) : Nat := ([57, 58, 59, 60, 61, 62, 63, 64, 56, 65, 66, 12, 912, 13] : List Nat).getD j 0
def DAC : List Nat := [0, 1, 2, 3, 4, 5, 6, 7, 8, 9, 10, 11, 13]
def VAC (X off B r q n c g cd : Nat) (av : Option Addr) (id0 id cl : Int) (wo : ByteArray) (p qq : Int) (go sh : Bool) (er : Int) (sd : List (Int × ByteArray)) (j : Nat) : Option Value := [some (.pointer (some ⟨X, off, none⟩)), some (.pointer (some ⟨X, off, none⟩)), some (.pointer (some ⟨X, off, none⟩)), some (.pointer (some ⟨r, 0, none⟩)), some (.slice (some ⟨g, 0, none⟩) n cd), some (.pointer (some ⟨B, 2, none⟩)), some (.int .i64 id0), none, none, none, some (.int .i64 er), none, none, some (.int .i64 er)].getD j none
set_option maxRecDepth 100000 in
set_option maxHeartbeats 4000000 in
theorem regAC (a0 : Act) (w : World) {Q : Exit → Act → World → Prop} (X off B r q n c g cd : Nat) (av : Option Addr) (id0 id cl : Int) (wo : ByteArray) (p qq : Int) (go sh : Bool) (er : Int) (sd : List (Int × ByteArray)) (hX : X < w.heap.size) (hB : B < w.heap.size) (hb2 : w.cell? ⟨B, 2, none⟩ = some (.int .i64 id0)) (hx0 : w.cell? ⟨X, off, none⟩ = some (.pointer (some ⟨r, 0, none⟩))) (hC : ∀ W, Below w.heap.size w W → Calls Try.prog 11 #[.pointer (some ⟨r, 0, none⟩), .slice (some ⟨g, 0, none⟩) n cd, .int .i64 id0] W fun e w' => ∃ x, e = .returned (.tuple #[.agg (nvA id cl wo p qq go sh x), .int .i64 er]) ∧ RL W sd x w' ∧ Below W.heap.size W w') (hzz : 66 < a0.tmps.size) (H0 : a0.eval (.tmp 0) = .pointer (some ⟨X, off, none⟩)) (H6 : a0.eval (.tmp 6) = .slice (some ⟨g, 0, none⟩) n cd) (H3 : a0.eval (.tmp 3) = .pointer (some ⟨B, 0, none⟩))
    (hK : ∀ (L : Nat → Prop) (val : Nat → Value) (u : World), (∀ i, i < 14 → L i) → WK w 7 8 9 11 12 id cl wo p qq go sh er sd L val u → (∀ j, (VAC X off B r q n c g cd av id0 id cl wo p qq go sh er sd) j = none ∨ (VAC X off B r q n c g cd av id0 id cl wo p qq go sh er sd) j = some (val j) ∨ j ∉ DAC) → Q .normal (puts a0 (DAC.map fun j => (slAC j, val j))) u) :
    (Code.region 8 opsAC true).wp Try.prog Q a0 w := by
  have inj : ∀ i ∈ DAC, ∀ j ∈ DAC, slAC i = slAC j → i = j := by
    have h : DAC.all (fun i => DAC.all (fun j => decide (slAC i = slAC j → i = j))) = true := by kernel_rfl
    intro i hi j hj he
    exact (of_decide_eq_true (List.all_eq_true.1 (List.all_eq_true.1 h i hi) j hj)) he
  have hz : ∀ j ∈ DAC, slAC j < a0.tmps.size := by
    have h : DAC.all (fun i => decide (slAC i ≤ 66)) = true := by kernel_rfl
    intro j hj
    have := of_decide_eq_true (List.all_eq_true.1 h j hj)
    omega
  have hcg : ∀ (L L' : Nat → Prop) (val val' : Nat → Value) u, (∀ k ∈ ([7, 8, 9, 11, 12] : List Nat), (L' k ↔ L k)) → (∀ k ∈ ([7, 8, 9, 11] : List Nat), val' k = val k) → WK w 7 8 9 11 12 id cl wo p qq go sh er sd L val u → WK w 7 8 9 11 12 id cl wo p qq go sh er sd L' val' u := by
    intro L L' val val' u hl hv hw
    simp at hl hv
    unfold WK at hw ⊢
    simp only [hl, hv]
    exact hw
  have hKD : ∀ k ∈ ([7, 8, 9, 11] : List Nat), k ∈ DAC := by decide
  refine wp_region_inv (by kernel_rfl) opsAC_earlier (fun L a u => JR opsAC slAC DAC (VAC X off B r q n c g cd av id0 id cl wo p qq go sh er sd) a0 (WK w 7 8 9 11 12 id cl wo p qq go sh er sd) L a u) ?_ ?_ ?_
  · rintro L L' a' u i o h ho hno hall hu
    clear hK
    have q0 := (h.fe.ev (j := 0) (by decide)).trans H0
    have q6 := (h.fe.ev (j := 6) (by decide)).trans H6
    have q3 := (h.fe.ev (j := 3) (by decide)).trans H3
    have hi : i < 14 := by
      have := (Array.getElem?_eq_some_iff.1 ho).1
      rwa [opsAC_size] at this
    match i, hi with
    | 0, _ =>
      refine og_move (g := none) ho (.tmp 0) (d := some 57) (by kernel_rfl) trivial q0 ?_
      exact h.next hcg hKD ho hall (by decide) (by decide) (by decide) inj hz hu rfl
    | 1, _ =>
      refine og_nil (g := none) ho (.tmp 57) (d := some 58) (by kernel_rfl) trivial (show a'.eval (.tmp 57) = .pointer (some ⟨X, off, none⟩) from h.e 0 (by decide) (dep ho hall 0 (by kernel_rfl)) _ rfl) ?_
      exact h.next hcg hKD ho hall (by decide) (by decide) (by decide) inj hz hu rfl
    | 2, _ =>
      obtain ⟨h1, h2, h3⟩ := flds (d := some 59) (p := Op.fieldAddr 31 (.tmp 58) 0) (g := none) ho (by kernel_rfl)
      have g0 := (show a'.eval (.tmp 58) = .pointer (some ⟨X, off, none⟩) from h.e 1 (by decide) (dep ho hall 1 (by kernel_rfl)) _ rfl)
      refine og_plain ho h3 trivial ?_
      unfold Oper.wp
      simp only [execOp, h2, g0]
      go_simp
      exact h.next hcg hKD ho hall (by decide) (by decide) (by decide) inj hz hu rfl
    | 3, _ =>
      have c0 := (h.w.1.cell (p := ⟨X, off, none⟩) hX).trans hx0
      obtain ⟨h1, h2, h3⟩ := flds (d := some 60) (p := Op.load 23 (.tmp 59)) (g := none) ho (by kernel_rfl)
      have g0 := (show a'.eval (.tmp 59) = .pointer (some ⟨X, off, none⟩) from h.e 2 (by decide) (dep ho hall 2 (by kernel_rfl)) _ rfl)
      refine og_plain ho h3 trivial ?_
      unfold Oper.wp
      simp only [execOp, h2, g0]
      go_simp
      exact h.next hcg hKD ho hall (by decide) (by decide) (by decide) inj hz hu rfl
    | 4, _ =>
      refine og_move (g := none) ho (.tmp 6) (d := some 61) (by kernel_rfl) trivial q6 ?_
      exact h.next hcg hKD ho hall (by decide) (by decide) (by decide) inj hz hu rfl
    | 5, _ =>
      obtain ⟨h1, h2, h3⟩ := flds (d := some 62) (p := Op.fieldAddr 36 (.tmp 3) 2) (g := none) ho (by kernel_rfl)
      have g0 := q3
      refine og_plain ho h3 trivial ?_
      unfold Oper.wp
      simp only [execOp, h2, g0]
      go_simp
      exact h.next hcg hKD ho hall (by decide) (by decide) (by decide) inj hz hu rfl
    | 6, _ =>
      have c0 := (h.w.1.cell (p := ⟨B, 2, none⟩) hB).trans hb2
      obtain ⟨h1, h2, h3⟩ := flds (d := some 63) (p := Op.load 3 (.tmp 62)) (g := none) ho (by kernel_rfl)
      have g0 := (show a'.eval (.tmp 62) = .pointer (some ⟨B, 2, none⟩) from h.e 5 (by decide) (dep ho hall 5 (by kernel_rfl)) _ rfl)
      refine og_plain ho h3 trivial ?_
      unfold Oper.wp
      simp only [execOp, h2, g0]
      go_simp
      exact h.next hcg hKD ho hall (by decide) (by decide) (by decide) inj hz hu rfl
    | 7, _ =>
      refine og_calls (g := none) ho 11 #[.tmp 60, .tmp 61, .tmp 63] #[23, 24, 3] (d := some 64) (by kernel_rfl) trivial Try.func11 rfl (by kernel_rfl) (vs := #[.pointer (some ⟨r, 0, none⟩), .slice (some ⟨g, 0, none⟩) n cd, .int .i64 id0]) (by simp only [List.map_toArray, List.map_cons, List.map_nil]; rw [(show a'.eval (.tmp 60) = .pointer (some ⟨r, 0, none⟩) from h.e 3 (by decide) (dep ho hall 3 (by kernel_rfl)) _ rfl), (show a'.eval (.tmp 61) = .slice (some ⟨g, 0, none⟩) n cd from h.e 4 (by decide) (dep ho hall 4 (by kernel_rfl)) _ rfl), (show a'.eval (.tmp 63) = .int .i64 id0 from h.e 6 (by decide) (dep ho hall 6 (by kernel_rfl)) _ rfl)]) (hC u h.w.1) ?_
      rintro e w' ⟨x, rfl, q3, q4⟩
      refine ⟨_, rfl, h.put ho hall (by decide) inj hz hu (fun v' hv' => by cases hv') (fun val h1 h2 => ?_)⟩
      exact h.w.call hu (by decide) (fun hl => hno (anc_spec h.dc 60 8 7 (by kernel_rfl) hl)) (fun hl => hno (anc_spec h.dc 60 9 7 (by kernel_rfl) hl)) (fun hl => hno (anc_spec h.dc 60 12 7 (by kernel_rfl) hl)) (h2 11 (by decide) (by decide)) h1 (q3.of h.w.1.size) q4
    | 8, _ =>
      refine og_move (g := none) ho (.tmp 64) (d := some 56) (by kernel_rfl) trivial (v := a'.eval (.tmp 64)) rfl ?_
      refine h.put ho hall (by decide) inj hz hu (fun v' hv' => by cases hv') (fun val h1 h2 => ?_)
      exact h.w.move hu (by decide) (h2 7 (by decide) (by decide)) (h2 9 (by decide) (by decide)) (h2 11 (by decide) (by decide)) h1
    | 9, _ =>
      have lm : L 8 := dep ho hall 8 (by kernel_rfl)
      have lc : L 7 := anc_spec h.dc 60 8 7 (by kernel_rfl) lm
      obtain ⟨x, hx, -⟩ := h.w.2.1 lc
      have hm : a'.eval (.tmp 56) = .tuple #[.agg (nvA id cl wo p qq go sh x), .int .i64 er] := (h.w.2.2.1 lm).trans hx
      obtain ⟨h1, h2, h3⟩ := flds (d := some 65) (p := Op.extract (.tmp 56) 0) (g := none) ho (by kernel_rfl)
      refine og_plain ho h3 trivial ?_
      unfold Oper.wp
      simp only [execOp, h2, hm]
      go_simp
      refine h.put ho hall (by decide) inj hz hu (fun v' hv' => by cases hv') (fun val h1 h2 => ?_)
      exact h.w.take hu (by decide) (h2 7 (by decide) (by decide)) (h2 8 (by decide) (by decide)) (h2 11 (by decide) (by decide)) hx h1
    | 10, _ =>
      have lm : L 8 := dep ho hall 8 (by kernel_rfl)
      have lc : L 7 := anc_spec h.dc 60 8 7 (by kernel_rfl) lm
      obtain ⟨x, hx, -⟩ := h.w.2.1 lc
      have hm : a'.eval (.tmp 56) = .tuple #[.agg (nvA id cl wo p qq go sh x), .int .i64 er] := (h.w.2.2.1 lm).trans hx
      obtain ⟨h1, h2, h3⟩ := flds (d := some 66) (p := Op.extract (.tmp 56) 1) (g := none) ho (by kernel_rfl)
      refine og_plain ho h3 trivial ?_
      unfold Oper.wp
      simp only [execOp, h2, hm]
      go_simp
      exact h.next hcg hKD ho hall (by decide) (by decide) (by decide) inj hz hu rfl
    | 11, _ =>
      obtain ⟨h1, h2, h3⟩ := flds (d := some 12) (p := Op.alloc 47) (g := none) ho (by kernel_rfl)
      refine og_plain ho h3 trivial ?_
      unfold Oper.wp
      simp only [execOp, h2]
      go_simp
      refine h.put ho hall (by decide) inj hz hu (fun v' hv' => by cases hv') (fun val h1 h2 => ?_)
      exact h.w.lay hu (by decide) (fun hl => hno (anc_spec h.dc 60 12 11 (by kernel_rfl) hl)) (h2 7 (by decide) (by decide)) (h2 8 (by decide) (by decide)) (h2 9 (by decide) (by decide)) h1
    | 12, _ =>
      obtain ⟨h1, h2, h3⟩ := flds (d := none) (p := Op.store 47 (.tmp 12) (.tmp 65)) (g := none) ho (by kernel_rfl)
      have lal : L 11 := dep ho hall 11 (by kernel_rfl)
      have lx : L 9 := dep ho hall 9 (by kernel_rfl)
      have lc : L 7 := anc_spec h.dc 60 9 7 (by kernel_rfl) lx
      obtain ⟨x, hx, hv⟩ := h.w.2.2.2.1 lx
      obtain ⟨y, hy, hR⟩ := h.w.2.1 lc
      have exy : y = x := by
        rw [hx] at hy
        simpa [nvA] using hy.symm
      subst exy
      obtain ⟨β, hS, -⟩ := hR
      obtain ⟨ra, rc, rfl, -, -⟩ := hS.form
      obtain ⟨z, hz1, hz2, hz3, -⟩ := h.w.2.2.2.2 lal
      have hz4 := hz3 hno
      have g0 : a'.eval (.tmp 12) = .pointer (some ⟨z, 0, none⟩) := hz1
      have g1 : a'.eval (.tmp 65) = .agg (nvA id cl wo p qq go sh (.slice ra sd.length rc)) := hv
      have c0 := cell_row hz4 0; have c1 := cell_row hz4 1; have c2 := cell_row hz4 2; have c3 := cell_row hz4 3
      have c4 := cell_row hz4 4; have c5 := cell_row hz4 5; have c6 := cell_row hz4 6; have c7 := cell_row hz4 7
      have z0 := frozen_row hz4 0; have z1 := frozen_row hz4 1; have z2 := frozen_row hz4 2; have z3 := frozen_row hz4 3
      have z4 := frozen_row hz4 4; have z5 := frozen_row hz4 5; have z6 := frozen_row hz4 6; have z7 := frozen_row hz4 7
      simp at c0 c1 c2 c3 c4 c5 c6 c7
      unfold nvA at g1
      refine og_plain ho h3 trivial ?_
      unfold Oper.wp
      simp only [execOp, h2, g0, g1]
      go_simp
      refine h.eff ho hall (by decide) hu ?_
      exact h.w.store hu (by decide) lal hx hz1 hz4 (fr_sets8 u z (.int .i64 id) (.int .i64 cl) (.string wo) (.int .i64 p) (.int .i64 qq) (.bool go) (.bool sh) (.slice ra sd.length rc)) (set8_row hz4 (.int .i64 id) (.int .i64 cl) (.string wo) (.int .i64 p) (.int .i64 qq) (.bool go) (.bool sh) (.slice ra sd.length rc))
    | 13, _ =>
      refine og_assign (g := none) ho (.tmp 66) (d := some 13) (by kernel_rfl) trivial (show a'.eval (.tmp 66) = .int .i64 er from h.e 10 (by decide) (dep ho hall 10 (by kernel_rfl)) _ rfl) ?_
      exact h.next hcg hKD ho hall (by decide) (by decide) (by decide) inj hz hu rfl
    | i + 14, hi => omega
  · rintro L a' u h hall
    rw [opsAC_size] at hall
    rw [h.done hz]
    refine hK L _ u hall h.w (fun j => ?_)
    by_cases hj : j ∈ DAC
    · cases hv : (VAC X off B r q n c g cd av id0 id cl wo p qq go sh er sd) j with
      | none => exact .inl rfl
      | some v =>
        refine .inr (.inl ?_)
        have hjN : j < 14 := by
          have hh : DAC.all (fun i => decide (i < 14)) = true := by kernel_rfl
          exact of_decide_eq_true (List.all_eq_true.1 hh j hj)
        rw [h.e j hj (hall j hjN) v hv]
    · exact .inr (.inr hj)
  · intro L hL
    refine JR.start hL ?_
    exact WK.start hL

noncomputable def opsAD : Array Oper := (Try.f9.body.bind (opsAt 14)).getD #[]
theorem opsAD_size : opsAD.size = 8 := by kernel_rfl
theorem opsAD_earlier : Earlier opsAD := by
  have h : (List.range 8).all (fun i => ((opsAD[i]?).map (fun o => o.after.all (fun e => !Region.binds .any e || decide (e.on < i)))).getD true) = true := by kernel_rfl
  intro i o ho e he hb
  have hi : i < 8 := by
    have := (Array.getElem?_eq_some_iff.1 ho).1
    rwa [opsAD_size] at this
  have h1 := List.all_eq_true.1 h i (List.mem_range.2 hi)
  rw [ho] at h1
  simp only [Option.map_some, Option.getD_some, Array.all_eq_true'] at h1
  have h2 := h1 e he
  rw [hb] at h2
  simpa using h2
def slAD (j : Nat) : Nat := ([91, 92, 93, 94, 95, 96, 97, 14] : List Nat).getD j 0
def DAD : List Nat := [0, 1, 2, 3, 4, 5, 6, 7]
def VAD (X off B r q n c g cd : Nat) (av : Option Addr) (id0 f t cc : Int) (s : ByteArray)  (j : Nat) : Option Value := [some (.pointer (some ⟨X, off, none⟩)), some (.pointer (some ⟨X, off, none⟩)), some (.pointer (some ⟨X, off + 1, none⟩)), some (.pointer (some ⟨q, 0, none⟩)), some (.pointer (some ⟨B, 7, none⟩)), some (.slice av n c), none, none].getD j none
set_option maxRecDepth 100000 in
set_option maxHeartbeats 4000000 in
theorem regAD (a0 : Act) (w : World) {Q : Exit → Act → World → Prop} (X off B r q n c g cd : Nat) (av : Option Addr) (id0 f t cc : Int) (s : ByteArray)  (R : Value → World → Prop) (hX : X < w.heap.size) (hB : B < w.heap.size) (hb7 : w.cell? ⟨B, 7, none⟩ = some (.slice av n c)) (hx1 : w.cell? ⟨X, off + 1, none⟩ = some (.pointer (some ⟨q, 0, none⟩))) (hC : ∀ W, Below w.heap.size w W → Calls Try.prog 19 #[.pointer (some ⟨q, 0, none⟩), .slice av n c] W fun e w' => ∃ v, e = .returned v ∧ R v w') (hzz : 97 < a0.tmps.size) (H0 : a0.eval (.tmp 0) = .pointer (some ⟨X, off, none⟩)) (H3 : a0.eval (.tmp 3) = .pointer (some ⟨B, 0, none⟩))
    (hK : ∀ (L : Nat → Prop) (val : Nat → Value) (u : World), (∀ i, i < 8 → L i) → WV w 6 7 R L val u → (∀ j, (VAD X off B r q n c g cd av id0 f t cc s ) j = none ∨ (VAD X off B r q n c g cd av id0 f t cc s ) j = some (val j) ∨ j ∉ DAD) → Q .normal (puts a0 (DAD.map fun j => (slAD j, val j))) u) :
    (Code.region 14 opsAD true).wp Try.prog Q a0 w := by
  have inj : ∀ i ∈ DAD, ∀ j ∈ DAD, slAD i = slAD j → i = j := by
    have h : DAD.all (fun i => DAD.all (fun j => decide (slAD i = slAD j → i = j))) = true := by kernel_rfl
    intro i hi j hj he
    exact (of_decide_eq_true (List.all_eq_true.1 (List.all_eq_true.1 h i hi) j hj)) he
  have hz : ∀ j ∈ DAD, slAD j < a0.tmps.size := by
    have h : DAD.all (fun i => decide (slAD i ≤ 97)) = true := by kernel_rfl
    intro j hj
    have := of_decide_eq_true (List.all_eq_true.1 h j hj)
    omega
  have hcg : ∀ (L L' : Nat → Prop) (val val' : Nat → Value) u, (∀ k ∈ ([6, 7] : List Nat), (L' k ↔ L k)) → (∀ k ∈ ([6, 7] : List Nat), val' k = val k) → WV w 6 7 R L val u → WV w 6 7 R L' val' u := by
    intro L L' val val' u hl hv hw
    simp at hl hv
    unfold WV at hw ⊢
    simp only [hl, hv]
    exact hw
  have hKD : ∀ k ∈ ([6, 7] : List Nat), k ∈ DAD := by decide
  refine wp_region_inv (by kernel_rfl) opsAD_earlier (fun L a u => JR opsAD slAD DAD (VAD X off B r q n c g cd av id0 f t cc s ) a0 (WV w 6 7 R) L a u) ?_ ?_ ?_
  · rintro L L' a' u i o h ho hno hall hu
    clear hK
    have q0 := (h.fe.ev (j := 0) (by decide)).trans H0
    have q3 := (h.fe.ev (j := 3) (by decide)).trans H3
    have hi : i < 8 := by
      have := (Array.getElem?_eq_some_iff.1 ho).1
      rwa [opsAD_size] at this
    match i, hi with
    | 0, _ =>
      refine og_move (g := none) ho (.tmp 0) (d := some 91) (by kernel_rfl) trivial q0 ?_
      exact h.next hcg hKD ho hall (by decide) (by decide) (by decide) inj hz hu rfl
    | 1, _ =>
      refine og_nil (g := none) ho (.tmp 91) (d := some 92) (by kernel_rfl) trivial (show a'.eval (.tmp 91) = .pointer (some ⟨X, off, none⟩) from h.e 0 (by decide) (dep ho hall 0 (by kernel_rfl)) _ rfl) ?_
      exact h.next hcg hKD ho hall (by decide) (by decide) (by decide) inj hz hu rfl
    | 2, _ =>
      obtain ⟨h1, h2, h3⟩ := flds (d := some 93) (p := Op.fieldAddr 31 (.tmp 92) 1) (g := none) ho (by kernel_rfl)
      have g0 := (show a'.eval (.tmp 92) = .pointer (some ⟨X, off, none⟩) from h.e 1 (by decide) (dep ho hall 1 (by kernel_rfl)) _ rfl)
      refine og_plain ho h3 trivial ?_
      unfold Oper.wp
      simp only [execOp, h2, g0]
      go_simp
      exact h.next hcg hKD ho hall (by decide) (by decide) (by decide) inj hz hu rfl
    | 3, _ =>
      have hn : ¬ L 6 := fun hl => hno (anc_spec h.dc 60 6 3 (by kernel_rfl) hl)
      have c0 := ((h.w.1 hn).cell (p := ⟨X, off + 1, none⟩) hX).trans hx1
      obtain ⟨h1, h2, h3⟩ := flds (d := some 94) (p := Op.load 27 (.tmp 93)) (g := none) ho (by kernel_rfl)
      have g0 := (show a'.eval (.tmp 93) = .pointer (some ⟨X, off + 1, none⟩) from h.e 2 (by decide) (dep ho hall 2 (by kernel_rfl)) _ rfl)
      refine og_plain ho h3 trivial ?_
      unfold Oper.wp
      simp only [execOp, h2, g0]
      go_simp
      exact h.next hcg hKD ho hall (by decide) (by decide) (by decide) inj hz hu rfl
    | 4, _ =>
      obtain ⟨h1, h2, h3⟩ := flds (d := some 95) (p := Op.fieldAddr 36 (.tmp 3) 7) (g := none) ho (by kernel_rfl)
      have g0 := q3
      refine og_plain ho h3 trivial ?_
      unfold Oper.wp
      simp only [execOp, h2, g0]
      go_simp
      exact h.next hcg hKD ho hall (by decide) (by decide) (by decide) inj hz hu rfl
    | 5, _ =>
      have hn : ¬ L 6 := fun hl => hno (anc_spec h.dc 60 6 5 (by kernel_rfl) hl)
      have c0 := ((h.w.1 hn).cell (p := ⟨B, 7, none⟩) hB).trans hb7
      obtain ⟨h1, h2, h3⟩ := flds (d := some 96) (p := Op.load 24 (.tmp 95)) (g := none) ho (by kernel_rfl)
      have g0 := (show a'.eval (.tmp 95) = .pointer (some ⟨B, 7, none⟩) from h.e 4 (by decide) (dep ho hall 4 (by kernel_rfl)) _ rfl)
      refine og_plain ho h3 trivial ?_
      unfold Oper.wp
      simp only [execOp, h2, g0]
      go_simp
      exact h.next hcg hKD ho hall (by decide) (by decide) (by decide) inj hz hu rfl
    | 6, _ =>
      refine og_calls (g := none) ho 19 #[.tmp 94, .tmp 96] #[27, 24] (d := some 97) (by kernel_rfl) trivial Try.func19 rfl (by kernel_rfl) (vs := #[.pointer (some ⟨q, 0, none⟩), .slice av n c]) (by simp only [List.map_toArray, List.map_cons, List.map_nil]; rw [(show a'.eval (.tmp 94) = .pointer (some ⟨q, 0, none⟩) from h.e 3 (by decide) (dep ho hall 3 (by kernel_rfl)) _ rfl), (show a'.eval (.tmp 96) = .slice av n c from h.e 5 (by decide) (dep ho hall 5 (by kernel_rfl)) _ rfl)]) (hC u (h.w.1 hno)) ?_
      rintro e w' ⟨v, rfl, q3⟩
      refine ⟨_, rfl, h.put ho hall (by decide) inj hz hu (fun v' hv' => by cases hv') (fun val h1 h2 => ?_)⟩
      have ne : ¬ L 7 := fun hl => hno (anc_spec h.dc 60 7 6 (by kernel_rfl) hl)
      exact ⟨fun hn => absurd ((hu 6).2 (.inl rfl)) hn, fun _ => by rw [h1]; exact q3, fun hl => absurd (((hu 7).1 hl).resolve_left (by omega)) ne⟩
    | 7, _ =>
      have lc : L 6 := dep ho hall 6 (by kernel_rfl)
      refine og_assign (g := none) ho (.tmp 97) (d := some 14) (by kernel_rfl) trivial (v := a'.eval (.tmp 97)) rfl ?_
      refine h.put ho hall (by decide) inj hz hu (fun v' hv' => by cases hv') (fun val h1 h2 => ?_)
      have e1 := h2 6 (by decide) (by decide)
      exact ⟨fun hn => absurd ((hu 6).2 (.inr lc)) hn, fun _ => by rw [e1]; exact h.w.2.1 lc, fun _ => by rw [h1, e1]; rfl⟩
    | i + 8, hi => omega
  · rintro L a' u h hall
    rw [opsAD_size] at hall
    rw [h.done hz]
    refine hK L _ u hall h.w (fun j => ?_)
    by_cases hj : j ∈ DAD
    · cases hv : (VAD X off B r q n c g cd av id0 f t cc s ) j with
      | none => exact .inl rfl
      | some v =>
        refine .inr (.inl ?_)
        have hjN : j < 8 := by
          have hh : DAD.all (fun i => decide (i < 8)) = true := by kernel_rfl
          exact of_decide_eq_true (List.all_eq_true.1 hh j hj)
        rw [h.e j hj (hall j hjN) v hv]
    · exact .inr (.inr hj)
  · intro L hL
    refine JR.start hL ?_
    exact ⟨fun _ => (Below.refl _ _).drew, fun h => absurd h (hL 6), fun h => absurd h (hL 7)⟩

noncomputable def opsAE : Array Oper := (Try.f9.body.bind (opsAt 26)).getD #[]
theorem opsAE_size : opsAE.size = 10 := by kernel_rfl
theorem opsAE_earlier : Earlier opsAE := by
  have h : (List.range 10).all (fun i => ((opsAE[i]?).map (fun o => o.after.all (fun e => !Region.binds .any e || decide (e.on < i)))).getD true) = true := by kernel_rfl
  intro i o ho e he hb
  have hi : i < 10 := by
    have := (Array.getElem?_eq_some_iff.1 ho).1
    rwa [opsAE_size] at this
  have h1 := List.all_eq_true.1 h i (List.mem_range.2 hi)
  rw [ho] at h1
  simp only [Option.map_some, Option.getD_some, Array.all_eq_true'] at h1
  have h2 := h1 e he
  rw [hb] at h2
  simpa using h2
def slAE (j : Nat) : Nat := ([142, 143, 144, 145, 146, 147, 148, 149, 150, 18] : List Nat).getD j 0
def DAE : List Nat := [0, 1, 2, 3, 4, 5, 6, 7, 8, 9]
def VAE (X off B r q n c g cd : Nat) (av : Option Addr) (id0 f t cc : Int) (s : ByteArray)  (j : Nat) : Option Value := [some (.pointer (some ⟨X, off, none⟩)), some (.pointer (some ⟨X, off, none⟩)), some (.pointer (some ⟨X, off + 1, none⟩)), some (.pointer (some ⟨q, 0, none⟩)), some (.pointer (some ⟨B, 7, none⟩)), some (.slice av n c), some (.pointer (some ⟨B, 3, none⟩)), some (.int .i64 f), none, none].getD j none
set_option maxRecDepth 100000 in
set_option maxHeartbeats 4000000 in
theorem regAE (a0 : Act) (w : World) {Q : Exit → Act → World → Prop} (X off B r q n c g cd : Nat) (av : Option Addr) (id0 f t cc : Int) (s : ByteArray)  (R : Value → World → Prop) (hX : X < w.heap.size) (hB : B < w.heap.size) (hb3 : w.cell? ⟨B, 3, none⟩ = some (.int .i64 f)) (hb7 : w.cell? ⟨B, 7, none⟩ = some (.slice av n c)) (hx1 : w.cell? ⟨X, off + 1, none⟩ = some (.pointer (some ⟨q, 0, none⟩))) (hC : ∀ W, Below w.heap.size w W → Calls Try.prog 23 #[.pointer (some ⟨q, 0, none⟩), .slice av n c, .int .i64 f] W fun e w' => ∃ v, e = .returned v ∧ R v w') (hzz : 150 < a0.tmps.size) (H0 : a0.eval (.tmp 0) = .pointer (some ⟨X, off, none⟩)) (H3 : a0.eval (.tmp 3) = .pointer (some ⟨B, 0, none⟩))
    (hK : ∀ (L : Nat → Prop) (val : Nat → Value) (u : World), (∀ i, i < 10 → L i) → WV w 8 9 R L val u → (∀ j, (VAE X off B r q n c g cd av id0 f t cc s ) j = none ∨ (VAE X off B r q n c g cd av id0 f t cc s ) j = some (val j) ∨ j ∉ DAE) → Q .normal (puts a0 (DAE.map fun j => (slAE j, val j))) u) :
    (Code.region 26 opsAE true).wp Try.prog Q a0 w := by
  have inj : ∀ i ∈ DAE, ∀ j ∈ DAE, slAE i = slAE j → i = j := by
    have h : DAE.all (fun i => DAE.all (fun j => decide (slAE i = slAE j → i = j))) = true := by kernel_rfl
    intro i hi j hj he
    exact (of_decide_eq_true (List.all_eq_true.1 (List.all_eq_true.1 h i hi) j hj)) he
  have hz : ∀ j ∈ DAE, slAE j < a0.tmps.size := by
    have h : DAE.all (fun i => decide (slAE i ≤ 150)) = true := by kernel_rfl
    intro j hj
    have := of_decide_eq_true (List.all_eq_true.1 h j hj)
    omega
  have hcg : ∀ (L L' : Nat → Prop) (val val' : Nat → Value) u, (∀ k ∈ ([8, 9] : List Nat), (L' k ↔ L k)) → (∀ k ∈ ([8, 9] : List Nat), val' k = val k) → WV w 8 9 R L val u → WV w 8 9 R L' val' u := by
    intro L L' val val' u hl hv hw
    simp at hl hv
    unfold WV at hw ⊢
    simp only [hl, hv]
    exact hw
  have hKD : ∀ k ∈ ([8, 9] : List Nat), k ∈ DAE := by decide
  refine wp_region_inv (by kernel_rfl) opsAE_earlier (fun L a u => JR opsAE slAE DAE (VAE X off B r q n c g cd av id0 f t cc s ) a0 (WV w 8 9 R) L a u) ?_ ?_ ?_
  · rintro L L' a' u i o h ho hno hall hu
    clear hK
    have q0 := (h.fe.ev (j := 0) (by decide)).trans H0
    have q3 := (h.fe.ev (j := 3) (by decide)).trans H3
    have hi : i < 10 := by
      have := (Array.getElem?_eq_some_iff.1 ho).1
      rwa [opsAE_size] at this
    match i, hi with
    | 0, _ =>
      refine og_move (g := none) ho (.tmp 0) (d := some 142) (by kernel_rfl) trivial q0 ?_
      exact h.next hcg hKD ho hall (by decide) (by decide) (by decide) inj hz hu rfl
    | 1, _ =>
      refine og_nil (g := none) ho (.tmp 142) (d := some 143) (by kernel_rfl) trivial (show a'.eval (.tmp 142) = .pointer (some ⟨X, off, none⟩) from h.e 0 (by decide) (dep ho hall 0 (by kernel_rfl)) _ rfl) ?_
      exact h.next hcg hKD ho hall (by decide) (by decide) (by decide) inj hz hu rfl
    | 2, _ =>
      obtain ⟨h1, h2, h3⟩ := flds (d := some 144) (p := Op.fieldAddr 31 (.tmp 143) 1) (g := none) ho (by kernel_rfl)
      have g0 := (show a'.eval (.tmp 143) = .pointer (some ⟨X, off, none⟩) from h.e 1 (by decide) (dep ho hall 1 (by kernel_rfl)) _ rfl)
      refine og_plain ho h3 trivial ?_
      unfold Oper.wp
      simp only [execOp, h2, g0]
      go_simp
      exact h.next hcg hKD ho hall (by decide) (by decide) (by decide) inj hz hu rfl
    | 3, _ =>
      have hn : ¬ L 8 := fun hl => hno (anc_spec h.dc 60 8 3 (by kernel_rfl) hl)
      have c0 := ((h.w.1 hn).cell (p := ⟨X, off + 1, none⟩) hX).trans hx1
      obtain ⟨h1, h2, h3⟩ := flds (d := some 145) (p := Op.load 27 (.tmp 144)) (g := none) ho (by kernel_rfl)
      have g0 := (show a'.eval (.tmp 144) = .pointer (some ⟨X, off + 1, none⟩) from h.e 2 (by decide) (dep ho hall 2 (by kernel_rfl)) _ rfl)
      refine og_plain ho h3 trivial ?_
      unfold Oper.wp
      simp only [execOp, h2, g0]
      go_simp
      exact h.next hcg hKD ho hall (by decide) (by decide) (by decide) inj hz hu rfl
    | 4, _ =>
      obtain ⟨h1, h2, h3⟩ := flds (d := some 146) (p := Op.fieldAddr 36 (.tmp 3) 7) (g := none) ho (by kernel_rfl)
      have g0 := q3
      refine og_plain ho h3 trivial ?_
      unfold Oper.wp
      simp only [execOp, h2, g0]
      go_simp
      exact h.next hcg hKD ho hall (by decide) (by decide) (by decide) inj hz hu rfl
    | 5, _ =>
      have hn : ¬ L 8 := fun hl => hno (anc_spec h.dc 60 8 5 (by kernel_rfl) hl)
      have c0 := ((h.w.1 hn).cell (p := ⟨B, 7, none⟩) hB).trans hb7
      obtain ⟨h1, h2, h3⟩ := flds (d := some 147) (p := Op.load 24 (.tmp 146)) (g := none) ho (by kernel_rfl)
      have g0 := (show a'.eval (.tmp 146) = .pointer (some ⟨B, 7, none⟩) from h.e 4 (by decide) (dep ho hall 4 (by kernel_rfl)) _ rfl)
      refine og_plain ho h3 trivial ?_
      unfold Oper.wp
      simp only [execOp, h2, g0]
      go_simp
      exact h.next hcg hKD ho hall (by decide) (by decide) (by decide) inj hz hu rfl
    | 6, _ =>
      obtain ⟨h1, h2, h3⟩ := flds (d := some 148) (p := Op.fieldAddr 36 (.tmp 3) 3) (g := none) ho (by kernel_rfl)
      have g0 := q3
      refine og_plain ho h3 trivial ?_
      unfold Oper.wp
      simp only [execOp, h2, g0]
      go_simp
      exact h.next hcg hKD ho hall (by decide) (by decide) (by decide) inj hz hu rfl
    | 7, _ =>
      have hn : ¬ L 8 := fun hl => hno (anc_spec h.dc 60 8 7 (by kernel_rfl) hl)
      have c0 := ((h.w.1 hn).cell (p := ⟨B, 3, none⟩) hB).trans hb3
      obtain ⟨h1, h2, h3⟩ := flds (d := some 149) (p := Op.load 3 (.tmp 148)) (g := none) ho (by kernel_rfl)
      have g0 := (show a'.eval (.tmp 148) = .pointer (some ⟨B, 3, none⟩) from h.e 6 (by decide) (dep ho hall 6 (by kernel_rfl)) _ rfl)
      refine og_plain ho h3 trivial ?_
      unfold Oper.wp
      simp only [execOp, h2, g0]
      go_simp
      exact h.next hcg hKD ho hall (by decide) (by decide) (by decide) inj hz hu rfl
    | 8, _ =>
      refine og_calls (g := none) ho 23 #[.tmp 145, .tmp 147, .tmp 149] #[27, 24, 3] (d := some 150) (by kernel_rfl) trivial Try.func23 rfl (by kernel_rfl) (vs := #[.pointer (some ⟨q, 0, none⟩), .slice av n c, .int .i64 f]) (by simp only [List.map_toArray, List.map_cons, List.map_nil]; rw [(show a'.eval (.tmp 145) = .pointer (some ⟨q, 0, none⟩) from h.e 3 (by decide) (dep ho hall 3 (by kernel_rfl)) _ rfl), (show a'.eval (.tmp 147) = .slice av n c from h.e 5 (by decide) (dep ho hall 5 (by kernel_rfl)) _ rfl), (show a'.eval (.tmp 149) = .int .i64 f from h.e 7 (by decide) (dep ho hall 7 (by kernel_rfl)) _ rfl)]) (hC u (h.w.1 hno)) ?_
      rintro e w' ⟨v, rfl, q3⟩
      refine ⟨_, rfl, h.put ho hall (by decide) inj hz hu (fun v' hv' => by cases hv') (fun val h1 h2 => ?_)⟩
      have ne : ¬ L 9 := fun hl => hno (anc_spec h.dc 60 9 8 (by kernel_rfl) hl)
      exact ⟨fun hn => absurd ((hu 8).2 (.inl rfl)) hn, fun _ => by rw [h1]; exact q3, fun hl => absurd (((hu 9).1 hl).resolve_left (by omega)) ne⟩
    | 9, _ =>
      have lc : L 8 := dep ho hall 8 (by kernel_rfl)
      refine og_assign (g := none) ho (.tmp 150) (d := some 18) (by kernel_rfl) trivial (v := a'.eval (.tmp 150)) rfl ?_
      refine h.put ho hall (by decide) inj hz hu (fun v' hv' => by cases hv') (fun val h1 h2 => ?_)
      have e1 := h2 8 (by decide) (by decide)
      exact ⟨fun hn => absurd ((hu 8).2 (.inr lc)) hn, fun _ => by rw [e1]; exact h.w.2.1 lc, fun _ => by rw [h1, e1]; rfl⟩
    | i + 10, hi => omega
  · rintro L a' u h hall
    rw [opsAE_size] at hall
    rw [h.done hz]
    refine hK L _ u hall h.w (fun j => ?_)
    by_cases hj : j ∈ DAE
    · cases hv : (VAE X off B r q n c g cd av id0 f t cc s ) j with
      | none => exact .inl rfl
      | some v =>
        refine .inr (.inl ?_)
        have hjN : j < 10 := by
          have hh : DAE.all (fun i => decide (i < 10)) = true := by kernel_rfl
          exact of_decide_eq_true (List.all_eq_true.1 hh j hj)
        rw [h.e j hj (hall j hjN) v hv]
    · exact .inr (.inr hj)
  · intro L hL
    refine JR.start hL ?_
    exact ⟨fun _ => (Below.refl _ _).drew, fun h => absurd h (hL 8), fun h => absurd h (hL 9)⟩

noncomputable def opsAF : Array Oper := (Try.f9.body.bind (opsAt 27)).getD #[]
theorem opsAF_size : opsAF.size = 9 := by kernel_rfl
theorem opsAF_earlier : Earlier opsAF := by
  have h : (List.range 9).all (fun i => ((opsAF[i]?).map (fun o => o.after.all (fun e => !Region.binds .any e || decide (e.on < i)))).getD true) = true := by kernel_rfl
  intro i o ho e he hb
  have hi : i < 9 := by
    have := (Array.getElem?_eq_some_iff.1 ho).1
    rwa [opsAF_size] at this
  have h1 := List.all_eq_true.1 h i (List.mem_range.2 hi)
  rw [ho] at h1
  simp only [Option.map_some, Option.getD_some, Array.all_eq_true'] at h1
  have h2 := h1 e he
  rw [hb] at h2
  simpa using h2
def slAF (j : Nat) : Nat := ([151, 152, 153, 154, 155, 156, 157, 158, 19] : List Nat).getD j 0
def DAF : List Nat := [0, 1, 2, 3, 4, 5, 6, 7, 8]
def VAF (X off B r q n c g cd : Nat) (av : Option Addr) (id0 f t cc : Int) (s : ByteArray)  (j : Nat) : Option Value := [some (.pointer (some ⟨X, off, none⟩)), some (.pointer (some ⟨X, off, none⟩)), some (.pointer (some ⟨X, off, none⟩)), some (.pointer (some ⟨r, 0, none⟩)), some (.slice (some ⟨g, 0, none⟩) n cd), some (.pointer (some ⟨B, 3, none⟩)), some (.int .i64 f), none, none].getD j none
set_option maxRecDepth 100000 in
set_option maxHeartbeats 4000000 in
theorem regAF (a0 : Act) (w : World) {Q : Exit → Act → World → Prop} (X off B r q n c g cd : Nat) (av : Option Addr) (id0 f t cc : Int) (s : ByteArray)  (R : Value → World → Prop) (hX : X < w.heap.size) (hB : B < w.heap.size) (hb3 : w.cell? ⟨B, 3, none⟩ = some (.int .i64 f)) (hx0 : w.cell? ⟨X, off, none⟩ = some (.pointer (some ⟨r, 0, none⟩))) (hC : ∀ W, Below w.heap.size w W → Calls Try.prog 24 #[.pointer (some ⟨r, 0, none⟩), .slice (some ⟨g, 0, none⟩) n cd, .int .i64 f] W fun e w' => ∃ v, e = .returned v ∧ R v w') (hzz : 158 < a0.tmps.size) (H0 : a0.eval (.tmp 0) = .pointer (some ⟨X, off, none⟩)) (H6 : a0.eval (.tmp 6) = .slice (some ⟨g, 0, none⟩) n cd) (H3 : a0.eval (.tmp 3) = .pointer (some ⟨B, 0, none⟩))
    (hK : ∀ (L : Nat → Prop) (val : Nat → Value) (u : World), (∀ i, i < 9 → L i) → WV w 7 8 R L val u → (∀ j, (VAF X off B r q n c g cd av id0 f t cc s ) j = none ∨ (VAF X off B r q n c g cd av id0 f t cc s ) j = some (val j) ∨ j ∉ DAF) → Q .normal (puts a0 (DAF.map fun j => (slAF j, val j))) u) :
    (Code.region 27 opsAF true).wp Try.prog Q a0 w := by
  have inj : ∀ i ∈ DAF, ∀ j ∈ DAF, slAF i = slAF j → i = j := by
    have h : DAF.all (fun i => DAF.all (fun j => decide (slAF i = slAF j → i = j))) = true := by kernel_rfl
    intro i hi j hj he
    exact (of_decide_eq_true (List.all_eq_true.1 (List.all_eq_true.1 h i hi) j hj)) he
  have hz : ∀ j ∈ DAF, slAF j < a0.tmps.size := by
    have h : DAF.all (fun i => decide (slAF i ≤ 158)) = true := by kernel_rfl
    intro j hj
    have := of_decide_eq_true (List.all_eq_true.1 h j hj)
    omega
  have hcg : ∀ (L L' : Nat → Prop) (val val' : Nat → Value) u, (∀ k ∈ ([7, 8] : List Nat), (L' k ↔ L k)) → (∀ k ∈ ([7, 8] : List Nat), val' k = val k) → WV w 7 8 R L val u → WV w 7 8 R L' val' u := by
    intro L L' val val' u hl hv hw
    simp at hl hv
    unfold WV at hw ⊢
    simp only [hl, hv]
    exact hw
  have hKD : ∀ k ∈ ([7, 8] : List Nat), k ∈ DAF := by decide
  refine wp_region_inv (by kernel_rfl) opsAF_earlier (fun L a u => JR opsAF slAF DAF (VAF X off B r q n c g cd av id0 f t cc s ) a0 (WV w 7 8 R) L a u) ?_ ?_ ?_
  · rintro L L' a' u i o h ho hno hall hu
    clear hK
    have q0 := (h.fe.ev (j := 0) (by decide)).trans H0
    have q6 := (h.fe.ev (j := 6) (by decide)).trans H6
    have q3 := (h.fe.ev (j := 3) (by decide)).trans H3
    have hi : i < 9 := by
      have := (Array.getElem?_eq_some_iff.1 ho).1
      rwa [opsAF_size] at this
    match i, hi with
    | 0, _ =>
      refine og_move (g := none) ho (.tmp 0) (d := some 151) (by kernel_rfl) trivial q0 ?_
      exact h.next hcg hKD ho hall (by decide) (by decide) (by decide) inj hz hu rfl
    | 1, _ =>
      refine og_nil (g := none) ho (.tmp 151) (d := some 152) (by kernel_rfl) trivial (show a'.eval (.tmp 151) = .pointer (some ⟨X, off, none⟩) from h.e 0 (by decide) (dep ho hall 0 (by kernel_rfl)) _ rfl) ?_
      exact h.next hcg hKD ho hall (by decide) (by decide) (by decide) inj hz hu rfl
    | 2, _ =>
      obtain ⟨h1, h2, h3⟩ := flds (d := some 153) (p := Op.fieldAddr 31 (.tmp 152) 0) (g := none) ho (by kernel_rfl)
      have g0 := (show a'.eval (.tmp 152) = .pointer (some ⟨X, off, none⟩) from h.e 1 (by decide) (dep ho hall 1 (by kernel_rfl)) _ rfl)
      refine og_plain ho h3 trivial ?_
      unfold Oper.wp
      simp only [execOp, h2, g0]
      go_simp
      exact h.next hcg hKD ho hall (by decide) (by decide) (by decide) inj hz hu rfl
    | 3, _ =>
      have hn : ¬ L 7 := fun hl => hno (anc_spec h.dc 60 7 3 (by kernel_rfl) hl)
      have c0 := ((h.w.1 hn).cell (p := ⟨X, off, none⟩) hX).trans hx0
      obtain ⟨h1, h2, h3⟩ := flds (d := some 154) (p := Op.load 23 (.tmp 153)) (g := none) ho (by kernel_rfl)
      have g0 := (show a'.eval (.tmp 153) = .pointer (some ⟨X, off, none⟩) from h.e 2 (by decide) (dep ho hall 2 (by kernel_rfl)) _ rfl)
      refine og_plain ho h3 trivial ?_
      unfold Oper.wp
      simp only [execOp, h2, g0]
      go_simp
      exact h.next hcg hKD ho hall (by decide) (by decide) (by decide) inj hz hu rfl
    | 4, _ =>
      refine og_move (g := none) ho (.tmp 6) (d := some 155) (by kernel_rfl) trivial q6 ?_
      exact h.next hcg hKD ho hall (by decide) (by decide) (by decide) inj hz hu rfl
    | 5, _ =>
      obtain ⟨h1, h2, h3⟩ := flds (d := some 156) (p := Op.fieldAddr 36 (.tmp 3) 3) (g := none) ho (by kernel_rfl)
      have g0 := q3
      refine og_plain ho h3 trivial ?_
      unfold Oper.wp
      simp only [execOp, h2, g0]
      go_simp
      exact h.next hcg hKD ho hall (by decide) (by decide) (by decide) inj hz hu rfl
    | 6, _ =>
      have hn : ¬ L 7 := fun hl => hno (anc_spec h.dc 60 7 6 (by kernel_rfl) hl)
      have c0 := ((h.w.1 hn).cell (p := ⟨B, 3, none⟩) hB).trans hb3
      obtain ⟨h1, h2, h3⟩ := flds (d := some 157) (p := Op.load 3 (.tmp 156)) (g := none) ho (by kernel_rfl)
      have g0 := (show a'.eval (.tmp 156) = .pointer (some ⟨B, 3, none⟩) from h.e 5 (by decide) (dep ho hall 5 (by kernel_rfl)) _ rfl)
      refine og_plain ho h3 trivial ?_
      unfold Oper.wp
      simp only [execOp, h2, g0]
      go_simp
      exact h.next hcg hKD ho hall (by decide) (by decide) (by decide) inj hz hu rfl
    | 7, _ =>
      refine og_calls (g := none) ho 24 #[.tmp 154, .tmp 155, .tmp 157] #[23, 24, 3] (d := some 158) (by kernel_rfl) trivial Try.func24 rfl (by kernel_rfl) (vs := #[.pointer (some ⟨r, 0, none⟩), .slice (some ⟨g, 0, none⟩) n cd, .int .i64 f]) (by simp only [List.map_toArray, List.map_cons, List.map_nil]; rw [(show a'.eval (.tmp 154) = .pointer (some ⟨r, 0, none⟩) from h.e 3 (by decide) (dep ho hall 3 (by kernel_rfl)) _ rfl), (show a'.eval (.tmp 155) = .slice (some ⟨g, 0, none⟩) n cd from h.e 4 (by decide) (dep ho hall 4 (by kernel_rfl)) _ rfl), (show a'.eval (.tmp 157) = .int .i64 f from h.e 6 (by decide) (dep ho hall 6 (by kernel_rfl)) _ rfl)]) (hC u (h.w.1 hno)) ?_
      rintro e w' ⟨v, rfl, q3⟩
      refine ⟨_, rfl, h.put ho hall (by decide) inj hz hu (fun v' hv' => by cases hv') (fun val h1 h2 => ?_)⟩
      have ne : ¬ L 8 := fun hl => hno (anc_spec h.dc 60 8 7 (by kernel_rfl) hl)
      exact ⟨fun hn => absurd ((hu 7).2 (.inl rfl)) hn, fun _ => by rw [h1]; exact q3, fun hl => absurd (((hu 8).1 hl).resolve_left (by omega)) ne⟩
    | 8, _ =>
      have lc : L 7 := dep ho hall 7 (by kernel_rfl)
      refine og_assign (g := none) ho (.tmp 158) (d := some 19) (by kernel_rfl) trivial (v := a'.eval (.tmp 158)) rfl ?_
      refine h.put ho hall (by decide) inj hz hu (fun v' hv' => by cases hv') (fun val h1 h2 => ?_)
      have e1 := h2 7 (by decide) (by decide)
      exact ⟨fun hn => absurd ((hu 7).2 (.inr lc)) hn, fun _ => by rw [e1]; exact h.w.2.1 lc, fun _ => by rw [h1, e1]; rfl⟩
    | i + 9, hi => omega
  · rintro L a' u h hall
    rw [opsAF_size] at hall
    rw [h.done hz]
    refine hK L _ u hall h.w (fun j => ?_)
    by_cases hj : j ∈ DAF
    · cases hv : (VAF X off B r q n c g cd av id0 f t cc s ) j with
      | none => exact .inl rfl
      | some v =>
        refine .inr (.inl ?_)
        have hjN : j < 9 := by
          have hh : DAF.all (fun i => decide (i < 9)) = true := by kernel_rfl
          exact of_decide_eq_true (List.all_eq_true.1 hh j hj)
        rw [h.e j hj (hall j hjN) v hv]
    · exact .inr (.inr hj)
  · intro L hL
    refine JR.start hL ?_
    exact ⟨fun _ => (Below.refl _ _).drew, fun h => absurd h (hL 7), fun h => absurd h (hL 8)⟩

noncomputable def opsAG : Array Oper := (Try.f9.body.bind (opsAt 28)).getD #[]
theorem opsAG_size : opsAG.size = 9 := by kernel_rfl
theorem opsAG_earlier : Earlier opsAG := by
  have h : (List.range 9).all (fun i => ((opsAG[i]?).map (fun o => o.after.all (fun e => !Region.binds .any e || decide (e.on < i)))).getD true) = true := by kernel_rfl
  intro i o ho e he hb
  have hi : i < 9 := by
    have := (Array.getElem?_eq_some_iff.1 ho).1
    rwa [opsAG_size] at this
  have h1 := List.all_eq_true.1 h i (List.mem_range.2 hi)
  rw [ho] at h1
  simp only [Option.map_some, Option.getD_some, Array.all_eq_true'] at h1
  have h2 := h1 e he
  rw [hb] at h2
  simpa using h2
def slAG (j : Nat) : Nat := ([159, 160, 161, 162, 163, 164, 165, 166, 20] : List Nat).getD j 0
def DAG : List Nat := [0, 1, 2, 3, 4, 5, 6, 7, 8]
def VAG (X off B r q n c g cd : Nat) (av : Option Addr) (id0 f t cc : Int) (s : ByteArray)  (j : Nat) : Option Value := [some (.pointer (some ⟨X, off, none⟩)), some (.pointer (some ⟨X, off, none⟩)), some (.pointer (some ⟨X, off, none⟩)), some (.pointer (some ⟨r, 0, none⟩)), some (.slice (some ⟨g, 0, none⟩) n cd), some (.pointer (some ⟨B, 3, none⟩)), some (.int .i64 f), none, none].getD j none
set_option maxRecDepth 100000 in
set_option maxHeartbeats 4000000 in
theorem regAG (a0 : Act) (w : World) {Q : Exit → Act → World → Prop} (X off B r q n c g cd : Nat) (av : Option Addr) (id0 f t cc : Int) (s : ByteArray)  (R : Value → World → Prop) (hX : X < w.heap.size) (hB : B < w.heap.size) (hb3 : w.cell? ⟨B, 3, none⟩ = some (.int .i64 f)) (hx0 : w.cell? ⟨X, off, none⟩ = some (.pointer (some ⟨r, 0, none⟩))) (hC : ∀ W, Below w.heap.size w W → Calls Try.prog 24 #[.pointer (some ⟨r, 0, none⟩), .slice (some ⟨g, 0, none⟩) n cd, .int .i64 f] W fun e w' => ∃ v, e = .returned v ∧ R v w') (hzz : 166 < a0.tmps.size) (H0 : a0.eval (.tmp 0) = .pointer (some ⟨X, off, none⟩)) (H6 : a0.eval (.tmp 6) = .slice (some ⟨g, 0, none⟩) n cd) (H3 : a0.eval (.tmp 3) = .pointer (some ⟨B, 0, none⟩))
    (hK : ∀ (L : Nat → Prop) (val : Nat → Value) (u : World), (∀ i, i < 9 → L i) → WV w 7 8 R L val u → (∀ j, (VAG X off B r q n c g cd av id0 f t cc s ) j = none ∨ (VAG X off B r q n c g cd av id0 f t cc s ) j = some (val j) ∨ j ∉ DAG) → Q .normal (puts a0 (DAG.map fun j => (slAG j, val j))) u) :
    (Code.region 28 opsAG true).wp Try.prog Q a0 w := by
  have inj : ∀ i ∈ DAG, ∀ j ∈ DAG, slAG i = slAG j → i = j := by
    have h : DAG.all (fun i => DAG.all (fun j => decide (slAG i = slAG j → i = j))) = true := by kernel_rfl
    intro i hi j hj he
    exact (of_decide_eq_true (List.all_eq_true.1 (List.all_eq_true.1 h i hi) j hj)) he
  have hz : ∀ j ∈ DAG, slAG j < a0.tmps.size := by
    have h : DAG.all (fun i => decide (slAG i ≤ 166)) = true := by kernel_rfl
    intro j hj
    have := of_decide_eq_true (List.all_eq_true.1 h j hj)
    omega
  have hcg : ∀ (L L' : Nat → Prop) (val val' : Nat → Value) u, (∀ k ∈ ([7, 8] : List Nat), (L' k ↔ L k)) → (∀ k ∈ ([7, 8] : List Nat), val' k = val k) → WV w 7 8 R L val u → WV w 7 8 R L' val' u := by
    intro L L' val val' u hl hv hw
    simp at hl hv
    unfold WV at hw ⊢
    simp only [hl, hv]
    exact hw
  have hKD : ∀ k ∈ ([7, 8] : List Nat), k ∈ DAG := by decide
  refine wp_region_inv (by kernel_rfl) opsAG_earlier (fun L a u => JR opsAG slAG DAG (VAG X off B r q n c g cd av id0 f t cc s ) a0 (WV w 7 8 R) L a u) ?_ ?_ ?_
  · rintro L L' a' u i o h ho hno hall hu
    clear hK
    have q0 := (h.fe.ev (j := 0) (by decide)).trans H0
    have q6 := (h.fe.ev (j := 6) (by decide)).trans H6
    have q3 := (h.fe.ev (j := 3) (by decide)).trans H3
    have hi : i < 9 := by
      have := (Array.getElem?_eq_some_iff.1 ho).1
      rwa [opsAG_size] at this
    match i, hi with
    | 0, _ =>
      refine og_move (g := none) ho (.tmp 0) (d := some 159) (by kernel_rfl) trivial q0 ?_
      exact h.next hcg hKD ho hall (by decide) (by decide) (by decide) inj hz hu rfl
    | 1, _ =>
      refine og_nil (g := none) ho (.tmp 159) (d := some 160) (by kernel_rfl) trivial (show a'.eval (.tmp 159) = .pointer (some ⟨X, off, none⟩) from h.e 0 (by decide) (dep ho hall 0 (by kernel_rfl)) _ rfl) ?_
      exact h.next hcg hKD ho hall (by decide) (by decide) (by decide) inj hz hu rfl
    | 2, _ =>
      obtain ⟨h1, h2, h3⟩ := flds (d := some 161) (p := Op.fieldAddr 31 (.tmp 160) 0) (g := none) ho (by kernel_rfl)
      have g0 := (show a'.eval (.tmp 160) = .pointer (some ⟨X, off, none⟩) from h.e 1 (by decide) (dep ho hall 1 (by kernel_rfl)) _ rfl)
      refine og_plain ho h3 trivial ?_
      unfold Oper.wp
      simp only [execOp, h2, g0]
      go_simp
      exact h.next hcg hKD ho hall (by decide) (by decide) (by decide) inj hz hu rfl
    | 3, _ =>
      have hn : ¬ L 7 := fun hl => hno (anc_spec h.dc 60 7 3 (by kernel_rfl) hl)
      have c0 := ((h.w.1 hn).cell (p := ⟨X, off, none⟩) hX).trans hx0
      obtain ⟨h1, h2, h3⟩ := flds (d := some 162) (p := Op.load 23 (.tmp 161)) (g := none) ho (by kernel_rfl)
      have g0 := (show a'.eval (.tmp 161) = .pointer (some ⟨X, off, none⟩) from h.e 2 (by decide) (dep ho hall 2 (by kernel_rfl)) _ rfl)
      refine og_plain ho h3 trivial ?_
      unfold Oper.wp
      simp only [execOp, h2, g0]
      go_simp
      exact h.next hcg hKD ho hall (by decide) (by decide) (by decide) inj hz hu rfl
    | 4, _ =>
      refine og_move (g := none) ho (.tmp 6) (d := some 163) (by kernel_rfl) trivial q6 ?_
      exact h.next hcg hKD ho hall (by decide) (by decide) (by decide) inj hz hu rfl
    | 5, _ =>
      obtain ⟨h1, h2, h3⟩ := flds (d := some 164) (p := Op.fieldAddr 36 (.tmp 3) 3) (g := none) ho (by kernel_rfl)
      have g0 := q3
      refine og_plain ho h3 trivial ?_
      unfold Oper.wp
      simp only [execOp, h2, g0]
      go_simp
      exact h.next hcg hKD ho hall (by decide) (by decide) (by decide) inj hz hu rfl
    | 6, _ =>
      have hn : ¬ L 7 := fun hl => hno (anc_spec h.dc 60 7 6 (by kernel_rfl) hl)
      have c0 := ((h.w.1 hn).cell (p := ⟨B, 3, none⟩) hB).trans hb3
      obtain ⟨h1, h2, h3⟩ := flds (d := some 165) (p := Op.load 3 (.tmp 164)) (g := none) ho (by kernel_rfl)
      have g0 := (show a'.eval (.tmp 164) = .pointer (some ⟨B, 3, none⟩) from h.e 5 (by decide) (dep ho hall 5 (by kernel_rfl)) _ rfl)
      refine og_plain ho h3 trivial ?_
      unfold Oper.wp
      simp only [execOp, h2, g0]
      go_simp
      exact h.next hcg hKD ho hall (by decide) (by decide) (by decide) inj hz hu rfl
    | 7, _ =>
      refine og_calls (g := none) ho 24 #[.tmp 162, .tmp 163, .tmp 165] #[23, 24, 3] (d := some 166) (by kernel_rfl) trivial Try.func24 rfl (by kernel_rfl) (vs := #[.pointer (some ⟨r, 0, none⟩), .slice (some ⟨g, 0, none⟩) n cd, .int .i64 f]) (by simp only [List.map_toArray, List.map_cons, List.map_nil]; rw [(show a'.eval (.tmp 162) = .pointer (some ⟨r, 0, none⟩) from h.e 3 (by decide) (dep ho hall 3 (by kernel_rfl)) _ rfl), (show a'.eval (.tmp 163) = .slice (some ⟨g, 0, none⟩) n cd from h.e 4 (by decide) (dep ho hall 4 (by kernel_rfl)) _ rfl), (show a'.eval (.tmp 165) = .int .i64 f from h.e 6 (by decide) (dep ho hall 6 (by kernel_rfl)) _ rfl)]) (hC u (h.w.1 hno)) ?_
      rintro e w' ⟨v, rfl, q3⟩
      refine ⟨_, rfl, h.put ho hall (by decide) inj hz hu (fun v' hv' => by cases hv') (fun val h1 h2 => ?_)⟩
      have ne : ¬ L 8 := fun hl => hno (anc_spec h.dc 60 8 7 (by kernel_rfl) hl)
      exact ⟨fun hn => absurd ((hu 7).2 (.inl rfl)) hn, fun _ => by rw [h1]; exact q3, fun hl => absurd (((hu 8).1 hl).resolve_left (by omega)) ne⟩
    | 8, _ =>
      have lc : L 7 := dep ho hall 7 (by kernel_rfl)
      refine og_assign (g := none) ho (.tmp 166) (d := some 20) (by kernel_rfl) trivial (v := a'.eval (.tmp 166)) rfl ?_
      refine h.put ho hall (by decide) inj hz hu (fun v' hv' => by cases hv') (fun val h1 h2 => ?_)
      have e1 := h2 7 (by decide) (by decide)
      exact ⟨fun hn => absurd ((hu 7).2 (.inr lc)) hn, fun _ => by rw [e1]; exact h.w.2.1 lc, fun _ => by rw [h1, e1]; rfl⟩
    | i + 9, hi => omega
  · rintro L a' u h hall
    rw [opsAG_size] at hall
    rw [h.done hz]
    refine hK L _ u hall h.w (fun j => ?_)
    by_cases hj : j ∈ DAG
    · cases hv : (VAG X off B r q n c g cd av id0 f t cc s ) j with
      | none => exact .inl rfl
      | some v =>
        refine .inr (.inl ?_)
        have hjN : j < 9 := by
          have hh : DAG.all (fun i => decide (i < 9)) = true := by kernel_rfl
          exact of_decide_eq_true (List.all_eq_true.1 hh j hj)
        rw [h.e j hj (hall j hjN) v hv]
    · exact .inr (.inr hj)
  · intro L hL
    refine JR.start hL ?_
    exact ⟨fun _ => (Below.refl _ _).drew, fun h => absurd h (hL 7), fun h => absurd h (hL 8)⟩

end Go.Proofs.Ytkkklfnooeofcab
