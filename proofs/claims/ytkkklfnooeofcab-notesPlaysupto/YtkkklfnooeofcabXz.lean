/-
  The law NotesPlays: the region of a step, whose order is drawn.
-/
import Derived.Test.YtkkklfnooeofcabXx
namespace Go.Proofs.Ytkkklfnooeofcab
open Go.RowKit
set_option linter.unusedVariables false

noncomputable def opsPA : Array Oper := (Try.f3.body.bind (opsAt 17)).getD #[]
theorem opsPA_size : opsPA.size = 17 := by kernel_rfl
theorem opsPA_earlier : Earlier opsPA := by
  have h : (List.range 17).all (fun i => ((opsPA[i]?).map (fun o => o.after.all (fun e => !Region.binds .any e || decide (e.on < i)))).getD true) = true := by kernel_rfl
  intro i o ho e he hb
  have hi : i < 17 := by
    have := (Array.getElem?_eq_some_iff.1 ho).1
    rwa [opsPA_size] at this
  have h1 := List.all_eq_true.1 h i (List.mem_range.2 hi)
  rw [ho] at h1
  simp only [Option.map_some, Option.getD_some, Array.all_eq_true'] at h1
  have h2 := h1 e he
  rw [hb] at h2
  simpa using h2
def slPA (j : Nat) : Nat := ([46, 47, 48, 49, 50, 51, 52, 53, 54, 55, 56, 57, 58, 59, 60, 61, 62] : List Nat).getD j 0
def DPA : List Nat := [0, 1, 2, 3, 4, 5, 6, 7, 8, 9, 10, 11, 12, 13, 14, 15, 16]
def VPA (X B : Nat) (kd sl id f t cc : Int) (s : ByteArray) (av : Option Addr) (n c : Nat) (j : Nat) : Option Value := [some (.pointer (some ⟨B, 1, none⟩)), some (.int .i64 sl), some (.int .i64 0), some (.pointer (some ⟨X, 0, none⟩)), some (.agg #[.int .i64 kd, .int .i64 sl, .int .i64 id, .int .i64 f, .int .i64 t, .int .i64 cc, .string s, .slice av n c]), some (.bool true), some (.bool false), some (.bool false), some (.pointer (some ⟨X, 0, none⟩)), some (.bool true), some (.bool false), some (.bool false), some (.bool false), some (.pointer (some ⟨X, 6, none⟩)), some (.bool true), some (.bool false), some (.bool false)].getD j none
set_option maxRecDepth 100000 in
set_option maxHeartbeats 4000000 in
theorem regPA (a0 : Act) (w : World) {Q : Exit → Act → World → Prop} (X B : Nat) (kd sl id f t cc : Int) (s : ByteArray) (av : Option Addr) (n c : Nat) (R : World → Prop) (hB : B < w.heap.size) (hbit : bits BinOp.and IntKind.i64 sl 1 = 0) (hb0 : w.cell? ⟨B, 0, none⟩ = some (.int .i64 kd)) (hb1 : w.cell? ⟨B, 1, none⟩ = some (.int .i64 sl)) (hb2 : w.cell? ⟨B, 2, none⟩ = some (.int .i64 id)) (hb3 : w.cell? ⟨B, 3, none⟩ = some (.int .i64 f)) (hb4 : w.cell? ⟨B, 4, none⟩ = some (.int .i64 t)) (hb5 : w.cell? ⟨B, 5, none⟩ = some (.int .i64 cc)) (hb6 : w.cell? ⟨B, 6, none⟩ = some (.string s)) (hb7 : w.cell? ⟨B, 7, none⟩ = some (.slice av n c)) (hC : ∀ W, Below w.heap.size w W → Calls Try.prog 7 #[.pointer (some ⟨X, 0, none⟩), .agg #[.int .i64 kd, .int .i64 sl, .int .i64 id, .int .i64 f, .int .i64 t, .int .i64 cc, .string s, .slice av n c]] W fun e w' => e = .returned (.bool true) ∧ R w') (hC0 : ∀ W, R W → Calls Try.prog 8 #[.pointer (some ⟨X, 0, none⟩)] W fun e w' => e = .returned (.bool true) ∧ R w') (hC1 : ∀ W, R W → Calls Try.prog 8 #[.pointer (some ⟨X, 6, none⟩)] W fun e w' => e = .returned (.bool true) ∧ R w') (hzz : 62 < a0.tmps.size) (H6 : a0.eval (.tmp 6) = .pointer (some ⟨X, 0, none⟩)) (H10 : a0.eval (.tmp 10) = .pointer (some ⟨B, 0, none⟩))
    (hK : ∀ (L : Nat → Prop) (val : Nat → Value) (u : World), (∀ i, i < 17 → L i) → WC w 5 R L val u → (∀ j, (VPA X B kd sl id f t cc s av n c) j = none ∨ (VPA X B kd sl id f t cc s av n c) j = some (val j) ∨ j ∉ DPA) → Q .normal (puts a0 (DPA.map fun j => (slPA j, val j))) u) :
    (Code.region 17 opsPA true).wp Try.prog Q a0 w := by
  have inj : ∀ i ∈ DPA, ∀ j ∈ DPA, slPA i = slPA j → i = j := by
    have h : DPA.all (fun i => DPA.all (fun j => decide (slPA i = slPA j → i = j))) = true := by kernel_rfl
    intro i hi j hj he
    exact (of_decide_eq_true (List.all_eq_true.1 (List.all_eq_true.1 h i hi) j hj)) he
  have hz : ∀ j ∈ DPA, slPA j < a0.tmps.size := by
    have h : DPA.all (fun i => decide (slPA i ≤ 62)) = true := by kernel_rfl
    intro j hj
    have := of_decide_eq_true (List.all_eq_true.1 h j hj)
    omega
  have hcg : ∀ (L L' : Nat → Prop) (val val' : Nat → Value) u, (∀ k ∈ ([5] : List Nat), (L' k ↔ L k)) → (∀ k ∈ ([] : List Nat), val' k = val k) → WC w 5 R L val u → WC w 5 R L' val' u := by
    intro L L' val val' u hl hv hw
    simp at hl hv
    unfold WC at hw ⊢
    simp only [hl]
    exact hw
  have hKD : ∀ k ∈ ([] : List Nat), k ∈ DPA := by decide
  refine wp_region_inv (by kernel_rfl) opsPA_earlier (fun L a u => JR opsPA slPA DPA (VPA X B kd sl id f t cc s av n c) a0 (WC w 5 R) L a u) ?_ ?_ ?_
  · rintro L L' a' u i o h ho hno hall hu
    clear hK
    have q6 := (h.fe.ev (j := 6) (by decide)).trans H6
    have q10 := (h.fe.ev (j := 10) (by decide)).trans H10
    have hi : i < 17 := by
      have := (Array.getElem?_eq_some_iff.1 ho).1
      rwa [opsPA_size] at this
    match i, hi with
    | 0, _ =>
      obtain ⟨h1, h2, h3⟩ := flds (d := some 46) (p := Op.fieldAddr 36 (.tmp 10) 1) (g := none) ho (by kernel_rfl)
      have g0 := q10
      refine og_plain ho h3 trivial ?_
      unfold Oper.wp
      simp only [execOp, h2, g0]
      go_simp
      exact h.next hcg hKD ho hall (by decide) (by decide) (by decide) inj hz hu rfl
    | 1, _ =>
      have hn : ¬ L 5 := fun hl => hno (anc_spec h.dc 60 5 1 (by kernel_rfl) hl)
      have c1 := ((h.w.1 hn).cell (p := ⟨B, 1, none⟩) hB).trans hb1
      obtain ⟨h1, h2, h3⟩ := flds (d := some 47) (p := Op.load 3 (.tmp 46)) (g := none) ho (by kernel_rfl)
      have g0 := (show a'.eval (.tmp 46) = .pointer (some ⟨B, 1, none⟩) from h.e 0 (by decide) (dep ho hall 0 (by kernel_rfl)) _ rfl)
      refine og_plain ho h3 trivial ?_
      unfold Oper.wp
      simp only [execOp, h2, g0]
      go_simp
      exact h.next hcg hKD ho hall (by decide) (by decide) (by decide) inj hz hu rfl
    | 2, _ =>
      obtain ⟨h1, h2, h3⟩ := flds (d := some 48) (p := Op.binOp .and 3 (.tmp 47) (.const (.int .i64 1)) 3) (g := none) ho (by kernel_rfl)
      have g0 := (show a'.eval (.tmp 47) = .int .i64 sl from h.e 1 (by decide) (dep ho hall 1 (by kernel_rfl)) _ rfl)
      refine og_plain ho h3 trivial ?_
      unfold Oper.wp
      simp only [execOp, h2, g0]
      go_simp
      try rw [hbit]
      exact h.next hcg hKD ho hall (by decide) (by decide) (by decide) inj hz hu rfl
    | 3, _ =>
      obtain ⟨h1, h2, h3⟩ := flds (d := some 49) (p := Op.indexAddr 32 (.tmp 6) (.tmp 48)) (g := none) ho (by kernel_rfl)
      have g0 := q6
      have g1 := (show a'.eval (.tmp 48) = .int .i64 0 from h.e 2 (by decide) (dep ho hall 2 (by kernel_rfl)) _ rfl)
      refine og_plain ho h3 trivial ?_
      unfold Oper.wp
      simp only [execOp, h2, g0, g1]
      go_simp
      exact h.next hcg hKD ho hall (by decide) (by decide) (by decide) inj hz hu rfl
    | 4, _ =>
      have hn : ¬ L 5 := fun hl => hno (anc_spec h.dc 60 5 4 (by kernel_rfl) hl)
      have c0 := ((h.w.1 hn).cell (p := ⟨B, 0, none⟩) hB).trans hb0
      have c1 := ((h.w.1 hn).cell (p := ⟨B, 1, none⟩) hB).trans hb1
      have c2 := ((h.w.1 hn).cell (p := ⟨B, 2, none⟩) hB).trans hb2
      have c3 := ((h.w.1 hn).cell (p := ⟨B, 3, none⟩) hB).trans hb3
      have c4 := ((h.w.1 hn).cell (p := ⟨B, 4, none⟩) hB).trans hb4
      have c5 := ((h.w.1 hn).cell (p := ⟨B, 5, none⟩) hB).trans hb5
      have c6 := ((h.w.1 hn).cell (p := ⟨B, 6, none⟩) hB).trans hb6
      have c7 := ((h.w.1 hn).cell (p := ⟨B, 7, none⟩) hB).trans hb7
      obtain ⟨h1, h2, h3⟩ := flds (d := some 50) (p := Op.load 36 (.tmp 10)) (g := none) ho (by kernel_rfl)
      have g0 := q10
      refine og_plain ho h3 trivial ?_
      unfold Oper.wp
      simp only [execOp, h2, g0]
      go_simp
      exact h.next hcg hKD ho hall (by decide) (by decide) (by decide) inj hz hu rfl
    | 5, _ =>
      refine og_calls (g := none) ho 7 #[.tmp 49, .tmp 50] #[31, 36] (d := some 51) (by kernel_rfl) trivial Try.func7 rfl (by kernel_rfl) (vs := #[.pointer (some ⟨X, 0, none⟩), .agg #[.int .i64 kd, .int .i64 sl, .int .i64 id, .int .i64 f, .int .i64 t, .int .i64 cc, .string s, .slice av n c]]) (by simp only [List.map_toArray, List.map_cons, List.map_nil]; rw [(show a'.eval (.tmp 49) = .pointer (some ⟨X, 0, none⟩) from h.e 3 (by decide) (dep ho hall 3 (by kernel_rfl)) _ rfl), (show a'.eval (.tmp 50) = .agg #[.int .i64 kd, .int .i64 sl, .int .i64 id, .int .i64 f, .int .i64 t, .int .i64 cc, .string s, .slice av n c] from h.e 4 (by decide) (dep ho hall 4 (by kernel_rfl)) _ rfl)]) (hC u (h.w.1 hno)) ?_
      rintro e w' ⟨rfl, q3⟩
      refine ⟨_, rfl, h.put ho hall (by decide) inj hz hu (fun v' hv' => by injection hv') (fun val h1 h2 => ?_)⟩
      exact ⟨fun hn => absurd ((hu 5).2 (.inl rfl)) hn, fun _ => q3⟩
    | 6, _ =>
      obtain ⟨h1, h2, h3⟩ := flds (d := some 52) (p := Op.unOp .not 4 (.tmp 51)) (g := none) ho (by kernel_rfl)
      have g0 := (show a'.eval (.tmp 51) = .bool true from h.e 5 (by decide) (dep ho hall 5 (by kernel_rfl)) _ rfl)
      refine og_plain ho h3 trivial ?_
      unfold Oper.wp
      simp only [execOp, h2, g0]
      go_simp
      exact h.next hcg hKD ho hall (by decide) (by decide) (by decide) inj hz hu rfl
    | 7, _ =>
      refine og_move (g := none) ho (.tmp 52) (d := some 53) (by kernel_rfl) trivial (show a'.eval (.tmp 52) = .bool false from h.e 6 (by decide) (dep ho hall 6 (by kernel_rfl)) _ rfl) ?_
      exact h.next hcg hKD ho hall (by decide) (by decide) (by decide) inj hz hu rfl
    | 8, _ =>
      obtain ⟨h1, h2, h3⟩ := flds (d := some 54) (p := Op.indexAddr 32 (.tmp 6) (.const (.int .i64 0))) (g := some (7, false)) ho (by kernel_rfl)
      have g0 := q6
      refine og_plain ho h3 ⟨53, by kernel_rfl, (show a'.eval (.tmp 53) = .bool false from h.e 7 (by decide) (dep ho hall 7 (by kernel_rfl)) _ rfl)⟩ ?_
      unfold Oper.wp
      simp only [execOp, h2, g0]
      go_simp
      exact h.next hcg hKD ho hall (by decide) (by decide) (by decide) inj hz hu rfl
    | 9, _ =>
      have l5 : L 5 := anc_spec h.dc 60 8 5 (by kernel_rfl) (dep ho hall 8 (by kernel_rfl))
      refine og_calls (g := some (7, false)) ho 8 #[.tmp 54] #[31] (d := some 55) (by kernel_rfl) ⟨53, by kernel_rfl, (show a'.eval (.tmp 53) = .bool false from h.e 7 (by decide) (dep ho hall 7 (by kernel_rfl)) _ rfl)⟩ Try.func8 rfl (by kernel_rfl) (vs := #[.pointer (some ⟨X, 0, none⟩)]) (by simp only [List.map_toArray, List.map_cons, List.map_nil]; rw [(show a'.eval (.tmp 54) = .pointer (some ⟨X, 0, none⟩) from h.e 8 (by decide) (dep ho hall 8 (by kernel_rfl)) _ rfl)]) (hC0 u (h.w.2 l5)) ?_
      rintro e w' ⟨rfl, q3⟩
      refine ⟨_, rfl, h.put ho hall (by decide) inj hz hu (fun v' hv' => by injection hv') (fun val h1 h2 => ?_)⟩
      exact ⟨fun hn => absurd ((hu 5).2 (.inr l5)) hn, fun _ => q3⟩
    | 10, _ =>
      obtain ⟨h1, h2, h3⟩ := flds (d := some 56) (p := Op.unOp .not 4 (.tmp 55)) (g := some (7, false)) ho (by kernel_rfl)
      have g0 := (show a'.eval (.tmp 55) = .bool true from h.e 9 (by decide) (dep ho hall 9 (by kernel_rfl)) _ rfl)
      refine og_plain ho h3 ⟨53, by kernel_rfl, (show a'.eval (.tmp 53) = .bool false from h.e 7 (by decide) (dep ho hall 7 (by kernel_rfl)) _ rfl)⟩ ?_
      unfold Oper.wp
      simp only [execOp, h2, g0]
      go_simp
      exact h.next hcg hKD ho hall (by decide) (by decide) (by decide) inj hz hu rfl
    | 11, _ =>
      obtain ⟨h1, h2, h3⟩ := flds (d := some 57) (p := Op.pick (.tmp 53) (.const (.bool true)) (.tmp 56)) (g := none) ho (by kernel_rfl)
      have g0 := (show a'.eval (.tmp 53) = .bool false from h.e 7 (by decide) (dep ho hall 7 (by kernel_rfl)) _ rfl)
      have g1 := (show a'.eval (.tmp 56) = .bool false from h.e 10 (by decide) (dep ho hall 10 (by kernel_rfl)) _ rfl)
      refine og_plain ho h3 trivial ?_
      unfold Oper.wp
      simp only [execOp, h2, g0, g1]
      go_simp
      exact h.next hcg hKD ho hall (by decide) (by decide) (by decide) inj hz hu rfl
    | 12, _ =>
      refine og_move (g := none) ho (.tmp 57) (d := some 58) (by kernel_rfl) trivial (show a'.eval (.tmp 57) = .bool false from h.e 11 (by decide) (dep ho hall 11 (by kernel_rfl)) _ rfl) ?_
      exact h.next hcg hKD ho hall (by decide) (by decide) (by decide) inj hz hu rfl
    | 13, _ =>
      obtain ⟨h1, h2, h3⟩ := flds (d := some 59) (p := Op.indexAddr 32 (.tmp 6) (.const (.int .i64 1))) (g := some (12, false)) ho (by kernel_rfl)
      have g0 := q6
      refine og_plain ho h3 ⟨58, by kernel_rfl, (show a'.eval (.tmp 58) = .bool false from h.e 12 (by decide) (dep ho hall 12 (by kernel_rfl)) _ rfl)⟩ ?_
      unfold Oper.wp
      simp only [execOp, h2, g0]
      go_simp
      exact h.next hcg hKD ho hall (by decide) (by decide) (by decide) inj hz hu rfl
    | 14, _ =>
      have l5 : L 5 := anc_spec h.dc 60 13 5 (by kernel_rfl) (dep ho hall 13 (by kernel_rfl))
      refine og_calls (g := some (12, false)) ho 8 #[.tmp 59] #[31] (d := some 60) (by kernel_rfl) ⟨58, by kernel_rfl, (show a'.eval (.tmp 58) = .bool false from h.e 12 (by decide) (dep ho hall 12 (by kernel_rfl)) _ rfl)⟩ Try.func8 rfl (by kernel_rfl) (vs := #[.pointer (some ⟨X, 6, none⟩)]) (by simp only [List.map_toArray, List.map_cons, List.map_nil]; rw [(show a'.eval (.tmp 59) = .pointer (some ⟨X, 6, none⟩) from h.e 13 (by decide) (dep ho hall 13 (by kernel_rfl)) _ rfl)]) (hC1 u (h.w.2 l5)) ?_
      rintro e w' ⟨rfl, q3⟩
      refine ⟨_, rfl, h.put ho hall (by decide) inj hz hu (fun v' hv' => by injection hv') (fun val h1 h2 => ?_)⟩
      exact ⟨fun hn => absurd ((hu 5).2 (.inr l5)) hn, fun _ => q3⟩
    | 15, _ =>
      obtain ⟨h1, h2, h3⟩ := flds (d := some 61) (p := Op.unOp .not 4 (.tmp 60)) (g := some (12, false)) ho (by kernel_rfl)
      have g0 := (show a'.eval (.tmp 60) = .bool true from h.e 14 (by decide) (dep ho hall 14 (by kernel_rfl)) _ rfl)
      refine og_plain ho h3 ⟨58, by kernel_rfl, (show a'.eval (.tmp 58) = .bool false from h.e 12 (by decide) (dep ho hall 12 (by kernel_rfl)) _ rfl)⟩ ?_
      unfold Oper.wp
      simp only [execOp, h2, g0]
      go_simp
      exact h.next hcg hKD ho hall (by decide) (by decide) (by decide) inj hz hu rfl
    | 16, _ =>
      obtain ⟨h1, h2, h3⟩ := flds (d := some 62) (p := Op.pick (.tmp 58) (.const (.bool true)) (.tmp 61)) (g := none) ho (by kernel_rfl)
      have g0 := (show a'.eval (.tmp 58) = .bool false from h.e 12 (by decide) (dep ho hall 12 (by kernel_rfl)) _ rfl)
      have g1 := (show a'.eval (.tmp 61) = .bool false from h.e 15 (by decide) (dep ho hall 15 (by kernel_rfl)) _ rfl)
      refine og_plain ho h3 trivial ?_
      unfold Oper.wp
      simp only [execOp, h2, g0, g1]
      go_simp
      exact h.next hcg hKD ho hall (by decide) (by decide) (by decide) inj hz hu rfl
    | i + 17, hi => omega
  · rintro L a' u h hall
    rw [opsPA_size] at hall
    rw [h.done hz]
    refine hK L _ u hall h.w (fun j => ?_)
    by_cases hj : j ∈ DPA
    · cases hv : (VPA X B kd sl id f t cc s av n c) j with
      | none => exact .inl rfl
      | some v =>
        refine .inr (.inl ?_)
        have hjN : j < 17 := by
          have hh : DPA.all (fun i => decide (i < 17)) = true := by kernel_rfl
          exact of_decide_eq_true (List.all_eq_true.1 hh j hj)
        rw [h.e j hj (hall j hjN) v hv]
    · exact .inr (.inr hj)
  · intro L hL
    refine JR.start hL ?_
    exact ⟨fun _ => (Below.refl _ _).drew, fun h => absurd h (hL 5)⟩

noncomputable def opsPC : Array Oper := (Try.f3.body.bind (opsAt 17)).getD #[]
theorem opsPC_size : opsPC.size = 17 := by kernel_rfl
theorem opsPC_earlier : Earlier opsPC := by
  have h : (List.range 17).all (fun i => ((opsPC[i]?).map (fun o => o.after.all (fun e => !Region.binds .any e || decide (e.on < i)))).getD true) = true := by kernel_rfl
  intro i o ho e he hb
  have hi : i < 17 := by
    have := (Array.getElem?_eq_some_iff.1 ho).1
    rwa [opsPC_size] at this
  have h1 := List.all_eq_true.1 h i (List.mem_range.2 hi)
  rw [ho] at h1
  simp only [Option.map_some, Option.getD_some, Array.all_eq_true'] at h1
  have h2 := h1 e he
  rw [hb] at h2
  simpa using h2
def slPC (j : Nat) : Nat := ([46, 47, 48, 49, 50, 51, 52, 53, 54, 55, 56, 57, 58, 59, 60, 61, 62] : List Nat).getD j 0
def DPC : List Nat := [0, 1, 2, 3, 4, 5, 6, 7, 8, 9, 10, 11, 12, 13, 14, 15, 16]
def VPC (X B : Nat) (kd sl id f t cc : Int) (s : ByteArray) (av : Option Addr) (n c : Nat) (j : Nat) : Option Value := [some (.pointer (some ⟨B, 1, none⟩)), some (.int .i64 sl), some (.int .i64 1), some (.pointer (some ⟨X, 6, none⟩)), some (.agg #[.int .i64 kd, .int .i64 sl, .int .i64 id, .int .i64 f, .int .i64 t, .int .i64 cc, .string s, .slice av n c]), some (.bool true), some (.bool false), some (.bool false), some (.pointer (some ⟨X, 0, none⟩)), some (.bool true), some (.bool false), some (.bool false), some (.bool false), some (.pointer (some ⟨X, 6, none⟩)), some (.bool true), some (.bool false), some (.bool false)].getD j none
set_option maxRecDepth 100000 in
set_option maxHeartbeats 4000000 in
theorem regPC (a0 : Act) (w : World) {Q : Exit → Act → World → Prop} (X B : Nat) (kd sl id f t cc : Int) (s : ByteArray) (av : Option Addr) (n c : Nat) (R : World → Prop) (hB : B < w.heap.size) (hbit : bits BinOp.and IntKind.i64 sl 1 = 1) (hb0 : w.cell? ⟨B, 0, none⟩ = some (.int .i64 kd)) (hb1 : w.cell? ⟨B, 1, none⟩ = some (.int .i64 sl)) (hb2 : w.cell? ⟨B, 2, none⟩ = some (.int .i64 id)) (hb3 : w.cell? ⟨B, 3, none⟩ = some (.int .i64 f)) (hb4 : w.cell? ⟨B, 4, none⟩ = some (.int .i64 t)) (hb5 : w.cell? ⟨B, 5, none⟩ = some (.int .i64 cc)) (hb6 : w.cell? ⟨B, 6, none⟩ = some (.string s)) (hb7 : w.cell? ⟨B, 7, none⟩ = some (.slice av n c)) (hC : ∀ W, Below w.heap.size w W → Calls Try.prog 7 #[.pointer (some ⟨X, 6, none⟩), .agg #[.int .i64 kd, .int .i64 sl, .int .i64 id, .int .i64 f, .int .i64 t, .int .i64 cc, .string s, .slice av n c]] W fun e w' => e = .returned (.bool true) ∧ R w') (hC0 : ∀ W, R W → Calls Try.prog 8 #[.pointer (some ⟨X, 0, none⟩)] W fun e w' => e = .returned (.bool true) ∧ R w') (hC1 : ∀ W, R W → Calls Try.prog 8 #[.pointer (some ⟨X, 6, none⟩)] W fun e w' => e = .returned (.bool true) ∧ R w') (hzz : 62 < a0.tmps.size) (H6 : a0.eval (.tmp 6) = .pointer (some ⟨X, 0, none⟩)) (H10 : a0.eval (.tmp 10) = .pointer (some ⟨B, 0, none⟩))
    (hK : ∀ (L : Nat → Prop) (val : Nat → Value) (u : World), (∀ i, i < 17 → L i) → WC w 5 R L val u → (∀ j, (VPC X B kd sl id f t cc s av n c) j = none ∨ (VPC X B kd sl id f t cc s av n c) j = some (val j) ∨ j ∉ DPC) → Q .normal (puts a0 (DPC.map fun j => (slPC j, val j))) u) :
    (Code.region 17 opsPC true).wp Try.prog Q a0 w := by
  have inj : ∀ i ∈ DPC, ∀ j ∈ DPC, slPC i = slPC j → i = j := by
    have h : DPC.all (fun i => DPC.all (fun j => decide (slPC i = slPC j → i = j))) = true := by kernel_rfl
    intro i hi j hj he
    exact (of_decide_eq_true (List.all_eq_true.1 (List.all_eq_true.1 h i hi) j hj)) he
  have hz : ∀ j ∈ DPC, slPC j < a0.tmps.size := by
    have h : DPC.all (fun i => decide (slPC i ≤ 62)) = true := by kernel_rfl
    intro j hj
    have := of_decide_eq_true (List.all_eq_true.1 h j hj)
    omega
  have hcg : ∀ (L L' : Nat → Prop) (val val' : Nat → Value) u, (∀ k ∈ ([5] : List Nat), (L' k ↔ L k)) → (∀ k ∈ ([] : List Nat), val' k = val k) → WC w 5 R L val u → WC w 5 R L' val' u := by
    intro L L' val val' u hl hv hw
    simp at hl hv
    unfold WC at hw ⊢
    simp only [hl]
    exact hw
  have hKD : ∀ k ∈ ([] : List Nat), k ∈ DPC := by decide
  refine wp_region_inv (by kernel_rfl) opsPC_earlier (fun L a u => JR opsPC slPC DPC (VPC X B kd sl id f t cc s av n c) a0 (WC w 5 R) L a u) ?_ ?_ ?_
  · rintro L L' a' u i o h ho hno hall hu
    clear hK
    have q6 := (h.fe.ev (j := 6) (by decide)).trans H6
    have q10 := (h.fe.ev (j := 10) (by decide)).trans H10
    have hi : i < 17 := by
      have := (Array.getElem?_eq_some_iff.1 ho).1
      rwa [opsPC_size] at this
    match i, hi with
    | 0, _ =>
      obtain ⟨h1, h2, h3⟩ := flds (d := some 46) (p := Op.fieldAddr 36 (.tmp 10) 1) (g := none) ho (by kernel_rfl)
      have g0 := q10
      refine og_plain ho h3 trivial ?_
      unfold Oper.wp
      simp only [execOp, h2, g0]
      go_simp
      exact h.next hcg hKD ho hall (by decide) (by decide) (by decide) inj hz hu rfl
    | 1, _ =>
      have hn : ¬ L 5 := fun hl => hno (anc_spec h.dc 60 5 1 (by kernel_rfl) hl)
      have c1 := ((h.w.1 hn).cell (p := ⟨B, 1, none⟩) hB).trans hb1
      obtain ⟨h1, h2, h3⟩ := flds (d := some 47) (p := Op.load 3 (.tmp 46)) (g := none) ho (by kernel_rfl)
      have g0 := (show a'.eval (.tmp 46) = .pointer (some ⟨B, 1, none⟩) from h.e 0 (by decide) (dep ho hall 0 (by kernel_rfl)) _ rfl)
      refine og_plain ho h3 trivial ?_
      unfold Oper.wp
      simp only [execOp, h2, g0]
      go_simp
      exact h.next hcg hKD ho hall (by decide) (by decide) (by decide) inj hz hu rfl
    | 2, _ =>
      obtain ⟨h1, h2, h3⟩ := flds (d := some 48) (p := Op.binOp .and 3 (.tmp 47) (.const (.int .i64 1)) 3) (g := none) ho (by kernel_rfl)
      have g0 := (show a'.eval (.tmp 47) = .int .i64 sl from h.e 1 (by decide) (dep ho hall 1 (by kernel_rfl)) _ rfl)
      refine og_plain ho h3 trivial ?_
      unfold Oper.wp
      simp only [execOp, h2, g0]
      go_simp
      try rw [hbit]
      exact h.next hcg hKD ho hall (by decide) (by decide) (by decide) inj hz hu rfl
    | 3, _ =>
      obtain ⟨h1, h2, h3⟩ := flds (d := some 49) (p := Op.indexAddr 32 (.tmp 6) (.tmp 48)) (g := none) ho (by kernel_rfl)
      have g0 := q6
      have g1 := (show a'.eval (.tmp 48) = .int .i64 1 from h.e 2 (by decide) (dep ho hall 2 (by kernel_rfl)) _ rfl)
      refine og_plain ho h3 trivial ?_
      unfold Oper.wp
      simp only [execOp, h2, g0, g1]
      go_simp
      exact h.next hcg hKD ho hall (by decide) (by decide) (by decide) inj hz hu rfl
    | 4, _ =>
      have hn : ¬ L 5 := fun hl => hno (anc_spec h.dc 60 5 4 (by kernel_rfl) hl)
      have c0 := ((h.w.1 hn).cell (p := ⟨B, 0, none⟩) hB).trans hb0
      have c1 := ((h.w.1 hn).cell (p := ⟨B, 1, none⟩) hB).trans hb1
      have c2 := ((h.w.1 hn).cell (p := ⟨B, 2, none⟩) hB).trans hb2
      have c3 := ((h.w.1 hn).cell (p := ⟨B, 3, none⟩) hB).trans hb3
      have c4 := ((h.w.1 hn).cell (p := ⟨B, 4, none⟩) hB).trans hb4
      have c5 := ((h.w.1 hn).cell (p := ⟨B, 5, none⟩) hB).trans hb5
      have c6 := ((h.w.1 hn).cell (p := ⟨B, 6, none⟩) hB).trans hb6
      have c7 := ((h.w.1 hn).cell (p := ⟨B, 7, none⟩) hB).trans hb7
      obtain ⟨h1, h2, h3⟩ := flds (d := some 50) (p := Op.load 36 (.tmp 10)) (g := none) ho (by kernel_rfl)
      have g0 := q10
      refine og_plain ho h3 trivial ?_
      unfold Oper.wp
      simp only [execOp, h2, g0]
      go_simp
      exact h.next hcg hKD ho hall (by decide) (by decide) (by decide) inj hz hu rfl
    | 5, _ =>
      refine og_calls (g := none) ho 7 #[.tmp 49, .tmp 50] #[31, 36] (d := some 51) (by kernel_rfl) trivial Try.func7 rfl (by kernel_rfl) (vs := #[.pointer (some ⟨X, 6, none⟩), .agg #[.int .i64 kd, .int .i64 sl, .int .i64 id, .int .i64 f, .int .i64 t, .int .i64 cc, .string s, .slice av n c]]) (by simp only [List.map_toArray, List.map_cons, List.map_nil]; rw [(show a'.eval (.tmp 49) = .pointer (some ⟨X, 6, none⟩) from h.e 3 (by decide) (dep ho hall 3 (by kernel_rfl)) _ rfl), (show a'.eval (.tmp 50) = .agg #[.int .i64 kd, .int .i64 sl, .int .i64 id, .int .i64 f, .int .i64 t, .int .i64 cc, .string s, .slice av n c] from h.e 4 (by decide) (dep ho hall 4 (by kernel_rfl)) _ rfl)]) (hC u (h.w.1 hno)) ?_
      rintro e w' ⟨rfl, q3⟩
      refine ⟨_, rfl, h.put ho hall (by decide) inj hz hu (fun v' hv' => by injection hv') (fun val h1 h2 => ?_)⟩
      exact ⟨fun hn => absurd ((hu 5).2 (.inl rfl)) hn, fun _ => q3⟩
    | 6, _ =>
      obtain ⟨h1, h2, h3⟩ := flds (d := some 52) (p := Op.unOp .not 4 (.tmp 51)) (g := none) ho (by kernel_rfl)
      have g0 := (show a'.eval (.tmp 51) = .bool true from h.e 5 (by decide) (dep ho hall 5 (by kernel_rfl)) _ rfl)
      refine og_plain ho h3 trivial ?_
      unfold Oper.wp
      simp only [execOp, h2, g0]
      go_simp
      exact h.next hcg hKD ho hall (by decide) (by decide) (by decide) inj hz hu rfl
    | 7, _ =>
      refine og_move (g := none) ho (.tmp 52) (d := some 53) (by kernel_rfl) trivial (show a'.eval (.tmp 52) = .bool false from h.e 6 (by decide) (dep ho hall 6 (by kernel_rfl)) _ rfl) ?_
      exact h.next hcg hKD ho hall (by decide) (by decide) (by decide) inj hz hu rfl
    | 8, _ =>
      obtain ⟨h1, h2, h3⟩ := flds (d := some 54) (p := Op.indexAddr 32 (.tmp 6) (.const (.int .i64 0))) (g := some (7, false)) ho (by kernel_rfl)
      have g0 := q6
      refine og_plain ho h3 ⟨53, by kernel_rfl, (show a'.eval (.tmp 53) = .bool false from h.e 7 (by decide) (dep ho hall 7 (by kernel_rfl)) _ rfl)⟩ ?_
      unfold Oper.wp
      simp only [execOp, h2, g0]
      go_simp
      exact h.next hcg hKD ho hall (by decide) (by decide) (by decide) inj hz hu rfl
    | 9, _ =>
      have l5 : L 5 := anc_spec h.dc 60 8 5 (by kernel_rfl) (dep ho hall 8 (by kernel_rfl))
      refine og_calls (g := some (7, false)) ho 8 #[.tmp 54] #[31] (d := some 55) (by kernel_rfl) ⟨53, by kernel_rfl, (show a'.eval (.tmp 53) = .bool false from h.e 7 (by decide) (dep ho hall 7 (by kernel_rfl)) _ rfl)⟩ Try.func8 rfl (by kernel_rfl) (vs := #[.pointer (some ⟨X, 0, none⟩)]) (by simp only [List.map_toArray, List.map_cons, List.map_nil]; rw [(show a'.eval (.tmp 54) = .pointer (some ⟨X, 0, none⟩) from h.e 8 (by decide) (dep ho hall 8 (by kernel_rfl)) _ rfl)]) (hC0 u (h.w.2 l5)) ?_
      rintro e w' ⟨rfl, q3⟩
      refine ⟨_, rfl, h.put ho hall (by decide) inj hz hu (fun v' hv' => by injection hv') (fun val h1 h2 => ?_)⟩
      exact ⟨fun hn => absurd ((hu 5).2 (.inr l5)) hn, fun _ => q3⟩
    | 10, _ =>
      obtain ⟨h1, h2, h3⟩ := flds (d := some 56) (p := Op.unOp .not 4 (.tmp 55)) (g := some (7, false)) ho (by kernel_rfl)
      have g0 := (show a'.eval (.tmp 55) = .bool true from h.e 9 (by decide) (dep ho hall 9 (by kernel_rfl)) _ rfl)
      refine og_plain ho h3 ⟨53, by kernel_rfl, (show a'.eval (.tmp 53) = .bool false from h.e 7 (by decide) (dep ho hall 7 (by kernel_rfl)) _ rfl)⟩ ?_
      unfold Oper.wp
      simp only [execOp, h2, g0]
      go_simp
      exact h.next hcg hKD ho hall (by decide) (by decide) (by decide) inj hz hu rfl
    | 11, _ =>
      obtain ⟨h1, h2, h3⟩ := flds (d := some 57) (p := Op.pick (.tmp 53) (.const (.bool true)) (.tmp 56)) (g := none) ho (by kernel_rfl)
      have g0 := (show a'.eval (.tmp 53) = .bool false from h.e 7 (by decide) (dep ho hall 7 (by kernel_rfl)) _ rfl)
      have g1 := (show a'.eval (.tmp 56) = .bool false from h.e 10 (by decide) (dep ho hall 10 (by kernel_rfl)) _ rfl)
      refine og_plain ho h3 trivial ?_
      unfold Oper.wp
      simp only [execOp, h2, g0, g1]
      go_simp
      exact h.next hcg hKD ho hall (by decide) (by decide) (by decide) inj hz hu rfl
    | 12, _ =>
      refine og_move (g := none) ho (.tmp 57) (d := some 58) (by kernel_rfl) trivial (show a'.eval (.tmp 57) = .bool false from h.e 11 (by decide) (dep ho hall 11 (by kernel_rfl)) _ rfl) ?_
      exact h.next hcg hKD ho hall (by decide) (by decide) (by decide) inj hz hu rfl
    | 13, _ =>
      obtain ⟨h1, h2, h3⟩ := flds (d := some 59) (p := Op.indexAddr 32 (.tmp 6) (.const (.int .i64 1))) (g := some (12, false)) ho (by kernel_rfl)
      have g0 := q6
      refine og_plain ho h3 ⟨58, by kernel_rfl, (show a'.eval (.tmp 58) = .bool false from h.e 12 (by decide) (dep ho hall 12 (by kernel_rfl)) _ rfl)⟩ ?_
      unfold Oper.wp
      simp only [execOp, h2, g0]
      go_simp
      exact h.next hcg hKD ho hall (by decide) (by decide) (by decide) inj hz hu rfl
    | 14, _ =>
      have l5 : L 5 := anc_spec h.dc 60 13 5 (by kernel_rfl) (dep ho hall 13 (by kernel_rfl))
      refine og_calls (g := some (12, false)) ho 8 #[.tmp 59] #[31] (d := some 60) (by kernel_rfl) ⟨58, by kernel_rfl, (show a'.eval (.tmp 58) = .bool false from h.e 12 (by decide) (dep ho hall 12 (by kernel_rfl)) _ rfl)⟩ Try.func8 rfl (by kernel_rfl) (vs := #[.pointer (some ⟨X, 6, none⟩)]) (by simp only [List.map_toArray, List.map_cons, List.map_nil]; rw [(show a'.eval (.tmp 59) = .pointer (some ⟨X, 6, none⟩) from h.e 13 (by decide) (dep ho hall 13 (by kernel_rfl)) _ rfl)]) (hC1 u (h.w.2 l5)) ?_
      rintro e w' ⟨rfl, q3⟩
      refine ⟨_, rfl, h.put ho hall (by decide) inj hz hu (fun v' hv' => by injection hv') (fun val h1 h2 => ?_)⟩
      exact ⟨fun hn => absurd ((hu 5).2 (.inr l5)) hn, fun _ => q3⟩
    | 15, _ =>
      obtain ⟨h1, h2, h3⟩ := flds (d := some 61) (p := Op.unOp .not 4 (.tmp 60)) (g := some (12, false)) ho (by kernel_rfl)
      have g0 := (show a'.eval (.tmp 60) = .bool true from h.e 14 (by decide) (dep ho hall 14 (by kernel_rfl)) _ rfl)
      refine og_plain ho h3 ⟨58, by kernel_rfl, (show a'.eval (.tmp 58) = .bool false from h.e 12 (by decide) (dep ho hall 12 (by kernel_rfl)) _ rfl)⟩ ?_
      unfold Oper.wp
      simp only [execOp, h2, g0]
      go_simp
      exact h.next hcg hKD ho hall (by decide) (by decide) (by decide) inj hz hu rfl
    | 16, _ =>
      obtain ⟨h1, h2, h3⟩ := flds (d := some 62) (p := Op.pick (.tmp 58) (.const (.bool true)) (.tmp 61)) (g := none) ho (by kernel_rfl)
      have g0 := (show a'.eval (.tmp 58) = .bool false from h.e 12 (by decide) (dep ho hall 12 (by kernel_rfl)) _ rfl)
      have g1 := (show a'.eval (.tmp 61) = .bool false from h.e 15 (by decide) (dep ho hall 15 (by kernel_rfl)) _ rfl)
      refine og_plain ho h3 trivial ?_
      unfold Oper.wp
      simp only [execOp, h2, g0, g1]
      go_simp
      exact h.next hcg hKD ho hall (by decide) (by decide) (by decide) inj hz hu rfl
    | i + 17, hi => omega
  · rintro L a' u h hall
    rw [opsPC_size] at hall
    rw [h.done hz]
    refine hK L _ u hall h.w (fun j => ?_)
    by_cases hj : j ∈ DPC
    · cases hv : (VPC X B kd sl id f t cc s av n c) j with
      | none => exact .inl rfl
      | some v =>
        refine .inr (.inl ?_)
        have hjN : j < 17 := by
          have hh : DPC.all (fun i => decide (i < 17)) = true := by kernel_rfl
          exact of_decide_eq_true (List.all_eq_true.1 hh j hj)
        rw [h.e j hj (hall j hjN) v hv]
    · exact .inr (.inr hj)
  · intro L hL
    refine JR.start hL ?_
    exact ⟨fun _ => (Below.refl _ _).drew, fun h => absurd h (hL 5)⟩

end Go.Proofs.Ytkkklfnooeofcab
