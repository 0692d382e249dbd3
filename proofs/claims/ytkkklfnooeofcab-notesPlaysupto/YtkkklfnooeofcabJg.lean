/-
  Reply of the document: the region whose order is drawn.
-/
import Derived.Test.YtkkklfnooeofcabJf
namespace Go.Proofs.Ytkkklfnooeofcab
open Go.RowKit Go.Lib
set_option linter.unusedVariables false

/-- A slice of one is built, it is appended, what comes is stored at (x, off). -/
def WAp (kb kp ks : Nat) (w : World) (cs : Array Value) (e : TypeId) (P : Value → World → Prop) (x off : Nat) (L : Nat → Prop) (val : Nat → Value) (u : World) : Prop :=
  (¬ L kp → Below w.heap.size w u) ∧ (L kb → ¬ L kp → ∃ g, val kb = .slice (some ⟨g, 0, none⟩) 1 1 ∧ u.heap[g]? = some (.cells cs e (0, 0))) ∧ (L kp → ¬ L ks → P (val kp) u) ∧ (L ks → ∃ v u1, P v u1 ∧ u = u1.setCell ⟨x, off, none⟩ v)
section
variable {kb kp ks : Nat} {w : World} {cs : Array Value} {e : TypeId} {P : Value → World → Prop} {x off : Nat} {L L' : Nat → Prop} {val val' : Nat → Value} {u u' : World}
theorem WAp.start (h : ∀ i, ¬ L i) : WAp kb kp ks w cs e P x off L val w.drew :=
  ⟨fun _ => ⟨rfl, rfl, rfl, Nat.le_refl _, fun _ _ => rfl⟩, fun a => absurd a (h _), fun a => absurd a (h _), fun a => absurd a (h _)⟩
theorem WAp.build (h : WAp kb kp ks w cs e P x off L val u) (hu : ∀ j, L' j ↔ (j = kb ∨ L j)) (hn : ¬ L kp) (hv : val' kb = .slice (some ⟨u.heap.size, 0, none⟩) 1 1) (hne : kb ≠ kp ∧ kb ≠ ks) (hs : L ks → L kp) : WAp kb kp ks w cs e P x off L' val' (u.alloc (.cells cs e)) := by
  have hn' : ¬ L' kp := fun a => hn (((hu kp).1 a).resolve_left (fun e => hne.1 e.symm))
  refine ⟨fun _ => (h.1 hn).alloc (h.1 hn).size _, fun _ _ => ⟨_, hv, heap_alloc_new u _⟩, fun a => absurd a hn', fun a => absurd (hs (((hu ks).1 a).resolve_left (fun e => hne.2 e.symm))) hn⟩
theorem WAp.app (hu : ∀ j, L' j ↔ (j = kp ∨ L j)) (hs : ¬ L ks) (hP : P (val' kp) u') (hne : kp ≠ ks := by decide) : WAp kb kp ks w cs e P x off L' val' u' := by
  have hl : L' kp := (hu kp).2 (.inl rfl)
  have hn : ¬ L' ks := fun a => hs (((hu ks).1 a).resolve_left (fun e => hne e.symm))
  exact ⟨fun a => absurd hl a, fun _ a => absurd hl a, fun _ _ => hP, fun a => absurd a hn⟩
theorem WAp.store {v : Value} (hu : ∀ j, L' j ↔ (j = ks ∨ L j)) (hl : L kp) (hP : P v u) : WAp kb kp ks w cs e P x off L' val' (u.setCell ⟨x, off, none⟩ v) := by
  have h1 : L' kp := (hu kp).2 (.inr hl)
  have h2 : L' ks := (hu ks).2 (.inl rfl)
  exact ⟨fun a => absurd h1 a, fun _ a => absurd h1 a, fun _ a => absurd h2 a, fun _ => ⟨v, u, hP, rfl⟩⟩
end

noncomputable def opsRR : Array Oper := (Try.f33.body.bind (opsAt 9)).getD #[]
theorem opsRR_size : opsRR.size = 21 := by kernel_rfl
theorem opsRR_earlier : Earlier opsRR := by
  have h : (List.range 21).all (fun i => ((opsRR[i]?).map (fun o => o.after.all (fun e => !Region.binds .any e || decide (e.on < i)))).getD true) = true := by kernel_rfl
  intro i o ho e he hb
  have hi : i < 21 := by
    have := (Array.getElem?_eq_some_iff.1 ho).1
    rwa [opsRR_size] at this
  have h1 := List.all_eq_true.1 h i (List.mem_range.2 hi)
  rw [ho] at h1
  simp only [Option.map_some, Option.getD_some, Array.all_eq_true'] at h1
  have h2 := h1 e he
  rw [hb] at h2
  simpa using h2
def slRR (j : Nat) : Nat := ([30, 31, 32, 33, 34, 35, 36, 37, 38, 39, 40, 41, 42, 43, 44, 45, 46, 47, 48, 49, 920] : List Nat).getD j 0
def DRR : List Nat := [0, 1, 2, 3, 4, 5, 6, 7, 8, 9, 10, 11, 12, 13, 14, 15, 16, 17, 18, 19]
def VRR (y b N c m n sc : Nat) (sa : Option Addr) (cc : Int) (s : ByteArray) (j : Nat) : Option Value := [some (.pointer (some ⟨y, 0, none⟩)), some (.pointer (some ⟨y, 0, none⟩)), some (.pointer (some ⟨y, 0, none⟩)), some (.slice (some ⟨b, 0, none⟩) N c), some (.int .i64 (m : Int)), some (.pointer (some ⟨y, 0, none⟩)), some (.pointer (some ⟨y, 0, none⟩)), some (.pointer (some ⟨y, 0, none⟩)), some (.slice (some ⟨b, 0, none⟩) N c), some (.int .i64 (m : Int)), some (.pointer (some ⟨b, m * 6, none⟩)), some (.pointer (some ⟨b, m * 6 + 5, none⟩)), some (.slice sa n sc), some (.int .i64 cc), some (.string s), some (.agg #[.int .i64 cc, .string s]), none, none, some (.pointer (some ⟨b, m * 6, none⟩)), some (.pointer (some ⟨b, m * 6 + 5, none⟩)), none].getD j none
set_option maxRecDepth 100000 in
set_option maxHeartbeats 4000000 in
theorem regRR (a0 : Act) (w : World) {Q : Exit → Act → World → Prop} (y b N c m n sc : Nat) (sa : Option Addr) (cc : Int) (s : ByteArray) (P : Value → World → Prop) (hm : m < N) (hy : y < w.heap.size) (hb : b < w.heap.size) (hy0 : w.cell? ⟨y, 0, none⟩ = some (.slice (some ⟨b, 0, none⟩) N c)) (hb5 : w.cell? ⟨b, m * 6 + 5, none⟩ = some (.slice sa n sc)) (hA : ∀ u g, Below w.heap.size w u → u.heap[g]? = some (.cells #[.int .i64 cc, .string s] 90 (0, 0)) → ∃ v' u', (∀ ty, (Builtin.append_ #[45, 45] ty #[.slice sa n sc, .slice (some ⟨g, 0, none⟩) 1 1]).run Try.prog u = .ok v' u') ∧ P v' u') (hPc : ∀ v u, P v u → u.cell? ⟨y, 0, none⟩ = some (.slice (some ⟨b, 0, none⟩) N c)) (hSt : ∀ v u, P v u → (∃ A m d, v = .slice A m d) ∧ (∃ v0, u.cell? ⟨b, m * 6 + 5, none⟩ = some v0) ∧ u.frozen? ⟨b, m * 6 + 5, none⟩ = false) (hzz : 49 < a0.tmps.size) (H0 : a0.eval (.tmp 0) = .pointer (some ⟨y, 0, none⟩)) (H2 : a0.eval (.tmp 2) = .int .i64 cc) (H3 : a0.eval (.tmp 3) = .string s) (H9 : a0.eval (.tmp 9) = .int .i64 (m : Int))
    (hK : ∀ (L : Nat → Prop) (val : Nat → Value) (u : World), (∀ i, i < 21 → L i) → WAp 16 17 20 w #[.int .i64 cc, .string s] 90 P b (m * 6 + 5) L val u → (∀ j, (VRR y b N c m n sc sa cc s) j = none ∨ (VRR y b N c m n sc sa cc s) j = some (val j) ∨ j ∉ DRR) → Q .normal (puts a0 (DRR.map fun j => (slRR j, val j))) u) :
    (Code.region 9 opsRR true).wp Try.prog Q a0 w := by
  have inj : ∀ i ∈ DRR, ∀ j ∈ DRR, slRR i = slRR j → i = j := by
    have h : DRR.all (fun i => DRR.all (fun j => decide (slRR i = slRR j → i = j))) = true := by kernel_rfl
    intro i hi j hj he
    exact (of_decide_eq_true (List.all_eq_true.1 (List.all_eq_true.1 h i hi) j hj)) he
  have hz : ∀ j ∈ DRR, slRR j < a0.tmps.size := by
    have h : DRR.all (fun i => decide (slRR i ≤ 49)) = true := by kernel_rfl
    intro j hj
    have := of_decide_eq_true (List.all_eq_true.1 h j hj)
    omega
  have hcg : ∀ (L L' : Nat → Prop) (val val' : Nat → Value) u, (∀ k ∈ ([16, 17, 20] : List Nat), (L' k ↔ L k)) → (∀ k ∈ ([16, 17] : List Nat), val' k = val k) → WAp 16 17 20 w #[.int .i64 cc, .string s] 90 P b (m * 6 + 5) L val u → WAp 16 17 20 w #[.int .i64 cc, .string s] 90 P b (m * 6 + 5) L' val' u := by
    intro L L' val val' u hl hv hw
    simp at hl hv
    unfold WAp at hw ⊢
    simp only [hl, hv]
    exact hw
  have hKD : ∀ k ∈ ([16, 17] : List Nat), k ∈ DRR := by decide
  refine wp_region_inv (by kernel_rfl) opsRR_earlier (fun L a u => JR opsRR slRR DRR (VRR y b N c m n sc sa cc s) a0 (WAp 16 17 20 w #[.int .i64 cc, .string s] 90 P b (m * 6 + 5)) L a u) ?_ ?_ ?_
  · rintro L L' a' u i o h ho hno hall hu
    clear hK
    have q0 := (h.fe.ev (j := 0) (by decide)).trans H0
    have q2 := (h.fe.ev (j := 2) (by decide)).trans H2
    have q3 := (h.fe.ev (j := 3) (by decide)).trans H3
    have q9 := (h.fe.ev (j := 9) (by decide)).trans H9
    have hi : i < 21 := by
      have := (Array.getElem?_eq_some_iff.1 ho).1
      rwa [opsRR_size] at this
    match i, hi with
    | 0, _ =>
      refine og_move (g := none) ho (.tmp 0) (d := some 30) (by kernel_rfl) trivial q0 ?_
      exact h.next hcg hKD ho hall (by decide) (by decide) (by decide) inj hz hu rfl
    | 1, _ =>
      refine og_nil (g := none) ho (.tmp 30) (d := some 31) (by kernel_rfl) trivial (show a'.eval (.tmp 30) = .pointer (some ⟨y, 0, none⟩) from h.e 0 (by decide) (dep ho hall 0 (by kernel_rfl)) _ rfl) ?_
      exact h.next hcg hKD ho hall (by decide) (by decide) (by decide) inj hz hu rfl
    | 2, _ =>
      obtain ⟨h1, h2, h3⟩ := flds (d := some 32) (p := Op.fieldAddr 56 (.tmp 31) 0) (g := none) ho (by kernel_rfl)
      have g0 := (show a'.eval (.tmp 31) = .pointer (some ⟨y, 0, none⟩) from h.e 1 (by decide) (dep ho hall 1 (by kernel_rfl)) _ rfl)
      refine og_plain ho h3 trivial ?_
      unfold Oper.wp
      simp only [execOp, h2, g0]
      go_simp
      exact h.next hcg hKD ho hall (by decide) (by decide) (by decide) inj hz hu rfl
    | 3, _ =>
      have hn20 : ¬ L 20 := fun hl => hno (anc_spec h.dc 30 20 3 (by kernel_rfl) hl)
      have c0 : u.cell? ⟨y, 0, none⟩ = some (.slice (some ⟨b, 0, none⟩) N c) := by
        by_cases l17 : L 17
        · exact hPc _ _ (h.w.2.2.1 l17 hn20)
        · exact ((h.w.1 l17).cell (p := ⟨y, 0, none⟩) hy).trans hy0
      obtain ⟨h1, h2, h3⟩ := flds (d := some 33) (p := Op.load 54 (.tmp 32)) (g := none) ho (by kernel_rfl)
      have g0 := (show a'.eval (.tmp 32) = .pointer (some ⟨y, 0, none⟩) from h.e 2 (by decide) (dep ho hall 2 (by kernel_rfl)) _ rfl)
      refine og_plain ho h3 trivial ?_
      unfold Oper.wp
      simp only [execOp, h2, g0]
      go_simp
      exact h.next hcg hKD ho hall (by decide) (by decide) (by decide) inj hz hu rfl
    | 4, _ =>
      refine og_move (g := none) ho (.tmp 9) (d := some 34) (by kernel_rfl) trivial q9 ?_
      exact h.next hcg hKD ho hall (by decide) (by decide) (by decide) inj hz hu rfl
    | 5, _ =>
      refine og_move (g := none) ho (.tmp 0) (d := some 35) (by kernel_rfl) trivial q0 ?_
      exact h.next hcg hKD ho hall (by decide) (by decide) (by decide) inj hz hu rfl
    | 6, _ =>
      refine og_nil (g := none) ho (.tmp 35) (d := some 36) (by kernel_rfl) trivial (show a'.eval (.tmp 35) = .pointer (some ⟨y, 0, none⟩) from h.e 5 (by decide) (dep ho hall 5 (by kernel_rfl)) _ rfl) ?_
      exact h.next hcg hKD ho hall (by decide) (by decide) (by decide) inj hz hu rfl
    | 7, _ =>
      obtain ⟨h1, h2, h3⟩ := flds (d := some 37) (p := Op.fieldAddr 56 (.tmp 36) 0) (g := none) ho (by kernel_rfl)
      have g0 := (show a'.eval (.tmp 36) = .pointer (some ⟨y, 0, none⟩) from h.e 6 (by decide) (dep ho hall 6 (by kernel_rfl)) _ rfl)
      refine og_plain ho h3 trivial ?_
      unfold Oper.wp
      simp only [execOp, h2, g0]
      go_simp
      exact h.next hcg hKD ho hall (by decide) (by decide) (by decide) inj hz hu rfl
    | 8, _ =>
      have hn : ¬ L 17 := fun hl => hno (anc_spec h.dc 30 17 8 (by kernel_rfl) hl)
      have c0 := ((h.w.1 hn).cell (p := ⟨y, 0, none⟩) hy).trans hy0
      obtain ⟨h1, h2, h3⟩ := flds (d := some 38) (p := Op.load 54 (.tmp 37)) (g := none) ho (by kernel_rfl)
      have g0 := (show a'.eval (.tmp 37) = .pointer (some ⟨y, 0, none⟩) from h.e 7 (by decide) (dep ho hall 7 (by kernel_rfl)) _ rfl)
      refine og_plain ho h3 trivial ?_
      unfold Oper.wp
      simp only [execOp, h2, g0]
      go_simp
      exact h.next hcg hKD ho hall (by decide) (by decide) (by decide) inj hz hu rfl
    | 9, _ =>
      refine og_move (g := none) ho (.tmp 9) (d := some 39) (by kernel_rfl) trivial q9 ?_
      exact h.next hcg hKD ho hall (by decide) (by decide) (by decide) inj hz hu rfl
    | 10, _ =>
      have i1 : (m : Int) < (N : Int) := by omega
      obtain ⟨h1, h2, h3⟩ := flds (d := some 40) (p := Op.indexAddr 54 (.tmp 38) (.tmp 39)) (g := none) ho (by kernel_rfl)
      have g0 := (show a'.eval (.tmp 38) = .slice (some ⟨b, 0, none⟩) N c from h.e 8 (by decide) (dep ho hall 8 (by kernel_rfl)) _ rfl)
      have g1 := (show a'.eval (.tmp 39) = .int .i64 (m : Int) from h.e 9 (by decide) (dep ho hall 9 (by kernel_rfl)) _ rfl)
      refine og_plain ho h3 trivial ?_
      unfold Oper.wp
      simp only [execOp, h2, g0, g1]
      go_simp
      exact h.next hcg hKD ho hall (by decide) (by decide) (by decide) inj hz hu rfl
    | 11, _ =>
      obtain ⟨h1, h2, h3⟩ := flds (d := some 41) (p := Op.fieldAddr 93 (.tmp 40) 5) (g := none) ho (by kernel_rfl)
      have g0 := (show a'.eval (.tmp 40) = .pointer (some ⟨b, m * 6, none⟩) from h.e 10 (by decide) (dep ho hall 10 (by kernel_rfl)) _ rfl)
      refine og_plain ho h3 trivial ?_
      unfold Oper.wp
      simp only [execOp, h2, g0]
      go_simp
      exact h.next hcg hKD ho hall (by decide) (by decide) (by decide) inj hz hu rfl
    | 12, _ =>
      have hn : ¬ L 17 := fun hl => hno (anc_spec h.dc 30 17 12 (by kernel_rfl) hl)
      have c0 := ((h.w.1 hn).cell (p := ⟨b, m * 6 + 5, none⟩) hb).trans hb5
      obtain ⟨h1, h2, h3⟩ := flds (d := some 42) (p := Op.load 45 (.tmp 41)) (g := none) ho (by kernel_rfl)
      have g0 := (show a'.eval (.tmp 41) = .pointer (some ⟨b, m * 6 + 5, none⟩) from h.e 11 (by decide) (dep ho hall 11 (by kernel_rfl)) _ rfl)
      refine og_plain ho h3 trivial ?_
      unfold Oper.wp
      simp only [execOp, h2, g0]
      go_simp
      exact h.next hcg hKD ho hall (by decide) (by decide) (by decide) inj hz hu rfl
    | 13, _ =>
      refine og_move (g := none) ho (.tmp 2) (d := some 43) (by kernel_rfl) trivial q2 ?_
      exact h.next hcg hKD ho hall (by decide) (by decide) (by decide) inj hz hu rfl
    | 14, _ =>
      refine og_move (g := none) ho (.tmp 3) (d := some 44) (by kernel_rfl) trivial q3 ?_
      exact h.next hcg hKD ho hall (by decide) (by decide) (by decide) inj hz hu rfl
    | 15, _ =>
      obtain ⟨h1, h2, h3⟩ := flds (d := some 45) (p := Op.build 90 #[(0, .tmp 43), (1, .tmp 44)]) (g := none) ho (by kernel_rfl)
      have g0 := (show a'.eval (.tmp 43) = .int .i64 cc from h.e 13 (by decide) (dep ho hall 13 (by kernel_rfl)) _ rfl)
      have g1 := (show a'.eval (.tmp 44) = .string s from h.e 14 (by decide) (dep ho hall 14 (by kernel_rfl)) _ rfl)
      have b0 : a'.tmps[43]?.getD undef = .int .i64 cc := by simpa [Act.eval] using g0
      have b1 : a'.tmps[44]?.getD undef = .string s := by simpa [Act.eval] using g1
      refine og_plain ho h3 trivial ?_
      unfold Oper.wp
      simp only [execOp, h2]
      go_simp
      exact h.next hcg hKD ho hall (by decide) (by decide) (by decide) inj hz hu rfl
    | 16, _ =>
      have hn : ¬ L 17 := fun hl => hno (anc_spec h.dc 30 17 16 (by kernel_rfl) hl)
      obtain ⟨h1, h2, h3⟩ := flds (d := some 46) (p := Op.buildSlice 45 1 #[(0, .tmp 45)]) (g := none) ho (by kernel_rfl)
      have g0 := (show a'.eval (.tmp 45) = .agg #[.int .i64 cc, .string s] from h.e 15 (by decide) (dep ho hall 15 (by kernel_rfl)) _ rfl)
      have b0 : a'.tmps[45]?.getD undef = .agg #[.int .i64 cc, .string s] := by simpa [Act.eval] using g0
      refine og_plain ho h3 trivial ?_
      unfold Oper.wp
      simp only [execOp, h2]
      go_simp
      refine h.put ho hall (by decide) inj hz hu (fun v' hv' => by cases hv') (fun val h1 h2 => ?_)
      exact h.w.build hu hn h1 (by decide) (fun hl => anc_spec h.dc 30 20 17 (by kernel_rfl) hl)
    | 17, _ =>
      obtain ⟨g, hv, hg⟩ := h.w.2.1 (dep ho hall 16 (by kernel_rfl)) hno
      obtain ⟨v', u', hr, hP⟩ := hA u g (h.w.1 hno) hg
      refine og_app (g := none) ho (.tmp 42) (.tmp 46) 45 (d := some 47) (by kernel_rfl) trivial (show a'.eval (.tmp 42) = .slice sa n sc from h.e 12 (by decide) (dep ho hall 12 (by kernel_rfl)) _ rfl) hv hr ?_
      refine h.put ho hall (by decide) inj hz hu (fun v' hv' => by cases hv') (fun val h1 h2 => ?_)
      exact WAp.app hu (fun hl => hno (anc_spec h.dc 30 20 17 (by kernel_rfl) hl)) (by rw [h1]; exact hP)
    | 18, _ =>
      have i1 : (m : Int) < (N : Int) := by omega
      obtain ⟨h1, h2, h3⟩ := flds (d := some 48) (p := Op.indexAddr 54 (.tmp 33) (.tmp 34)) (g := none) ho (by kernel_rfl)
      have g0 := (show a'.eval (.tmp 33) = .slice (some ⟨b, 0, none⟩) N c from h.e 3 (by decide) (dep ho hall 3 (by kernel_rfl)) _ rfl)
      have g1 := (show a'.eval (.tmp 34) = .int .i64 (m : Int) from h.e 4 (by decide) (dep ho hall 4 (by kernel_rfl)) _ rfl)
      refine og_plain ho h3 trivial ?_
      unfold Oper.wp
      simp only [execOp, h2, g0, g1]
      go_simp
      exact h.next hcg hKD ho hall (by decide) (by decide) (by decide) inj hz hu rfl
    | 19, _ =>
      obtain ⟨h1, h2, h3⟩ := flds (d := some 49) (p := Op.fieldAddr 93 (.tmp 48) 5) (g := none) ho (by kernel_rfl)
      have g0 := (show a'.eval (.tmp 48) = .pointer (some ⟨b, m * 6, none⟩) from h.e 18 (by decide) (dep ho hall 18 (by kernel_rfl)) _ rfl)
      refine og_plain ho h3 trivial ?_
      unfold Oper.wp
      simp only [execOp, h2, g0]
      go_simp
      exact h.next hcg hKD ho hall (by decide) (by decide) (by decide) inj hz hu rfl
    | 20, _ =>
      obtain ⟨h1, h2, h3⟩ := flds (d := none) (p := Op.store 45 (.tmp 49) (.tmp 47)) (g := none) ho (by kernel_rfl)
      have g0 := (show a'.eval (.tmp 49) = .pointer (some ⟨b, m * 6 + 5, none⟩) from h.e 19 (by decide) (dep ho hall 19 (by kernel_rfl)) _ rfl)
      have hP := h.w.2.2.1 (dep ho hall 17 (by kernel_rfl)) hno
      obtain ⟨⟨A, q, d, hv⟩, ⟨v0, hc⟩, hf⟩ := hSt _ _ hP
      have g1 : a'.eval (.tmp 47) = .slice A q d := hv
      refine og_plain ho h3 trivial ?_
      unfold Oper.wp
      simp only [execOp, h2, g0, g1]
      go_simp
      refine h.eff ho hall (by decide) hu ?_
      exact WAp.store hu (dep ho hall 17 (by kernel_rfl)) (by have : P _ u := hP; rw [show (fun j => a'.eval (.tmp (slRR j))) 17 = a'.eval (.tmp 47) from rfl, g1] at this; exact this)
    | i + 21, hi => omega
  · rintro L a' u h hall
    rw [opsRR_size] at hall
    rw [h.done hz]
    refine hK L _ u hall h.w (fun j => ?_)
    by_cases hj : j ∈ DRR
    · cases hv : (VRR y b N c m n sc sa cc s) j with
      | none => exact .inl rfl
      | some v =>
        refine .inr (.inl ?_)
        have hjN : j < 21 := by
          have hh : DRR.all (fun i => decide (i < 21)) = true := by kernel_rfl
          exact of_decide_eq_true (List.all_eq_true.1 hh j hj)
        rw [h.e j hj (hall j hjN) v hv]
    · exact .inr (.inr hj)
  · intro L hL
    refine JR.start hL ?_
    exact WAp.start hL

end Go.Proofs.Ytkkklfnooeofcab
