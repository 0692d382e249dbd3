/-
  Texts put together: Hv Hw.
-/
import Derived.Test.YtlmgogonghafeabHd
import Derived.Test.YtlmgogonghafeabIg
/-! Hv -/
namespace Go.Proofs.Ytlmgogonghafeab
open Go.RowKit Go.Lib
set_option linter.unusedVariables false

theorem Fr.cellK {w w' : World} (hF : Fr (fun _ => False) w w') {p : Addr} {v : Value} (h : w.cell? p = some v) : w'.cell? p = some v := by
  by_cases hp : p.block < w.heap.size
  · rw [hF.cell hp (fun h => h)]; exact h
  · have : w.heap[p.block]? = none := Array.getElem?_eq_none (by omega)
    simp [World.cell?, this] at h

section
variable {ops : Array Oper} {o : Oper} {a : Act} {w : World} {K : Act → World → Prop} {Q : Exit → Act → World → Prop} {i : Nat}
theorem og_skipU {k : Nat} {b : Bool} (ho : ops[i]? = some o) {d : Option Tmp} (h : (ops[i]?).map (fun o => (o.dst, o.guard)) = some (d, some (k, b))) {t : Nat} (ht : (ops[k]?).bind (·.dst) = some t) (he : a.eval (.tmp t) = undef) (hK : K (a.put d undef) w) : wpOp Try.prog ops Q i K a w := by
  rw [ho] at h
  simp only [Option.map_some, Option.some.injEq, Prod.mk.injEq] at h
  obtain ⟨h1, h2⟩ := h
  refine wpOp_step ho fun K' hK' => ?_
  have hn : ¬ (Region.wanted o (yielded ops a.tmps) = true) := by
    unfold Region.wanted
    rw [h2]
    simp only [yielded, ht, Option.bind_some]
    simp only [Act.eval, Array.getD_eq_getD_getElem?] at he
    cases hh : a.tmps[t]? with
    | none => simp
    | some v =>
      rw [hh] at he
      simp at he
      rw [he]
      cases b <;> simp [undef]
  rw [if_neg hn, h1]
  exact hK' _ _ hK
end

theorem wp_opsD {k : Nat} {o o' : Array Oper} {b : Bool} {Q : Exit → Act → World → Prop} {a : Act} {w : World} (e : o = o') (h : (Code.region k o' b).wp Try.prog Q a w) : (Code.region k o b).wp Try.prog Q a w := by
  rw [e]
  exact h

/-- All is as it was, and behind operation kb there is one row more. -/
def WBu (kb : Nat) (o : Obj) (w : World) (L : Nat → Prop) (val : Nat → Value) (u : World) : Prop := Fr (fun _ => False) w u ∧ (¬ L kb → u.heap.size = w.heap.size) ∧ (L kb → u.heap[w.heap.size]? = some o)
theorem WBu.start {kb : Nat} {o : Obj} {w : World} {L : Nat → Prop} {val : Nat → Value} (h : ¬ L kb) : WBu kb o w L val w.drew := ⟨Fr.drew _ _, fun _ => rfl, fun h2 => absurd h2 h⟩
theorem WBu.made {kb : Nat} {cs : Array Value} {t : TypeId} {w u : World} {L L' : Nat → Prop} {val val' : Nat → Value} (h : WBu kb (.cells cs t (0, 0)) w L val u) (hu : ∀ j, L' j ↔ (j = kb ∨ L j)) (hs : u.heap.size = w.heap.size) : WBu kb (.cells cs t (0, 0)) w L' val' (u.alloc (.cells cs t)) := by
  refine ⟨h.1.trans (Fr.alloc _ _ _), fun hn => absurd ((hu kb).2 (.inl rfl)) hn, fun _ => ?_⟩
  rw [← hs]
  exact heap_alloc_new u _
end Go.Proofs.Ytlmgogonghafeab

/-! Hw -/
namespace Go.Proofs.Ytlmgogonghafeab
open Go.RowKit Go.Lib
set_option linter.unusedVariables false

noncomputable def opsGwA : Array Oper := (Try.f35.body.bind (opsAt 25)).getD #[]
theorem opsGwA_size : opsGwA.size = 59 := by kernel_rfl
theorem opsGwA_earlier : Earlier opsGwA := by
  have h : (List.range 59).all (fun i => ((opsGwA[i]?).map (fun o => o.after.all (fun e => !Region.binds .any e || decide (e.on < i)))).getD true) = true := by kernel_rfl
  intro i o ho e he hb
  have hi : i < 59 := by
    have := (Array.getElem?_eq_some_iff.1 ho).1
    rwa [opsGwA_size] at this
  have h1 := List.all_eq_true.1 h i (List.mem_range.2 hi)
  rw [ho] at h1
  simp only [Option.map_some, Option.getD_some, Array.all_eq_true'] at h1
  have h2 := h1 e he
  rw [hb] at h2
  simpa using h2
def slGwA (j : Nat) : Nat := ([83, 84, 85, 86, 87, 88, 89, 90, 91, 92, 93, 94, 95, 96, 97, 98, 99, 100, 101, 102, 103, 104, 105, 106, 107, 108, 109, 110, 111, 112, 113, 114, 115, 116, 117, 118, 119, 120, 121, 122, 123, 124, 125, 126, 127, 128, 129, 130, 131, 132, 133, 134, 135, 136, 137, 138, 139, 140, 141] : List Nat).getD j 0
def DGwA : List Nat := [0, 1, 2, 3, 4, 5, 6, 7, 8, 9, 10, 11, 12, 13, 14, 15, 16, 17, 18, 19, 20, 21, 22, 23, 24, 25, 26, 27, 28, 29, 30, 31, 32, 33, 34, 35, 36, 37, 38, 39, 40, 41, 42, 43, 44, 45, 46, 47, 48, 49, 50, 51, 52, 53, 54, 55, 56, 57, 58]
def VGwA (gL K Kc u k sn gg q c5 hh dd bi8 bk8 : Nat) (ms : ByteArray) (g sc : Nat) (w : World) (j : Nat) : Option Value := [some (.int .i64 (k : Int)), some (.int .i64 (sn : Int)), some (.bool true), some (.bool true), some (.slice (some ⟨gL, 0, none⟩) K Kc), some (.int .i64 (u : Int)), some (.pointer (some ⟨gL, u, none⟩)), some (.slice (some ⟨g, 0, none⟩) sn sc), some (.int .i64 (k : Int)), some (.pointer (some ⟨g, k, none⟩)), some (.string ms), some (.int .i64 (u : Int)), some (.int .u8 (bi8 : Int)), some (.int .i64 (k : Int)), some (.int .u8 (bk8 : Int)), some (.slice (some ⟨w.heap.size, 0, none⟩) 2 2), some (.string ms), some (.bool false), some (.bool false), some (.slice (some ⟨gg, 0, none⟩) q c5), some (.int .i64 (u : Int)), some (.pointer (some ⟨gg, u, none⟩)), some (.slice (some ⟨hh, 0, none⟩) (sn + 64) dd), some (.int .i64 (k : Int)), some (.pointer (some ⟨hh, k, none⟩)), some (.string ms), some (.slice (some ⟨gL, 0, none⟩) K Kc), some (.int .i64 (u : Int)), some (.pointer (some ⟨gL, u, none⟩)), some (.slice (some ⟨g, 0, none⟩) sn sc), some (.int .i64 (k : Int)), some (.pointer (some ⟨g, k, none⟩)), some (.string ms), some (.bool false), some (.bool false), some (.bool false), some (.bool false), some (.int .i64 (k : Int)), some (.int .i64 (sn : Int)), some (.bool false), some (.bool false), some (undef), some (undef), some (undef), some (undef), some (undef), some (undef), some (undef), some (undef), some (undef), some (undef), some (undef), some (undef), some (undef), some (undef), some (undef), some (undef), some (.bool false), some (.bool false)].getD j none
set_option maxRecDepth 100000 in
set_option maxHeartbeats 4000000 in
theorem regGwA (a0 : Act) (w : World) {Q : Exit → Act → World → Prop} (gL K Kc u k sn gg q c5 hh dd bi8 bk8 : Nat) (ms : ByteArray) (g sc : Nat) (huK : u < K) (huq : u < q) (hcl : w.cell? ⟨gL, u, none⟩ = some (.slice (some ⟨g, 0, none⟩) sn sc)) (hcg : w.cell? ⟨gg, u, none⟩ = some (.slice (some ⟨hh, 0, none⟩) (sn + 64) dd)) (h0 : w.cell? ⟨hh, k, none⟩ = some (.string ms)) (hkn : k < sn + 64) (hw1 : IntKind.u8.wrap (u : Int) = ((bi8 : Nat) : Int)) (b0 : w.cell? ⟨g, k, none⟩ = some (.string ms)) (hks : k < sn) (hw2 : IntKind.u8.wrap (k : Int) = ((bk8 : Nat) : Int)) (hcv : ∀ W : World, W.heap[w.heap.size]? = some (.cells #[.int .u8 (bi8 : Int), .int .u8 (bk8 : Int)] 5 (0, 0)) → (convert 35 9 (.slice (some ⟨w.heap.size, 0, none⟩) 2 2)).run Try.prog W = .ok (.string ms) W) (hzz : 141 < a0.tmps.size) (H11 : a0.eval (.tmp 11) = .int .i64 (k : Int)) (H10 : a0.eval (.tmp 10) = .int .i64 (sn : Int)) (H0 : a0.eval (.tmp 0) = .slice (some ⟨gL, 0, none⟩) K Kc) (H9 : a0.eval (.tmp 9) = .int .i64 (u : Int)) (H5 : a0.eval (.tmp 5) = .slice (some ⟨gg, 0, none⟩) q c5)
    (hK : ∀ (L : Nat → Prop) (val : Nat → Value) (u' : World), (∀ i, i < 59 → L i) → WBu 15 (.cells #[.int .u8 (bi8 : Int), .int .u8 (bk8 : Int)] 5 (0, 0)) w L val u' → (∀ j, (VGwA gL K Kc u k sn gg q c5 hh dd bi8 bk8 ms g sc w) j = none ∨ (VGwA gL K Kc u k sn gg q c5 hh dd bi8 bk8 ms g sc w) j = some (val j) ∨ j ∉ DGwA) → Q .normal (puts a0 (DGwA.map fun j => (slGwA j, val j))) u') :
    (Code.region 25 opsGwA true).wp Try.prog Q a0 w := by
  have inj : ∀ i ∈ DGwA, ∀ j ∈ DGwA, slGwA i = slGwA j → i = j := by
    have h : DGwA.all (fun i => DGwA.all (fun j => decide (slGwA i = slGwA j → i = j))) = true := by kernel_rfl
    intro i hi j hj he
    exact (of_decide_eq_true (List.all_eq_true.1 (List.all_eq_true.1 h i hi) j hj)) he
  have hz : ∀ j ∈ DGwA, slGwA j < a0.tmps.size := by
    have h : DGwA.all (fun i => decide (slGwA i ≤ 141)) = true := by kernel_rfl
    intro j hj
    have := of_decide_eq_true (List.all_eq_true.1 h j hj)
    omega
  have hcg0 : ∀ (L L' : Nat → Prop) (val val' : Nat → Value) u0, (∀ k ∈ ([15] : List Nat), (L' k ↔ L k)) → (∀ k ∈ ([] : List Nat), val' k = val k) → WBu 15 (.cells #[.int .u8 (bi8 : Int), .int .u8 (bk8 : Int)] 5 (0, 0)) w L val u0 → WBu 15 (.cells #[.int .u8 (bi8 : Int), .int .u8 (bk8 : Int)] 5 (0, 0)) w L' val' u0 := by
    intro L L' val val' u0 hl hv hw
    simp at hl hv
    unfold WBu at hw ⊢
    simp only [hl]
    exact hw
  have hKD : ∀ k ∈ ([] : List Nat), k ∈ DGwA := by decide
  refine wp_region_inv (by kernel_rfl) opsGwA_earlier (fun L a u' => JR opsGwA slGwA DGwA (VGwA gL K Kc u k sn gg q c5 hh dd bi8 bk8 ms g sc w) a0 (WBu 15 (.cells #[.int .u8 (bi8 : Int), .int .u8 (bk8 : Int)] 5 (0, 0)) w) L a u') ?_ ?_ ?_
  · rintro L L' a' u' i o h ho hno hall hu
    clear hK
    have q11 := (h.fe.ev (j := 11) (by decide)).trans H11
    have q10 := (h.fe.ev (j := 10) (by decide)).trans H10
    have q0 := (h.fe.ev (j := 0) (by decide)).trans H0
    have q9 := (h.fe.ev (j := 9) (by decide)).trans H9
    have q5 := (h.fe.ev (j := 5) (by decide)).trans H5
    have hi : i < 59 := by
      have := (Array.getElem?_eq_some_iff.1 ho).1
      rwa [opsGwA_size] at this
    match i, hi with
    | 0, _ =>
      refine og_move (g := none) ho (.tmp 11) (d := some 83) (by kernel_rfl) trivial q11 ?_
      exact h.next hcg0 hKD ho hall (by decide) (by decide) (by decide) inj hz hu rfl
    | 1, _ =>
      refine og_move (g := none) ho (.tmp 10) (d := some 84) (by kernel_rfl) trivial q10 ?_
      exact h.next hcg0 hKD ho hall (by decide) (by decide) (by decide) inj hz hu rfl
    | 2, _ =>
      have i1 : decide ((k : Int) < (sn : Int)) = true := by simp; omega
      obtain ⟨h1, h2, h3⟩ := flds (d := some 85) (p := Op.binOp .lss 3 (.tmp 83) (.tmp 84) 3) (g := none) ho (by kernel_rfl)
      have g0 := (show a'.eval (.tmp 83) = .int .i64 (k : Int) from h.e 0 (by decide) (dep ho hall 0 (by kernel_rfl)) _ rfl)
      have g1 := (show a'.eval (.tmp 84) = .int .i64 (sn : Int) from h.e 1 (by decide) (dep ho hall 1 (by kernel_rfl)) _ rfl)
      refine og_plain ho h3 trivial ?_
      unfold Oper.wp
      simp only [execOp, h2, g0, g1]
      go_simp
      exact h.next hcg0 hKD ho hall (by decide) (by decide) (by decide) inj hz hu rfl
    | 3, _ =>
      refine og_move (g := none) ho (.tmp 85) (d := some 86) (by kernel_rfl) trivial (show a'.eval (.tmp 85) = .bool true from h.e 2 (by decide) (dep ho hall 2 (by kernel_rfl)) _ rfl) ?_
      exact h.next hcg0 hKD ho hall (by decide) (by decide) (by decide) inj hz hu rfl
    | 4, _ =>
      refine og_move (g := some (3, true)) ho (.tmp 0) (d := some 87) (by kernel_rfl) ⟨86, by kernel_rfl, (show a'.eval (.tmp 86) = .bool true from h.e 3 (by decide) (dep ho hall 3 (by kernel_rfl)) _ rfl)⟩ q0 ?_
      exact h.next hcg0 hKD ho hall (by decide) (by decide) (by decide) inj hz hu rfl
    | 5, _ =>
      refine og_move (g := some (3, true)) ho (.tmp 9) (d := some 88) (by kernel_rfl) ⟨86, by kernel_rfl, (show a'.eval (.tmp 86) = .bool true from h.e 3 (by decide) (dep ho hall 3 (by kernel_rfl)) _ rfl)⟩ q9 ?_
      exact h.next hcg0 hKD ho hall (by decide) (by decide) (by decide) inj hz hu rfl
    | 6, _ =>
      have i1 : (u : Int) < (K : Int) := by omega
      obtain ⟨h1, h2, h3⟩ := flds (d := some 89) (p := Op.indexAddr 79 (.tmp 87) (.tmp 88)) (g := some (3, true)) ho (by kernel_rfl)
      have g0 := (show a'.eval (.tmp 87) = .slice (some ⟨gL, 0, none⟩) K Kc from h.e 4 (by decide) (dep ho hall 4 (by kernel_rfl)) _ rfl)
      have g1 := (show a'.eval (.tmp 88) = .int .i64 (u : Int) from h.e 5 (by decide) (dep ho hall 5 (by kernel_rfl)) _ rfl)
      refine og_plain ho h3 ⟨86, by kernel_rfl, (show a'.eval (.tmp 86) = .bool true from h.e 3 (by decide) (dep ho hall 3 (by kernel_rfl)) _ rfl)⟩ ?_
      unfold Oper.wp
      simp only [execOp, h2, g0, g1]
      go_simp
      exact h.next hcg0 hKD ho hall (by decide) (by decide) (by decide) inj hz hu rfl
    | 7, _ =>
      have c0 := h.w.1.cellK hcl
      obtain ⟨h1, h2, h3⟩ := flds (d := some 90) (p := Op.load 42 (.tmp 89)) (g := some (3, true)) ho (by kernel_rfl)
      have g0 := (show a'.eval (.tmp 89) = .pointer (some ⟨gL, u, none⟩) from h.e 6 (by decide) (dep ho hall 6 (by kernel_rfl)) _ rfl)
      refine og_plain ho h3 ⟨86, by kernel_rfl, (show a'.eval (.tmp 86) = .bool true from h.e 3 (by decide) (dep ho hall 3 (by kernel_rfl)) _ rfl)⟩ ?_
      unfold Oper.wp
      simp only [execOp, h2, g0]
      go_simp
      exact h.next hcg0 hKD ho hall (by decide) (by decide) (by decide) inj hz hu rfl
    | 8, _ =>
      refine og_move (g := some (3, true)) ho (.tmp 11) (d := some 91) (by kernel_rfl) ⟨86, by kernel_rfl, (show a'.eval (.tmp 86) = .bool true from h.e 3 (by decide) (dep ho hall 3 (by kernel_rfl)) _ rfl)⟩ q11 ?_
      exact h.next hcg0 hKD ho hall (by decide) (by decide) (by decide) inj hz hu rfl
    | 9, _ =>
      have i1 : (k : Int) < (sn : Int) := by omega
      obtain ⟨h1, h2, h3⟩ := flds (d := some 92) (p := Op.indexAddr 42 (.tmp 90) (.tmp 91)) (g := some (3, true)) ho (by kernel_rfl)
      have g0 := (show a'.eval (.tmp 90) = .slice (some ⟨g, 0, none⟩) sn sc from h.e 7 (by decide) (dep ho hall 7 (by kernel_rfl)) _ rfl)
      have g1 := (show a'.eval (.tmp 91) = .int .i64 (k : Int) from h.e 8 (by decide) (dep ho hall 8 (by kernel_rfl)) _ rfl)
      refine og_plain ho h3 ⟨86, by kernel_rfl, (show a'.eval (.tmp 86) = .bool true from h.e 3 (by decide) (dep ho hall 3 (by kernel_rfl)) _ rfl)⟩ ?_
      unfold Oper.wp
      simp only [execOp, h2, g0, g1]
      go_simp
      exact h.next hcg0 hKD ho hall (by decide) (by decide) (by decide) inj hz hu rfl
    | 10, _ =>
      have c0 := h.w.1.cellK b0
      obtain ⟨h1, h2, h3⟩ := flds (d := some 93) (p := Op.load 9 (.tmp 92)) (g := some (3, true)) ho (by kernel_rfl)
      have g0 := (show a'.eval (.tmp 92) = .pointer (some ⟨g, k, none⟩) from h.e 9 (by decide) (dep ho hall 9 (by kernel_rfl)) _ rfl)
      refine og_plain ho h3 ⟨86, by kernel_rfl, (show a'.eval (.tmp 86) = .bool true from h.e 3 (by decide) (dep ho hall 3 (by kernel_rfl)) _ rfl)⟩ ?_
      unfold Oper.wp
      simp only [execOp, h2, g0]
      go_simp
      exact h.next hcg0 hKD ho hall (by decide) (by decide) (by decide) inj hz hu rfl
    | 11, _ =>
      refine og_move (g := some (3, true)) ho (.tmp 9) (d := some 94) (by kernel_rfl) ⟨86, by kernel_rfl, (show a'.eval (.tmp 86) = .bool true from h.e 3 (by decide) (dep ho hall 3 (by kernel_rfl)) _ rfl)⟩ q9 ?_
      exact h.next hcg0 hKD ho hall (by decide) (by decide) (by decide) inj hz hu rfl
    | 12, _ =>
      obtain ⟨h1, h2, h3⟩ := flds (d := some 95) (p := Op.convert 3 5 (.tmp 94)) (g := some (3, true)) ho (by kernel_rfl)
      have g0 := (show a'.eval (.tmp 94) = .int .i64 (u : Int) from h.e 11 (by decide) (dep ho hall 11 (by kernel_rfl)) _ rfl)
      refine og_plain ho h3 ⟨86, by kernel_rfl, (show a'.eval (.tmp 86) = .bool true from h.e 3 (by decide) (dep ho hall 3 (by kernel_rfl)) _ rfl)⟩ ?_
      unfold Oper.wp
      simp only [execOp, h2, g0]
      go_simp
      exact h.next hcg0 hKD ho hall (by decide) (by decide) (by decide) inj hz hu rfl
    | 13, _ =>
      refine og_move (g := some (3, true)) ho (.tmp 11) (d := some 96) (by kernel_rfl) ⟨86, by kernel_rfl, (show a'.eval (.tmp 86) = .bool true from h.e 3 (by decide) (dep ho hall 3 (by kernel_rfl)) _ rfl)⟩ q11 ?_
      exact h.next hcg0 hKD ho hall (by decide) (by decide) (by decide) inj hz hu rfl
    | 14, _ =>
      obtain ⟨h1, h2, h3⟩ := flds (d := some 97) (p := Op.convert 3 5 (.tmp 96)) (g := some (3, true)) ho (by kernel_rfl)
      have g0 := (show a'.eval (.tmp 96) = .int .i64 (k : Int) from h.e 13 (by decide) (dep ho hall 13 (by kernel_rfl)) _ rfl)
      refine og_plain ho h3 ⟨86, by kernel_rfl, (show a'.eval (.tmp 86) = .bool true from h.e 3 (by decide) (dep ho hall 3 (by kernel_rfl)) _ rfl)⟩ ?_
      unfold Oper.wp
      simp only [execOp, h2, g0]
      go_simp
      exact h.next hcg0 hKD ho hall (by decide) (by decide) (by decide) inj hz hu rfl
    | 15, _ =>
      obtain ⟨h1, h2, h3⟩ := flds (d := some 98) (p := Op.buildSlice 35 2 #[(0, .tmp 95), (1, .tmp 97)]) (g := some (3, true)) ho (by kernel_rfl)
      have g0 := (show a'.eval (.tmp 95) = .int .u8 (bi8 : Int) from h.e 12 (by decide) (dep ho hall 12 (by kernel_rfl)) _ rfl)
      have g1 := (show a'.eval (.tmp 97) = .int .u8 (bk8 : Int) from h.e 14 (by decide) (dep ho hall 14 (by kernel_rfl)) _ rfl)
      have b0' : a'.tmps[95]?.getD undef = .int .u8 (bi8 : Int) := by simpa [Act.eval] using g0
      have b1' : a'.tmps[97]?.getD undef = .int .u8 (bk8 : Int) := by simpa [Act.eval] using g1
      have hsz := h.w.2.1 hno
      refine og_plain ho h3 ⟨86, by kernel_rfl, (show a'.eval (.tmp 86) = .bool true from h.e 3 (by decide) (dep ho hall 3 (by kernel_rfl)) _ rfl)⟩ ?_
      unfold Oper.wp
      simp only [execOp, h2]
      go_simp
      refine h.put ho hall (by decide) inj hz hu (fun v' hv' => by injection hv') (fun val h1 h2 => ?_)
      exact h.w.made hu hsz
    | 16, _ =>
      obtain ⟨h1, h2, h3⟩ := flds (d := some 99) (p := Op.convert 35 9 (.tmp 98)) (g := some (3, true)) ho (by kernel_rfl)
      have g0 := (show a'.eval (.tmp 98) = .slice (some ⟨w.heap.size, 0, none⟩) 2 2 from h.e 15 (by decide) (dep ho hall 15 (by kernel_rfl)) _ rfl)
      have hc := hcv u' (h.w.2.2 (dep ho hall 15 (by kernel_rfl)))
      refine og_plain ho h3 ⟨86, by kernel_rfl, (show a'.eval (.tmp 86) = .bool true from h.e 3 (by decide) (dep ho hall 3 (by kernel_rfl)) _ rfl)⟩ ?_
      unfold Oper.wp
      simp only [execOp, h2, g0]
      go_simp
      exact h.next hcg0 hKD ho hall (by decide) (by decide) (by decide) inj hz hu rfl
    | 17, _ =>
      obtain ⟨h1, h2, h3⟩ := flds (d := some 100) (p := Op.binOp .neq 9 (.tmp 93) (.tmp 99) 9) (g := some (3, true)) ho (by kernel_rfl)
      have g0 := (show a'.eval (.tmp 93) = .string ms from h.e 10 (by decide) (dep ho hall 10 (by kernel_rfl)) _ rfl)
      have g1 := (show a'.eval (.tmp 99) = .string ms from h.e 16 (by decide) (dep ho hall 16 (by kernel_rfl)) _ rfl)
      refine og_plain ho h3 ⟨86, by kernel_rfl, (show a'.eval (.tmp 86) = .bool true from h.e 3 (by decide) (dep ho hall 3 (by kernel_rfl)) _ rfl)⟩ ?_
      unfold Oper.wp
      simp only [execOp, h2, g0, g1]
      go_simp
      exact h.next hcg0 hKD ho hall (by decide) (by decide) (by decide) inj hz hu rfl
    | 18, _ =>
      refine og_move (g := some (3, true)) ho (.tmp 100) (d := some 101) (by kernel_rfl) ⟨86, by kernel_rfl, (show a'.eval (.tmp 86) = .bool true from h.e 3 (by decide) (dep ho hall 3 (by kernel_rfl)) _ rfl)⟩ (show a'.eval (.tmp 100) = .bool false from h.e 17 (by decide) (dep ho hall 17 (by kernel_rfl)) _ rfl) ?_
      exact h.next hcg0 hKD ho hall (by decide) (by decide) (by decide) inj hz hu rfl
    | 19, _ =>
      refine og_move (g := some (18, false)) ho (.tmp 5) (d := some 102) (by kernel_rfl) ⟨101, by kernel_rfl, (show a'.eval (.tmp 101) = .bool false from h.e 18 (by decide) (dep ho hall 18 (by kernel_rfl)) _ rfl)⟩ q5 ?_
      exact h.next hcg0 hKD ho hall (by decide) (by decide) (by decide) inj hz hu rfl
    | 20, _ =>
      refine og_move (g := some (18, false)) ho (.tmp 9) (d := some 103) (by kernel_rfl) ⟨101, by kernel_rfl, (show a'.eval (.tmp 101) = .bool false from h.e 18 (by decide) (dep ho hall 18 (by kernel_rfl)) _ rfl)⟩ q9 ?_
      exact h.next hcg0 hKD ho hall (by decide) (by decide) (by decide) inj hz hu rfl
    | 21, _ =>
      have i1 : (u : Int) < (q : Int) := by omega
      obtain ⟨h1, h2, h3⟩ := flds (d := some 104) (p := Op.indexAddr 79 (.tmp 102) (.tmp 103)) (g := some (18, false)) ho (by kernel_rfl)
      have g0 := (show a'.eval (.tmp 102) = .slice (some ⟨gg, 0, none⟩) q c5 from h.e 19 (by decide) (dep ho hall 19 (by kernel_rfl)) _ rfl)
      have g1 := (show a'.eval (.tmp 103) = .int .i64 (u : Int) from h.e 20 (by decide) (dep ho hall 20 (by kernel_rfl)) _ rfl)
      refine og_plain ho h3 ⟨101, by kernel_rfl, (show a'.eval (.tmp 101) = .bool false from h.e 18 (by decide) (dep ho hall 18 (by kernel_rfl)) _ rfl)⟩ ?_
      unfold Oper.wp
      simp only [execOp, h2, g0, g1]
      go_simp
      exact h.next hcg0 hKD ho hall (by decide) (by decide) (by decide) inj hz hu rfl
    | 22, _ =>
      have c0 := h.w.1.cellK hcg
      obtain ⟨h1, h2, h3⟩ := flds (d := some 105) (p := Op.load 42 (.tmp 104)) (g := some (18, false)) ho (by kernel_rfl)
      have g0 := (show a'.eval (.tmp 104) = .pointer (some ⟨gg, u, none⟩) from h.e 21 (by decide) (dep ho hall 21 (by kernel_rfl)) _ rfl)
      refine og_plain ho h3 ⟨101, by kernel_rfl, (show a'.eval (.tmp 101) = .bool false from h.e 18 (by decide) (dep ho hall 18 (by kernel_rfl)) _ rfl)⟩ ?_
      unfold Oper.wp
      simp only [execOp, h2, g0]
      go_simp
      exact h.next hcg0 hKD ho hall (by decide) (by decide) (by decide) inj hz hu rfl
    | 23, _ =>
      refine og_move (g := some (18, false)) ho (.tmp 11) (d := some 106) (by kernel_rfl) ⟨101, by kernel_rfl, (show a'.eval (.tmp 101) = .bool false from h.e 18 (by decide) (dep ho hall 18 (by kernel_rfl)) _ rfl)⟩ q11 ?_
      exact h.next hcg0 hKD ho hall (by decide) (by decide) (by decide) inj hz hu rfl
    | 24, _ =>
      have i1 : (k : Int) < (sn : Int) + 64 := by omega
      obtain ⟨h1, h2, h3⟩ := flds (d := some 107) (p := Op.indexAddr 42 (.tmp 105) (.tmp 106)) (g := some (18, false)) ho (by kernel_rfl)
      have g0 := (show a'.eval (.tmp 105) = .slice (some ⟨hh, 0, none⟩) (sn + 64) dd from h.e 22 (by decide) (dep ho hall 22 (by kernel_rfl)) _ rfl)
      have g1 := (show a'.eval (.tmp 106) = .int .i64 (k : Int) from h.e 23 (by decide) (dep ho hall 23 (by kernel_rfl)) _ rfl)
      refine og_plain ho h3 ⟨101, by kernel_rfl, (show a'.eval (.tmp 101) = .bool false from h.e 18 (by decide) (dep ho hall 18 (by kernel_rfl)) _ rfl)⟩ ?_
      unfold Oper.wp
      simp only [execOp, h2, g0, g1]
      go_simp
      exact h.next hcg0 hKD ho hall (by decide) (by decide) (by decide) inj hz hu rfl
    | 25, _ =>
      have c0 := h.w.1.cellK h0
      obtain ⟨h1, h2, h3⟩ := flds (d := some 108) (p := Op.load 9 (.tmp 107)) (g := some (18, false)) ho (by kernel_rfl)
      have g0 := (show a'.eval (.tmp 107) = .pointer (some ⟨hh, k, none⟩) from h.e 24 (by decide) (dep ho hall 24 (by kernel_rfl)) _ rfl)
      refine og_plain ho h3 ⟨101, by kernel_rfl, (show a'.eval (.tmp 101) = .bool false from h.e 18 (by decide) (dep ho hall 18 (by kernel_rfl)) _ rfl)⟩ ?_
      unfold Oper.wp
      simp only [execOp, h2, g0]
      go_simp
      exact h.next hcg0 hKD ho hall (by decide) (by decide) (by decide) inj hz hu rfl
    | 26, _ =>
      refine og_move (g := some (18, false)) ho (.tmp 0) (d := some 109) (by kernel_rfl) ⟨101, by kernel_rfl, (show a'.eval (.tmp 101) = .bool false from h.e 18 (by decide) (dep ho hall 18 (by kernel_rfl)) _ rfl)⟩ q0 ?_
      exact h.next hcg0 hKD ho hall (by decide) (by decide) (by decide) inj hz hu rfl
    | 27, _ =>
      refine og_move (g := some (18, false)) ho (.tmp 9) (d := some 110) (by kernel_rfl) ⟨101, by kernel_rfl, (show a'.eval (.tmp 101) = .bool false from h.e 18 (by decide) (dep ho hall 18 (by kernel_rfl)) _ rfl)⟩ q9 ?_
      exact h.next hcg0 hKD ho hall (by decide) (by decide) (by decide) inj hz hu rfl
    | 28, _ =>
      have i1 : (u : Int) < (K : Int) := by omega
      obtain ⟨h1, h2, h3⟩ := flds (d := some 111) (p := Op.indexAddr 79 (.tmp 109) (.tmp 110)) (g := some (18, false)) ho (by kernel_rfl)
      have g0 := (show a'.eval (.tmp 109) = .slice (some ⟨gL, 0, none⟩) K Kc from h.e 26 (by decide) (dep ho hall 26 (by kernel_rfl)) _ rfl)
      have g1 := (show a'.eval (.tmp 110) = .int .i64 (u : Int) from h.e 27 (by decide) (dep ho hall 27 (by kernel_rfl)) _ rfl)
      refine og_plain ho h3 ⟨101, by kernel_rfl, (show a'.eval (.tmp 101) = .bool false from h.e 18 (by decide) (dep ho hall 18 (by kernel_rfl)) _ rfl)⟩ ?_
      unfold Oper.wp
      simp only [execOp, h2, g0, g1]
      go_simp
      exact h.next hcg0 hKD ho hall (by decide) (by decide) (by decide) inj hz hu rfl
    | 29, _ =>
      have c0 := h.w.1.cellK hcl
      obtain ⟨h1, h2, h3⟩ := flds (d := some 112) (p := Op.load 42 (.tmp 111)) (g := some (18, false)) ho (by kernel_rfl)
      have g0 := (show a'.eval (.tmp 111) = .pointer (some ⟨gL, u, none⟩) from h.e 28 (by decide) (dep ho hall 28 (by kernel_rfl)) _ rfl)
      refine og_plain ho h3 ⟨101, by kernel_rfl, (show a'.eval (.tmp 101) = .bool false from h.e 18 (by decide) (dep ho hall 18 (by kernel_rfl)) _ rfl)⟩ ?_
      unfold Oper.wp
      simp only [execOp, h2, g0]
      go_simp
      exact h.next hcg0 hKD ho hall (by decide) (by decide) (by decide) inj hz hu rfl
    | 30, _ =>
      refine og_move (g := some (18, false)) ho (.tmp 11) (d := some 113) (by kernel_rfl) ⟨101, by kernel_rfl, (show a'.eval (.tmp 101) = .bool false from h.e 18 (by decide) (dep ho hall 18 (by kernel_rfl)) _ rfl)⟩ q11 ?_
      exact h.next hcg0 hKD ho hall (by decide) (by decide) (by decide) inj hz hu rfl
    | 31, _ =>
      have i1 : (k : Int) < (sn : Int) := by omega
      obtain ⟨h1, h2, h3⟩ := flds (d := some 114) (p := Op.indexAddr 42 (.tmp 112) (.tmp 113)) (g := some (18, false)) ho (by kernel_rfl)
      have g0 := (show a'.eval (.tmp 112) = .slice (some ⟨g, 0, none⟩) sn sc from h.e 29 (by decide) (dep ho hall 29 (by kernel_rfl)) _ rfl)
      have g1 := (show a'.eval (.tmp 113) = .int .i64 (k : Int) from h.e 30 (by decide) (dep ho hall 30 (by kernel_rfl)) _ rfl)
      refine og_plain ho h3 ⟨101, by kernel_rfl, (show a'.eval (.tmp 101) = .bool false from h.e 18 (by decide) (dep ho hall 18 (by kernel_rfl)) _ rfl)⟩ ?_
      unfold Oper.wp
      simp only [execOp, h2, g0, g1]
      go_simp
      exact h.next hcg0 hKD ho hall (by decide) (by decide) (by decide) inj hz hu rfl
    | 32, _ =>
      have c0 := h.w.1.cellK b0
      obtain ⟨h1, h2, h3⟩ := flds (d := some 115) (p := Op.load 9 (.tmp 114)) (g := some (18, false)) ho (by kernel_rfl)
      have g0 := (show a'.eval (.tmp 114) = .pointer (some ⟨g, k, none⟩) from h.e 31 (by decide) (dep ho hall 31 (by kernel_rfl)) _ rfl)
      refine og_plain ho h3 ⟨101, by kernel_rfl, (show a'.eval (.tmp 101) = .bool false from h.e 18 (by decide) (dep ho hall 18 (by kernel_rfl)) _ rfl)⟩ ?_
      unfold Oper.wp
      simp only [execOp, h2, g0]
      go_simp
      exact h.next hcg0 hKD ho hall (by decide) (by decide) (by decide) inj hz hu rfl
    | 33, _ =>
      obtain ⟨h1, h2, h3⟩ := flds (d := some 116) (p := Op.binOp .neq 9 (.tmp 108) (.tmp 115) 9) (g := some (18, false)) ho (by kernel_rfl)
      have g0 := (show a'.eval (.tmp 108) = .string ms from h.e 25 (by decide) (dep ho hall 25 (by kernel_rfl)) _ rfl)
      have g1 := (show a'.eval (.tmp 115) = .string ms from h.e 32 (by decide) (dep ho hall 32 (by kernel_rfl)) _ rfl)
      refine og_plain ho h3 ⟨101, by kernel_rfl, (show a'.eval (.tmp 101) = .bool false from h.e 18 (by decide) (dep ho hall 18 (by kernel_rfl)) _ rfl)⟩ ?_
      unfold Oper.wp
      simp only [execOp, h2, g0, g1]
      go_simp
      exact h.next hcg0 hKD ho hall (by decide) (by decide) (by decide) inj hz hu rfl
    | 34, _ =>
      obtain ⟨h1, h2, h3⟩ := flds (d := some 117) (p := Op.pick (.tmp 101) (.const (.bool true)) (.tmp 116)) (g := some (3, true)) ho (by kernel_rfl)
      have g0 := (show a'.eval (.tmp 101) = .bool false from h.e 18 (by decide) (dep ho hall 18 (by kernel_rfl)) _ rfl)
      have g1 := (show a'.eval (.tmp 116) = .bool false from h.e 33 (by decide) (dep ho hall 33 (by kernel_rfl)) _ rfl)
      refine og_plain ho h3 ⟨86, by kernel_rfl, (show a'.eval (.tmp 86) = .bool true from h.e 3 (by decide) (dep ho hall 3 (by kernel_rfl)) _ rfl)⟩ ?_
      unfold Oper.wp
      simp only [execOp, h2, g0, g1]
      go_simp
      exact h.next hcg0 hKD ho hall (by decide) (by decide) (by decide) inj hz hu rfl
    | 35, _ =>
      obtain ⟨h1, h2, h3⟩ := flds (d := some 118) (p := Op.pick (.tmp 86) (.tmp 117) (.const (.bool false))) (g := none) ho (by kernel_rfl)
      have g0 := (show a'.eval (.tmp 86) = .bool true from h.e 3 (by decide) (dep ho hall 3 (by kernel_rfl)) _ rfl)
      have g1 := (show a'.eval (.tmp 117) = .bool false from h.e 34 (by decide) (dep ho hall 34 (by kernel_rfl)) _ rfl)
      refine og_plain ho h3 trivial ?_
      unfold Oper.wp
      simp only [execOp, h2, g0, g1]
      go_simp
      exact h.next hcg0 hKD ho hall (by decide) (by decide) (by decide) inj hz hu rfl
    | 36, _ =>
      refine og_move (g := none) ho (.tmp 118) (d := some 119) (by kernel_rfl) trivial (show a'.eval (.tmp 118) = .bool false from h.e 35 (by decide) (dep ho hall 35 (by kernel_rfl)) _ rfl) ?_
      exact h.next hcg0 hKD ho hall (by decide) (by decide) (by decide) inj hz hu rfl
    | 37, _ =>
      refine og_move (g := some (36, false)) ho (.tmp 11) (d := some 120) (by kernel_rfl) ⟨119, by kernel_rfl, (show a'.eval (.tmp 119) = .bool false from h.e 36 (by decide) (dep ho hall 36 (by kernel_rfl)) _ rfl)⟩ q11 ?_
      exact h.next hcg0 hKD ho hall (by decide) (by decide) (by decide) inj hz hu rfl
    | 38, _ =>
      refine og_move (g := some (36, false)) ho (.tmp 10) (d := some 121) (by kernel_rfl) ⟨119, by kernel_rfl, (show a'.eval (.tmp 119) = .bool false from h.e 36 (by decide) (dep ho hall 36 (by kernel_rfl)) _ rfl)⟩ q10 ?_
      exact h.next hcg0 hKD ho hall (by decide) (by decide) (by decide) inj hz hu rfl
    | 39, _ =>
      have i1 : decide (sn ≤ k) = false := by simp; omega
      obtain ⟨h1, h2, h3⟩ := flds (d := some 122) (p := Op.binOp .geq 3 (.tmp 120) (.tmp 121) 3) (g := some (36, false)) ho (by kernel_rfl)
      have g0 := (show a'.eval (.tmp 120) = .int .i64 (k : Int) from h.e 37 (by decide) (dep ho hall 37 (by kernel_rfl)) _ rfl)
      have g1 := (show a'.eval (.tmp 121) = .int .i64 (sn : Int) from h.e 38 (by decide) (dep ho hall 38 (by kernel_rfl)) _ rfl)
      refine og_plain ho h3 ⟨119, by kernel_rfl, (show a'.eval (.tmp 119) = .bool false from h.e 36 (by decide) (dep ho hall 36 (by kernel_rfl)) _ rfl)⟩ ?_
      unfold Oper.wp
      simp only [execOp, h2, g0, g1]
      go_simp
      exact h.next hcg0 hKD ho hall (by decide) (by decide) (by decide) inj hz hu rfl
    | 40, _ =>
      refine og_move (g := some (36, false)) ho (.tmp 122) (d := some 123) (by kernel_rfl) ⟨119, by kernel_rfl, (show a'.eval (.tmp 119) = .bool false from h.e 36 (by decide) (dep ho hall 36 (by kernel_rfl)) _ rfl)⟩ (show a'.eval (.tmp 122) = .bool false from h.e 39 (by decide) (dep ho hall 39 (by kernel_rfl)) _ rfl) ?_
      exact h.next hcg0 hKD ho hall (by decide) (by decide) (by decide) inj hz hu rfl
    | 41, _ =>
      refine og_skip (k := 40) (b := true) ho (d := some 124) (by kernel_rfl) (t := 123) (by kernel_rfl) (show a'.eval (.tmp 123) = .bool false from h.e 40 (by decide) (dep ho hall 40 (by kernel_rfl)) _ rfl) ?_
      exact h.next hcg0 hKD ho hall (by decide) (by decide) (by decide) inj hz hu rfl
    | 42, _ =>
      refine og_skip (k := 40) (b := true) ho (d := some 125) (by kernel_rfl) (t := 123) (by kernel_rfl) (show a'.eval (.tmp 123) = .bool false from h.e 40 (by decide) (dep ho hall 40 (by kernel_rfl)) _ rfl) ?_
      exact h.next hcg0 hKD ho hall (by decide) (by decide) (by decide) inj hz hu rfl
    | 43, _ =>
      refine og_skip (k := 40) (b := true) ho (d := some 126) (by kernel_rfl) (t := 123) (by kernel_rfl) (show a'.eval (.tmp 123) = .bool false from h.e 40 (by decide) (dep ho hall 40 (by kernel_rfl)) _ rfl) ?_
      exact h.next hcg0 hKD ho hall (by decide) (by decide) (by decide) inj hz hu rfl
    | 44, _ =>
      refine og_skip (k := 40) (b := true) ho (d := some 127) (by kernel_rfl) (t := 123) (by kernel_rfl) (show a'.eval (.tmp 123) = .bool false from h.e 40 (by decide) (dep ho hall 40 (by kernel_rfl)) _ rfl) ?_
      exact h.next hcg0 hKD ho hall (by decide) (by decide) (by decide) inj hz hu rfl
    | 45, _ =>
      refine og_skip (k := 40) (b := true) ho (d := some 128) (by kernel_rfl) (t := 123) (by kernel_rfl) (show a'.eval (.tmp 123) = .bool false from h.e 40 (by decide) (dep ho hall 40 (by kernel_rfl)) _ rfl) ?_
      exact h.next hcg0 hKD ho hall (by decide) (by decide) (by decide) inj hz hu rfl
    | 46, _ =>
      refine og_skip (k := 40) (b := true) ho (d := some 129) (by kernel_rfl) (t := 123) (by kernel_rfl) (show a'.eval (.tmp 123) = .bool false from h.e 40 (by decide) (dep ho hall 40 (by kernel_rfl)) _ rfl) ?_
      exact h.next hcg0 hKD ho hall (by decide) (by decide) (by decide) inj hz hu rfl
    | 47, _ =>
      refine og_skip (k := 40) (b := true) ho (d := some 130) (by kernel_rfl) (t := 123) (by kernel_rfl) (show a'.eval (.tmp 123) = .bool false from h.e 40 (by decide) (dep ho hall 40 (by kernel_rfl)) _ rfl) ?_
      exact h.next hcg0 hKD ho hall (by decide) (by decide) (by decide) inj hz hu rfl
    | 48, _ =>
      refine og_skip (k := 40) (b := true) ho (d := some 131) (by kernel_rfl) (t := 123) (by kernel_rfl) (show a'.eval (.tmp 123) = .bool false from h.e 40 (by decide) (dep ho hall 40 (by kernel_rfl)) _ rfl) ?_
      exact h.next hcg0 hKD ho hall (by decide) (by decide) (by decide) inj hz hu rfl
    | 49, _ =>
      refine og_skip (k := 40) (b := true) ho (d := some 132) (by kernel_rfl) (t := 123) (by kernel_rfl) (show a'.eval (.tmp 123) = .bool false from h.e 40 (by decide) (dep ho hall 40 (by kernel_rfl)) _ rfl) ?_
      exact h.next hcg0 hKD ho hall (by decide) (by decide) (by decide) inj hz hu rfl
    | 50, _ =>
      refine og_skip (k := 40) (b := true) ho (d := some 133) (by kernel_rfl) (t := 123) (by kernel_rfl) (show a'.eval (.tmp 123) = .bool false from h.e 40 (by decide) (dep ho hall 40 (by kernel_rfl)) _ rfl) ?_
      exact h.next hcg0 hKD ho hall (by decide) (by decide) (by decide) inj hz hu rfl
    | 51, _ =>
      refine og_skip (k := 40) (b := true) ho (d := some 134) (by kernel_rfl) (t := 123) (by kernel_rfl) (show a'.eval (.tmp 123) = .bool false from h.e 40 (by decide) (dep ho hall 40 (by kernel_rfl)) _ rfl) ?_
      exact h.next hcg0 hKD ho hall (by decide) (by decide) (by decide) inj hz hu rfl
    | 52, _ =>
      refine og_skip (k := 40) (b := true) ho (d := some 135) (by kernel_rfl) (t := 123) (by kernel_rfl) (show a'.eval (.tmp 123) = .bool false from h.e 40 (by decide) (dep ho hall 40 (by kernel_rfl)) _ rfl) ?_
      exact h.next hcg0 hKD ho hall (by decide) (by decide) (by decide) inj hz hu rfl
    | 53, _ =>
      refine og_skip (k := 40) (b := true) ho (d := some 136) (by kernel_rfl) (t := 123) (by kernel_rfl) (show a'.eval (.tmp 123) = .bool false from h.e 40 (by decide) (dep ho hall 40 (by kernel_rfl)) _ rfl) ?_
      exact h.next hcg0 hKD ho hall (by decide) (by decide) (by decide) inj hz hu rfl
    | 54, _ =>
      refine og_skip (k := 40) (b := true) ho (d := some 137) (by kernel_rfl) (t := 123) (by kernel_rfl) (show a'.eval (.tmp 123) = .bool false from h.e 40 (by decide) (dep ho hall 40 (by kernel_rfl)) _ rfl) ?_
      exact h.next hcg0 hKD ho hall (by decide) (by decide) (by decide) inj hz hu rfl
    | 55, _ =>
      refine og_skip (k := 40) (b := true) ho (d := some 138) (by kernel_rfl) (t := 123) (by kernel_rfl) (show a'.eval (.tmp 123) = .bool false from h.e 40 (by decide) (dep ho hall 40 (by kernel_rfl)) _ rfl) ?_
      exact h.next hcg0 hKD ho hall (by decide) (by decide) (by decide) inj hz hu rfl
    | 56, _ =>
      refine og_skip (k := 40) (b := true) ho (d := some 139) (by kernel_rfl) (t := 123) (by kernel_rfl) (show a'.eval (.tmp 123) = .bool false from h.e 40 (by decide) (dep ho hall 40 (by kernel_rfl)) _ rfl) ?_
      exact h.next hcg0 hKD ho hall (by decide) (by decide) (by decide) inj hz hu rfl
    | 57, _ =>
      obtain ⟨h1, h2, h3⟩ := flds (d := some 140) (p := Op.pick (.tmp 123) (.tmp 139) (.const (.bool false))) (g := some (36, false)) ho (by kernel_rfl)
      have g0 := (show a'.eval (.tmp 123) = .bool false from h.e 40 (by decide) (dep ho hall 40 (by kernel_rfl)) _ rfl)
      have g1 := (show a'.eval (.tmp 139) = undef from h.e 56 (by decide) (dep ho hall 56 (by kernel_rfl)) _ rfl)
      refine og_plain ho h3 ⟨119, by kernel_rfl, (show a'.eval (.tmp 119) = .bool false from h.e 36 (by decide) (dep ho hall 36 (by kernel_rfl)) _ rfl)⟩ ?_
      unfold Oper.wp
      simp only [execOp, h2, g0, g1]
      go_simp
      exact h.next hcg0 hKD ho hall (by decide) (by decide) (by decide) inj hz hu rfl
    | 58, _ =>
      obtain ⟨h1, h2, h3⟩ := flds (d := some 141) (p := Op.pick (.tmp 119) (.const (.bool true)) (.tmp 140)) (g := none) ho (by kernel_rfl)
      have g0 := (show a'.eval (.tmp 119) = .bool false from h.e 36 (by decide) (dep ho hall 36 (by kernel_rfl)) _ rfl)
      have g1 := (show a'.eval (.tmp 140) = .bool false from h.e 57 (by decide) (dep ho hall 57 (by kernel_rfl)) _ rfl)
      refine og_plain ho h3 trivial ?_
      unfold Oper.wp
      simp only [execOp, h2, g0, g1]
      go_simp
      exact h.next hcg0 hKD ho hall (by decide) (by decide) (by decide) inj hz hu rfl
    | i + 59, hi => omega
  · rintro L a' u' h hall
    rw [opsGwA_size] at hall
    rw [h.done hz]
    refine hK L _ u' hall h.w (fun j => ?_)
    by_cases hj : j ∈ DGwA
    · cases hv : (VGwA gL K Kc u k sn gg q c5 hh dd bi8 bk8 ms g sc w) j with
      | none => exact .inl rfl
      | some v =>
        refine .inr (.inl ?_)
        have hjN : j < 59 := by
          have hh : DGwA.all (fun i => decide (i < 59)) = true := by kernel_rfl
          exact of_decide_eq_true (List.all_eq_true.1 hh j hj)
        rw [h.e j hj (hall j hjN) v hv]
    · exact .inr (.inr hj)
  · intro L hL
    refine JR.start hL ?_
    exact WBu.start (hL _)

noncomputable def opsGwB : Array Oper := (Try.f35.body.bind (opsAt 25)).getD #[]
theorem opsGwB_size : opsGwB.size = 59 := by kernel_rfl
theorem opsGwB_earlier : Earlier opsGwB := by
  have h : (List.range 59).all (fun i => ((opsGwB[i]?).map (fun o => o.after.all (fun e => !Region.binds .any e || decide (e.on < i)))).getD true) = true := by kernel_rfl
  intro i o ho e he hb
  have hi : i < 59 := by
    have := (Array.getElem?_eq_some_iff.1 ho).1
    rwa [opsGwB_size] at this
  have h1 := List.all_eq_true.1 h i (List.mem_range.2 hi)
  rw [ho] at h1
  simp only [Option.map_some, Option.getD_some, Array.all_eq_true'] at h1
  have h2 := h1 e he
  rw [hb] at h2
  simpa using h2
def slGwB (j : Nat) : Nat := ([83, 84, 85, 86, 87, 88, 89, 90, 91, 92, 93, 94, 95, 96, 97, 98, 99, 100, 101, 102, 103, 104, 105, 106, 107, 108, 109, 110, 111, 112, 113, 114, 115, 116, 117, 118, 119, 120, 121, 122, 123, 124, 125, 126, 127, 128, 129, 130, 131, 132, 133, 134, 135, 136, 137, 138, 139, 140, 141] : List Nat).getD j 0
def DGwB : List Nat := [0, 1, 2, 3, 4, 5, 6, 7, 8, 9, 10, 11, 12, 13, 14, 15, 16, 17, 18, 19, 20, 21, 22, 23, 24, 25, 26, 27, 28, 29, 30, 31, 32, 33, 34, 35, 36, 37, 38, 39, 40, 41, 42, 43, 44, 45, 46, 47, 48, 49, 50, 51, 52, 53, 54, 55, 56, 57, 58]
def VGwB (gL K Kc u k sn gg q c5 hh dd bi8 bk8 : Nat) (ms : ByteArray) (p : Nat) (w : World) (j : Nat) : Option Value := [some (.int .i64 (k : Int)), some (.int .i64 (sn : Int)), some (.bool false), some (.bool false), some (undef), some (undef), some (undef), some (undef), some (undef), some (undef), some (undef), some (undef), some (undef), some (undef), some (undef), some (undef), some (undef), some (undef), some (undef), some (undef), some (undef), some (undef), some (undef), some (undef), some (undef), some (undef), some (undef), some (undef), some (undef), some (undef), some (undef), some (undef), some (undef), some (undef), some (undef), some (.bool false), some (.bool false), some (.int .i64 (k : Int)), some (.int .i64 (sn : Int)), some (.bool true), some (.bool true), some (.slice (some ⟨gg, 0, none⟩) q c5), some (.int .i64 (u : Int)), some (.pointer (some ⟨gg, u, none⟩)), some (.slice (some ⟨hh, 0, none⟩) (sn + 64) dd), some (.int .i64 (k : Int)), some (.pointer (some ⟨hh, k, none⟩)), some (.string ms), some (.int .i64 (u : Int)), some (.int .u8 (bi8 : Int)), some (.int .i64 (k : Int)), some (.int .i64 (sn : Int)), some (.int .i64 (p : Int)), some (.int .u8 (bk8 : Int)), some (.slice (some ⟨w.heap.size, 0, none⟩) 3 3), some (.string ms), some (.bool false), some (.bool false), some (.bool false)].getD j none
set_option maxRecDepth 100000 in
set_option maxHeartbeats 4000000 in
theorem regGwB (a0 : Act) (w : World) {Q : Exit → Act → World → Prop} (gL K Kc u k sn gg q c5 hh dd bi8 bk8 : Nat) (ms : ByteArray) (p : Nat) (huK : u < K) (huq : u < q) (hcg : w.cell? ⟨gg, u, none⟩ = some (.slice (some ⟨hh, 0, none⟩) (sn + 64) dd)) (h0 : w.cell? ⟨hh, k, none⟩ = some (.string ms)) (hkn : k < sn + 64) (hw1 : IntKind.u8.wrap (u : Int) = ((bi8 : Nat) : Int)) (hks : ¬ k < sn) (hkp : (k : Int) - (sn : Int) = (p : Int)) (hw2 : IntKind.u8.wrap (p : Int) = ((bk8 : Nat) : Int)) (hp9 : (p : Int) < 64) (hcv : ∀ W : World, W.heap[w.heap.size]? = some (.cells #[.int .u8 (bi8 : Int), .int .u8 33, .int .u8 (bk8 : Int)] 5 (0, 0)) → (convert 35 9 (.slice (some ⟨w.heap.size, 0, none⟩) 3 3)).run Try.prog W = .ok (.string ms) W) (hzz : 141 < a0.tmps.size) (H11 : a0.eval (.tmp 11) = .int .i64 (k : Int)) (H10 : a0.eval (.tmp 10) = .int .i64 (sn : Int)) (H9 : a0.eval (.tmp 9) = .int .i64 (u : Int)) (H5 : a0.eval (.tmp 5) = .slice (some ⟨gg, 0, none⟩) q c5)
    (hK : ∀ (L : Nat → Prop) (val : Nat → Value) (u' : World), (∀ i, i < 59 → L i) → WBu 54 (.cells #[.int .u8 (bi8 : Int), .int .u8 33, .int .u8 (bk8 : Int)] 5 (0, 0)) w L val u' → (∀ j, (VGwB gL K Kc u k sn gg q c5 hh dd bi8 bk8 ms p w) j = none ∨ (VGwB gL K Kc u k sn gg q c5 hh dd bi8 bk8 ms p w) j = some (val j) ∨ j ∉ DGwB) → Q .normal (puts a0 (DGwB.map fun j => (slGwB j, val j))) u') :
    (Code.region 25 opsGwB true).wp Try.prog Q a0 w := by
  have inj : ∀ i ∈ DGwB, ∀ j ∈ DGwB, slGwB i = slGwB j → i = j := by
    have h : DGwB.all (fun i => DGwB.all (fun j => decide (slGwB i = slGwB j → i = j))) = true := by kernel_rfl
    intro i hi j hj he
    exact (of_decide_eq_true (List.all_eq_true.1 (List.all_eq_true.1 h i hi) j hj)) he
  have hz : ∀ j ∈ DGwB, slGwB j < a0.tmps.size := by
    have h : DGwB.all (fun i => decide (slGwB i ≤ 141)) = true := by kernel_rfl
    intro j hj
    have := of_decide_eq_true (List.all_eq_true.1 h j hj)
    omega
  have hcg0 : ∀ (L L' : Nat → Prop) (val val' : Nat → Value) u0, (∀ k ∈ ([54] : List Nat), (L' k ↔ L k)) → (∀ k ∈ ([] : List Nat), val' k = val k) → WBu 54 (.cells #[.int .u8 (bi8 : Int), .int .u8 33, .int .u8 (bk8 : Int)] 5 (0, 0)) w L val u0 → WBu 54 (.cells #[.int .u8 (bi8 : Int), .int .u8 33, .int .u8 (bk8 : Int)] 5 (0, 0)) w L' val' u0 := by
    intro L L' val val' u0 hl hv hw
    simp at hl hv
    unfold WBu at hw ⊢
    simp only [hl]
    exact hw
  have hKD : ∀ k ∈ ([] : List Nat), k ∈ DGwB := by decide
  refine wp_region_inv (by kernel_rfl) opsGwB_earlier (fun L a u' => JR opsGwB slGwB DGwB (VGwB gL K Kc u k sn gg q c5 hh dd bi8 bk8 ms p w) a0 (WBu 54 (.cells #[.int .u8 (bi8 : Int), .int .u8 33, .int .u8 (bk8 : Int)] 5 (0, 0)) w) L a u') ?_ ?_ ?_
  · rintro L L' a' u' i o h ho hno hall hu
    clear hK
    have q11 := (h.fe.ev (j := 11) (by decide)).trans H11
    have q10 := (h.fe.ev (j := 10) (by decide)).trans H10
    have q9 := (h.fe.ev (j := 9) (by decide)).trans H9
    have q5 := (h.fe.ev (j := 5) (by decide)).trans H5
    have hi : i < 59 := by
      have := (Array.getElem?_eq_some_iff.1 ho).1
      rwa [opsGwB_size] at this
    match i, hi with
    | 0, _ =>
      refine og_move (g := none) ho (.tmp 11) (d := some 83) (by kernel_rfl) trivial q11 ?_
      exact h.next hcg0 hKD ho hall (by decide) (by decide) (by decide) inj hz hu rfl
    | 1, _ =>
      refine og_move (g := none) ho (.tmp 10) (d := some 84) (by kernel_rfl) trivial q10 ?_
      exact h.next hcg0 hKD ho hall (by decide) (by decide) (by decide) inj hz hu rfl
    | 2, _ =>
      have i1 : decide ((k : Int) < (sn : Int)) = false := by simp; omega
      obtain ⟨h1, h2, h3⟩ := flds (d := some 85) (p := Op.binOp .lss 3 (.tmp 83) (.tmp 84) 3) (g := none) ho (by kernel_rfl)
      have g0 := (show a'.eval (.tmp 83) = .int .i64 (k : Int) from h.e 0 (by decide) (dep ho hall 0 (by kernel_rfl)) _ rfl)
      have g1 := (show a'.eval (.tmp 84) = .int .i64 (sn : Int) from h.e 1 (by decide) (dep ho hall 1 (by kernel_rfl)) _ rfl)
      refine og_plain ho h3 trivial ?_
      unfold Oper.wp
      simp only [execOp, h2, g0, g1]
      go_simp
      exact h.next hcg0 hKD ho hall (by decide) (by decide) (by decide) inj hz hu rfl
    | 3, _ =>
      refine og_move (g := none) ho (.tmp 85) (d := some 86) (by kernel_rfl) trivial (show a'.eval (.tmp 85) = .bool false from h.e 2 (by decide) (dep ho hall 2 (by kernel_rfl)) _ rfl) ?_
      exact h.next hcg0 hKD ho hall (by decide) (by decide) (by decide) inj hz hu rfl
    | 4, _ =>
      refine og_skip (k := 3) (b := true) ho (d := some 87) (by kernel_rfl) (t := 86) (by kernel_rfl) (show a'.eval (.tmp 86) = .bool false from h.e 3 (by decide) (dep ho hall 3 (by kernel_rfl)) _ rfl) ?_
      exact h.next hcg0 hKD ho hall (by decide) (by decide) (by decide) inj hz hu rfl
    | 5, _ =>
      refine og_skip (k := 3) (b := true) ho (d := some 88) (by kernel_rfl) (t := 86) (by kernel_rfl) (show a'.eval (.tmp 86) = .bool false from h.e 3 (by decide) (dep ho hall 3 (by kernel_rfl)) _ rfl) ?_
      exact h.next hcg0 hKD ho hall (by decide) (by decide) (by decide) inj hz hu rfl
    | 6, _ =>
      refine og_skip (k := 3) (b := true) ho (d := some 89) (by kernel_rfl) (t := 86) (by kernel_rfl) (show a'.eval (.tmp 86) = .bool false from h.e 3 (by decide) (dep ho hall 3 (by kernel_rfl)) _ rfl) ?_
      exact h.next hcg0 hKD ho hall (by decide) (by decide) (by decide) inj hz hu rfl
    | 7, _ =>
      refine og_skip (k := 3) (b := true) ho (d := some 90) (by kernel_rfl) (t := 86) (by kernel_rfl) (show a'.eval (.tmp 86) = .bool false from h.e 3 (by decide) (dep ho hall 3 (by kernel_rfl)) _ rfl) ?_
      exact h.next hcg0 hKD ho hall (by decide) (by decide) (by decide) inj hz hu rfl
    | 8, _ =>
      refine og_skip (k := 3) (b := true) ho (d := some 91) (by kernel_rfl) (t := 86) (by kernel_rfl) (show a'.eval (.tmp 86) = .bool false from h.e 3 (by decide) (dep ho hall 3 (by kernel_rfl)) _ rfl) ?_
      exact h.next hcg0 hKD ho hall (by decide) (by decide) (by decide) inj hz hu rfl
    | 9, _ =>
      refine og_skip (k := 3) (b := true) ho (d := some 92) (by kernel_rfl) (t := 86) (by kernel_rfl) (show a'.eval (.tmp 86) = .bool false from h.e 3 (by decide) (dep ho hall 3 (by kernel_rfl)) _ rfl) ?_
      exact h.next hcg0 hKD ho hall (by decide) (by decide) (by decide) inj hz hu rfl
    | 10, _ =>
      refine og_skip (k := 3) (b := true) ho (d := some 93) (by kernel_rfl) (t := 86) (by kernel_rfl) (show a'.eval (.tmp 86) = .bool false from h.e 3 (by decide) (dep ho hall 3 (by kernel_rfl)) _ rfl) ?_
      exact h.next hcg0 hKD ho hall (by decide) (by decide) (by decide) inj hz hu rfl
    | 11, _ =>
      refine og_skip (k := 3) (b := true) ho (d := some 94) (by kernel_rfl) (t := 86) (by kernel_rfl) (show a'.eval (.tmp 86) = .bool false from h.e 3 (by decide) (dep ho hall 3 (by kernel_rfl)) _ rfl) ?_
      exact h.next hcg0 hKD ho hall (by decide) (by decide) (by decide) inj hz hu rfl
    | 12, _ =>
      refine og_skip (k := 3) (b := true) ho (d := some 95) (by kernel_rfl) (t := 86) (by kernel_rfl) (show a'.eval (.tmp 86) = .bool false from h.e 3 (by decide) (dep ho hall 3 (by kernel_rfl)) _ rfl) ?_
      exact h.next hcg0 hKD ho hall (by decide) (by decide) (by decide) inj hz hu rfl
    | 13, _ =>
      refine og_skip (k := 3) (b := true) ho (d := some 96) (by kernel_rfl) (t := 86) (by kernel_rfl) (show a'.eval (.tmp 86) = .bool false from h.e 3 (by decide) (dep ho hall 3 (by kernel_rfl)) _ rfl) ?_
      exact h.next hcg0 hKD ho hall (by decide) (by decide) (by decide) inj hz hu rfl
    | 14, _ =>
      refine og_skip (k := 3) (b := true) ho (d := some 97) (by kernel_rfl) (t := 86) (by kernel_rfl) (show a'.eval (.tmp 86) = .bool false from h.e 3 (by decide) (dep ho hall 3 (by kernel_rfl)) _ rfl) ?_
      exact h.next hcg0 hKD ho hall (by decide) (by decide) (by decide) inj hz hu rfl
    | 15, _ =>
      refine og_skip (k := 3) (b := true) ho (d := some 98) (by kernel_rfl) (t := 86) (by kernel_rfl) (show a'.eval (.tmp 86) = .bool false from h.e 3 (by decide) (dep ho hall 3 (by kernel_rfl)) _ rfl) ?_
      exact h.next hcg0 hKD ho hall (by decide) (by decide) (by decide) inj hz hu rfl
    | 16, _ =>
      refine og_skip (k := 3) (b := true) ho (d := some 99) (by kernel_rfl) (t := 86) (by kernel_rfl) (show a'.eval (.tmp 86) = .bool false from h.e 3 (by decide) (dep ho hall 3 (by kernel_rfl)) _ rfl) ?_
      exact h.next hcg0 hKD ho hall (by decide) (by decide) (by decide) inj hz hu rfl
    | 17, _ =>
      refine og_skip (k := 3) (b := true) ho (d := some 100) (by kernel_rfl) (t := 86) (by kernel_rfl) (show a'.eval (.tmp 86) = .bool false from h.e 3 (by decide) (dep ho hall 3 (by kernel_rfl)) _ rfl) ?_
      exact h.next hcg0 hKD ho hall (by decide) (by decide) (by decide) inj hz hu rfl
    | 18, _ =>
      refine og_skip (k := 3) (b := true) ho (d := some 101) (by kernel_rfl) (t := 86) (by kernel_rfl) (show a'.eval (.tmp 86) = .bool false from h.e 3 (by decide) (dep ho hall 3 (by kernel_rfl)) _ rfl) ?_
      exact h.next hcg0 hKD ho hall (by decide) (by decide) (by decide) inj hz hu rfl
    | 19, _ =>
      refine og_skipU (k := 18) (b := false) ho (d := some 102) (by kernel_rfl) (t := 101) (by kernel_rfl) (show a'.eval (.tmp 101) = undef from h.e 18 (by decide) (dep ho hall 18 (by kernel_rfl)) _ rfl) ?_
      exact h.next hcg0 hKD ho hall (by decide) (by decide) (by decide) inj hz hu rfl
    | 20, _ =>
      refine og_skipU (k := 18) (b := false) ho (d := some 103) (by kernel_rfl) (t := 101) (by kernel_rfl) (show a'.eval (.tmp 101) = undef from h.e 18 (by decide) (dep ho hall 18 (by kernel_rfl)) _ rfl) ?_
      exact h.next hcg0 hKD ho hall (by decide) (by decide) (by decide) inj hz hu rfl
    | 21, _ =>
      refine og_skipU (k := 18) (b := false) ho (d := some 104) (by kernel_rfl) (t := 101) (by kernel_rfl) (show a'.eval (.tmp 101) = undef from h.e 18 (by decide) (dep ho hall 18 (by kernel_rfl)) _ rfl) ?_
      exact h.next hcg0 hKD ho hall (by decide) (by decide) (by decide) inj hz hu rfl
    | 22, _ =>
      refine og_skipU (k := 18) (b := false) ho (d := some 105) (by kernel_rfl) (t := 101) (by kernel_rfl) (show a'.eval (.tmp 101) = undef from h.e 18 (by decide) (dep ho hall 18 (by kernel_rfl)) _ rfl) ?_
      exact h.next hcg0 hKD ho hall (by decide) (by decide) (by decide) inj hz hu rfl
    | 23, _ =>
      refine og_skipU (k := 18) (b := false) ho (d := some 106) (by kernel_rfl) (t := 101) (by kernel_rfl) (show a'.eval (.tmp 101) = undef from h.e 18 (by decide) (dep ho hall 18 (by kernel_rfl)) _ rfl) ?_
      exact h.next hcg0 hKD ho hall (by decide) (by decide) (by decide) inj hz hu rfl
    | 24, _ =>
      refine og_skipU (k := 18) (b := false) ho (d := some 107) (by kernel_rfl) (t := 101) (by kernel_rfl) (show a'.eval (.tmp 101) = undef from h.e 18 (by decide) (dep ho hall 18 (by kernel_rfl)) _ rfl) ?_
      exact h.next hcg0 hKD ho hall (by decide) (by decide) (by decide) inj hz hu rfl
    | 25, _ =>
      refine og_skipU (k := 18) (b := false) ho (d := some 108) (by kernel_rfl) (t := 101) (by kernel_rfl) (show a'.eval (.tmp 101) = undef from h.e 18 (by decide) (dep ho hall 18 (by kernel_rfl)) _ rfl) ?_
      exact h.next hcg0 hKD ho hall (by decide) (by decide) (by decide) inj hz hu rfl
    | 26, _ =>
      refine og_skipU (k := 18) (b := false) ho (d := some 109) (by kernel_rfl) (t := 101) (by kernel_rfl) (show a'.eval (.tmp 101) = undef from h.e 18 (by decide) (dep ho hall 18 (by kernel_rfl)) _ rfl) ?_
      exact h.next hcg0 hKD ho hall (by decide) (by decide) (by decide) inj hz hu rfl
    | 27, _ =>
      refine og_skipU (k := 18) (b := false) ho (d := some 110) (by kernel_rfl) (t := 101) (by kernel_rfl) (show a'.eval (.tmp 101) = undef from h.e 18 (by decide) (dep ho hall 18 (by kernel_rfl)) _ rfl) ?_
      exact h.next hcg0 hKD ho hall (by decide) (by decide) (by decide) inj hz hu rfl
    | 28, _ =>
      refine og_skipU (k := 18) (b := false) ho (d := some 111) (by kernel_rfl) (t := 101) (by kernel_rfl) (show a'.eval (.tmp 101) = undef from h.e 18 (by decide) (dep ho hall 18 (by kernel_rfl)) _ rfl) ?_
      exact h.next hcg0 hKD ho hall (by decide) (by decide) (by decide) inj hz hu rfl
    | 29, _ =>
      refine og_skipU (k := 18) (b := false) ho (d := some 112) (by kernel_rfl) (t := 101) (by kernel_rfl) (show a'.eval (.tmp 101) = undef from h.e 18 (by decide) (dep ho hall 18 (by kernel_rfl)) _ rfl) ?_
      exact h.next hcg0 hKD ho hall (by decide) (by decide) (by decide) inj hz hu rfl
    | 30, _ =>
      refine og_skipU (k := 18) (b := false) ho (d := some 113) (by kernel_rfl) (t := 101) (by kernel_rfl) (show a'.eval (.tmp 101) = undef from h.e 18 (by decide) (dep ho hall 18 (by kernel_rfl)) _ rfl) ?_
      exact h.next hcg0 hKD ho hall (by decide) (by decide) (by decide) inj hz hu rfl
    | 31, _ =>
      refine og_skipU (k := 18) (b := false) ho (d := some 114) (by kernel_rfl) (t := 101) (by kernel_rfl) (show a'.eval (.tmp 101) = undef from h.e 18 (by decide) (dep ho hall 18 (by kernel_rfl)) _ rfl) ?_
      exact h.next hcg0 hKD ho hall (by decide) (by decide) (by decide) inj hz hu rfl
    | 32, _ =>
      refine og_skipU (k := 18) (b := false) ho (d := some 115) (by kernel_rfl) (t := 101) (by kernel_rfl) (show a'.eval (.tmp 101) = undef from h.e 18 (by decide) (dep ho hall 18 (by kernel_rfl)) _ rfl) ?_
      exact h.next hcg0 hKD ho hall (by decide) (by decide) (by decide) inj hz hu rfl
    | 33, _ =>
      refine og_skipU (k := 18) (b := false) ho (d := some 116) (by kernel_rfl) (t := 101) (by kernel_rfl) (show a'.eval (.tmp 101) = undef from h.e 18 (by decide) (dep ho hall 18 (by kernel_rfl)) _ rfl) ?_
      exact h.next hcg0 hKD ho hall (by decide) (by decide) (by decide) inj hz hu rfl
    | 34, _ =>
      refine og_skip (k := 3) (b := true) ho (d := some 117) (by kernel_rfl) (t := 86) (by kernel_rfl) (show a'.eval (.tmp 86) = .bool false from h.e 3 (by decide) (dep ho hall 3 (by kernel_rfl)) _ rfl) ?_
      exact h.next hcg0 hKD ho hall (by decide) (by decide) (by decide) inj hz hu rfl
    | 35, _ =>
      obtain ⟨h1, h2, h3⟩ := flds (d := some 118) (p := Op.pick (.tmp 86) (.tmp 117) (.const (.bool false))) (g := none) ho (by kernel_rfl)
      have g0 := (show a'.eval (.tmp 86) = .bool false from h.e 3 (by decide) (dep ho hall 3 (by kernel_rfl)) _ rfl)
      have g1 := (show a'.eval (.tmp 117) = undef from h.e 34 (by decide) (dep ho hall 34 (by kernel_rfl)) _ rfl)
      refine og_plain ho h3 trivial ?_
      unfold Oper.wp
      simp only [execOp, h2, g0, g1]
      go_simp
      exact h.next hcg0 hKD ho hall (by decide) (by decide) (by decide) inj hz hu rfl
    | 36, _ =>
      refine og_move (g := none) ho (.tmp 118) (d := some 119) (by kernel_rfl) trivial (show a'.eval (.tmp 118) = .bool false from h.e 35 (by decide) (dep ho hall 35 (by kernel_rfl)) _ rfl) ?_
      exact h.next hcg0 hKD ho hall (by decide) (by decide) (by decide) inj hz hu rfl
    | 37, _ =>
      refine og_move (g := some (36, false)) ho (.tmp 11) (d := some 120) (by kernel_rfl) ⟨119, by kernel_rfl, (show a'.eval (.tmp 119) = .bool false from h.e 36 (by decide) (dep ho hall 36 (by kernel_rfl)) _ rfl)⟩ q11 ?_
      exact h.next hcg0 hKD ho hall (by decide) (by decide) (by decide) inj hz hu rfl
    | 38, _ =>
      refine og_move (g := some (36, false)) ho (.tmp 10) (d := some 121) (by kernel_rfl) ⟨119, by kernel_rfl, (show a'.eval (.tmp 119) = .bool false from h.e 36 (by decide) (dep ho hall 36 (by kernel_rfl)) _ rfl)⟩ q10 ?_
      exact h.next hcg0 hKD ho hall (by decide) (by decide) (by decide) inj hz hu rfl
    | 39, _ =>
      have i1 : decide (sn ≤ k) = true := by simp; omega
      obtain ⟨h1, h2, h3⟩ := flds (d := some 122) (p := Op.binOp .geq 3 (.tmp 120) (.tmp 121) 3) (g := some (36, false)) ho (by kernel_rfl)
      have g0 := (show a'.eval (.tmp 120) = .int .i64 (k : Int) from h.e 37 (by decide) (dep ho hall 37 (by kernel_rfl)) _ rfl)
      have g1 := (show a'.eval (.tmp 121) = .int .i64 (sn : Int) from h.e 38 (by decide) (dep ho hall 38 (by kernel_rfl)) _ rfl)
      refine og_plain ho h3 ⟨119, by kernel_rfl, (show a'.eval (.tmp 119) = .bool false from h.e 36 (by decide) (dep ho hall 36 (by kernel_rfl)) _ rfl)⟩ ?_
      unfold Oper.wp
      simp only [execOp, h2, g0, g1]
      go_simp
      exact h.next hcg0 hKD ho hall (by decide) (by decide) (by decide) inj hz hu rfl
    | 40, _ =>
      refine og_move (g := some (36, false)) ho (.tmp 122) (d := some 123) (by kernel_rfl) ⟨119, by kernel_rfl, (show a'.eval (.tmp 119) = .bool false from h.e 36 (by decide) (dep ho hall 36 (by kernel_rfl)) _ rfl)⟩ (show a'.eval (.tmp 122) = .bool true from h.e 39 (by decide) (dep ho hall 39 (by kernel_rfl)) _ rfl) ?_
      exact h.next hcg0 hKD ho hall (by decide) (by decide) (by decide) inj hz hu rfl
    | 41, _ =>
      refine og_move (g := some (40, true)) ho (.tmp 5) (d := some 124) (by kernel_rfl) ⟨123, by kernel_rfl, (show a'.eval (.tmp 123) = .bool true from h.e 40 (by decide) (dep ho hall 40 (by kernel_rfl)) _ rfl)⟩ q5 ?_
      exact h.next hcg0 hKD ho hall (by decide) (by decide) (by decide) inj hz hu rfl
    | 42, _ =>
      refine og_move (g := some (40, true)) ho (.tmp 9) (d := some 125) (by kernel_rfl) ⟨123, by kernel_rfl, (show a'.eval (.tmp 123) = .bool true from h.e 40 (by decide) (dep ho hall 40 (by kernel_rfl)) _ rfl)⟩ q9 ?_
      exact h.next hcg0 hKD ho hall (by decide) (by decide) (by decide) inj hz hu rfl
    | 43, _ =>
      have i1 : (u : Int) < (q : Int) := by omega
      obtain ⟨h1, h2, h3⟩ := flds (d := some 126) (p := Op.indexAddr 79 (.tmp 124) (.tmp 125)) (g := some (40, true)) ho (by kernel_rfl)
      have g0 := (show a'.eval (.tmp 124) = .slice (some ⟨gg, 0, none⟩) q c5 from h.e 41 (by decide) (dep ho hall 41 (by kernel_rfl)) _ rfl)
      have g1 := (show a'.eval (.tmp 125) = .int .i64 (u : Int) from h.e 42 (by decide) (dep ho hall 42 (by kernel_rfl)) _ rfl)
      refine og_plain ho h3 ⟨123, by kernel_rfl, (show a'.eval (.tmp 123) = .bool true from h.e 40 (by decide) (dep ho hall 40 (by kernel_rfl)) _ rfl)⟩ ?_
      unfold Oper.wp
      simp only [execOp, h2, g0, g1]
      go_simp
      exact h.next hcg0 hKD ho hall (by decide) (by decide) (by decide) inj hz hu rfl
    | 44, _ =>
      have c0 := h.w.1.cellK hcg
      obtain ⟨h1, h2, h3⟩ := flds (d := some 127) (p := Op.load 42 (.tmp 126)) (g := some (40, true)) ho (by kernel_rfl)
      have g0 := (show a'.eval (.tmp 126) = .pointer (some ⟨gg, u, none⟩) from h.e 43 (by decide) (dep ho hall 43 (by kernel_rfl)) _ rfl)
      refine og_plain ho h3 ⟨123, by kernel_rfl, (show a'.eval (.tmp 123) = .bool true from h.e 40 (by decide) (dep ho hall 40 (by kernel_rfl)) _ rfl)⟩ ?_
      unfold Oper.wp
      simp only [execOp, h2, g0]
      go_simp
      exact h.next hcg0 hKD ho hall (by decide) (by decide) (by decide) inj hz hu rfl
    | 45, _ =>
      refine og_move (g := some (40, true)) ho (.tmp 11) (d := some 128) (by kernel_rfl) ⟨123, by kernel_rfl, (show a'.eval (.tmp 123) = .bool true from h.e 40 (by decide) (dep ho hall 40 (by kernel_rfl)) _ rfl)⟩ q11 ?_
      exact h.next hcg0 hKD ho hall (by decide) (by decide) (by decide) inj hz hu rfl
    | 46, _ =>
      have i1 : (k : Int) < (sn : Int) + 64 := by omega
      obtain ⟨h1, h2, h3⟩ := flds (d := some 129) (p := Op.indexAddr 42 (.tmp 127) (.tmp 128)) (g := some (40, true)) ho (by kernel_rfl)
      have g0 := (show a'.eval (.tmp 127) = .slice (some ⟨hh, 0, none⟩) (sn + 64) dd from h.e 44 (by decide) (dep ho hall 44 (by kernel_rfl)) _ rfl)
      have g1 := (show a'.eval (.tmp 128) = .int .i64 (k : Int) from h.e 45 (by decide) (dep ho hall 45 (by kernel_rfl)) _ rfl)
      refine og_plain ho h3 ⟨123, by kernel_rfl, (show a'.eval (.tmp 123) = .bool true from h.e 40 (by decide) (dep ho hall 40 (by kernel_rfl)) _ rfl)⟩ ?_
      unfold Oper.wp
      simp only [execOp, h2, g0, g1]
      go_simp
      exact h.next hcg0 hKD ho hall (by decide) (by decide) (by decide) inj hz hu rfl
    | 47, _ =>
      have c0 := h.w.1.cellK h0
      obtain ⟨h1, h2, h3⟩ := flds (d := some 130) (p := Op.load 9 (.tmp 129)) (g := some (40, true)) ho (by kernel_rfl)
      have g0 := (show a'.eval (.tmp 129) = .pointer (some ⟨hh, k, none⟩) from h.e 46 (by decide) (dep ho hall 46 (by kernel_rfl)) _ rfl)
      refine og_plain ho h3 ⟨123, by kernel_rfl, (show a'.eval (.tmp 123) = .bool true from h.e 40 (by decide) (dep ho hall 40 (by kernel_rfl)) _ rfl)⟩ ?_
      unfold Oper.wp
      simp only [execOp, h2, g0]
      go_simp
      exact h.next hcg0 hKD ho hall (by decide) (by decide) (by decide) inj hz hu rfl
    | 48, _ =>
      refine og_move (g := some (40, true)) ho (.tmp 9) (d := some 131) (by kernel_rfl) ⟨123, by kernel_rfl, (show a'.eval (.tmp 123) = .bool true from h.e 40 (by decide) (dep ho hall 40 (by kernel_rfl)) _ rfl)⟩ q9 ?_
      exact h.next hcg0 hKD ho hall (by decide) (by decide) (by decide) inj hz hu rfl
    | 49, _ =>
      obtain ⟨h1, h2, h3⟩ := flds (d := some 132) (p := Op.convert 3 5 (.tmp 131)) (g := some (40, true)) ho (by kernel_rfl)
      have g0 := (show a'.eval (.tmp 131) = .int .i64 (u : Int) from h.e 48 (by decide) (dep ho hall 48 (by kernel_rfl)) _ rfl)
      refine og_plain ho h3 ⟨123, by kernel_rfl, (show a'.eval (.tmp 123) = .bool true from h.e 40 (by decide) (dep ho hall 40 (by kernel_rfl)) _ rfl)⟩ ?_
      unfold Oper.wp
      simp only [execOp, h2, g0]
      go_simp
      exact h.next hcg0 hKD ho hall (by decide) (by decide) (by decide) inj hz hu rfl
    | 50, _ =>
      refine og_move (g := some (40, true)) ho (.tmp 11) (d := some 133) (by kernel_rfl) ⟨123, by kernel_rfl, (show a'.eval (.tmp 123) = .bool true from h.e 40 (by decide) (dep ho hall 40 (by kernel_rfl)) _ rfl)⟩ q11 ?_
      exact h.next hcg0 hKD ho hall (by decide) (by decide) (by decide) inj hz hu rfl
    | 51, _ =>
      refine og_move (g := some (40, true)) ho (.tmp 10) (d := some 134) (by kernel_rfl) ⟨123, by kernel_rfl, (show a'.eval (.tmp 123) = .bool true from h.e 40 (by decide) (dep ho hall 40 (by kernel_rfl)) _ rfl)⟩ q10 ?_
      exact h.next hcg0 hKD ho hall (by decide) (by decide) (by decide) inj hz hu rfl
    | 52, _ =>
      have hww : IntKind.i64.wrap (p : Int) = (p : Int) := by rw [IntKind.wrap_i64]; omega
      obtain ⟨h1, h2, h3⟩ := flds (d := some 135) (p := Op.binOp .sub 3 (.tmp 133) (.tmp 134) 3) (g := some (40, true)) ho (by kernel_rfl)
      have g0 := (show a'.eval (.tmp 133) = .int .i64 (k : Int) from h.e 50 (by decide) (dep ho hall 50 (by kernel_rfl)) _ rfl)
      have g1 := (show a'.eval (.tmp 134) = .int .i64 (sn : Int) from h.e 51 (by decide) (dep ho hall 51 (by kernel_rfl)) _ rfl)
      refine og_plain ho h3 ⟨123, by kernel_rfl, (show a'.eval (.tmp 123) = .bool true from h.e 40 (by decide) (dep ho hall 40 (by kernel_rfl)) _ rfl)⟩ ?_
      unfold Oper.wp
      simp only [execOp, h2, g0, g1]
      go_simp
      exact h.next hcg0 hKD ho hall (by decide) (by decide) (by decide) inj hz hu rfl
    | 53, _ =>
      obtain ⟨h1, h2, h3⟩ := flds (d := some 136) (p := Op.convert 3 5 (.tmp 135)) (g := some (40, true)) ho (by kernel_rfl)
      have g0 := (show a'.eval (.tmp 135) = .int .i64 (p : Int) from h.e 52 (by decide) (dep ho hall 52 (by kernel_rfl)) _ rfl)
      refine og_plain ho h3 ⟨123, by kernel_rfl, (show a'.eval (.tmp 123) = .bool true from h.e 40 (by decide) (dep ho hall 40 (by kernel_rfl)) _ rfl)⟩ ?_
      unfold Oper.wp
      simp only [execOp, h2, g0]
      go_simp
      exact h.next hcg0 hKD ho hall (by decide) (by decide) (by decide) inj hz hu rfl
    | 54, _ =>
      obtain ⟨h1, h2, h3⟩ := flds (d := some 137) (p := Op.buildSlice 35 3 #[(0, .tmp 132), (1, .const (.int .u8 33)), (2, .tmp 136)]) (g := some (40, true)) ho (by kernel_rfl)
      have g0 := (show a'.eval (.tmp 132) = .int .u8 (bi8 : Int) from h.e 49 (by decide) (dep ho hall 49 (by kernel_rfl)) _ rfl)
      have g1 := (show a'.eval (.tmp 136) = .int .u8 (bk8 : Int) from h.e 53 (by decide) (dep ho hall 53 (by kernel_rfl)) _ rfl)
      have b0' : a'.tmps[132]?.getD undef = .int .u8 (bi8 : Int) := by simpa [Act.eval] using g0
      have b1' : a'.tmps[136]?.getD undef = .int .u8 (bk8 : Int) := by simpa [Act.eval] using g1
      have hsz := h.w.2.1 hno
      refine og_plain ho h3 ⟨123, by kernel_rfl, (show a'.eval (.tmp 123) = .bool true from h.e 40 (by decide) (dep ho hall 40 (by kernel_rfl)) _ rfl)⟩ ?_
      unfold Oper.wp
      simp only [execOp, h2]
      go_simp
      refine h.put ho hall (by decide) inj hz hu (fun v' hv' => by injection hv') (fun val h1 h2 => ?_)
      exact h.w.made hu hsz
    | 55, _ =>
      obtain ⟨h1, h2, h3⟩ := flds (d := some 138) (p := Op.convert 35 9 (.tmp 137)) (g := some (40, true)) ho (by kernel_rfl)
      have g0 := (show a'.eval (.tmp 137) = .slice (some ⟨w.heap.size, 0, none⟩) 3 3 from h.e 54 (by decide) (dep ho hall 54 (by kernel_rfl)) _ rfl)
      have hc := hcv u' (h.w.2.2 (dep ho hall 54 (by kernel_rfl)))
      refine og_plain ho h3 ⟨123, by kernel_rfl, (show a'.eval (.tmp 123) = .bool true from h.e 40 (by decide) (dep ho hall 40 (by kernel_rfl)) _ rfl)⟩ ?_
      unfold Oper.wp
      simp only [execOp, h2, g0]
      go_simp
      exact h.next hcg0 hKD ho hall (by decide) (by decide) (by decide) inj hz hu rfl
    | 56, _ =>
      obtain ⟨h1, h2, h3⟩ := flds (d := some 139) (p := Op.binOp .neq 9 (.tmp 130) (.tmp 138) 9) (g := some (40, true)) ho (by kernel_rfl)
      have g0 := (show a'.eval (.tmp 130) = .string ms from h.e 47 (by decide) (dep ho hall 47 (by kernel_rfl)) _ rfl)
      have g1 := (show a'.eval (.tmp 138) = .string ms from h.e 55 (by decide) (dep ho hall 55 (by kernel_rfl)) _ rfl)
      refine og_plain ho h3 ⟨123, by kernel_rfl, (show a'.eval (.tmp 123) = .bool true from h.e 40 (by decide) (dep ho hall 40 (by kernel_rfl)) _ rfl)⟩ ?_
      unfold Oper.wp
      simp only [execOp, h2, g0, g1]
      go_simp
      exact h.next hcg0 hKD ho hall (by decide) (by decide) (by decide) inj hz hu rfl
    | 57, _ =>
      obtain ⟨h1, h2, h3⟩ := flds (d := some 140) (p := Op.pick (.tmp 123) (.tmp 139) (.const (.bool false))) (g := some (36, false)) ho (by kernel_rfl)
      have g0 := (show a'.eval (.tmp 123) = .bool true from h.e 40 (by decide) (dep ho hall 40 (by kernel_rfl)) _ rfl)
      have g1 := (show a'.eval (.tmp 139) = .bool false from h.e 56 (by decide) (dep ho hall 56 (by kernel_rfl)) _ rfl)
      refine og_plain ho h3 ⟨119, by kernel_rfl, (show a'.eval (.tmp 119) = .bool false from h.e 36 (by decide) (dep ho hall 36 (by kernel_rfl)) _ rfl)⟩ ?_
      unfold Oper.wp
      simp only [execOp, h2, g0, g1]
      go_simp
      exact h.next hcg0 hKD ho hall (by decide) (by decide) (by decide) inj hz hu rfl
    | 58, _ =>
      obtain ⟨h1, h2, h3⟩ := flds (d := some 141) (p := Op.pick (.tmp 119) (.const (.bool true)) (.tmp 140)) (g := none) ho (by kernel_rfl)
      have g0 := (show a'.eval (.tmp 119) = .bool false from h.e 36 (by decide) (dep ho hall 36 (by kernel_rfl)) _ rfl)
      have g1 := (show a'.eval (.tmp 140) = .bool false from h.e 57 (by decide) (dep ho hall 57 (by kernel_rfl)) _ rfl)
      refine og_plain ho h3 trivial ?_
      unfold Oper.wp
      simp only [execOp, h2, g0, g1]
      go_simp
      exact h.next hcg0 hKD ho hall (by decide) (by decide) (by decide) inj hz hu rfl
    | i + 59, hi => omega
  · rintro L a' u' h hall
    rw [opsGwB_size] at hall
    rw [h.done hz]
    refine hK L _ u' hall h.w (fun j => ?_)
    by_cases hj : j ∈ DGwB
    · cases hv : (VGwB gL K Kc u k sn gg q c5 hh dd bi8 bk8 ms p w) j with
      | none => exact .inl rfl
      | some v =>
        refine .inr (.inl ?_)
        have hjN : j < 59 := by
          have hh : DGwB.all (fun i => decide (i < 59)) = true := by kernel_rfl
          exact of_decide_eq_true (List.all_eq_true.1 hh j hj)
        rw [h.e j hj (hall j hjN) v hv]
    · exact .inr (.inr hj)
  · intro L hL
    refine JR.start hL ?_
    exact WBu.start (hL _)


end Go.Proofs.Ytlmgogonghafeab
