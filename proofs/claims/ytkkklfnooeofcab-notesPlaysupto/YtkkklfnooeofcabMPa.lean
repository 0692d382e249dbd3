/-
  Texts put together: Pa Pb.
-/
import Derived.Test.YtkkklfnooeofcabIg
/-! Pa -/
namespace Go.Proofs.Ytkkklfnooeofcab
open Go.RowKit Go.Maps Go.ChangeMaps Go.MapKept Go.WideMaps
set_option linter.unusedVariables false

theorem isE_cells {w : World} {ad : Addr} {n c : Nat} {xs : List El} (h : IsE w (some ad) n c xs) (hn : 0 < n) : ∀ j u, (cl elc xs)[j]? = some u → w.cell? (ad.add j) = some u := by
  obtain ⟨b, off, e, hlt, hc⟩ := h.2.2.2 hn
  injection e with e
  subst e
  intro j u hj
  rw [add_lit]
  exact hc j u hj
theorem MP.below {w w' : World} {b : Nat} {L : List (Nat × Value)} (h : MP w b L) (hb : Below w.heap.size w w') : MP w' b L := h.fr (S := fun _ => False) (Fr.of_below hb) (fun h => h)

/-- The new note on the map. -/
def FinP (w : World) (b G : Nat) (cc : Int) (s : ByteArray) (es : List El) (L0 : List (Nat × Value)) (u : World) : Prop :=
  ∃ x g v, NK u ⟨⟨G, cc, s, false, [], es⟩, x, none, g, .slice none 0 0, v⟩ ∧ w.heap.size ≤ x ∧ w.heap.size ≤ g ∧ MP u b (L0 ++ [(G, .pointer (some ⟨x, 0, none⟩))]) ∧ Fr (· = b) w u

def WPut (w : World) (b G : Nat) (cc : Int) (s : ByteArray) (es : List El) (L0 : List (Nat × Value)) (L : Nat → Prop) (val : Nat → Value) (u : World) : Prop :=
  (¬ L 23 → Below w.heap.size w u) ∧ (L 20 → ¬ L 23 → ∃ g, SE u (some g) (val 20) es ∧ w.heap.size ≤ g) ∧
  (L 21 → val 21 = .agg #[.int .i64 (G : Int), .int .i64 cc, .string s, .int .i64 0, .int .i64 0, .bool false, .bool false, .slice none 0 0, val 20]) ∧
  (L 22 → ¬ L 23 → ∃ x, val 22 = .pointer (some ⟨x, 0, none⟩) ∧ w.heap.size ≤ x ∧ u.heap[x]? = some (.cells #[.int .i64 (G : Int), .int .i64 cc, .string s, .int .i64 0, .int .i64 0, .bool false, .bool false, .slice none 0 0, val 20] 76 (0, 0))) ∧
  (L 23 → FinP w b G cc s es L0 u)

section
variable {w : World} {b G : Nat} {cc : Int} {s : ByteArray} {es : List El} {L0 : List (Nat × Value)} {L L' : Nat → Prop} {val val' : Nat → Value} {u u' : World}
theorem WPut.call {i : Nat} (h : WPut w b G cc s es L0 L val u) (hu : ∀ j, L' j ↔ (j = i ∨ L j)) (hn : ¬ L 23) (hb : Below u.heap.size u u') (e0 : val' 20 = val 20) (e1 : val' 21 = val 21) (e2 : val' 22 = val 22) (hi : i ≠ 20 ∧ i ≠ 21 ∧ i ≠ 22 ∧ i ≠ 23 := by decide) : WPut w b G cc s es L0 L' val' u' := by
  obtain ⟨h1, h2, h3, h4, h5⟩ := h
  have l : ∀ k, k ≠ i → (L' k → L k) := fun k hk hl => ((hu k).1 hl).resolve_left hk
  have hn' : ¬ L' 23 := fun hl => hn (l 23 (by omega) hl)
  refine ⟨fun _ => (h1 hn).trans (hb.mono (h1 hn).size), fun a _ => ?_, fun a => ?_, fun a _ => ?_, fun a => absurd a hn'⟩
  · obtain ⟨g, q1, q2⟩ := h2 (l 20 (by omega) a) hn
    exact ⟨g, by rw [e0]; exact q1.below hb, q2⟩
  · rw [e1, e0]
    exact h3 (l 21 (by omega) a)
  · obtain ⟨x, q1, q2, q3⟩ := h4 (l 22 (by omega) a) hn
    exact ⟨x, by rw [e2]; exact q1, q2, by rw [e0]; exact (Fr.of_below hb : Fr (fun _ => False) u u').keeps q3 (fun h => h)⟩
theorem WPut.clone {g : Nat} (h : WPut w b G cc s es L0 L val u) (hu : ∀ j, L' j ↔ (j = 20 ∨ L j)) (hn : ¬ L 23) (hn1 : ¬ L 21) (hn2 : ¬ L 22) (hb : Below u.heap.size u u') (hS : SE u' (some g) (val' 20) es) (hg : u.heap.size ≤ g) : WPut w b G cc s es L0 L' val' u' := by
  obtain ⟨h1, h2, h3, h4, h5⟩ := h
  have l : ∀ k, k ≠ 20 → (L' k → L k) := fun k hk hl => ((hu k).1 hl).resolve_left hk
  have hB := h1 hn
  exact ⟨fun _ => hB.trans (hb.mono hB.size), fun a _ => ⟨g, hS, Nat.le_trans hB.size hg⟩, fun a => absurd (l 21 (by omega) a) hn1, fun a _ => absurd (l 22 (by omega) a) hn2, fun a => absurd (l 23 (by omega) a) hn⟩
theorem WPut.build (h : WPut w b G cc s es L0 L val u) (hu : ∀ j, L' j ↔ (j = 21 ∨ L j)) (hn : ¬ L 23) (hn2 : ¬ L 22) (e0 : val' 20 = val 20) (hv : val' 21 = .agg #[.int .i64 (G : Int), .int .i64 cc, .string s, .int .i64 0, .int .i64 0, .bool false, .bool false, .slice none 0 0, val' 20]) : WPut w b G cc s es L0 L' val' u := by
  obtain ⟨h1, h2, h3, h4, h5⟩ := h
  have l : ∀ k, k ≠ 21 → (L' k → L k) := fun k hk hl => ((hu k).1 hl).resolve_left hk
  refine ⟨fun _ => h1 hn, fun a _ => ?_, fun _ => hv, fun a _ => absurd (l 22 (by omega) a) hn2, fun a => absurd (l 23 (by omega) a) hn⟩
  rw [e0]
  exact h2 (l 20 (by omega) a) hn
theorem WPut.box {v : Value} (h : WPut w b G cc s es L0 L val u) (hu : ∀ j, L' j ↔ (j = 22 ∨ L j)) (hn : ¬ L 23) (e0 : val' 20 = val 20) (e1 : val' 21 = val 21) (hv : val' 22 = .pointer (some ⟨u.heap.size, 0, none⟩)) (e2 : val' 20 = v) : WPut w b G cc s es L0 L' val' (u.alloc (.cells #[.int .i64 (G : Int), .int .i64 cc, .string s, .int .i64 0, .int .i64 0, .bool false, .bool false, .slice none 0 0, v] 76)) := by
  subst e2
  obtain ⟨h1, h2, h3, h4, h5⟩ := h
  have l : ∀ k, k ≠ 22 → (L' k → L k) := fun k hk hl => ((hu k).1 hl).resolve_left hk
  have hB := h1 hn
  refine ⟨fun _ => hB.alloc hB.size _, fun a _ => ?_, fun a => ?_, fun _ _ => ⟨_, hv, hB.size, heap_alloc_new u _⟩, fun a => absurd (l 23 (by omega) a) hn⟩
  · obtain ⟨g, q1, q2⟩ := h2 (l 20 (by omega) a) hn
    exact ⟨g, by rw [e0]; exact q1.fr (Fr.alloc (fun _ => False) _ _) (fun _ _ h => h), q2⟩
  · rw [e1, e0]
    exact h3 (l 21 (by omega) a)
theorem WPut.upd {x : Nat} (h : WPut w b G cc s es L0 L val u) (hu : ∀ j, L' j ↔ (j = 23 ∨ L j)) (hn : ¬ L 23) (l20 : L 20) (l22 : L 22) (hM : MP u' b (L0 ++ [(G, .pointer (some ⟨x, 0, none⟩))])) (hF : Fr (· = b) u u') (hb : b < w.heap.size) (hx : val 22 = .pointer (some ⟨x, 0, none⟩)) (hwf : ∀ x ∈ es, wfE x) : WPut w b G cc s es L0 L' val u' := by
  obtain ⟨h1, h2, h3, h4, h5⟩ := h
  have hB := h1 hn
  have l23 : L' 23 := (hu 23).2 (.inl rfl)
  obtain ⟨g, q1, q2⟩ := h2 l20 hn
  obtain ⟨x', p1, p2, p3⟩ := h4 l22 hn
  rw [hx] at p1
  obtain rfl : x = x' := by simpa using p1
  refine ⟨fun a => absurd l23 a, fun _ a => absurd l23 a, fun a => h3 (((hu 21).1 a).resolve_left (by omega)), fun _ a => absurd l23 a, fun _ => ⟨x, g, val 20, ⟨hF.keeps p3 (show ¬ x = b by omega), ⟨rfl, rfl⟩, q1.fr hF (fun k hk => by cases hk; omega), hwf⟩, p2, q2, hM, ?_⟩⟩
  exact (Fr.of_below hB : Fr (· = b) w u).trans hF
end

noncomputable def opsPut : Array Oper := (Try.f10.body.bind (opsAt 9)).getD #[]
theorem opsPut_size : opsPut.size = 24 := by kernel_rfl
theorem opsPut_earlier : Earlier opsPut := by
  have h : (List.range 24).all (fun i => ((opsPut[i]?).map (fun o => o.after.all (fun e => !Region.binds .any e || decide (e.on < i)))).getD true) = true := by kernel_rfl
  intro i o ho e he hb
  have hi : i < 24 := by
    have := (Array.getElem?_eq_some_iff.1 ho).1
    rwa [opsPut_size] at this
  have h1 := List.all_eq_true.1 h i (List.mem_range.2 hi)
  rw [ho] at h1
  simp only [Option.map_some, Option.getD_some, Array.all_eq_true'] at h1
  have h2 := h1 e he
  rw [hb] at h2
  simpa using h2
def slPut (j : Nat) : Nat := ([46, 47, 48, 49, 50, 51, 52, 53, 54, 55, 56, 57, 58, 59, 60, 61, 62, 63, 64, 65, 66, 67, 68, 923] : List Nat).getD j 0
def DPut : List Nat := [0, 1, 2, 3, 4, 5, 6, 7, 8, 9, 10, 11, 12, 13, 14, 15, 16, 17, 18, 19, 20, 21, 22]
def VPut (r b G ab off n c f t : Nat) (cc : Int) (s : ByteArray) (j : Nat) : Option Value := [some (.pointer (some ⟨r, 0, none⟩)), some (.pointer (some ⟨r, 0, none⟩)), some (.pointer (some ⟨r, 0, none⟩)), some (.map (some b)), some (.pointer (some ⟨r, 0, none⟩)), some (.pointer (some ⟨r, 0, none⟩)), some (.pointer (some ⟨r, 1, none⟩)), some (.int .i64 (G : Int)), some (.pointer (some ⟨r, 0, none⟩)), some (.pointer (some ⟨r, 0, none⟩)), some (.pointer (some ⟨r, 1, none⟩)), some (.int .i64 (G : Int)), some (.int .i64 cc), some (.string s), some (.string s), some (.agg #[.int .i64 (G : Int), .int .i64 cc, .string s, .int .i64 0, .int .i64 0, .bool false, .bool false, .slice none 0 0]), some (.slice (some ⟨ab, off, none⟩) n c), some (.int .i64 (f : Int)), some (.int .i64 (t : Int)), some (.slice (some ⟨ab, off + f * 3, none⟩) (t - f) (c - f)), none, none, none, none].getD j none
set_option maxRecDepth 100000 in
set_option maxHeartbeats 4000000 in
theorem regPut (a0 : Act) (w : World) {Q : Exit → Act → World → Prop} (r b G ab off n c f t : Nat) (cc : Int) (s : ByteArray) (es : List El) (L0 : List (Nat × Value)) (hel : Hid (es.length = t - f)) (hE : IsE w (some ⟨ab, off + f * 3, none⟩) (t - f) (c - f) es) (hm : 0 < t - f) (hab : ab < w.heap.size) (hroom : roomy es.length 24) (hf1 : f < t) (hf2 : t ≤ n) (hf3 : n ≤ c) (hf4 : c ≤ 9223372036854775807) (hf5 : f < c) (hr : r < w.heap.size) (hb : b < w.heap.size) (hr0 : w.cell? ⟨r, 0, none⟩ = some (.map (some b))) (hr1 : w.cell? ⟨r, 1, none⟩ = some (.int .i64 (G : Int))) (hMP : MP w b L0) (hG : ∀ p ∈ L0, p.1 ≠ G) (hL : L0.length ≤ 1000000) (hG2 : G ≤ 256) (hwf : ∀ x ∈ es, wfE x) (hzz : 68 < a0.tmps.size) (H0 : a0.eval (.tmp 0) = .pointer (some ⟨r, 0, none⟩)) (H1 : a0.eval (.tmp 1) = .slice (some ⟨ab, off, none⟩) n c) (H2 : a0.eval (.tmp 2) = .int .i64 (f : Int)) (H3 : a0.eval (.tmp 3) = .int .i64 (t : Int)) (H4 : a0.eval (.tmp 4) = .int .i64 cc) (H5 : a0.eval (.tmp 5) = .string s)
    (hK : ∀ (L : Nat → Prop) (val : Nat → Value) (u : World), (∀ i, i < 24 → L i) → WPut w b G cc s es L0 L val u → (∀ j, (VPut r b G ab off n c f t cc s) j = none ∨ (VPut r b G ab off n c f t cc s) j = some (val j) ∨ j ∉ DPut) → Q .normal (puts a0 (DPut.map fun j => (slPut j, val j))) u) :
    (Code.region 9 opsPut true).wp Try.prog Q a0 w := by
  have inj : ∀ i ∈ DPut, ∀ j ∈ DPut, slPut i = slPut j → i = j := by
    have h : DPut.all (fun i => DPut.all (fun j => decide (slPut i = slPut j → i = j))) = true := by kernel_rfl
    intro i hi j hj he
    exact (of_decide_eq_true (List.all_eq_true.1 (List.all_eq_true.1 h i hi) j hj)) he
  have hz : ∀ j ∈ DPut, slPut j < a0.tmps.size := by
    have h : DPut.all (fun i => decide (slPut i ≤ 68)) = true := by kernel_rfl
    intro j hj
    have := of_decide_eq_true (List.all_eq_true.1 h j hj)
    omega
  have hcg : ∀ (L L' : Nat → Prop) (val val' : Nat → Value) u, (∀ k ∈ ([20, 21, 22, 23] : List Nat), (L' k ↔ L k)) → (∀ k ∈ ([20, 21, 22] : List Nat), val' k = val k) → WPut w b G cc s es L0 L val u → WPut w b G cc s es L0 L' val' u := by
    intro L L' val val' u hl hv hw
    simp at hl hv
    unfold WPut at hw ⊢
    simp only [hl, hv]
    exact hw
  have hKD : ∀ k ∈ ([20, 21, 22] : List Nat), k ∈ DPut := by decide
  refine wp_region_inv (by kernel_rfl) opsPut_earlier (fun L a u => JR opsPut slPut DPut (VPut r b G ab off n c f t cc s) a0 (WPut w b G cc s es L0) L a u) ?_ ?_ ?_
  · rintro L L' a' u i o h ho hno hall hu
    clear hK
    have q0 := (h.fe.ev (j := 0) (by decide)).trans H0
    have q1 := (h.fe.ev (j := 1) (by decide)).trans H1
    have q2 := (h.fe.ev (j := 2) (by decide)).trans H2
    have q3 := (h.fe.ev (j := 3) (by decide)).trans H3
    have q4 := (h.fe.ev (j := 4) (by decide)).trans H4
    have q5 := (h.fe.ev (j := 5) (by decide)).trans H5
    have hi : i < 24 := by
      have := (Array.getElem?_eq_some_iff.1 ho).1
      rwa [opsPut_size] at this
    match i, hi with
    | 0, _ =>
      refine og_move (g := none) ho (.tmp 0) (d := some 46) (by kernel_rfl) trivial q0 ?_
      exact h.next hcg hKD ho hall (by decide) (by decide) (by decide) inj hz hu rfl
    | 1, _ =>
      refine og_nil (g := none) ho (.tmp 46) (d := some 47) (by kernel_rfl) trivial (show a'.eval (.tmp 46) = .pointer (some ⟨r, 0, none⟩) from h.e 0 (by decide) (dep ho hall 0 (by kernel_rfl)) _ rfl) ?_
      exact h.next hcg hKD ho hall (by decide) (by decide) (by decide) inj hz hu rfl
    | 2, _ =>
      obtain ⟨h1, h2, h3⟩ := flds (d := some 48) (p := Op.fieldAddr 53 (.tmp 47) 0) (g := none) ho (by kernel_rfl)
      have g0 := (show a'.eval (.tmp 47) = .pointer (some ⟨r, 0, none⟩) from h.e 1 (by decide) (dep ho hall 1 (by kernel_rfl)) _ rfl)
      refine og_plain ho h3 trivial ?_
      unfold Oper.wp
      simp only [execOp, h2, g0]
      go_simp
      exact h.next hcg hKD ho hall (by decide) (by decide) (by decide) inj hz hu rfl
    | 3, _ =>
      have hn : ¬ L 23 := fun hl => hno (anc_spec h.dc 60 23 3 (by kernel_rfl) hl)
      have c0 := ((h.w.1 hn).cell (p := ⟨r, 0, none⟩) hr).trans hr0
      obtain ⟨h1, h2, h3⟩ := flds (d := some 49) (p := Op.load 51 (.tmp 48)) (g := none) ho (by kernel_rfl)
      have g0 := (show a'.eval (.tmp 48) = .pointer (some ⟨r, 0, none⟩) from h.e 2 (by decide) (dep ho hall 2 (by kernel_rfl)) _ rfl)
      refine og_plain ho h3 trivial ?_
      unfold Oper.wp
      simp only [execOp, h2, g0]
      go_simp
      exact h.next hcg hKD ho hall (by decide) (by decide) (by decide) inj hz hu rfl
    | 4, _ =>
      refine og_move (g := none) ho (.tmp 0) (d := some 50) (by kernel_rfl) trivial q0 ?_
      exact h.next hcg hKD ho hall (by decide) (by decide) (by decide) inj hz hu rfl
    | 5, _ =>
      refine og_nil (g := none) ho (.tmp 50) (d := some 51) (by kernel_rfl) trivial (show a'.eval (.tmp 50) = .pointer (some ⟨r, 0, none⟩) from h.e 4 (by decide) (dep ho hall 4 (by kernel_rfl)) _ rfl) ?_
      exact h.next hcg hKD ho hall (by decide) (by decide) (by decide) inj hz hu rfl
    | 6, _ =>
      obtain ⟨h1, h2, h3⟩ := flds (d := some 52) (p := Op.fieldAddr 53 (.tmp 51) 1) (g := none) ho (by kernel_rfl)
      have g0 := (show a'.eval (.tmp 51) = .pointer (some ⟨r, 0, none⟩) from h.e 5 (by decide) (dep ho hall 5 (by kernel_rfl)) _ rfl)
      refine og_plain ho h3 trivial ?_
      unfold Oper.wp
      simp only [execOp, h2, g0]
      go_simp
      exact h.next hcg hKD ho hall (by decide) (by decide) (by decide) inj hz hu rfl
    | 7, _ =>
      have hn : ¬ L 23 := fun hl => hno (anc_spec h.dc 60 23 7 (by kernel_rfl) hl)
      have c0 := ((h.w.1 hn).cell (p := ⟨r, 1, none⟩) hr).trans hr1
      obtain ⟨h1, h2, h3⟩ := flds (d := some 53) (p := Op.load 3 (.tmp 52)) (g := none) ho (by kernel_rfl)
      have g0 := (show a'.eval (.tmp 52) = .pointer (some ⟨r, 1, none⟩) from h.e 6 (by decide) (dep ho hall 6 (by kernel_rfl)) _ rfl)
      refine og_plain ho h3 trivial ?_
      unfold Oper.wp
      simp only [execOp, h2, g0]
      go_simp
      exact h.next hcg hKD ho hall (by decide) (by decide) (by decide) inj hz hu rfl
    | 8, _ =>
      refine og_move (g := none) ho (.tmp 0) (d := some 54) (by kernel_rfl) trivial q0 ?_
      exact h.next hcg hKD ho hall (by decide) (by decide) (by decide) inj hz hu rfl
    | 9, _ =>
      refine og_nil (g := none) ho (.tmp 54) (d := some 55) (by kernel_rfl) trivial (show a'.eval (.tmp 54) = .pointer (some ⟨r, 0, none⟩) from h.e 8 (by decide) (dep ho hall 8 (by kernel_rfl)) _ rfl) ?_
      exact h.next hcg hKD ho hall (by decide) (by decide) (by decide) inj hz hu rfl
    | 10, _ =>
      obtain ⟨h1, h2, h3⟩ := flds (d := some 56) (p := Op.fieldAddr 53 (.tmp 55) 1) (g := none) ho (by kernel_rfl)
      have g0 := (show a'.eval (.tmp 55) = .pointer (some ⟨r, 0, none⟩) from h.e 9 (by decide) (dep ho hall 9 (by kernel_rfl)) _ rfl)
      refine og_plain ho h3 trivial ?_
      unfold Oper.wp
      simp only [execOp, h2, g0]
      go_simp
      exact h.next hcg hKD ho hall (by decide) (by decide) (by decide) inj hz hu rfl
    | 11, _ =>
      have hn : ¬ L 23 := fun hl => hno (anc_spec h.dc 60 23 11 (by kernel_rfl) hl)
      have c0 := ((h.w.1 hn).cell (p := ⟨r, 1, none⟩) hr).trans hr1
      obtain ⟨h1, h2, h3⟩ := flds (d := some 57) (p := Op.load 3 (.tmp 56)) (g := none) ho (by kernel_rfl)
      have g0 := (show a'.eval (.tmp 56) = .pointer (some ⟨r, 1, none⟩) from h.e 10 (by decide) (dep ho hall 10 (by kernel_rfl)) _ rfl)
      refine og_plain ho h3 trivial ?_
      unfold Oper.wp
      simp only [execOp, h2, g0]
      go_simp
      exact h.next hcg hKD ho hall (by decide) (by decide) (by decide) inj hz hu rfl
    | 12, _ =>
      refine og_move (g := none) ho (.tmp 4) (d := some 58) (by kernel_rfl) trivial q4 ?_
      exact h.next hcg hKD ho hall (by decide) (by decide) (by decide) inj hz hu rfl
    | 13, _ =>
      refine og_move (g := none) ho (.tmp 5) (d := some 59) (by kernel_rfl) trivial q5 ?_
      exact h.next hcg hKD ho hall (by decide) (by decide) (by decide) inj hz hu rfl
    | 14, _ =>
      have hn : ¬ L 23 := fun hl => hno (anc_spec h.dc 60 23 14 (by kernel_rfl) hl)
      refine op_call ho 28 (.tmp 59) 9 (d := some 60) (by kernel_rfl) Try.func28 rfl (by kernel_rfl) (by rw [(show a'.eval (.tmp 59) = .string s from h.e 13 (by decide) (dep ho hall 13 (by kernel_rfl)) _ rfl)]; exact own_any s u) ?_
      rintro e w' ⟨rfl, bw⟩
      refine ⟨_, rfl, h.put ho hall (by decide) inj hz hu (fun v' hv' => by injection hv') (fun val h1 h2 => ?_)⟩
      exact h.w.call hu hn bw (h2 20 (by decide) (by decide)) (h2 21 (by decide) (by decide)) (h2 22 (by decide) (by decide))
    | 15, _ =>
      obtain ⟨h1, h2, h3⟩ := flds (d := some 61) (p := Op.build 47 #[(0, .tmp 57), (1, .tmp 58), (2, .tmp 60)]) (g := none) ho (by kernel_rfl)
      have g0 := (show a'.eval (.tmp 57) = .int .i64 (G : Int) from h.e 11 (by decide) (dep ho hall 11 (by kernel_rfl)) _ rfl)
      have g1 := (show a'.eval (.tmp 58) = .int .i64 cc from h.e 12 (by decide) (dep ho hall 12 (by kernel_rfl)) _ rfl)
      have g2 := (show a'.eval (.tmp 60) = .string s from h.e 14 (by decide) (dep ho hall 14 (by kernel_rfl)) _ rfl)
      have b0 : a'.tmps[57]?.getD undef = .int .i64 (G : Int) := by simpa [Act.eval] using g0
      have b1 : a'.tmps[58]?.getD undef = .int .i64 cc := by simpa [Act.eval] using g1
      have b2 : a'.tmps[60]?.getD undef = .string s := by simpa [Act.eval] using g2
      refine og_plain ho h3 trivial ?_
      unfold Oper.wp
      simp only [execOp, h2]
      go_simp
      exact h.next hcg hKD ho hall (by decide) (by decide) (by decide) inj hz hu rfl
    | 16, _ =>
      refine og_move (g := none) ho (.tmp 1) (d := some 62) (by kernel_rfl) trivial q1 ?_
      exact h.next hcg hKD ho hall (by decide) (by decide) (by decide) inj hz hu rfl
    | 17, _ =>
      refine og_move (g := none) ho (.tmp 2) (d := some 63) (by kernel_rfl) trivial q2 ?_
      exact h.next hcg hKD ho hall (by decide) (by decide) (by decide) inj hz hu rfl
    | 18, _ =>
      refine og_move (g := none) ho (.tmp 3) (d := some 64) (by kernel_rfl) trivial q3 ?_
      exact h.next hcg hKD ho hall (by decide) (by decide) (by decide) inj hz hu rfl
    | 19, _ =>
      have k1 : t ≤ c := by omega
      have k2 : f ≤ t := by omega
      have k3 : ¬ c = f := by omega
      obtain ⟨h1, h2, h3⟩ := flds (d := some 65) (p := Op.slice 24 (.tmp 62) (some (.tmp 63)) (some (.tmp 64)) none) (g := none) ho (by kernel_rfl)
      have g0 := (show a'.eval (.tmp 62) = .slice (some ⟨ab, off, none⟩) n c from h.e 16 (by decide) (dep ho hall 16 (by kernel_rfl)) _ rfl)
      have g1 := (show a'.eval (.tmp 63) = .int .i64 (f : Int) from h.e 17 (by decide) (dep ho hall 17 (by kernel_rfl)) _ rfl)
      have g2 := (show a'.eval (.tmp 64) = .int .i64 (t : Int) from h.e 18 (by decide) (dep ho hall 18 (by kernel_rfl)) _ rfl)
      have b0 : a'.tmps[62]?.getD undef = .slice (some ⟨ab, off, none⟩) n c := by simpa [Act.eval] using g0
      have b1 : a'.tmps[63]?.getD undef = .int .i64 (f : Int) := by simpa [Act.eval] using g1
      have b2 : a'.tmps[64]?.getD undef = .int .i64 (t : Int) := by simpa [Act.eval] using g2
      refine og_plain ho h3 trivial ?_
      unfold Oper.wp
      simp only [execOp, h2, g0]
      go_simp
      exact h.next hcg hKD ho hall (by decide) (by decide) (by decide) inj hz hu rfl
    | 20, _ =>
      have hn : ¬ L 23 := fun hl => hno (anc_spec h.dc 60 23 20 (by kernel_rfl) hl)
      have hn1 : ¬ L 21 := fun hl => hno (anc_spec h.dc 60 21 20 (by kernel_rfl) hl)
      have hn2 : ¬ L 22 := fun hl => hno (anc_spec h.dc 60 22 20 (by kernel_rfl) hl)
      refine op_call ho 29 (.tmp 65) 24 (d := some 66) (by kernel_rfl) Try.func29 rfl (by kernel_rfl) (by rw [(show a'.eval (.tmp 65) = .slice (some ⟨ab, off + f * 3, none⟩) (t - f) (c - f) from h.e 19 (by decide) (dep ho hall 19 (by kernel_rfl)) _ rfl), ← hel.out]; exact cloneE_any _ _ es u (fun j v hj => isE_cells (hE.below (h.w.1 hn)) hm j v hj) (Nat.lt_of_lt_of_le hab (h.w.1 hn).size) hroom) ?_
      rintro e w' ⟨v, g, rfl, hS, hg, bw⟩
      refine ⟨_, rfl, h.put ho hall (by decide) inj hz hu (fun v' hv' => by cases hv') (fun val h1 h2 => ?_)⟩
      exact h.w.clone hu hn hn1 hn2 bw (by rw [h1]; exact hS) hg
    | 21, _ =>
      have hn : ¬ L 23 := fun hl => hno (anc_spec h.dc 60 23 21 (by kernel_rfl) hl)
      have hn2 : ¬ L 22 := fun hl => hno (anc_spec h.dc 60 22 21 (by kernel_rfl) hl)
      obtain ⟨h1, h2, h3⟩ := flds (d := some 67) (p := Op.build 76 #[(0, .tmp 61), (1, .tmp 66)]) (g := none) ho (by kernel_rfl)
      have g0 := (show a'.eval (.tmp 61) = .agg #[.int .i64 (G : Int), .int .i64 cc, .string s, .int .i64 0, .int .i64 0, .bool false, .bool false, .slice none 0 0] from h.e 15 (by decide) (dep ho hall 15 (by kernel_rfl)) _ rfl)
      have b0 : a'.tmps[61]?.getD undef = .agg #[.int .i64 (G : Int), .int .i64 cc, .string s, .int .i64 0, .int .i64 0, .bool false, .bool false, .slice none 0 0] := by simpa [Act.eval] using g0
      have b1 : a'.tmps[66]?.getD undef = a'.eval (.tmp 66) := by simp [Act.eval]
      obtain ⟨g, ⟨cap, hv, -⟩, -⟩ := h.w.2.1 (dep ho hall 20 (by kernel_rfl)) hn
      have hv' : a'.eval (.tmp 66) = .slice (some ⟨g, 0, none⟩) es.length cap := hv
      rw [hv'] at b1
      refine og_plain ho h3 trivial ?_
      unfold Oper.wp
      simp only [execOp, h2]
      go_simp
      refine h.put ho hall (by decide) inj hz hu (fun v' hv' => by cases hv') (fun val h1 h2 => ?_)
      exact h.w.build hu hn hn2 (h2 20 (by decide) (by decide)) (by rw [h1, h2 20 (by decide) (by decide)]; exact congrArg (fun v => Value.agg #[.int .i64 (G : Int), .int .i64 cc, .string s, .int .i64 0, .int .i64 0, .bool false, .bool false, .slice none 0 0, v]) hv'.symm)
    | 22, _ =>
      have hn : ¬ L 23 := fun hl => hno (anc_spec h.dc 60 23 22 (by kernel_rfl) hl)
      obtain ⟨h1, h2, h3⟩ := flds (d := some 68) (p := Op.box 76 (.tmp 67)) (g := none) ho (by kernel_rfl)
      have g0 : a'.eval (.tmp 67) = .agg #[.int .i64 (G : Int), .int .i64 cc, .string s, .int .i64 0, .int .i64 0, .bool false, .bool false, .slice none 0 0, a'.eval (.tmp 66)] := h.w.2.2.1 (dep ho hall 21 (by kernel_rfl))
      obtain ⟨g, ⟨cap, hv, -⟩, -⟩ := h.w.2.1 (anc_spec h.dc 60 21 20 (by kernel_rfl) (dep ho hall 21 (by kernel_rfl))) hn
      have hv2 : a'.eval (.tmp 66) = .slice (some ⟨g, 0, none⟩) es.length cap := hv
      rw [hv2] at g0
      refine og_plain ho h3 trivial ?_
      unfold Oper.wp
      simp only [execOp, h2, g0]
      go_simp
      refine h.put ho hall (by decide) inj hz hu (fun v' hv' => by cases hv') (fun val h1 h2 => ?_)
      exact h.w.box hu hn (h2 20 (by decide) (by decide)) (h2 21 (by decide) (by decide)) h1 (by rw [h2 20 (by decide) (by decide)]; exact hv2)
    | 23, _ =>
      obtain ⟨h1, h2, h3⟩ := flds (d := none) (p := Op.mapUpdate 51 (.tmp 49) (.tmp 53) (.tmp 68)) (g := none) ho (by kernel_rfl)
      have l22 : L 22 := dep ho hall 22 (by kernel_rfl)
      have l21 : L 21 := anc_spec h.dc 60 22 21 (by kernel_rfl) l22
      have l20 : L 20 := anc_spec h.dc 60 22 20 (by kernel_rfl) l22
      have g0 := (show a'.eval (.tmp 49) = .map (some b) from h.e 3 (by decide) (dep ho hall 3 (by kernel_rfl)) _ rfl)
      have g1 := (show a'.eval (.tmp 53) = .int .i64 (G : Int) from h.e 7 (by decide) (dep ho hall 7 (by kernel_rfl)) _ rfl)
      obtain ⟨x, hx, hxs, hxh⟩ := h.w.2.2.2.1 l22 hno
      have g2 : a'.eval (.tmp 68) = _ := hx
      obtain ⟨w', hrun, hm', hF⟩ := (hMP.below (h.w.1 hno)).add Try.underlying51 (k := G) (v := .pointer (some ⟨x, 0, none⟩)) (by omega) hL hG
      refine og_plain ho h3 trivial ?_
      unfold Oper.wp
      simp only [execOp, h2, g0, g1, g2]
      go_simp
      refine h.eff ho hall (by decide) hu ?_
      exact h.w.upd hu hno l20 l22 hm' hF hb hx hwf
    | i + 24, hi => omega
  · rintro L a' u h hall
    rw [opsPut_size] at hall
    rw [h.done hz]
    refine hK L _ u hall h.w (fun j => ?_)
    by_cases hj : j ∈ DPut
    · cases hv : (VPut r b G ab off n c f t cc s) j with
      | none => exact .inl rfl
      | some v =>
        refine .inr (.inl ?_)
        have hjN : j < 24 := by
          have hh : DPut.all (fun i => decide (i < 24)) = true := by kernel_rfl
          exact of_decide_eq_true (List.all_eq_true.1 hh j hj)
        rw [h.e j hj (hall j hjN) v hv]
    · exact .inr (.inr hj)
  · intro L hL
    refine JR.start hL ?_
    have hb : Below w.heap.size w w.drew := (Below.refl _ _).drew
    exact ⟨fun _ => hb, fun a => absurd a (hL _), fun a => absurd a (hL _), fun a => absurd a (hL _), fun a => absurd a (hL _)⟩

end Go.Proofs.Ytkkklfnooeofcab

/-! Pb -/
namespace Go.Proofs.Ytkkklfnooeofcab
open Go.RowKit Go.Maps Go.ChangeMaps Go.MapKept Go.WideMaps
set_option linter.unusedVariables false

theorem new_any (w : World) : Calls Try.prog 5 #[] w fun e w' => ∃ r O, e = .returned (.pointer (some ⟨r, 0, none⟩)) ∧ BD w' O r 0 [] ∧ (∀ k, O k → w.heap.size ≤ k) ∧ Below w.heap.size w w' := by
  have hmm := @run_makeMap Try.prog
  have h1 := MP.made w
  have hB : Below w.heap.size w ((w.alloc (.map #[] 0)).alloc (.cells #[.map (some w.heap.size), .int .i64 0] 53)) := ((Below.refl _ _).alloc (Nat.le_refl _) _).alloc (by simp) _
  have hS : BD ((w.alloc (.map #[] 0)).alloc (.cells #[.map (some w.heap.size), .int .i64 0] 53)) (fun k => k = w.heap.size ∨ k = w.heap.size + 1) (w.heap.size + 1) 0 [] := by
    refine ⟨w.heap.size, [], rfl, ?_, h1.fr (Fr.alloc (fun _ => False) _ _) (fun h => h), by simp, List.Pairwise.nil, .inr rfl, .inl rfl, by simp, ?_, List.Pairwise.nil, by simp, by omega⟩
    · have := heap_alloc_new (w.alloc (.map #[] 0)) (.cells #[.map (some w.heap.size), .int .i64 0] 53)
      rwa [World.size_alloc] at this
    · rintro k (rfl | rfl) <;> simp <;> omega
  have HS := hd hS
  have HB := hd hB
  clear h1 hS hB
  go_enter Try.func5, Try.ntmps5
  go_wp2
  go_ret
  exact ⟨_, _, rfl, HS.out, fun k hk => by rcases hk with rfl | rfl <;> omega, HB.out⟩

theorem rise_len : ∀ (l : List Nat) (m g : Nat), l.Pairwise (· < ·) → (∀ x ∈ l, m ≤ x ∧ x ≤ g) → l.length ≤ g + 1 - m
  | [], m, g, _, _ => by simp
  | x :: l, m, g, h, hb => by
    have h1 := hb x (by simp)
    have := rise_len l (x + 1) g (List.pairwise_cons.1 h).2 (fun y hy => ⟨(List.pairwise_cons.1 h).1 y hy, (hb y (by simp [hy])).2⟩)
    simp only [List.length_cons]
    omega
theorem BK.len {w : World} {O : Nat → Prop} {r b g : Nat} {ps : List NB} (h : BK w O r b g ps) : ps.length ≤ g := by
  have := rise_len (ps.map fun p => p.n.id) 1 g (List.pairwise_map.2 h.ids) (fun x hx => by
    obtain ⟨p, hp, rfl⟩ := List.mem_map.1 hx
    exact h.bd p hp)
  rw [List.length_map] at this
  omega

/-- A board that has one note more. -/
theorem BK.more {w0 w u : World} {O : Nat → Prop} {r b g : Nat} {ps : List NB} (h : BK w0 O r b g ps) (hw : w = w0.setCell ⟨r, 1, none⟩ (.int .i64 ((g + 1 : Nat) : Int))) (hg : g < 256) {cc : Int} {s : ByteArray} {es : List El} (hF : FinP w b (g + 1) cc s es (ps.map keyN) u) :
    NowB w0 u O r (g + 1) (ps.map NB.n ++ [⟨g + 1, cc, s, false, [], es⟩]) ∧ u.cell? ⟨r, 1, none⟩ = some (.int .i64 ((g + 1 : Nat) : Int)) := by
  subst hw
  obtain ⟨x, e, v, hN, hx, he, hM, hFr⟩ := hF
  have hs : (w0.setCell ⟨r, 1, none⟩ (.int .i64 ((g + 1 : Nat) : Int))).heap.size = w0.heap.size := by simp
  rw [hs] at hx he
  have hFs : Fr (· = r) w0 (w0.setCell ⟨r, 1, none⟩ (.int .i64 ((g + 1 : Nat) : Int))) := Fr.setCell w0 ⟨r, 1, none⟩ _ rfl
  obtain ⟨es0, ck, hmb⟩ := h.mp.map
  have hrb : r ≠ b := map_ne h.box hmb ⟨es0, ck, rfl⟩
  have hFO : Fr (fun k => k = r ∨ k = b) w0 u := (hFs.mono (fun k _ hk => .inl hk)).next hFr (fun k _ hk => .inr hk)
  have hbx := set_row h.box 1 (.int .i64 ((g + 1 : Nat) : Int))
  have hbox : u.heap[r]? = some (.cells #[.map (some b), .int .i64 ((g + 1 : Nat) : Int)] 53 (0, 0)) := by
    have := hFr.keeps hbx (show ¬ r = b from hrb)
    simpa using this
  have c1 := cell_row hbox 1
  simp at c1
  refine ⟨⟨fun k => O k ∨ k = x ∨ k = e, ⟨b, ps ++ [⟨⟨g + 1, cc, s, false, [], es⟩, x, none, e, .slice none 0 0, v⟩], by simp, hbox, by simpa using hM, ?_, ?_, .inl h.orr, .inl h.ob, ?_, ?_, ?_, ?_, by omega⟩, ?_, ?_⟩, by simpa using c1⟩
  · intro p hp
    rcases List.mem_append.1 hp with hp | hp
    · have hp1 := h.nk p hp
      refine hp1.fr hFO ?_ ?_ ?_
      · rintro (e1 | e1)
        · exact ty_ne hp1.box h.box (by decide) e1
        · exact map_ne hp1.box hmb ⟨es0, ck, rfl⟩ e1
      · rintro k hk hkk
        have hsf := hp1.said
        rw [hk] at hsf
        obtain ⟨cur, hcur⟩ := hsf.blk
        rcases hkk with e1 | e1
        · exact ty_ne hcur h.box (by decide) e1
        · exact map_ne hcur hmb ⟨es0, ck, rfl⟩ e1
      · rintro hkk
        obtain ⟨cur, hcur⟩ := (se_sf hp1.elems).blk
        rcases hkk with e1 | e1
        · exact ty_ne hcur h.box (by decide) e1
        · exact map_ne hcur hmb ⟨es0, ck, rfl⟩ e1
    · rw [List.mem_singleton.1 hp]
      exact hN
  · rw [List.pairwise_append]
    refine ⟨h.dis, by simp, fun p hp q hq => ?_⟩
    rw [List.mem_singleton.1 hq]
    refine ⟨?_, fun k _ hk => by cases hk⟩
    have := h.old _ (h.on p hp).1
    simp only
    omega
  · intro p hp
    rcases List.mem_append.1 hp with hp | hp
    · exact ⟨.inl (h.on p hp).1, .inl (h.on p hp).2.1, fun k hk => .inl ((h.on p hp).2.2 k hk)⟩
    · rw [List.mem_singleton.1 hp]
      exact ⟨.inr (.inl rfl), .inr (.inr rfl), fun k hk => by cases hk⟩
  · rintro k (hk | rfl | rfl)
    · exact Nat.lt_of_lt_of_le (h.old k hk) hFO.size
    · exact block_lt hN.box
    · exact hN.elems.lt k rfl
  · rw [List.pairwise_append]
    refine ⟨h.ids, by simp, fun p hp q hq => ?_⟩
    rw [List.mem_singleton.1 hq]
    have := h.bd p hp
    simp only
    omega
  · intro p hp
    rcases List.mem_append.1 hp with hp | hp
    · have := h.bd p hp; omega
    · rw [List.mem_singleton.1 hp]; simp
  · rintro k (hk | rfl | rfl)
    · exact .inl hk
    · exact .inr hx
    · exact .inr he
  · exact hFO.mono (fun k _ hk => by rcases hk with rfl | rfl; exact h.orr; exact h.ob)

set_option maxRecDepth 100000 in
set_option maxHeartbeats 4000000 in
theorem put_good (O : Nat → Prop) (r g : Nat) (Ns : List Nt) (w : World) (h : BD w O r g Ns) (a : Option Addr) (n c : Nat) (xs : List El) (hE : IsE w a n c xs) (hwf : ∀ x ∈ xs, wfE x) (f t : Nat) (hf : f < t) (ht : t ≤ n) (cc : Int) (s : ByteArray) (hs : sayE cc s = 0) (hsz : s.size ≤ 9223372036854775807) (hg : g < 256) (hroom : roomy (t - f) 24) :
    Calls Try.prog 10 #[.pointer (some ⟨r, 0, none⟩), .slice a n c, .int .i64 f, .int .i64 t, .int .i64 cc, .string s] w fun e w' => e = .returned (.tuple #[.int .i64 ((g + 1 : Nat) : Int), .int .i64 0]) ∧ NowB w w' O r (g + 1) (Ns ++ [⟨g + 1, cc, s, false, [], (xs.drop f).take (t - f)⟩]) := by
  obtain ⟨b, ps, rfl, hK⟩ := h
  obtain ⟨ab, off, rfl, hab⟩ := hE.addr (by omega)
  have hnc := hE.2.1
  have hc63 := hE.2.2.1
  have hel : Hid (((xs.drop f).take (t - f)).length = t - f) := by
    have := hE.1
    unfold Hid
    rw [List.length_take, List.length_drop]
    omega
  have HE2 := hd ((hE.drop f (by omega)).take (t - f) (by omega))
  have HWF := hd (show ∀ x ∈ (xs.drop f).take (t - f), wfE x from fun x hx => hwf x (List.mem_of_mem_drop (List.mem_of_mem_take hx)))
  have HRM : Hid (roomy ((xs.drop f).take (t - f)).length 24) := by unfold Hid; rw [hel.out]; exact hroom
  generalize (xs.drop f).take (t - f) = es at *
  have r0 := cell_row hK.box 0
  have r1 := cell_row hK.box 1
  have z1 := frozen_row hK.box 1
  simp at r0 r1
  have lr := block_lt hK.box
  obtain ⟨es0, ck, hmb⟩ := hK.mp.map
  have HRB := hd (map_ne hK.box hmb ⟨es0, ck, rfl⟩)
  have HKK := hd hK
  have n1 : ¬ (f : Int) < 0 := by omega
  have n2 : ¬ (n : Int) < (t : Int) := by omega
  have n3 : ¬ (t : Int) ≤ (f : Int) := by omega
  have n4 : ((g : Int) == 256) = false := by rw [beq_eq_false_iff_ne]; omega
  have HS := hd hs
  have HN := hd (show n ≤ c ∧ c ≤ 9223372036854775807 ∧ f < t ∧ t ≤ n ∧ g < 256 ∧ ab < w.heap.size ∧ b < w.heap.size from ⟨hnc, hc63, hf, ht, hg, hab, hK.mp.lt⟩)
  clear hE hwf hs hnc hc63 hmb hK hroom
  go_enter Try.func10, Try.ntmps10
  go_wp2_with fail
  refine (say_any cc s w hsz).mono ?_
  rintro e w' ⟨rfl, rfl⟩
  rw [HS.out]
  go_upto_region 9 with fail
  have eg : Hid ((g : Int) + 1 = ((g + 1 : Nat) : Int)) := by unfold Hid; omega
  rw [eg.out]
  obtain ⟨w1, hw1⟩ : ∃ u, w'.setCell ⟨r, 1, none⟩ (.int .i64 ((g + 1 : Nat) : Int)) = u := ⟨_, rfl⟩
  have hs1 : w1.heap.size = w'.heap.size := by rw [← hw1]; simp
  have hFs : Fr (· = r) w' w1 := by rw [← hw1]; exact Fr.setCell w' ⟨r, 1, none⟩ _ rfl
  have hb1 : w1.heap[r]? = some (.cells #[.map (some b), .int .i64 ((g + 1 : Nat) : Int)] 53 (0, 0)) := by
    have := set_row HKK.out.box 1 (.int .i64 ((g + 1 : Nat) : Int))
    rw [hw1] at this
    simpa using this
  have x0 := cell_row hb1 0
  have x1 := cell_row hb1 1
  have HW1 := hd hw1
  simp only [List.getElem?_toArray, List.getElem?_cons_zero, List.getElem?_cons_succ] at x0 x1
  have hne : Hid (ab ≠ r) := by
    rintro rfl
    have hel2 := hel.out
    have hl : 0 < es.length := by have := HN.out; omega
    have k := isE_cells HE2.out (by have := HN.out; omega) 2 _ (cE_get es 0 hl).2.2
    rw [add_lit, cell_row HKK.out.box] at k
    have := (Array.getElem?_eq_some_iff.1 k).1
    simp at this
    omega
  have HEs : IsE w1 (some ⟨ab, off + f * 3, none⟩) (t - f) (c - f) es := HE2.out.fr hFs (fun _ b' off' e => by
    injection e with e
    injection e with e1 e2
    rw [← e1]
    exact hne.out)
  rw [hw1]
  refine regPut _ w1 r b (g + 1) ab off n c f t cc s es (ps.map keyN) hel HEs (by have := HN.out; omega) (by have := HN.out; omega) HRM.out (by have := HN.out; omega) (by have := HN.out; omega) (by have := HN.out; omega) (by have := HN.out; omega) (by have := HN.out; omega) (by omega) (by have := HN.out; omega) x0 x1 (HKK.out.mp.fr hFs HRB.out.symm) ?_ ?_ (by have := HN.out; omega) HWF.out (by simp) rfl rfl rfl rfl rfl rfl ?_
  · intro p hp
    obtain ⟨q, hq, rfl⟩ := List.mem_map.1 hp
    have := HKK.out.bd q hq
    simp only
    omega
  · rw [List.length_map]
    have := HKK.out.len
    have := HN.out
    omega
  · intro L val u hL hW hV
    obtain ⟨Z1, Z2⟩ := HKK.out.more HW1.out.symm (by have := HN.out; omega) (hW.2.2.2.2 (hL 23 (by omega)))
    have Z := hd Z1
    clear hW hV hL Z1 HEs x0 x1 hFs hb1
    simp only [slPut, DPut, List.getD_cons_zero, List.getD_cons_succ, List.map_cons, List.map_nil, puts, List.foldl_cons, List.foldl_nil, Act.put, List.setIfInBounds_toArray, List.set_cons_succ, List.set_cons_zero]
    go_wp2
    refine bodyPost_ret (v := .tuple #[.int .i64 ((g + 1 : Nat) : Int), .int .i64 0]) (by simp [results, Try.results10, go_sem]) rfl ?_
    exact ⟨rfl, Z.out⟩

end Go.Proofs.Ytkkklfnooeofcab
