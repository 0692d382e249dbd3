/-
  Put of the document: the region whose order is drawn.
-/
import Derived.Test.YtkkklfnooeofcabMJk
import Derived.Test.YtkkklfnooeofcabMPa
namespace Go.Proofs.Ytkkklfnooeofcab
open Go.RowKit Go.Lib
set_option linter.unusedVariables false

def pA (G : Nat) (cc : Int) (s : ByteArray) (v : Value) : Array Value := #[.int .i64 (G : Int), v, .int .i64 cc, .string s, .bool false, .slice none 0 0]

/-- The new note on the row. -/
def RPp (w : World) (β : Option Nat) (ps : List RN) (G : Nat) (cc : Int) (s : ByteArray) (es : List El) (v : Value) (u : World) : Prop :=
  ∃ e a1 c1 g, w.heap.size ≤ e ∧ SF elc 3 u 41 (some e) (.slice a1 es.length c1) es ∧ SF rnc 6 u 93 (some g) v (ps ++ [⟨⟨G, cc, s, false, [], es⟩, a1, es.length, c1, none, 0, 0, some e, none⟩]) ∧ (β = some g ∨ w.heap.size ≤ g) ∧ Fr (fun k => β = some k) w u
theorem RPp.form {w : World} {β : Option Nat} {ps : List RN} {G : Nat} {cc : Int} {s : ByteArray} {es : List El} {v : Value} {u : World} (h : RPp w β ps G cc s es v u) : ∃ A q d, v = .slice A q d := by
  obtain ⟨e, a1, c1, g, h1, h2, h3, h4, h5⟩ := h
  obtain ⟨a, c, hv, -, -⟩ := h3.form
  exact ⟨a, _, c, hv⟩
theorem push_rn {w u : World} {β : Option Nat} {ps : List RN} {ra : Option Addr} {N rc G q : Nat} {cc : Int} {s : ByteArray} {es : List El} {x : Value} {p19 : Prop} (hrow : SF rnc 6 w 93 β (.slice ra N rc) ps) (hb : Below w.heap.size w u) (hN : ps.length ≤ 256) (hx : ∃ g a c, x = .slice a es.length c ∧ w.heap.size ≤ g ∧ (¬ p19 → SF elc 3 u 41 (some g) x es)) (hn : ¬ p19) (hq : u.heap[q]? = some (.cells (pA G cc s x) 93 (0, 0))) :
    ∃ v' u', (∀ ty, (Builtin.append_ #[54, 54] ty #[.slice ra N rc, .slice (some ⟨q, 0, none⟩) 1 1]).run Try.prog u = .ok v' u') ∧ RPp w β ps G cc s es v' u' := by
  obtain ⟨e, a1, c1, rfl, he, hS⟩ := hx
  have hS := hS hn
  obtain ⟨i0, hi0, hz0, hz1, hz2⟩ := info_parts Try.infoRN
  obtain ⟨v', u', hr, g, h1, h2⟩ := run_pushF sz_rnc (P := Try.prog) u 54 0 93 i0 _ 88 Try.underlying54 hi0 hz0 hz1 rfl hz2 β (.slice ra N rc) ps (hrow.fr (S := fun _ => False) (Fr.of_below hb) (fun _ _ h => h)) ⟨q, 0, none⟩ 1 1 [⟨⟨G, cc, s, false, [], es⟩, a1, es.length, c1, none, 0, 0, some e, none⟩] rfl (fun j x hj => by
    rw [add_lit, Nat.zero_add, cell_row hq]
    simp only [cl_one, rnc] at hj
    simpa [pA] using hj) (by omega) (by omega) (by omega)
  have hF0 : Fr (fun k => β = some k) w u := Fr.of_below hb
  have hs := hb.size
  rcases h2 with ⟨e1, hf⟩ | ⟨e1, hf⟩
  · refine ⟨v', u', fun ty => hr, e, a1, c1, g, he, hS.fr hf (fun k hk e2 => ?_), h1, .inl e1, hF0.next hf (fun k _ hk => by rw [e1, hk])⟩
    cases hk
    obtain ⟨cur, hc⟩ := hS.blk
    have hr2 := hrow.fr (S := fun _ => False) (Fr.of_below hb) (fun _ _ h => h)
    rw [e1] at hr2
    obtain ⟨cur2, hc2⟩ := hr2.blk
    exact ty_ne hc hc2 (by decide) e2
  · exact ⟨v', u', fun ty => hr, e, a1, c1, g, he, hS.fr hf (fun _ _ h => h), h1, .inr (by omega), hF0.next hf (fun k _ hk => hk.elim)⟩

def WRP (w : World) (y : Nat) (β : Option Nat) (ps : List RN) (G : Nat) (cc : Int) (s : ByteArray) (es : List El) (L : Nat → Prop) (val : Nat → Value) (u : World) : Prop :=
  (¬ L 19 → Below w.heap.size w u) ∧
  (L 9 → ∃ z, val 9 = .slice (some ⟨z, 0, none⟩) 0 0 ∧ w.heap.size ≤ z ∧ (¬ L 14 → u.heap[z]? = some (.cells #[] 41 (0, 0)))) ∧
  (L 14 → ∃ g a c, val 14 = .slice a es.length c ∧ w.heap.size ≤ g ∧ (¬ L 19 → SF elc 3 u 41 (some g) (val 14) es)) ∧
  (L 17 → val 17 = .agg (pA G cc s (val 14))) ∧
  (L 18 → ¬ L 19 → ∃ q, val 18 = .slice (some ⟨q, 0, none⟩) 1 1 ∧ u.heap[q]? = some (.cells (pA G cc s (val 14)) 93 (0, 0))) ∧
  (L 19 → ¬ L 22 → RPp w β ps G cc s es (val 19) u) ∧
  (L 22 → ∃ v u1, RPp w β ps G cc s es v u1 ∧ u = u1.setCell ⟨y, 0, none⟩ v)

section
variable {w : World} {y : Nat} {β : Option Nat} {ps : List RN} {G : Nat} {cc : Int} {s : ByteArray} {es : List El} {L L' : Nat → Prop} {val val' : Nat → Value} {u u' : World}
theorem WRP.start (h : ∀ i, ¬ L i) : WRP w y β ps G cc s es L val w.drew :=
  ⟨fun _ => ⟨rfl, rfl, rfl, Nat.le_refl _, fun _ _ => rfl⟩, fun a => absurd a (h _), fun a => absurd a (h _), fun a => absurd a (h _), fun a => absurd a (h _), fun a => absurd a (h _), fun a => absurd a (h _)⟩
theorem WRP.mk9 (h : WRP w y β ps G cc s es L val u) (hu : ∀ j, L' j ↔ (j = 9 ∨ L j)) (n14 : ¬ L 14) (n17 : ¬ L 17) (n18 : ¬ L 18) (n19 : ¬ L 19) (n22 : ¬ L 22) (hv : val' 9 = .slice (some ⟨u.heap.size, 0, none⟩) 0 0) : WRP w y β ps G cc s es L' val' (u.alloc (.cells #[] 41)) := by
  have l : ∀ k, k ≠ 9 → (L' k → L k) := fun k hk hl => ((hu k).1 hl).resolve_left hk
  have h1 := h.1 n19
  exact ⟨fun _ => h1.alloc h1.size _, fun _ => ⟨_, hv, h1.size, fun _ => heap_alloc_new u _⟩, fun a => absurd (l 14 (by omega) a) n14, fun a => absurd (l 17 (by omega) a) n17, fun a => absurd (l 18 (by omega) a) n18, fun a => absurd (l 19 (by omega) a) n19, fun a => absurd (l 22 (by omega) a) n22⟩
theorem WRP.app14 {z g : Nat} (h : WRP w y β ps G cc s es L val u) (hu : ∀ j, L' j ↔ (j = 14 ∨ L j)) (n19 : ¬ L 19) (n17 : ¬ L 17) (n18 : ¬ L 18) (n22 : ¬ L 22) (e9 : val' 9 = val 9) (hz : w.heap.size ≤ z) (hg : g = z ∨ g = u.heap.size) (hS : SF elc 3 u' 41 (some g) (val' 14) es) (hF : Fr (· = z) u u') : WRP w y β ps G cc s es L' val' u' := by
  obtain ⟨h1, h2, h3, h4, h5, h6, h7⟩ := h
  have l : ∀ k, k ≠ 14 → (L' k → L k) := fun k hk hl => ((hu k).1 hl).resolve_left hk
  have hB := h1 n19
  obtain ⟨a1, c1, hv, -, -⟩ := hS.form
  refine ⟨fun _ => hB.trans (hF.below hB.size (fun k hk => by omega)), fun a => ?_, fun _ => ⟨g, a1, c1, hv, by have := hB.size; omega, fun _ => hS⟩, fun a => absurd (l 17 (by omega) a) n17, fun a => absurd (l 18 (by omega) a) n18, fun a => absurd (l 19 (by omega) a) n19, fun a => absurd (l 22 (by omega) a) n22⟩
  obtain ⟨z', q1, q2, -⟩ := h2 (l 9 (by omega) a)
  exact ⟨z', by rw [e9]; exact q1, q2, fun hn => absurd ((hu 14).2 (.inl rfl)) hn⟩
theorem WRP.mk17 (h : WRP w y β ps G cc s es L val u) (hu : ∀ j, L' j ↔ (j = 17 ∨ L j)) (n19 : ¬ L 19) (n18 : ¬ L 18) (e9 : val' 9 = val 9) (e14 : val' 14 = val 14) (n22 : ¬ L 22) (hv : val' 17 = .agg (pA G cc s (val' 14))) : WRP w y β ps G cc s es L' val' u := by
  obtain ⟨h1, h2, h3, h4, h5, h6, h7⟩ := h
  have l : ∀ k, k ≠ 17 → (L' k ↔ L k) := fun k hk => ⟨fun hl => ((hu k).1 hl).resolve_left hk, fun hl => (hu k).2 (.inr hl)⟩
  refine ⟨fun _ => h1 n19, ?_, ?_, fun _ => hv, fun a => absurd ((l 18 (by omega)).1 a) n18, fun a => absurd ((l 19 (by omega)).1 a) n19, fun a => absurd ((l 22 (by omega)).1 a) n22⟩
  · rw [l 9 (by omega), l 14 (by omega), e9]; exact h2
  · rw [l 14 (by omega), l 19 (by omega), e14]; exact h3
theorem WRP.mk18 {x : Value} (h : WRP w y β ps G cc s es L val u) (hu : ∀ j, L' j ↔ (j = 18 ∨ L j)) (n19 : ¬ L 19) (e9 : val' 9 = val 9) (e14 : val' 14 = val 14) (e17 : val' 17 = val 17) (n22 : ¬ L 22) (hv : val' 18 = .slice (some ⟨u.heap.size, 0, none⟩) 1 1) (hx : val' 14 = x) : WRP w y β ps G cc s es L' val' (u.alloc (.cells (pA G cc s x) 93)) := by
  subst hx
  obtain ⟨h1, h2, h3, h4, h5, h6, h7⟩ := h
  have l : ∀ k, k ≠ 18 → (L' k → L k) := fun k hk hl => ((hu k).1 hl).resolve_left hk
  have hB := h1 n19
  have hF := Fr.alloc (fun _ => False) u (.cells (pA G cc s (val' 14)) 93)
  refine ⟨fun _ => hB.alloc hB.size _, fun a => ?_, fun a => ?_, fun a => ?_, fun _ _ => ⟨_, hv, heap_alloc_new u _⟩, fun a => absurd (l 19 (by omega) a) n19, fun a => absurd (l 22 (by omega) a) n22⟩
  · obtain ⟨z, q1, q2, q3⟩ := h2 (l 9 (by omega) a)
    exact ⟨z, by rw [e9]; exact q1, q2, fun hn => hF.keeps (q3 (fun hl => hn ((hu 14).2 (.inr hl)))) (fun h => h)⟩
  · obtain ⟨g, a1, c1, q1, q2, q3⟩ := h3 (l 14 (by omega) a)
    exact ⟨g, a1, c1, by rw [e14]; exact q1, q2, fun _ => by rw [e14] at hF ⊢; exact (q3 n19).fr hF (fun _ _ h => h)⟩
  · rw [e17, e14]; exact h4 (l 17 (by omega) a)
theorem WRP.app19 (h : WRP w y β ps G cc s es L val u) (hu : ∀ j, L' j ↔ (j = 19 ∨ L j)) (n22 : ¬ L 22) (e9 : val' 9 = val 9) (e14 : val' 14 = val 14) (e17 : val' 17 = val 17) (hP : RPp w β ps G cc s es (val' 19) u') (l14 : L 14 := by assumption) : WRP w y β ps G cc s es L' val' u' := by
  obtain ⟨h1, h2, h3, h4, h5, h6, h7⟩ := h
  have l : ∀ k, k ≠ 19 → (L' k → L k) := fun k hk hl => ((hu k).1 hl).resolve_left hk
  have l19 : L' 19 := (hu 19).2 (.inl rfl)
  refine ⟨fun a => absurd l19 a, fun a => ?_, fun a => ?_, fun a => ?_, fun _ a => absurd l19 a, fun _ _ => hP, fun a => absurd (l 22 (by omega) a) n22⟩
  · obtain ⟨z, q1, q2, q3⟩ := h2 (l 9 (by omega) a)
    exact ⟨z, by rw [e9]; exact q1, q2, fun hn => absurd ((hu 14).2 (.inr l14)) hn⟩
  · obtain ⟨g, a1, c1, q1, q2, q3⟩ := h3 (l 14 (by omega) a)
    exact ⟨g, a1, c1, by rw [e14]; exact q1, q2, fun hn => absurd l19 hn⟩
  · rw [e17, e14]; exact h4 (l 17 (by omega) a)
theorem WRP.store {v : Value} (h : WRP w y β ps G cc s es L val u) (hu : ∀ j, L' j ↔ (j = 22 ∨ L j)) (l19 : L 19) (n22 : ¬ L 22) (hP : RPp w β ps G cc s es v u) (l14 : L 14 := by exact anc_spec (by assumption) 60 19 14 (by kernel_rfl) (by assumption)) : WRP w y β ps G cc s es L' val (u.setCell ⟨y, 0, none⟩ v) := by
  obtain ⟨h1, h2, h3, h4, h5, h6, h7⟩ := h
  have l : ∀ k, k ≠ 22 → (L' k → L k) := fun k hk hl => ((hu k).1 hl).resolve_left hk
  have l19' : L' 19 := (hu 19).2 (.inr l19)
  refine ⟨fun a => absurd l19' a, fun a => ?_, fun a => ?_, fun a => h4 (l 17 (by omega) a), fun _ a => absurd l19' a, fun _ a => absurd ((hu 22).2 (.inl rfl)) a, fun _ => ⟨v, u, hP, rfl⟩⟩
  · obtain ⟨z, q1, q2, q3⟩ := h2 (l 9 (by omega) a)
    exact ⟨z, q1, q2, fun hn => absurd ((hu 14).2 (.inr l14)) hn⟩
  · obtain ⟨g, a1, c1, q1, q2, q3⟩ := h3 (l 14 (by omega) a)
    exact ⟨g, a1, c1, q1, q2, fun hn => absurd l19' hn⟩
end

noncomputable def opsRP : Array Oper := (Try.f32.body.bind (opsAt 9)).getD #[]
theorem opsRP_size : opsRP.size = 23 := by kernel_rfl
theorem opsRP_earlier : Earlier opsRP := by
  have h : (List.range 23).all (fun i => ((opsRP[i]?).map (fun o => o.after.all (fun e => !Region.binds .any e || decide (e.on < i)))).getD true) = true := by kernel_rfl
  intro i o ho e he hb
  have hi : i < 23 := by
    have := (Array.getElem?_eq_some_iff.1 ho).1
    rwa [opsRP_size] at this
  have h1 := List.all_eq_true.1 h i (List.mem_range.2 hi)
  rw [ho] at h1
  simp only [Option.map_some, Option.getD_some, Array.all_eq_true'] at h1
  have h2 := h1 e he
  rw [hb] at h2
  simpa using h2
def slRP (j : Nat) : Nat := ([46, 47, 48, 49, 50, 51, 52, 53, 54, 55, 56, 57, 58, 59, 60, 61, 62, 63, 64, 65, 66, 67, 922] : List Nat).getD j 0
def DRP : List Nat := [0, 1, 2, 3, 4, 5, 6, 7, 8, 9, 10, 11, 12, 13, 14, 15, 16, 17, 18, 19, 20, 21]
def VRP (y N rc G ab off n c f t : Nat) (ra : Option Addr) (cc : Int) (s : ByteArray) (j : Nat) : Option Value := [some (.pointer (some ⟨y, 0, none⟩)), some (.pointer (some ⟨y, 0, none⟩)), some (.pointer (some ⟨y, 0, none⟩)), some (.pointer (some ⟨y, 0, none⟩)), some (.slice ra N rc), some (.pointer (some ⟨y, 0, none⟩)), some (.pointer (some ⟨y, 0, none⟩)), some (.pointer (some ⟨y, 1, none⟩)), some (.int .i64 (G : Int)), none, some (.slice (some ⟨ab, off, none⟩) n c), some (.int .i64 (f : Int)), some (.int .i64 (t : Int)), some (.slice (some ⟨ab, off + f * 3, none⟩) (t - f) (c - f)), none, some (.int .i64 cc), some (.string s), none, none, none, some (.pointer (some ⟨y, 0, none⟩)), some (.pointer (some ⟨y, 0, none⟩)), none].getD j none
set_option maxRecDepth 100000 in
set_option maxHeartbeats 4000000 in
theorem regRP (a0 : Act) (w : World) {Q : Exit → Act → World → Prop} (y N rc G ab off n c f t : Nat) (ra : Option Addr) (cc : Int) (s : ByteArray) (es : List El) (β : Option Nat) (ps : List RN) (hel : Hid (es.length = t - f)) (hE : IsE w (some ⟨ab, off + f * 3, none⟩) (t - f) (c - f) es) (hroom : roomy es.length 24) (hf1 : f < t) (hf2 : t ≤ n) (hf3 : n ≤ c) (hf4 : c ≤ 9223372036854775807) (hf5 : f < c) (hy : y < w.heap.size) (hy0 : w.cell? ⟨y, 0, none⟩ = some (.slice ra N rc)) (hy1 : w.cell? ⟨y, 1, none⟩ = some (.int .i64 (G : Int))) (hrow : SF rnc 6 w 93 β (.slice ra N rc) ps) (hN : ps.length ≤ 256) (hSt : ∀ v u, RPp w β ps G cc s es v u → ∃ v0, u.cell? ⟨y, 0, none⟩ = some v0 ∧ u.frozen? ⟨y, 0, none⟩ = false) (hzz : 67 < a0.tmps.size) (H0 : a0.eval (.tmp 0) = .pointer (some ⟨y, 0, none⟩)) (H1 : a0.eval (.tmp 1) = .slice (some ⟨ab, off, none⟩) n c) (H2 : a0.eval (.tmp 2) = .int .i64 (f : Int)) (H3 : a0.eval (.tmp 3) = .int .i64 (t : Int)) (H4 : a0.eval (.tmp 4) = .int .i64 cc) (H5 : a0.eval (.tmp 5) = .string s)
    (hK : ∀ (L : Nat → Prop) (val : Nat → Value) (u : World), (∀ i, i < 23 → L i) → WRP w y β ps G cc s es L val u → (∀ j, (VRP y N rc G ab off n c f t ra cc s) j = none ∨ (VRP y N rc G ab off n c f t ra cc s) j = some (val j) ∨ j ∉ DRP) → Q .normal (puts a0 (DRP.map fun j => (slRP j, val j))) u) :
    (Code.region 9 opsRP true).wp Try.prog Q a0 w := by
  have inj : ∀ i ∈ DRP, ∀ j ∈ DRP, slRP i = slRP j → i = j := by
    have h : DRP.all (fun i => DRP.all (fun j => decide (slRP i = slRP j → i = j))) = true := by kernel_rfl
    intro i hi j hj he
    exact (of_decide_eq_true (List.all_eq_true.1 (List.all_eq_true.1 h i hi) j hj)) he
  have hz : ∀ j ∈ DRP, slRP j < a0.tmps.size := by
    have h : DRP.all (fun i => decide (slRP i ≤ 67)) = true := by kernel_rfl
    intro j hj
    have := of_decide_eq_true (List.all_eq_true.1 h j hj)
    omega
  have hcg : ∀ (L L' : Nat → Prop) (val val' : Nat → Value) u, (∀ k ∈ ([9, 14, 17, 18, 19, 22] : List Nat), (L' k ↔ L k)) → (∀ k ∈ ([9, 14, 17, 18, 19] : List Nat), val' k = val k) → WRP w y β ps G cc s es L val u → WRP w y β ps G cc s es L' val' u := by
    intro L L' val val' u hl hv hw
    simp at hl hv
    unfold WRP at hw ⊢
    simp only [hl, hv]
    exact hw
  have hKD : ∀ k ∈ ([9, 14, 17, 18, 19] : List Nat), k ∈ DRP := by decide
  refine wp_region_inv (by kernel_rfl) opsRP_earlier (fun L a u => JR opsRP slRP DRP (VRP y N rc G ab off n c f t ra cc s) a0 (WRP w y β ps G cc s es) L a u) ?_ ?_ ?_
  · rintro L L' a' u i o h ho hno hall hu
    clear hK
    have q0 := (h.fe.ev (j := 0) (by decide)).trans H0
    have q1 := (h.fe.ev (j := 1) (by decide)).trans H1
    have q2 := (h.fe.ev (j := 2) (by decide)).trans H2
    have q3 := (h.fe.ev (j := 3) (by decide)).trans H3
    have q4 := (h.fe.ev (j := 4) (by decide)).trans H4
    have q5 := (h.fe.ev (j := 5) (by decide)).trans H5
    have hi : i < 23 := by
      have := (Array.getElem?_eq_some_iff.1 ho).1
      rwa [opsRP_size] at this
    match i, hi with
    | 0, _ =>
      refine og_move (g := none) ho (.tmp 0) (d := some 46) (by kernel_rfl) trivial q0 ?_
      exact h.next hcg hKD ho hall (by decide) (by decide) (by decide) inj hz hu rfl
    | 1, _ =>
      refine og_move (g := none) ho (.tmp 0) (d := some 47) (by kernel_rfl) trivial q0 ?_
      exact h.next hcg hKD ho hall (by decide) (by decide) (by decide) inj hz hu rfl
    | 2, _ =>
      refine og_nil (g := none) ho (.tmp 47) (d := some 48) (by kernel_rfl) trivial (show a'.eval (.tmp 47) = .pointer (some ⟨y, 0, none⟩) from h.e 1 (by decide) (dep ho hall 1 (by kernel_rfl)) _ rfl) ?_
      exact h.next hcg hKD ho hall (by decide) (by decide) (by decide) inj hz hu rfl
    | 3, _ =>
      obtain ⟨h1, h2, h3⟩ := flds (d := some 49) (p := Op.fieldAddr 56 (.tmp 48) 0) (g := none) ho (by kernel_rfl)
      have g0 := (show a'.eval (.tmp 48) = .pointer (some ⟨y, 0, none⟩) from h.e 2 (by decide) (dep ho hall 2 (by kernel_rfl)) _ rfl)
      refine og_plain ho h3 trivial ?_
      unfold Oper.wp
      simp only [execOp, h2, g0]
      go_simp
      exact h.next hcg hKD ho hall (by decide) (by decide) (by decide) inj hz hu rfl
    | 4, _ =>
      have hn : ¬ L 19 := fun hl => hno (anc_spec h.dc 60 19 4 (by kernel_rfl) hl)
      have c0 := ((h.w.1 hn).cell (p := ⟨y, 0, none⟩) hy).trans hy0
      obtain ⟨h1, h2, h3⟩ := flds (d := some 50) (p := Op.load 54 (.tmp 49)) (g := none) ho (by kernel_rfl)
      have g0 := (show a'.eval (.tmp 49) = .pointer (some ⟨y, 0, none⟩) from h.e 3 (by decide) (dep ho hall 3 (by kernel_rfl)) _ rfl)
      refine og_plain ho h3 trivial ?_
      unfold Oper.wp
      simp only [execOp, h2, g0]
      go_simp
      exact h.next hcg hKD ho hall (by decide) (by decide) (by decide) inj hz hu rfl
    | 5, _ =>
      refine og_move (g := none) ho (.tmp 0) (d := some 51) (by kernel_rfl) trivial q0 ?_
      exact h.next hcg hKD ho hall (by decide) (by decide) (by decide) inj hz hu rfl
    | 6, _ =>
      refine og_nil (g := none) ho (.tmp 51) (d := some 52) (by kernel_rfl) trivial (show a'.eval (.tmp 51) = .pointer (some ⟨y, 0, none⟩) from h.e 5 (by decide) (dep ho hall 5 (by kernel_rfl)) _ rfl) ?_
      exact h.next hcg hKD ho hall (by decide) (by decide) (by decide) inj hz hu rfl
    | 7, _ =>
      obtain ⟨h1, h2, h3⟩ := flds (d := some 53) (p := Op.fieldAddr 56 (.tmp 52) 1) (g := none) ho (by kernel_rfl)
      have g0 := (show a'.eval (.tmp 52) = .pointer (some ⟨y, 0, none⟩) from h.e 6 (by decide) (dep ho hall 6 (by kernel_rfl)) _ rfl)
      refine og_plain ho h3 trivial ?_
      unfold Oper.wp
      simp only [execOp, h2, g0]
      go_simp
      exact h.next hcg hKD ho hall (by decide) (by decide) (by decide) inj hz hu rfl
    | 8, _ =>
      have hn : ¬ L 19 := fun hl => hno (anc_spec h.dc 60 19 8 (by kernel_rfl) hl)
      have c0 := ((h.w.1 hn).cell (p := ⟨y, 1, none⟩) hy).trans hy1
      obtain ⟨h1, h2, h3⟩ := flds (d := some 54) (p := Op.load 3 (.tmp 53)) (g := none) ho (by kernel_rfl)
      have g0 := (show a'.eval (.tmp 53) = .pointer (some ⟨y, 1, none⟩) from h.e 7 (by decide) (dep ho hall 7 (by kernel_rfl)) _ rfl)
      refine og_plain ho h3 trivial ?_
      unfold Oper.wp
      simp only [execOp, h2, g0]
      go_simp
      exact h.next hcg hKD ho hall (by decide) (by decide) (by decide) inj hz hu rfl
    | 9, _ =>
      obtain ⟨h1, h2, h3⟩ := flds (d := some 55) (p := Op.buildSlice 24 0 #[]) (g := none) ho (by kernel_rfl)
      refine og_plain ho h3 trivial ?_
      unfold Oper.wp
      simp only [execOp, h2]
      go_simp
      refine h.put ho hall (by decide) inj hz hu (fun v' hv' => by cases hv') (fun val h1 h2 => ?_)
      exact h.w.mk9 hu (fun hl => hno (anc_spec h.dc 60 14 9 (by kernel_rfl) hl)) (fun hl => hno (anc_spec h.dc 60 17 9 (by kernel_rfl) hl)) (fun hl => hno (anc_spec h.dc 60 18 9 (by kernel_rfl) hl)) (fun hl => hno (anc_spec h.dc 60 19 9 (by kernel_rfl) hl)) (fun hl => hno (anc_spec h.dc 60 22 9 (by kernel_rfl) hl)) h1
    | 10, _ =>
      refine og_move (g := none) ho (.tmp 1) (d := some 56) (by kernel_rfl) trivial q1 ?_
      exact h.next hcg hKD ho hall (by decide) (by decide) (by decide) inj hz hu rfl
    | 11, _ =>
      refine og_move (g := none) ho (.tmp 2) (d := some 57) (by kernel_rfl) trivial q2 ?_
      exact h.next hcg hKD ho hall (by decide) (by decide) (by decide) inj hz hu rfl
    | 12, _ =>
      refine og_move (g := none) ho (.tmp 3) (d := some 58) (by kernel_rfl) trivial q3 ?_
      exact h.next hcg hKD ho hall (by decide) (by decide) (by decide) inj hz hu rfl
    | 13, _ =>
      have k1 : t ≤ c := by omega
      have k2 : f ≤ t := by omega
      have k3 : ¬ c = f := by omega
      obtain ⟨h1, h2, h3⟩ := flds (d := some 59) (p := Op.slice 24 (.tmp 56) (some (.tmp 57)) (some (.tmp 58)) none) (g := none) ho (by kernel_rfl)
      have g0 := (show a'.eval (.tmp 56) = .slice (some ⟨ab, off, none⟩) n c from h.e 10 (by decide) (dep ho hall 10 (by kernel_rfl)) _ rfl)
      have g1 := (show a'.eval (.tmp 57) = .int .i64 (f : Int) from h.e 11 (by decide) (dep ho hall 11 (by kernel_rfl)) _ rfl)
      have g2 := (show a'.eval (.tmp 58) = .int .i64 (t : Int) from h.e 12 (by decide) (dep ho hall 12 (by kernel_rfl)) _ rfl)
      have b0 : a'.tmps[56]?.getD undef = .slice (some ⟨ab, off, none⟩) n c := by simpa [Act.eval] using g0
      have b1 : a'.tmps[57]?.getD undef = .int .i64 (f : Int) := by simpa [Act.eval] using g1
      have b2 : a'.tmps[58]?.getD undef = .int .i64 (t : Int) := by simpa [Act.eval] using g2
      refine og_plain ho h3 trivial ?_
      unfold Oper.wp
      simp only [execOp, h2, g0]
      go_simp
      exact h.next hcg hKD ho hall (by decide) (by decide) (by decide) inj hz hu rfl
    | 14, _ =>
      have l9 : L 9 := dep ho hall 9 (by kernel_rfl)
      have hn : ¬ L 19 := (fun hl => hno (anc_spec h.dc 60 19 14 (by kernel_rfl) hl))
      obtain ⟨z, hv, hz1, hz2⟩ := h.w.2.1 l9
      have hv2 : a'.eval (.tmp 55) = .slice (some ⟨z, 0, none⟩) 0 0 := hv
      obtain ⟨i0, hi0, hzz0, hzz1, hzz2⟩ := info_parts Try.infoE
      obtain ⟨v', u', g', hr, hS, hg, hF⟩ := run_clone sz_elc u 24 41 i0 _ 24 Try.underlying24 hi0 hzz0 hzz1 rfl hzz2 z (c - f) ⟨ab, off + f * 3, none⟩ (hz2 hno) es (fun j v hj => isE_cells (hE.below (h.w.1 hn)) (by omega) j v hj) hroom
      rw [hel.out] at hr
      refine og_app (g := none) ho (.tmp 55) (.tmp 59) 24 (d := some 60) (by kernel_rfl) trivial hv2 (show a'.eval (.tmp 59) = .slice (some ⟨ab, off + f * 3, none⟩) (t - f) (c - f) from h.e 13 (by decide) (dep ho hall 13 (by kernel_rfl)) _ rfl) hr ?_
      refine h.put ho hall (by decide) inj hz hu (fun v' hv' => by cases hv') (fun val h1 h2 => ?_)
      exact h.w.app14 hu hn (fun hl => hno (anc_spec h.dc 60 17 14 (by kernel_rfl) hl)) (fun hl => hno (anc_spec h.dc 60 18 14 (by kernel_rfl) hl)) (fun hl => hno (anc_spec h.dc 60 22 14 (by kernel_rfl) hl)) (h2 9 (by decide) (by decide)) hz1 hg (by rw [h1]; exact hS) hF
    | 15, _ =>
      refine og_move (g := none) ho (.tmp 4) (d := some 61) (by kernel_rfl) trivial q4 ?_
      exact h.next hcg hKD ho hall (by decide) (by decide) (by decide) inj hz hu rfl
    | 16, _ =>
      refine og_move (g := none) ho (.tmp 5) (d := some 62) (by kernel_rfl) trivial q5 ?_
      exact h.next hcg hKD ho hall (by decide) (by decide) (by decide) inj hz hu rfl
    | 17, _ =>
      have l14 : L 14 := dep ho hall 14 (by kernel_rfl)
      have hn : ¬ L 19 := (fun hl => hno (anc_spec h.dc 60 19 17 (by kernel_rfl) hl))
      obtain ⟨h1, h2, h3⟩ := flds (d := some 63) (p := Op.build 93 #[(0, .tmp 54), (1, .tmp 60), (2, .tmp 61), (3, .tmp 62)]) (g := none) ho (by kernel_rfl)
      obtain ⟨g, a1, c1, hv, hg, -⟩ := h.w.2.2.1 l14
      have hv' : a'.eval (.tmp 60) = .slice a1 es.length c1 := hv
      have g0 := (show a'.eval (.tmp 54) = .int .i64 (G : Int) from h.e 8 (by decide) (dep ho hall 8 (by kernel_rfl)) _ rfl)
      have g1 := (show a'.eval (.tmp 61) = .int .i64 cc from h.e 15 (by decide) (dep ho hall 15 (by kernel_rfl)) _ rfl)
      have g2 := (show a'.eval (.tmp 62) = .string s from h.e 16 (by decide) (dep ho hall 16 (by kernel_rfl)) _ rfl)
      have b0 : a'.tmps[54]?.getD undef = .int .i64 (G : Int) := by simpa [Act.eval] using g0
      have b1 : a'.tmps[61]?.getD undef = .int .i64 cc := by simpa [Act.eval] using g1
      have b2 : a'.tmps[62]?.getD undef = .string s := by simpa [Act.eval] using g2
      have b3 : a'.tmps[60]?.getD undef = .slice a1 es.length c1 := by simpa [Act.eval] using hv'
      refine og_plain ho h3 trivial ?_
      unfold Oper.wp
      simp only [execOp, h2]
      go_simp
      refine h.put ho hall (by decide) inj hz hu (fun v' hv' => by cases hv') (fun val h1 h2 => ?_)
      exact h.w.mk17 hu hn (fun hl => hno (anc_spec h.dc 60 18 17 (by kernel_rfl) hl)) (h2 9 (by decide) (by decide)) (h2 14 (by decide) (by decide)) (fun hl => hno (anc_spec h.dc 60 22 17 (by kernel_rfl) hl)) (by rw [h1, (h2 14 (by decide) (by decide))]; exact congrArg (fun v => Value.agg (pA G cc s v)) hv'.symm)
    | 18, _ =>
      have l17 : L 17 := dep ho hall 17 (by kernel_rfl)
      have l14 : L 14 := anc_spec h.dc 60 17 14 (by kernel_rfl) l17
      have hn : ¬ L 19 := (fun hl => hno (anc_spec h.dc 60 19 18 (by kernel_rfl) hl))
      obtain ⟨h1, h2, h3⟩ := flds (d := some 64) (p := Op.buildSlice 54 1 #[(0, .tmp 63)]) (g := none) ho (by kernel_rfl)
      obtain ⟨g, a1, c1, hv, hg, -⟩ := h.w.2.2.1 l14
      have hv' : a'.eval (.tmp 60) = .slice a1 es.length c1 := hv
      have g0 : a'.eval (.tmp 63) = .agg (pA G cc s (a'.eval (.tmp 60))) := h.w.2.2.2.1 l17
      rw [hv'] at g0
      unfold pA at g0
      have b0 : a'.tmps[63]?.getD undef = .agg #[.int .i64 (G : Int), .slice a1 es.length c1, .int .i64 cc, .string s, .bool false, .slice none 0 0] := by simpa [Act.eval] using g0
      refine og_plain ho h3 trivial ?_
      unfold Oper.wp
      simp only [execOp, h2]
      go_simp
      refine h.put ho hall (by decide) inj hz hu (fun v' hv' => by cases hv') (fun val h1 h2 => ?_)
      exact h.w.mk18 hu hn (h2 9 (by decide) (by decide)) (h2 14 (by decide) (by decide)) (h2 17 (by decide) (by decide)) (fun hl => hno (anc_spec h.dc 60 22 18 (by kernel_rfl) hl)) h1 (by rw [(h2 14 (by decide) (by decide))]; exact hv')
    | 19, _ =>
      have l18 : L 18 := dep ho hall 18 (by kernel_rfl)
      have l14 : L 14 := anc_spec h.dc 60 18 14 (by kernel_rfl) l18
      obtain ⟨q, hv, hq⟩ := h.w.2.2.2.2.1 l18 hno
      have hv2 : a'.eval (.tmp 64) = .slice (some ⟨q, 0, none⟩) 1 1 := hv
      obtain ⟨v', u', hr, hP⟩ := push_rn hrow (h.w.1 hno) hN (h.w.2.2.1 l14) hno hq
      refine og_app (g := none) ho (.tmp 50) (.tmp 64) 54 (d := some 65) (by kernel_rfl) trivial (show a'.eval (.tmp 50) = .slice ra N rc from h.e 4 (by decide) (dep ho hall 4 (by kernel_rfl)) _ rfl) hv2 hr ?_
      refine h.put ho hall (by decide) inj hz hu (fun v' hv' => by cases hv') (fun val h1 h2 => ?_)
      exact h.w.app19 hu (fun hl => hno (anc_spec h.dc 60 22 19 (by kernel_rfl) hl)) (h2 9 (by decide) (by decide)) (h2 14 (by decide) (by decide)) (h2 17 (by decide) (by decide)) (by rw [h1]; exact hP) l14
    | 20, _ =>
      refine og_nil (g := none) ho (.tmp 46) (d := some 66) (by kernel_rfl) trivial (show a'.eval (.tmp 46) = .pointer (some ⟨y, 0, none⟩) from h.e 0 (by decide) (dep ho hall 0 (by kernel_rfl)) _ rfl) ?_
      exact h.next hcg hKD ho hall (by decide) (by decide) (by decide) inj hz hu rfl
    | 21, _ =>
      obtain ⟨h1, h2, h3⟩ := flds (d := some 67) (p := Op.fieldAddr 56 (.tmp 66) 0) (g := none) ho (by kernel_rfl)
      have g0 := (show a'.eval (.tmp 66) = .pointer (some ⟨y, 0, none⟩) from h.e 20 (by decide) (dep ho hall 20 (by kernel_rfl)) _ rfl)
      refine og_plain ho h3 trivial ?_
      unfold Oper.wp
      simp only [execOp, h2, g0]
      go_simp
      exact h.next hcg hKD ho hall (by decide) (by decide) (by decide) inj hz hu rfl
    | 22, _ =>
      obtain ⟨h1, h2, h3⟩ := flds (d := none) (p := Op.store 54 (.tmp 67) (.tmp 65)) (g := none) ho (by kernel_rfl)
      have g0 := (show a'.eval (.tmp 67) = .pointer (some ⟨y, 0, none⟩) from h.e 21 (by decide) (dep ho hall 21 (by kernel_rfl)) _ rfl)
      have l19 := dep ho hall 19 (by kernel_rfl)
      have hP := h.w.2.2.2.2.2.1 l19 hno
      obtain ⟨A, q, d, hv⟩ := hP.form
      have g1 : a'.eval (.tmp 65) = .slice A q d := hv
      obtain ⟨v0, hc, hf⟩ := hSt _ _ hP
      refine og_plain ho h3 trivial ?_
      unfold Oper.wp
      simp only [execOp, h2, g0, g1]
      go_simp
      refine h.eff ho hall (by decide) hu ?_
      exact h.w.store hu l19 hno (by have := hP; rw [show (fun j => a'.eval (.tmp (slRP j))) 19 = a'.eval (.tmp 65) from rfl, g1] at this; exact this) (anc_spec h.dc 60 19 14 (by kernel_rfl) l19)
    | i + 23, hi => omega
  · rintro L a' u h hall
    rw [opsRP_size] at hall
    rw [h.done hz]
    refine hK L _ u hall h.w (fun j => ?_)
    by_cases hj : j ∈ DRP
    · cases hv : (VRP y N rc G ab off n c f t ra cc s) j with
      | none => exact .inl rfl
      | some v =>
        refine .inr (.inl ?_)
        have hjN : j < 23 := by
          have hh : DRP.all (fun i => decide (i < 23)) = true := by kernel_rfl
          exact of_decide_eq_true (List.all_eq_true.1 hh j hj)
        rw [h.e j hj (hall j hjN) v hv]
    · exact .inr (.inr hj)
  · intro L hL
    refine JR.start hL ?_
    exact WRP.start hL

end Go.Proofs.Ytkkklfnooeofcab
