/-
  The document's stands: the region whose order is drawn.
-/
import Derived.Test.YtkkklfnooeofcabMJa
import Derived.Test.YtkkklfnooeofcabIg
namespace Go.Proofs.Ytkkklfnooeofcab
open Go.RowKit Go.Lib
set_option linter.unusedVariables false

def stA (id : Nat) (cl : Int) (wo : ByteArray) (sh : Bool) (v : Value) : Array Value := #[.int .i64 (id : Int), .int .i64 cl, .string wo, .int .i64 0, .int .i64 0, .bool true, .bool sh, v]

/-- append of all answers onto an empty row. -/
theorem run_copyR (w : World) (b : Nat) (hb : w.heap[b]? = some (.cells #[] 90 (0, 0))) (ρ : Option Nat) (a : Option Addr) (c : Nat) (xs : List (Int × ByteArray)) (h : SF rpc 2 w 90 ρ (.slice a xs.length c) xs) (hl : roomy xs.length 24) :
    ∃ v' w' g', (∀ ty, (Builtin.append_ #[45, 45] ty #[.slice (some ⟨b, 0, none⟩) 0 0, .slice a xs.length c]).run Try.prog w = .ok v' w') ∧ SF rpc 2 w' 90 (some g') v' xs ∧ (g' = b ∨ g' = w.heap.size) ∧ Fr (· = b) w w' := by
  obtain ⟨i0, hi0, hz0, hz1, hz2⟩ := info_parts Try.infoR
  cases ρ with
  | none =>
    obtain ⟨hv, rfl⟩ := h
    injection hv with h1 h2 h3
    subst h1
    subst h3
    refine ⟨.slice (some ⟨b, 0, none⟩) 0 0, w, b, fun ty => ?_, ⟨0, rfl, [], by simpa using hb, by simp [cl_nil], rfl, Nat.le_refl _, by omega, by simp⟩, .inl rfl, Fr.refl _ _⟩
    simp [Builtin.append_, run_underlying Try.underlying45, Builtin.lenOf, Builtin.firstCells, sizeOf, typeInfo, hi0, storeCells]
  | some g =>
    obtain ⟨cap, hv, hR⟩ := h
    injection hv with h1 h2 h3
    subst h1
    exact run_clone sz_rpc w 45 90 i0 _ 24 Try.underlying45 hi0 hz0 hz1 rfl hz2 b c ⟨g, 0, none⟩ hb xs (fun j u hj => by
      have := hR.cells sz_rpc 0 j u (by simpa using hj)
      simpa using this) hl

def WSt (w : World) (id : Nat) (cl : Int) (wo : ByteArray) (sh : Bool) (sd : List (Int × ByteArray)) (L : Nat → Prop) (val : Nat → Value) (u : World) : Prop :=
  Below w.heap.size w u ∧
  (L 8 → ∃ z, val 8 = .slice (some ⟨z, 0, none⟩) 0 0 ∧ w.heap.size ≤ z ∧ (¬ L 11 → u.heap[z]? = some (.cells #[] 90 (0, 0)))) ∧
  (L 11 → ∃ g a c, val 11 = .slice a sd.length c ∧ w.heap.size ≤ g ∧ SF rpc 2 u 90 (some g) (val 11) sd) ∧
  (L 12 → val 12 = .agg (stA id cl wo sh (val 11))) ∧
  (L 13 → ∃ m, val 13 = .pointer (some ⟨m, 0, none⟩) ∧ w.heap.size ≤ m ∧ (¬ L 14 → u.heap[m]? = some (.cells #[.int .i64 0, .int .i64 0, .string ⟨#[]⟩, .int .i64 0, .int .i64 0, .bool false, .bool false, .slice none 0 0] 47 (0, 0))) ∧ (L 14 → u.heap[m]? = some (.cells (stA id cl wo sh (val 11)) 47 (0, 0))))

section
variable {w : World} {id : Nat} {cl : Int} {wo : ByteArray} {sh : Bool} {sd : List (Int × ByteArray)} {L L' : Nat → Prop} {val val' : Nat → Value} {u u' : World}
theorem WSt.start (h : ∀ i, ¬ L i) : WSt w id cl wo sh sd L val w.drew :=
  ⟨⟨rfl, rfl, rfl, Nat.le_refl _, fun _ _ => rfl⟩, fun a => absurd a (h _), fun a => absurd a (h _), fun a => absurd a (h _), fun a => absurd a (h _)⟩
theorem WSt.mk8 (h : WSt w id cl wo sh sd L val u) (hu : ∀ j, L' j ↔ (j = 8 ∨ L j)) (n11 : ¬ L 11) (n12 : ¬ L 12) (n14 : ¬ L 14) (e : val' 13 = val 13) (hv : val' 8 = .slice (some ⟨u.heap.size, 0, none⟩) 0 0) : WSt w id cl wo sh sd L' val' (u.alloc (.cells #[] 90)) := by
  obtain ⟨h1, h2, h3, h4, h5⟩ := h
  have l : ∀ k, k ≠ 8 → (L' k → L k) := fun k hk hl => ((hu k).1 hl).resolve_left hk
  refine ⟨h1.alloc h1.size _, fun _ => ⟨_, hv, h1.size, fun _ => heap_alloc_new u _⟩, fun a => absurd (l 11 (by omega) a) n11, fun a => absurd (l 12 (by omega) a) n12, fun a => ?_⟩
  obtain ⟨m, q1, q2, q3, -⟩ := h5 (l 13 (by omega) a)
  exact ⟨m, by rw [e]; exact q1, q2, fun _ => (Fr.alloc (fun _ => False) u _).keeps (q3 n14) (fun h => h), fun a => absurd (l 14 (by omega) a) n14⟩
theorem WSt.app {z g : Nat} (h : WSt w id cl wo sh sd L val u) (hu : ∀ j, L' j ↔ (j = 11 ∨ L j)) (n11 : ¬ L 11) (n12 : ¬ L 12) (n14 : ¬ L 14) (e : val' 13 = val 13) (hz : w.heap.size ≤ z) (hg : g = z ∨ g = u.heap.size) (hzb : u.heap[z]? = some (.cells #[] 90 (0, 0))) (hS : SF rpc 2 u' 90 (some g) (val' 11) sd) (hF : Fr (· = z) u u') (e8 : val' 8 = val 8 := by assumption) : WSt w id cl wo sh sd L' val' u' := by
  obtain ⟨h1, h2, h3, h4, h5⟩ := h
  have l : ∀ k, k ≠ 11 → (L' k → L k) := fun k hk hl => ((hu k).1 hl).resolve_left hk
  obtain ⟨a1, c1, hv, -, -⟩ := hS.form
  refine ⟨h1.trans (hF.below h1.size (fun k hk => by omega)), fun a => ?_, fun _ => ⟨g, a1, c1, hv, by have := h1.size; omega, hS⟩, fun a => absurd (l 12 (by omega) a) n12, fun a => ?_⟩
  · obtain ⟨z', q1, q2, -⟩ := h2 (l 8 (by omega) a)
    exact ⟨z', by rw [e8]; exact q1, q2, fun hn => absurd ((hu 11).2 (.inl rfl)) hn⟩
  · obtain ⟨m, q1, q2, q3, -⟩ := h5 (l 13 (by omega) a)
    exact ⟨m, by rw [e]; exact q1, q2, fun _ => hF.keeps (q3 n14) (fun hm => ty_ne (q3 n14) hzb (by decide) hm), fun a => absurd (l 14 (by omega) a) n14⟩
theorem WSt.mk12 (h : WSt w id cl wo sh sd L val u) (hu : ∀ j, L' j ↔ (j = 12 ∨ L j)) (n14 : ¬ L 14) (e8 : val' 8 = val 8) (e11 : val' 11 = val 11) (e13 : val' 13 = val 13) (hv : val' 12 = .agg (stA id cl wo sh (val' 11))) : WSt w id cl wo sh sd L' val' u := by
  obtain ⟨h1, h2, h3, h4, h5⟩ := h
  have l : ∀ k, k ≠ 12 → (L' k ↔ L k) := fun k hk => ⟨fun hl => ((hu k).1 hl).resolve_left hk, fun hl => (hu k).2 (.inr hl)⟩
  refine ⟨h1, ?_, ?_, fun _ => hv, ?_⟩
  · rw [l 8 (by omega), l 11 (by omega), e8]; exact h2
  · rw [l 11 (by omega), e11]; exact h3
  · rw [l 13 (by omega), l 14 (by omega), e13, e11]; exact h5
theorem WSt.mk13 (h : WSt w id cl wo sh sd L val u) (hu : ∀ j, L' j ↔ (j = 13 ∨ L j)) (n14 : ¬ L 14) (e8 : val' 8 = val 8) (e11 : val' 11 = val 11) (e12 : val' 12 = val 12) (hv : val' 13 = .pointer (some ⟨u.heap.size, 0, none⟩)) : WSt w id cl wo sh sd L' val' (u.alloc (.cells #[.int .i64 0, .int .i64 0, .string ⟨#[]⟩, .int .i64 0, .int .i64 0, .bool false, .bool false, .slice none 0 0] 47)) := by
  obtain ⟨h1, h2, h3, h4, h5⟩ := h
  have l : ∀ k, k ≠ 13 → (L' k → L k) := fun k hk hl => ((hu k).1 hl).resolve_left hk
  have hF := fun o => Fr.alloc (fun _ => False) u o
  refine ⟨h1.alloc h1.size _, fun a => ?_, fun a => ?_, fun a => ?_, fun _ => ⟨_, hv, h1.size, fun _ => heap_alloc_new u _, fun a => absurd (l 14 (by omega) a) n14⟩⟩
  · obtain ⟨z, q1, q2, q3⟩ := h2 (l 8 (by omega) a)
    exact ⟨z, by rw [e8]; exact q1, q2, fun hn => (hF _).keeps (q3 (fun hl => hn ((hu 11).2 (.inr hl)))) (fun h => h)⟩
  · obtain ⟨g, a1, c1, q1, q2, q3⟩ := h3 (l 11 (by omega) a)
    exact ⟨g, a1, c1, by rw [e11]; exact q1, q2, by rw [e11]; exact q3.fr (hF _) (fun _ _ h => h)⟩
  · rw [e12, e11]; exact h4 (l 12 (by omega) a)
theorem WSt.store {m : Nat} {cs : Array Value} (h : WSt w id cl wo sh sd L val u) (hu : ∀ j, L' j ↔ (j = 14 ∨ L j)) (n14 : ¬ L 14) (l11 : L 11) (l13 : L 13) (hm : val 13 = .pointer (some ⟨m, 0, none⟩)) (hmb : u.heap[m]? = some (.cells cs 47 (0, 0))) (hF : Fr (· = m) u u') (hN : u'.heap[m]? = some (.cells (stA id cl wo sh (val 11)) 47 (0, 0))) : WSt w id cl wo sh sd L' val u' := by
  obtain ⟨h1, h2, h3, h4, h5⟩ := h
  have l : ∀ k, k ≠ 14 → (L' k → L k) := fun k hk hl => ((hu k).1 hl).resolve_left hk
  obtain ⟨m', q1, q2, -, -⟩ := h5 l13
  rw [hm] at q1
  obtain rfl : m = m' := by simpa using q1
  refine ⟨h1.trans (hF.below h1.size (fun k hk => by omega)), fun a => ?_, fun a => ?_, fun a => h4 (l 12 (by omega) a), fun a => ⟨m, hm, q2, fun hn => absurd ((hu 14).2 (.inl rfl)) hn, fun _ => hN⟩⟩
  · obtain ⟨z, q1, q2, -⟩ := h2 (l 8 (by omega) a)
    exact ⟨z, q1, q2, fun hn => absurd ((hu 11).2 (.inr l11)) hn⟩
  · obtain ⟨g, a1, c1, q1, q2, q3⟩ := h3 l11
    refine ⟨g, a1, c1, q1, q2, q3.fr hF (fun k hk e => ?_)⟩
    cases hk
    obtain ⟨cur, hc⟩ := q3.blk
    exact ty_ne hc hmb (by decide) e
end

noncomputable def opsSt : Array Oper := (Try.f40.body.bind (opsAt 1)).getD #[]
theorem opsSt_size : opsSt.size = 15 := by kernel_rfl
theorem opsSt_earlier : Earlier opsSt := by
  have h : (List.range 15).all (fun i => ((opsSt[i]?).map (fun o => o.after.all (fun e => !Region.binds .any e || decide (e.on < i)))).getD true) = true := by kernel_rfl
  intro i o ho e he hb
  have hi : i < 15 := by
    have := (Array.getElem?_eq_some_iff.1 ho).1
    rwa [opsSt_size] at this
  have h1 := List.all_eq_true.1 h i (List.mem_range.2 hi)
  rw [ho] at h1
  simp only [Option.map_some, Option.getD_some, Array.all_eq_true'] at h1
  have h2 := h1 e he
  rw [hb] at h2
  simpa using h2
def slSt (j : Nat) : Nat := ([7, 8, 9, 10, 11, 12, 13, 14, 15, 16, 17, 18, 19, 5, 914] : List Nat).getD j 0
def DSt : List Nat := [0, 1, 2, 3, 4, 5, 6, 7, 8, 9, 10, 11, 12, 13]
def VSt (x id : Nat) (cl : Int) (wo : ByteArray) (sh : Bool) (sa : Option Addr) (sc : Nat) (sd : List (Int × ByteArray)) (j : Nat) : Option Value := [some (.pointer (some ⟨x, 0, none⟩)), some (.int .i64 (id : Int)), some (.pointer (some ⟨x, 2, none⟩)), some (.int .i64 cl), some (.pointer (some ⟨x, 3, none⟩)), some (.string wo), some (.pointer (some ⟨x, 4, none⟩)), some (.bool sh), none, some (.pointer (some ⟨x, 5, none⟩)), some (.slice sa sd.length sc), none, none, none, none].getD j none
set_option maxRecDepth 100000 in
set_option maxHeartbeats 4000000 in
theorem regSt (a0 : Act) (w : World) {Q : Exit → Act → World → Prop} (x id : Nat) (cl : Int) (wo : ByteArray) (sh : Bool) (sa : Option Addr) (sc : Nat) (sd : List (Int × ByteArray)) (ρ : Option Nat) (hsd : SF rpc 2 w 90 ρ (.slice sa sd.length sc) sd) (hroom : roomy sd.length 24) (hx : x < w.heap.size) (hx0 : w.cell? ⟨x, 0, none⟩ = some (.int .i64 (id : Int))) (hx2 : w.cell? ⟨x, 2, none⟩ = some (.int .i64 cl)) (hx3 : w.cell? ⟨x, 3, none⟩ = some (.string wo)) (hx4 : w.cell? ⟨x, 4, none⟩ = some (.bool sh)) (hx5 : w.cell? ⟨x, 5, none⟩ = some (.slice sa sd.length sc)) (hzz : 19 < a0.tmps.size) (H3 : a0.eval (.tmp 3) = .pointer (some ⟨x, 0, none⟩))
    (hK : ∀ (L : Nat → Prop) (val : Nat → Value) (u : World), (∀ i, i < 15 → L i) → WSt w id cl wo sh sd L val u → (∀ j, (VSt x id cl wo sh sa sc sd) j = none ∨ (VSt x id cl wo sh sa sc sd) j = some (val j) ∨ j ∉ DSt) → Q .normal (puts a0 (DSt.map fun j => (slSt j, val j))) u) :
    (Code.region 1 opsSt true).wp Try.prog Q a0 w := by
  have inj : ∀ i ∈ DSt, ∀ j ∈ DSt, slSt i = slSt j → i = j := by
    have h : DSt.all (fun i => DSt.all (fun j => decide (slSt i = slSt j → i = j))) = true := by kernel_rfl
    intro i hi j hj he
    exact (of_decide_eq_true (List.all_eq_true.1 (List.all_eq_true.1 h i hi) j hj)) he
  have hz : ∀ j ∈ DSt, slSt j < a0.tmps.size := by
    have h : DSt.all (fun i => decide (slSt i ≤ 19)) = true := by kernel_rfl
    intro j hj
    have := of_decide_eq_true (List.all_eq_true.1 h j hj)
    omega
  have hcg : ∀ (L L' : Nat → Prop) (val val' : Nat → Value) u, (∀ k ∈ ([8, 11, 12, 13, 14] : List Nat), (L' k ↔ L k)) → (∀ k ∈ ([8, 11, 12, 13] : List Nat), val' k = val k) → WSt w id cl wo sh sd L val u → WSt w id cl wo sh sd L' val' u := by
    intro L L' val val' u hl hv hw
    simp at hl hv
    unfold WSt at hw ⊢
    simp only [hl, hv]
    exact hw
  have hKD : ∀ k ∈ ([8, 11, 12, 13] : List Nat), k ∈ DSt := by decide
  refine wp_region_inv (by kernel_rfl) opsSt_earlier (fun L a u => JR opsSt slSt DSt (VSt x id cl wo sh sa sc sd) a0 (WSt w id cl wo sh sd) L a u) ?_ ?_ ?_
  · rintro L L' a' u i o h ho hno hall hu
    clear hK
    have q3 := (h.fe.ev (j := 3) (by decide)).trans H3
    have hi : i < 15 := by
      have := (Array.getElem?_eq_some_iff.1 ho).1
      rwa [opsSt_size] at this
    match i, hi with
    | 0, _ =>
      obtain ⟨h1, h2, h3⟩ := flds (d := some 7) (p := Op.fieldAddr 93 (.tmp 3) 0) (g := none) ho (by kernel_rfl)
      have g0 := q3
      refine og_plain ho h3 trivial ?_
      unfold Oper.wp
      simp only [execOp, h2, g0]
      go_simp
      exact h.next hcg hKD ho hall (by decide) (by decide) (by decide) inj hz hu rfl
    | 1, _ =>
      have c0 := (h.w.1.cell (p := ⟨x, 0, none⟩) hx).trans hx0
      obtain ⟨h1, h2, h3⟩ := flds (d := some 8) (p := Op.load 3 (.tmp 7)) (g := none) ho (by kernel_rfl)
      have g0 := (show a'.eval (.tmp 7) = .pointer (some ⟨x, 0, none⟩) from h.e 0 (by decide) (dep ho hall 0 (by kernel_rfl)) _ rfl)
      refine og_plain ho h3 trivial ?_
      unfold Oper.wp
      simp only [execOp, h2, g0]
      go_simp
      exact h.next hcg hKD ho hall (by decide) (by decide) (by decide) inj hz hu rfl
    | 2, _ =>
      obtain ⟨h1, h2, h3⟩ := flds (d := some 9) (p := Op.fieldAddr 93 (.tmp 3) 2) (g := none) ho (by kernel_rfl)
      have g0 := q3
      refine og_plain ho h3 trivial ?_
      unfold Oper.wp
      simp only [execOp, h2, g0]
      go_simp
      exact h.next hcg hKD ho hall (by decide) (by decide) (by decide) inj hz hu rfl
    | 3, _ =>
      have c0 := (h.w.1.cell (p := ⟨x, 2, none⟩) hx).trans hx2
      obtain ⟨h1, h2, h3⟩ := flds (d := some 10) (p := Op.load 3 (.tmp 9)) (g := none) ho (by kernel_rfl)
      have g0 := (show a'.eval (.tmp 9) = .pointer (some ⟨x, 2, none⟩) from h.e 2 (by decide) (dep ho hall 2 (by kernel_rfl)) _ rfl)
      refine og_plain ho h3 trivial ?_
      unfold Oper.wp
      simp only [execOp, h2, g0]
      go_simp
      exact h.next hcg hKD ho hall (by decide) (by decide) (by decide) inj hz hu rfl
    | 4, _ =>
      obtain ⟨h1, h2, h3⟩ := flds (d := some 11) (p := Op.fieldAddr 93 (.tmp 3) 3) (g := none) ho (by kernel_rfl)
      have g0 := q3
      refine og_plain ho h3 trivial ?_
      unfold Oper.wp
      simp only [execOp, h2, g0]
      go_simp
      exact h.next hcg hKD ho hall (by decide) (by decide) (by decide) inj hz hu rfl
    | 5, _ =>
      have c0 := (h.w.1.cell (p := ⟨x, 3, none⟩) hx).trans hx3
      obtain ⟨h1, h2, h3⟩ := flds (d := some 12) (p := Op.load 9 (.tmp 11)) (g := none) ho (by kernel_rfl)
      have g0 := (show a'.eval (.tmp 11) = .pointer (some ⟨x, 3, none⟩) from h.e 4 (by decide) (dep ho hall 4 (by kernel_rfl)) _ rfl)
      refine og_plain ho h3 trivial ?_
      unfold Oper.wp
      simp only [execOp, h2, g0]
      go_simp
      exact h.next hcg hKD ho hall (by decide) (by decide) (by decide) inj hz hu rfl
    | 6, _ =>
      obtain ⟨h1, h2, h3⟩ := flds (d := some 13) (p := Op.fieldAddr 93 (.tmp 3) 4) (g := none) ho (by kernel_rfl)
      have g0 := q3
      refine og_plain ho h3 trivial ?_
      unfold Oper.wp
      simp only [execOp, h2, g0]
      go_simp
      exact h.next hcg hKD ho hall (by decide) (by decide) (by decide) inj hz hu rfl
    | 7, _ =>
      have c0 := (h.w.1.cell (p := ⟨x, 4, none⟩) hx).trans hx4
      obtain ⟨h1, h2, h3⟩ := flds (d := some 14) (p := Op.load 4 (.tmp 13)) (g := none) ho (by kernel_rfl)
      have g0 := (show a'.eval (.tmp 13) = .pointer (some ⟨x, 4, none⟩) from h.e 6 (by decide) (dep ho hall 6 (by kernel_rfl)) _ rfl)
      refine og_plain ho h3 trivial ?_
      unfold Oper.wp
      simp only [execOp, h2, g0]
      go_simp
      exact h.next hcg hKD ho hall (by decide) (by decide) (by decide) inj hz hu rfl
    | 8, _ =>
      have hn : ¬ L 11 := fun hl => hno (anc_spec h.dc 20 11 8 (by kernel_rfl) hl)
      obtain ⟨h1, h2, h3⟩ := flds (d := some 15) (p := Op.buildSlice 45 0 #[]) (g := none) ho (by kernel_rfl)
      refine og_plain ho h3 trivial ?_
      unfold Oper.wp
      simp only [execOp, h2]
      go_simp
      refine h.put ho hall (by decide) inj hz hu (fun v' hv' => by cases hv') (fun val h1 h2 => ?_)
      exact h.w.mk8 hu hn (fun hl => hn (anc_spec h.dc 20 12 11 (by kernel_rfl) hl)) (fun hl => hn (anc_spec h.dc 20 14 11 (by kernel_rfl) hl)) (h2 13 (by decide) (by decide)) h1
    | 9, _ =>
      obtain ⟨h1, h2, h3⟩ := flds (d := some 16) (p := Op.fieldAddr 93 (.tmp 3) 5) (g := none) ho (by kernel_rfl)
      have g0 := q3
      refine og_plain ho h3 trivial ?_
      unfold Oper.wp
      simp only [execOp, h2, g0]
      go_simp
      exact h.next hcg hKD ho hall (by decide) (by decide) (by decide) inj hz hu rfl
    | 10, _ =>
      have c0 := (h.w.1.cell (p := ⟨x, 5, none⟩) hx).trans hx5
      obtain ⟨h1, h2, h3⟩ := flds (d := some 17) (p := Op.load 45 (.tmp 16)) (g := none) ho (by kernel_rfl)
      have g0 := (show a'.eval (.tmp 16) = .pointer (some ⟨x, 5, none⟩) from h.e 9 (by decide) (dep ho hall 9 (by kernel_rfl)) _ rfl)
      refine og_plain ho h3 trivial ?_
      unfold Oper.wp
      simp only [execOp, h2, g0]
      go_simp
      exact h.next hcg hKD ho hall (by decide) (by decide) (by decide) inj hz hu rfl
    | 11, _ =>
      have l8 : L 8 := dep ho hall 8 (by kernel_rfl)
      obtain ⟨z, hv, hz1, hz2⟩ := h.w.2.1 l8
      have hv2 : a'.eval (.tmp 15) = .slice (some ⟨z, 0, none⟩) 0 0 := hv
      obtain ⟨v', u', g', hr, hS, hg, hF⟩ := run_copyR u z (hz2 hno) ρ sa sc sd (hsd.fr (S := fun _ => False) (Fr.of_below h.w.1) (fun _ _ h => h)) hroom
      refine og_app (g := none) ho (.tmp 15) (.tmp 17) 45 (d := some 18) (by kernel_rfl) trivial hv2 (show a'.eval (.tmp 17) = .slice sa sd.length sc from h.e 10 (by decide) (dep ho hall 10 (by kernel_rfl)) _ rfl) hr ?_
      refine h.put ho hall (by decide) inj hz hu (fun v' hv' => by cases hv') (fun val h1 h2 => ?_)
      exact h.w.app hu hno (fun hl => hno (anc_spec h.dc 20 12 11 (by kernel_rfl) hl)) (fun hl => hno (anc_spec h.dc 20 14 11 (by kernel_rfl) hl)) (h2 13 (by decide) (by decide)) hz1 hg (hz2 hno) (by rw [h1]; exact hS) hF (h2 8 (by decide) (by decide))
    | 12, _ =>
      have l11 : L 11 := dep ho hall 11 (by kernel_rfl)
      have hn : ¬ L 14 := fun hl => hno (anc_spec h.dc 20 14 12 (by kernel_rfl) hl)
      obtain ⟨h1, h2, h3⟩ := flds (d := some 19) (p := Op.build 47 #[(0, .tmp 8), (1, .tmp 10), (2, .tmp 12), (5, .const (.bool true)), (6, .tmp 14), (7, .tmp 18)]) (g := none) ho (by kernel_rfl)
      obtain ⟨g, a1, c1, hv, hg, -⟩ := h.w.2.2.1 l11
      have hv' : a'.eval (.tmp 18) = .slice a1 sd.length c1 := hv
      have g0 := (show a'.eval (.tmp 8) = .int .i64 (id : Int) from h.e 1 (by decide) (dep ho hall 1 (by kernel_rfl)) _ rfl)
      have g1 := (show a'.eval (.tmp 10) = .int .i64 cl from h.e 3 (by decide) (dep ho hall 3 (by kernel_rfl)) _ rfl)
      have g2 := (show a'.eval (.tmp 12) = .string wo from h.e 5 (by decide) (dep ho hall 5 (by kernel_rfl)) _ rfl)
      have g3 := (show a'.eval (.tmp 14) = .bool sh from h.e 7 (by decide) (dep ho hall 7 (by kernel_rfl)) _ rfl)
      have b0 : a'.tmps[8]?.getD undef = .int .i64 (id : Int) := by simpa [Act.eval] using g0
      have b1 : a'.tmps[10]?.getD undef = .int .i64 cl := by simpa [Act.eval] using g1
      have b2 : a'.tmps[12]?.getD undef = .string wo := by simpa [Act.eval] using g2
      have b3 : a'.tmps[14]?.getD undef = .bool sh := by simpa [Act.eval] using g3
      have b4 : a'.tmps[18]?.getD undef = .slice a1 sd.length c1 := by simpa [Act.eval] using hv'
      refine og_plain ho h3 trivial ?_
      unfold Oper.wp
      simp only [execOp, h2]
      go_simp
      refine h.put ho hall (by decide) inj hz hu (fun v' hv' => by cases hv') (fun val h1 h2 => ?_)
      exact h.w.mk12 hu hn (h2 8 (by decide) (by decide)) (h2 11 (by decide) (by decide)) (h2 13 (by decide) (by decide)) (by rw [h1, h2 11 (by decide) (by decide)]; exact congrArg (fun v => Value.agg (stA id cl wo sh v)) hv'.symm)
    | 13, _ =>
      obtain ⟨h1, h2, h3⟩ := flds (d := some 5) (p := Op.alloc 47) (g := none) ho (by kernel_rfl)
      refine og_plain ho h3 trivial ?_
      unfold Oper.wp
      simp only [execOp, h2]
      go_simp
      refine h.put ho hall (by decide) inj hz hu (fun v' hv' => by cases hv') (fun val h1 h2 => ?_)
      exact h.w.mk13 hu (fun hl => hno (anc_spec h.dc 20 14 13 (by kernel_rfl) hl)) (h2 8 (by decide) (by decide)) (h2 11 (by decide) (by decide)) (h2 12 (by decide) (by decide)) h1
    | 14, _ =>
      obtain ⟨h1, h2, h3⟩ := flds (d := none) (p := Op.store 47 (.tmp 5) (.tmp 19)) (g := none) ho (by kernel_rfl)
      have l13 : L 13 := dep ho hall 13 (by kernel_rfl)
      have l12 : L 12 := dep ho hall 12 (by kernel_rfl)
      have l11 : L 11 := anc_spec h.dc 20 12 11 (by kernel_rfl) l12
      obtain ⟨g, a1, ca, hv, hg, hS⟩ := h.w.2.2.1 l11
      obtain ⟨m, hm, hm1, hm2, -⟩ := h.w.2.2.2.2 l13
      have hm3 := hm2 hno
      have g0 : a'.eval (.tmp 5) = .pointer (some ⟨m, 0, none⟩) := hm
      have g1 : a'.eval (.tmp 19) = .agg (stA id cl wo sh (a'.eval (.tmp 18))) := h.w.2.2.2.1 l12
      have hv' : a'.eval (.tmp 18) = .slice a1 sd.length ca := hv
      have c0 := cell_row hm3 0; have c1 := cell_row hm3 1; have c2 := cell_row hm3 2; have c3 := cell_row hm3 3
      have c4 := cell_row hm3 4; have c5 := cell_row hm3 5; have c6 := cell_row hm3 6; have c7 := cell_row hm3 7
      have z0 := frozen_row hm3 0; have z1 := frozen_row hm3 1; have z2 := frozen_row hm3 2; have z3 := frozen_row hm3 3
      have z4 := frozen_row hm3 4; have z5 := frozen_row hm3 5; have z6 := frozen_row hm3 6; have z7 := frozen_row hm3 7
      simp at c0 c1 c2 c3 c4 c5 c6 c7
      rw [hv'] at g1
      unfold stA at g1
      refine og_plain ho h3 trivial ?_
      unfold Oper.wp
      simp only [execOp, h2, g0, g1]
      go_simp
      refine h.eff ho hall (by decide) hu ?_
      have hfin := set8_row hm3 (.int .i64 (id : Int)) (.int .i64 cl) (.string wo) (.int .i64 0) (.int .i64 0) (.bool true) (.bool sh) (.slice a1 sd.length ca)
      have hFf := fr_sets8 u m (.int .i64 (id : Int)) (.int .i64 cl) (.string wo) (.int .i64 0) (.int .i64 0) (.bool true) (.bool sh) (.slice a1 sd.length ca)
      exact h.w.store hu hno l11 l13 hm hm3 hFf (hfin.trans (congrArg (fun v => some (Obj.cells (stA id cl wo sh v) 47 (0, 0))) hv'.symm))
    | i + 15, hi => omega
  · rintro L a' u h hall
    rw [opsSt_size] at hall
    rw [h.done hz]
    refine hK L _ u hall h.w (fun j => ?_)
    by_cases hj : j ∈ DSt
    · cases hv : (VSt x id cl wo sh sa sc sd) j with
      | none => exact .inl rfl
      | some v =>
        refine .inr (.inl ?_)
        have hjN : j < 15 := by
          have hh : DSt.all (fun i => decide (i < 15)) = true := by kernel_rfl
          exact of_decide_eq_true (List.all_eq_true.1 hh j hj)
        rw [h.e j hj (hall j hjN) v hv]
    · exact .inr (.inr hj)
  · intro L hL
    refine JR.start hL ?_
    exact WSt.start hL

end Go.Proofs.Ytkkklfnooeofcab
