/-
  Texts put together: Ra Rb.
-/
import Derived.Test.YtkkklfnooeofcabMPa
/-! Ra -/
namespace Go.Proofs.Ytkkklfnooeofcab
open Go.RowKit Go.Maps Go.ChangeMaps Go.MapKept Go.WideMaps
set_option linter.unusedVariables false

theorem push_reply (w : World) (β : Option Nat) (v : Value) (xs : List (Int × ByteArray)) (hS : SF rpc 2 w 90 β v xs) (z : Nat) (cc : Int) (s : ByteArray) (hz : w.heap[z]? = some (.cells #[.int .i64 cc, .string s] 90 (0, 0))) (hroom : roomy (xs.length + 1) 24) :
    ∃ v' w', (∀ ty, (Builtin.append_ #[45, 45] ty #[v, .slice (some ⟨z, 0, none⟩) 1 1]).run Try.prog w = .ok v' w') ∧ NowF rpc 2 w w' 90 β v' (xs ++ [(cc, s)]) := by
  obtain ⟨i0, hi0, hz0, hz1, hz2⟩ := info_parts Try.infoR
  obtain ⟨v', w', hr, hN⟩ := run_pushF sz_rpc (P := Try.prog) w 45 0 90 i0 _ 24 Try.underlying45 hi0 hz0 hz1 rfl hz2 β v xs hS ⟨z, 0, none⟩ 1 1 [(cc, s)] rfl (fun j u hj => by
    rw [add_lit, Nat.zero_add, cell_row hz]
    simp only [cl_one, rpc] at hj
    simpa using hj) (by omega) hroom.2 hroom.1
  exact ⟨v', w', fun ty => hr, hN⟩

/-- The answer said. -/
def FinR (w : World) (x : Nat) (ρ : Option Nat) (sd' : List (Int × ByteArray)) (nt : Nt) (ev : Value) (u : World) : Prop :=
  ∃ g v, SF rpc 2 u 90 (some g) v sd' ∧ (ρ = some g ∨ w.heap.size ≤ g) ∧ u.heap[x]? = some (.cells (ntc nt v ev) 76 (0, 0)) ∧ Fr (fun k => k = x ∨ ρ = some k) w u

def WRep (w : World) (x : Nat) (ρ : Option Nat) (cc : Int) (s : ByteArray) (sd : List (Int × ByteArray)) (nt : Nt) (ev : Value) (L : Nat → Prop) (val : Nat → Value) (u : World) : Prop :=
  (¬ L 11 → Below w.heap.size w u) ∧ (L 10 → ¬ L 11 → ∃ z, val 10 = .slice (some ⟨z, 0, none⟩) 1 1 ∧ w.heap.size ≤ z ∧ u.heap[z]? = some (.cells #[.int .i64 cc, .string s] 90 (0, 0))) ∧
  (L 11 → ¬ L 15 → ∃ g, SF rpc 2 u 90 (some g) (val 11) (sd ++ [(cc, s)]) ∧ (ρ = some g ∨ w.heap.size ≤ g) ∧ Fr (fun k => ρ = some k) w u) ∧
  (L 15 → FinR w x ρ (sd ++ [(cc, s)]) nt ev u)

section
variable {w : World} {x : Nat} {ρ : Option Nat} {cc : Int} {s : ByteArray} {sd : List (Int × ByteArray)} {nt : Nt} {ev : Value} {L L' : Nat → Prop} {val val' : Nat → Value} {u u' : World}
theorem WRep.call (h : WRep w x ρ cc s sd nt ev L val u) (hu : ∀ j, L' j ↔ (j = 8 ∨ L j)) (hn : ¬ L 11) (hn1 : ¬ L 10) (hn2 : ¬ L 15) (hb : Below u.heap.size u u') : WRep w x ρ cc s sd nt ev L' val' u' := by
  obtain ⟨h1, h2, h3, h4⟩ := h
  have l : ∀ k, k ≠ 8 → (L' k → L k) := fun k hk hl => ((hu k).1 hl).resolve_left hk
  have hB := h1 hn
  exact ⟨fun _ => hB.trans (hb.mono hB.size), fun a => absurd (l 10 (by omega) a) hn1, fun a => absurd (l 11 (by omega) a) hn, fun a => absurd (l 15 (by omega) a) hn2⟩
theorem WRep.build (h : WRep w x ρ cc s sd nt ev L val u) (hu : ∀ j, L' j ↔ (j = 10 ∨ L j)) (hn : ¬ L 11) (hn2 : ¬ L 15) (hv : val' 10 = .slice (some ⟨u.heap.size, 0, none⟩) 1 1) : WRep w x ρ cc s sd nt ev L' val' (u.alloc (.cells #[.int .i64 cc, .string s] 90)) := by
  obtain ⟨h1, h2, h3, h4⟩ := h
  have l : ∀ k, k ≠ 10 → (L' k → L k) := fun k hk hl => ((hu k).1 hl).resolve_left hk
  have hB := h1 hn
  exact ⟨fun _ => hB.alloc hB.size _, fun _ _ => ⟨_, hv, hB.size, heap_alloc_new u _⟩, fun a => absurd (l 11 (by omega) a) hn, fun a => absurd (l 15 (by omega) a) hn2⟩
theorem WRep.app {g : Nat} (h : WRep w x ρ cc s sd nt ev L val u) (hu : ∀ j, L' j ↔ (j = 11 ∨ L j)) (hn : ¬ L 11) (hn2 : ¬ L 15) (hS : SF rpc 2 u' 90 (some g) (val' 11) (sd ++ [(cc, s)])) (hN : (ρ = some g ∧ Fr (· = g) u u') ∨ (g = u.heap.size ∧ Fr (fun _ => False) u u')) : WRep w x ρ cc s sd nt ev L' val' u' := by
  obtain ⟨h1, h2, h3, h4⟩ := h
  have l : ∀ k, k ≠ 11 → (L' k → L k) := fun k hk hl => ((hu k).1 hl).resolve_left hk
  have hB := h1 hn
  have l11 : L' 11 := (hu 11).2 (.inl rfl)
  refine ⟨fun a => absurd l11 a, fun _ a => absurd l11 a, fun _ _ => ⟨g, hS, ?_, ?_⟩, fun a => absurd (l 15 (by omega) a) hn2⟩
  · rcases hN with ⟨e, -⟩ | ⟨e, -⟩
    · exact .inl e
    · exact .inr (by rw [e]; exact hB.size)
  · have hF : Fr (fun k => ρ = some k) w u := Fr.of_below hB
    rcases hN with ⟨e, hf⟩ | ⟨e, hf⟩
    · exact hF.next hf (fun k _ hk => by rw [e, hk])
    · exact hF.next hf (fun k _ hk => hk.elim)
theorem WRep.fin {v0 : Value} {a : Option Addr} {m c : Nat} (h : WRep w x ρ cc s sd nt ev L val u) (hu : ∀ j, L' j ↔ (j = 15 ∨ L j)) (l11 : L 11) (hn : ¬ L 15) (hv : val 11 = .slice a m c) (hbox : w.heap[x]? = some (.cells (ntc nt v0 ev) 76 (0, 0))) (hxr : ρ ≠ some x) (hx : x < w.heap.size) : WRep w x ρ cc s sd nt ev L' val (u.setCell ⟨x, 7, none⟩ (.slice a m c)) := by
  obtain ⟨h1, h2, h3, h4⟩ := h
  obtain ⟨g, q1, q2, q3⟩ := h3 l11 hn
  have l11' : L' 11 := (hu 11).2 (.inr l11)
  have l15 : L' 15 := (hu 15).2 (.inl rfl)
  refine ⟨fun a => absurd l11' a, fun _ a => absurd l11' a, fun _ a => absurd l15 a, fun _ => ⟨g, val 11, ?_, q2, ?_, ?_⟩⟩
  · refine q1.fr (Fr.setCell (S := (· = x)) u ⟨x, 7, none⟩ _ rfl) (fun k hk e => ?_)
    cases hk
    subst e
    rcases q2 with e | e
    · exact hxr e
    · omega
  · have := set_row (q3.keeps hbox (fun e => hxr e)) 7 (.slice a m c)
    rw [hv]
    simpa [ntc] using this
  · exact (q3.mono (fun k _ hk => .inr hk)).next (Fr.setCell (S := (· = x)) u ⟨x, 7, none⟩ _ rfl) (fun k _ hk => .inl hk)
end

noncomputable def opsRep : Array Oper := (Try.f34.body.bind (opsAt 9)).getD #[]
theorem opsRep_size : opsRep.size = 16 := by kernel_rfl
theorem opsRep_earlier : Earlier opsRep := by
  have h : (List.range 16).all (fun i => ((opsRep[i]?).map (fun o => o.after.all (fun e => !Region.binds .any e || decide (e.on < i)))).getD true) = true := by kernel_rfl
  intro i o ho e he hb
  have hi : i < 16 := by
    have := (Array.getElem?_eq_some_iff.1 ho).1
    rwa [opsRep_size] at this
  have h1 := List.all_eq_true.1 h i (List.mem_range.2 hi)
  rw [ho] at h1
  simp only [Option.map_some, Option.getD_some, Array.all_eq_true'] at h1
  have h2 := h1 e he
  rw [hb] at h2
  simpa using h2
def slRep (j : Nat) : Nat := ([34, 35, 36, 37, 38, 39, 40, 41, 42, 43, 44, 45, 46, 47, 48, 915] : List Nat).getD j 0
def DRep : List Nat := [0, 1, 2, 3, 4, 5, 6, 7, 8, 9, 10, 11, 12, 13, 14]
def VRep (x n c : Nat) (aq : Option Addr) (cc : Int) (s : ByteArray) (j : Nat) : Option Value := [some (.pointer (some ⟨x, 0, none⟩)), some (.pointer (some ⟨x, 0, none⟩)), some (.pointer (some ⟨x, 0, none⟩)), some (.pointer (some ⟨x, 0, none⟩)), some (.pointer (some ⟨x, 7, none⟩)), some (.slice aq n c), some (.int .i64 cc), some (.string s), some (.string s), some (.agg #[.int .i64 cc, .string s]), none, none, some (.pointer (some ⟨x, 0, none⟩)), some (.pointer (some ⟨x, 0, none⟩)), some (.pointer (some ⟨x, 7, none⟩)), none].getD j none
set_option maxRecDepth 100000 in
set_option maxHeartbeats 4000000 in
theorem regRep (a0 : Act) (w : World) {Q : Exit → Act → World → Prop} (x n c : Nat) (aq : Option Addr) (cc : Int) (s : ByteArray) (ρ : Option Nat) (sd : List (Int × ByteArray)) (nt : Nt) (ev : Value) (hsd : SF rpc 2 w 90 ρ (.slice aq n c) sd) (hroom : roomy (sd.length + 1) 24) (hx : x < w.heap.size) (hx7 : w.cell? ⟨x, 7, none⟩ = some (.slice aq n c)) (hbox : w.heap[x]? = some (.cells (ntc nt (.slice aq n c) ev) 76 (0, 0))) (hxr : ρ ≠ some x) (hzz : 48 < a0.tmps.size) (H2 : a0.eval (.tmp 2) = .int .i64 cc) (H3 : a0.eval (.tmp 3) = .string s) (H9 : a0.eval (.tmp 9) = .pointer (some ⟨x, 0, none⟩))
    (hK : ∀ (L : Nat → Prop) (val : Nat → Value) (u : World), (∀ i, i < 16 → L i) → WRep w x ρ cc s sd nt ev L val u → (∀ j, (VRep x n c aq cc s) j = none ∨ (VRep x n c aq cc s) j = some (val j) ∨ j ∉ DRep) → Q .normal (puts a0 (DRep.map fun j => (slRep j, val j))) u) :
    (Code.region 9 opsRep true).wp Try.prog Q a0 w := by
  have inj : ∀ i ∈ DRep, ∀ j ∈ DRep, slRep i = slRep j → i = j := by
    have h : DRep.all (fun i => DRep.all (fun j => decide (slRep i = slRep j → i = j))) = true := by kernel_rfl
    intro i hi j hj he
    exact (of_decide_eq_true (List.all_eq_true.1 (List.all_eq_true.1 h i hi) j hj)) he
  have hz : ∀ j ∈ DRep, slRep j < a0.tmps.size := by
    have h : DRep.all (fun i => decide (slRep i ≤ 48)) = true := by kernel_rfl
    intro j hj
    have := of_decide_eq_true (List.all_eq_true.1 h j hj)
    omega
  have hcg : ∀ (L L' : Nat → Prop) (val val' : Nat → Value) u, (∀ k ∈ ([10, 11, 15] : List Nat), (L' k ↔ L k)) → (∀ k ∈ ([10, 11] : List Nat), val' k = val k) → WRep w x ρ cc s sd nt ev L val u → WRep w x ρ cc s sd nt ev L' val' u := by
    intro L L' val val' u hl hv hw
    simp at hl hv
    unfold WRep at hw ⊢
    simp only [hl, hv]
    exact hw
  have hKD : ∀ k ∈ ([10, 11] : List Nat), k ∈ DRep := by decide
  refine wp_region_inv (by kernel_rfl) opsRep_earlier (fun L a u => JR opsRep slRep DRep (VRep x n c aq cc s) a0 (WRep w x ρ cc s sd nt ev) L a u) ?_ ?_ ?_
  · rintro L L' a' u i o h ho hno hall hu
    clear hK
    have q2 := (h.fe.ev (j := 2) (by decide)).trans H2
    have q3 := (h.fe.ev (j := 3) (by decide)).trans H3
    have q9 := (h.fe.ev (j := 9) (by decide)).trans H9
    have hi : i < 16 := by
      have := (Array.getElem?_eq_some_iff.1 ho).1
      rwa [opsRep_size] at this
    match i, hi with
    | 0, _ =>
      refine og_move (g := none) ho (.tmp 9) (d := some 34) (by kernel_rfl) trivial q9 ?_
      exact h.next hcg hKD ho hall (by decide) (by decide) (by decide) inj hz hu rfl
    | 1, _ =>
      refine og_move (g := none) ho (.tmp 9) (d := some 35) (by kernel_rfl) trivial q9 ?_
      exact h.next hcg hKD ho hall (by decide) (by decide) (by decide) inj hz hu rfl
    | 2, _ =>
      refine og_nil (g := none) ho (.tmp 35) (d := some 36) (by kernel_rfl) trivial (show a'.eval (.tmp 35) = .pointer (some ⟨x, 0, none⟩) from h.e 1 (by decide) (dep ho hall 1 (by kernel_rfl)) _ rfl) ?_
      exact h.next hcg hKD ho hall (by decide) (by decide) (by decide) inj hz hu rfl
    | 3, _ =>
      obtain ⟨h1, h2, h3⟩ := flds (d := some 37) (p := Op.fieldAddr 76 (.tmp 36) 0) (g := none) ho (by kernel_rfl)
      have g0 := (show a'.eval (.tmp 36) = .pointer (some ⟨x, 0, none⟩) from h.e 2 (by decide) (dep ho hall 2 (by kernel_rfl)) _ rfl)
      refine og_plain ho h3 trivial ?_
      unfold Oper.wp
      simp only [execOp, h2, g0]
      go_simp
      exact h.next hcg hKD ho hall (by decide) (by decide) (by decide) inj hz hu rfl
    | 4, _ =>
      obtain ⟨h1, h2, h3⟩ := flds (d := some 38) (p := Op.fieldAddr 47 (.tmp 37) 7) (g := none) ho (by kernel_rfl)
      have g0 := (show a'.eval (.tmp 37) = .pointer (some ⟨x, 0, none⟩) from h.e 3 (by decide) (dep ho hall 3 (by kernel_rfl)) _ rfl)
      refine og_plain ho h3 trivial ?_
      unfold Oper.wp
      simp only [execOp, h2, g0]
      go_simp
      exact h.next hcg hKD ho hall (by decide) (by decide) (by decide) inj hz hu rfl
    | 5, _ =>
      have hn : ¬ L 11 := fun hl => hno (anc_spec h.dc 60 11 5 (by kernel_rfl) hl)
      have c0 := ((h.w.1 hn).cell (p := ⟨x, 7, none⟩) hx).trans hx7
      obtain ⟨h1, h2, h3⟩ := flds (d := some 39) (p := Op.load 45 (.tmp 38)) (g := none) ho (by kernel_rfl)
      have g0 := (show a'.eval (.tmp 38) = .pointer (some ⟨x, 7, none⟩) from h.e 4 (by decide) (dep ho hall 4 (by kernel_rfl)) _ rfl)
      refine og_plain ho h3 trivial ?_
      unfold Oper.wp
      simp only [execOp, h2, g0]
      go_simp
      exact h.next hcg hKD ho hall (by decide) (by decide) (by decide) inj hz hu rfl
    | 6, _ =>
      refine og_move (g := none) ho (.tmp 2) (d := some 40) (by kernel_rfl) trivial q2 ?_
      exact h.next hcg hKD ho hall (by decide) (by decide) (by decide) inj hz hu rfl
    | 7, _ =>
      refine og_move (g := none) ho (.tmp 3) (d := some 41) (by kernel_rfl) trivial q3 ?_
      exact h.next hcg hKD ho hall (by decide) (by decide) (by decide) inj hz hu rfl
    | 8, _ =>
      have hn : ¬ L 11 := fun hl => hno (anc_spec h.dc 60 11 8 (by kernel_rfl) hl)
      have hn1 : ¬ L 10 := fun hl => hno (anc_spec h.dc 60 10 8 (by kernel_rfl) hl)
      have hn2 : ¬ L 15 := fun hl => hno (anc_spec h.dc 60 15 8 (by kernel_rfl) hl)
      refine op_call ho 28 (.tmp 41) 9 (d := some 42) (by kernel_rfl) Try.func28 rfl (by kernel_rfl) (by rw [(show a'.eval (.tmp 41) = .string s from h.e 7 (by decide) (dep ho hall 7 (by kernel_rfl)) _ rfl)]; exact own_any s u) ?_
      rintro e w' ⟨rfl, bw⟩
      refine ⟨_, rfl, h.put ho hall (by decide) inj hz hu (fun v' hv' => by injection hv') (fun val h1 h2 => ?_)⟩
      exact h.w.call hu hn hn1 hn2 bw
    | 9, _ =>
      obtain ⟨h1, h2, h3⟩ := flds (d := some 43) (p := Op.build 90 #[(0, .tmp 40), (1, .tmp 42)]) (g := none) ho (by kernel_rfl)
      have g0 := (show a'.eval (.tmp 40) = .int .i64 cc from h.e 6 (by decide) (dep ho hall 6 (by kernel_rfl)) _ rfl)
      have g1 := (show a'.eval (.tmp 42) = .string s from h.e 8 (by decide) (dep ho hall 8 (by kernel_rfl)) _ rfl)
      have b0 : a'.tmps[40]?.getD undef = .int .i64 cc := by simpa [Act.eval] using g0
      have b1 : a'.tmps[42]?.getD undef = .string s := by simpa [Act.eval] using g1
      refine og_plain ho h3 trivial ?_
      unfold Oper.wp
      simp only [execOp, h2]
      go_simp
      exact h.next hcg hKD ho hall (by decide) (by decide) (by decide) inj hz hu rfl
    | 10, _ =>
      have hn : ¬ L 11 := fun hl => hno (anc_spec h.dc 60 11 10 (by kernel_rfl) hl)
      have hn2 : ¬ L 15 := fun hl => hno (anc_spec h.dc 60 15 10 (by kernel_rfl) hl)
      obtain ⟨h1, h2, h3⟩ := flds (d := some 44) (p := Op.buildSlice 45 1 #[(0, .tmp 43)]) (g := none) ho (by kernel_rfl)
      have g0 := (show a'.eval (.tmp 43) = .agg #[.int .i64 cc, .string s] from h.e 9 (by decide) (dep ho hall 9 (by kernel_rfl)) _ rfl)
      have b0 : a'.tmps[43]?.getD undef = .agg #[.int .i64 cc, .string s] := by simpa [Act.eval] using g0
      refine og_plain ho h3 trivial ?_
      unfold Oper.wp
      simp only [execOp, h2]
      go_simp
      refine h.put ho hall (by decide) inj hz hu (fun v' hv' => by cases hv') (fun val h1 h2 => ?_)
      exact h.w.build hu hn hn2 h1
    | 11, _ =>
      have hn2 : ¬ L 15 := fun hl => hno (anc_spec h.dc 60 15 11 (by kernel_rfl) hl)
      have l10 : L 10 := dep ho hall 10 (by kernel_rfl)
      obtain ⟨z, hz1, hz2, hz3⟩ := h.w.2.1 l10 hno
      obtain ⟨v', w', hr, g', hN1, hN2⟩ := push_reply u ρ (.slice aq n c) sd ((hsd.fr (S := fun _ => False) (Fr.of_below (h.w.1 hno)) (fun _ _ h => h))) z cc s hz3 hroom
      refine og_app (g := none) ho (.tmp 39) (.tmp 44) 45 (d := some 45) (by kernel_rfl) trivial (show a'.eval (.tmp 39) = .slice aq n c from h.e 5 (by decide) (dep ho hall 5 (by kernel_rfl)) _ rfl) (show a'.eval (.tmp 44) = _ from hz1) hr ?_
      refine h.put ho hall (by decide) inj hz hu (fun v' hv' => by cases hv') (fun val h1 h2 => ?_)
      exact h.w.app hu hno hn2 (by rw [h1]; exact hN1) hN2
    | 12, _ =>
      refine og_nil (g := none) ho (.tmp 34) (d := some 46) (by kernel_rfl) trivial (show a'.eval (.tmp 34) = .pointer (some ⟨x, 0, none⟩) from h.e 0 (by decide) (dep ho hall 0 (by kernel_rfl)) _ rfl) ?_
      exact h.next hcg hKD ho hall (by decide) (by decide) (by decide) inj hz hu rfl
    | 13, _ =>
      obtain ⟨h1, h2, h3⟩ := flds (d := some 47) (p := Op.fieldAddr 76 (.tmp 46) 0) (g := none) ho (by kernel_rfl)
      have g0 := (show a'.eval (.tmp 46) = .pointer (some ⟨x, 0, none⟩) from h.e 12 (by decide) (dep ho hall 12 (by kernel_rfl)) _ rfl)
      refine og_plain ho h3 trivial ?_
      unfold Oper.wp
      simp only [execOp, h2, g0]
      go_simp
      exact h.next hcg hKD ho hall (by decide) (by decide) (by decide) inj hz hu rfl
    | 14, _ =>
      obtain ⟨h1, h2, h3⟩ := flds (d := some 48) (p := Op.fieldAddr 47 (.tmp 47) 7) (g := none) ho (by kernel_rfl)
      have g0 := (show a'.eval (.tmp 47) = .pointer (some ⟨x, 0, none⟩) from h.e 13 (by decide) (dep ho hall 13 (by kernel_rfl)) _ rfl)
      refine og_plain ho h3 trivial ?_
      unfold Oper.wp
      simp only [execOp, h2, g0]
      go_simp
      exact h.next hcg hKD ho hall (by decide) (by decide) (by decide) inj hz hu rfl
    | 15, _ =>
      obtain ⟨h1, h2, h3⟩ := flds (d := none) (p := Op.store 45 (.tmp 48) (.tmp 45)) (g := none) ho (by kernel_rfl)
      have l11 : L 11 := dep ho hall 11 (by kernel_rfl)
      have g0 := (show a'.eval (.tmp 48) = .pointer (some ⟨x, 7, none⟩) from h.e 14 (by decide) (dep ho hall 14 (by kernel_rfl)) _ rfl)
      obtain ⟨g', q1, q2, q3⟩ := h.w.2.2.1 l11 hno
      obtain ⟨a1, c1, hv1, -, -⟩ := q1.form
      have g1 : a'.eval (.tmp 45) = _ := hv1
      have hbx := q3.keeps hbox (fun e => hxr e)
      have c0 := cell_row hbx 7
      have z0 := frozen_row hbx 7
      simp [ntc] at c0
      refine og_plain ho h3 trivial ?_
      unfold Oper.wp
      simp only [execOp, h2, g0, g1]
      go_simp
      refine h.eff ho hall (by decide) hu ?_
      exact h.w.fin hu l11 hno (hv1.trans (by simp)) hbox hxr hx
    | i + 16, hi => omega
  · rintro L a' u h hall
    rw [opsRep_size] at hall
    rw [h.done hz]
    refine hK L _ u hall h.w (fun j => ?_)
    by_cases hj : j ∈ DRep
    · cases hv : (VRep x n c aq cc s) j with
      | none => exact .inl rfl
      | some v =>
        refine .inr (.inl ?_)
        have hjN : j < 16 := by
          have hh : DRep.all (fun i => decide (i < 16)) = true := by kernel_rfl
          exact of_decide_eq_true (List.all_eq_true.1 hh j hj)
        rw [h.e j hj (hall j hjN) v hv]
    · exact .inr (.inr hj)
  · intro L hL
    refine JR.start hL ?_
    have hb : Below w.heap.size w w.drew := (Below.refl _ _).drew
    exact ⟨fun _ => hb, fun a => absurd a (hL _), fun a => absurd a (hL _), fun a => absurd a (hL _)⟩

end Go.Proofs.Ytkkklfnooeofcab

/-! Rb -/
namespace Go.Proofs.Ytkkklfnooeofcab
open Go.RowKit Go.Maps Go.ChangeMaps Go.MapKept Go.WideMaps
set_option linter.unusedVariables false

theorem zeroP (w : World) : (zeroValue 73).run Try.prog w = .ok (.pointer none) w := by kernel_rfl

/-- The note of a number. -/
theorem BK.lk {w : World} {O : Nat → Prop} {r b g : Nat} {A B : List NB} {p : NB} (h : BK w O r b g (A ++ p :: B)) : (Instr.lookup 51 (.map (some b)) (.int .i64 (p.n.id : Int)) true).run Try.prog w = .ok (.tuple #[.pointer (some ⟨p.x, 0, none⟩), .bool true]) w :=
  h.mp.look Try.underlying51 zeroP (k := p.n.id) (List.mem_map.2 ⟨p, by simp, rfl⟩)
theorem BK.lk0 {w : World} {O : Nat → Prop} {r b g : Nat} {ps : List NB} (h : BK w O r b g ps) {k : Int} (hk : -9223372036854775808 ≤ k ∧ k ≤ 9223372036854775807) (hn : ∀ n ∈ ps.map NB.n, (n.id : Int) ≠ k) : (Instr.lookup 51 (.map (some b)) (.int .i64 k) true).run Try.prog w = .ok (.tuple #[.pointer none, .bool false]) w :=
  h.mp.noneI Try.underlying51 zeroP hk (fun q hq => by
    obtain ⟨p, hp, rfl⟩ := List.mem_map.1 hq
    exact hn p.n (List.mem_map.2 ⟨p, hp, rfl⟩))
theorem split_map {A B : List Nt} {n : Nt} {ps : List NB} (e : A ++ n :: B = ps.map NB.n) : ∃ A' B' p, ps = A' ++ p :: B' ∧ A'.map NB.n = A ∧ p.n = n ∧ B'.map NB.n = B := by
  obtain ⟨A', C, rfl, h1, h2⟩ := List.map_eq_append_iff.1 e.symm
  obtain ⟨p, B', rfl, h3, h4⟩ := List.map_eq_cons_iff.1 h2
  exact ⟨A', B', p, rfl, h1, h3, h4⟩

/-- One note turned: its own block and the row of its answers. -/
theorem BK.turn {w u : World} {O : Nat → Prop} {r b g : Nat} {A B : List NB} {p q : NB} (h : BK w O r b g (A ++ p :: B)) (hF : Fr (fun k => k = p.x ∨ p.ρ = some k) w u) (hq : NK u q) (e1 : q.n.id = p.n.id) (e2 : q.x = p.x) (e3 : q.ε = p.ε) (e4 : ∀ k, q.ρ = some k → p.ρ = some k ∨ w.heap.size ≤ k) :
    NowB w u O r g ((A ++ q :: B).map NB.n) := by
  obtain ⟨es0, ck, hmb⟩ := h.mp.map
  have hp := h.nk p (by simp)
  have hpo := h.on p (by simp)
  have hmx : b ≠ p.x := fun e => map_ne hp.box hmb ⟨es0, ck, rfl⟩ e.symm
  have hρ : ∀ k, p.ρ = some k → ∃ cur, w.heap[k]? = some (.cells cur 90 (0, 0)) := fun k hk => by
    have := hp.said
    rw [hk] at this
    exact this.blk
  have hnS : ∀ k cs t, w.heap[k]? = some (.cells cs t (0, 0)) → t ≠ 76 → t ≠ 90 → ¬ (k = p.x ∨ p.ρ = some k) := by
    rintro k cs t hk h1 h2 (e | e)
    · exact ty_ne hk hp.box h1 e
    · obtain ⟨cur, hc⟩ := hρ k e
      exact ty_ne hk hc h2 rfl
  have hdis := List.pairwise_append.1 h.dis
  have hdis2 := List.pairwise_cons.1 hdis.2.1
  have other : ∀ p' ∈ A ++ B, p'.x ≠ p.x ∧ ∀ k, p.ρ = some k → p'.ρ ≠ some k := by
    intro p' hp'
    rcases List.mem_append.1 hp' with hA | hB
    · have := hdis.2.2 p' hA p (by simp)
      exact ⟨this.1, fun k hk hk' => this.2 k hk' hk⟩
    · have := hdis2.1 p' hB
      exact ⟨fun e => this.1 e.symm, this.2⟩
  have memo : ∀ p' ∈ A ++ q :: B, p' = q ∨ p' ∈ A ++ B := by
    intro p' hp'
    simp at hp' ⊢
    rcases hp' with h1 | h1 | h1 <;> simp [h1]
  have memp : ∀ p' ∈ A ++ B, p' ∈ A ++ p :: B := by
    intro p' hp'
    simp at hp' ⊢
    rcases hp' with h1 | h1 <;> simp [h1]
  refine ⟨fun k => O k ∨ q.ρ = some k, ⟨b, A ++ q :: B, rfl, hF.keeps h.box (hnS _ _ _ h.box (by decide) (by decide)), ?_, ?_, ?_, .inl h.orr, .inl h.ob, ?_, ?_, ?_, ?_, h.le⟩, ?_, hF.mono ?_⟩
  · have hm := h.mp.fr hF (by
      rintro (e | e)
      · exact hmx e
      · obtain ⟨cur, hc⟩ := hρ b e
        exact map_ne hc hmb ⟨es0, ck, rfl⟩ rfl)
    have e : (A ++ q :: B).map keyN = (A ++ p :: B).map keyN := by simp [keyN, e1, e2]
    rw [e]
    exact hm
  · intro p' hp'
    rcases memo p' hp' with rfl | hp''
    · exact hq
    · have hk := h.nk p' (memp p' hp'')
      refine hk.fr hF ?_ ?_ ?_
      · rintro (e | e)
        · exact (other p' hp'').1 e
        · obtain ⟨cur, hc⟩ := hρ _ e
          exact ty_ne hk.box hc (by decide) rfl
      · rintro k hk' (e | e)
        · have hs := hk.said
          rw [hk'] at hs
          obtain ⟨cur, hc⟩ := hs.blk
          exact ty_ne hc hp.box (by decide) e
        · exact (other p' hp'').2 k e hk'
      · obtain ⟨cur, hc⟩ := (se_sf hk.elems).blk
        exact hnS _ _ _ hc (by decide) (by decide)
  · rw [List.pairwise_append, List.pairwise_cons]
    refine ⟨hdis.1, ⟨fun p' hp' => ⟨?_, fun k hk hk' => ?_⟩, hdis2.2⟩, fun p1 h1 p2 h2 => ?_⟩
    · rw [e2]; exact (hdis2.1 p' hp').1
    · rcases e4 k hk with hk2 | hk2
      · exact (hdis2.1 p' hp').2 k hk2 hk'
      · have := h.old k ((h.on p' (by simp [hp'])).2.2 k hk'); omega
    · rcases List.mem_cons.1 h2 with rfl | h2
      · have hh := hdis.2.2 p1 h1 p (by simp)
        refine ⟨by rw [e2]; exact hh.1, fun k hk hk' => ?_⟩
        rcases e4 k hk' with hk2 | hk2
        · exact hh.2 k hk hk2
        · have := h.old k ((h.on p1 (by simp [h1])).2.2 k hk); omega
      · exact hdis.2.2 p1 h1 p2 (by simp [h2])
  · intro p' hp'
    rcases memo p' hp' with rfl | hp''
    · exact ⟨.inl (by rw [e2]; exact hpo.1), .inl (by rw [e3]; exact hpo.2.1), fun k hk => .inr hk⟩
    · have := h.on p' (memp p' hp'')
      exact ⟨.inl this.1, .inl this.2.1, fun k hk => .inl (this.2.2 k hk)⟩
  · rintro k (hk | hk)
    · exact Nat.lt_of_lt_of_le (h.old k hk) hF.size
    · exact hq.said.lt k hk
  · have hi := h.ids
    rw [List.pairwise_append, List.pairwise_cons] at hi ⊢
    refine ⟨hi.1, ⟨fun p' hp' => by rw [e1]; exact hi.2.1.1 p' hp', hi.2.1.2⟩, fun p1 h1 p2 h2 => ?_⟩
    rcases List.mem_cons.1 h2 with rfl | h2
    · rw [e1]; exact hi.2.2 p1 h1 p (by simp)
    · exact hi.2.2 p1 h1 p2 (by simp [h2])
  · intro p' hp'
    rcases memo p' hp' with rfl | hp''
    · rw [e1]; exact h.bd p (by simp)
    · exact h.bd p' (memp p' hp'')
  · rintro k (hk | hk)
    · exact .inl hk
    · rcases e4 k hk with h1 | h1
      · exact .inl (hpo.2.2 k h1)
      · exact .inr h1
  · rintro k _ (rfl | hk)
    · exact hpo.1
    · exact hpo.2.2 k hk

set_option maxRecDepth 100000 in
set_option maxHeartbeats 1000000 in
theorem shut_none (O : Nat → Prop) (r g : Nat) (Ns : List Nt) (k : Int) (w : World) (h : BD w O r g Ns) (hk : -9223372036854775808 ≤ k ∧ k ≤ 9223372036854775807) (hn : ∀ n ∈ Ns, (n.id : Int) ≠ k) :
    Calls Try.prog 36 #[.pointer (some ⟨r, 0, none⟩), .int .i64 k] w fun e w' => e = .returned (.int .i64 232) ∧ w' = w := by
  obtain ⟨b, ps, rfl, hK⟩ := h
  have lk := hK.lk0 hk hn
  have r0 := cell_row hK.box 0
  simp at r0
  clear hK hn hk
  go_enter Try.func36, Try.ntmps36
  go_wp2
  go_ret
  exact ⟨rfl, rfl⟩

set_option maxRecDepth 100000 in
set_option maxHeartbeats 1000000 in
theorem shut_bad (O : Nat → Prop) (r g : Nat) (A B : List Nt) (n : Nt) (w : World) (h : BD w O r g (A ++ n :: B)) (hn : n.sh = true) :
    Calls Try.prog 36 #[.pointer (some ⟨r, 0, none⟩), .int .i64 (n.id : Int)] w fun e w' => e = .returned (.int .i64 233) ∧ w' = w := by
  obtain ⟨b, ps, e, hK⟩ := h
  obtain ⟨A', B', p, rfl, rfl, rfl, rfl⟩ := split_map e
  have lk := hK.lk
  have r0 := cell_row hK.box 0
  have c6 := cell_row (hK.nk p (by simp)).box 6
  simp [ntc] at r0 c6
  rw [hn] at c6
  clear hK hn e
  generalize p.n.id = id at *
  generalize p.x = x at *
  go_enter Try.func36, Try.ntmps36
  go_wp2
  go_ret
  exact ⟨rfl, rfl⟩

set_option maxRecDepth 100000 in
set_option maxHeartbeats 1000000 in
theorem shut_good (O : Nat → Prop) (r g : Nat) (A B : List Nt) (n : Nt) (w : World) (h : BD w O r g (A ++ n :: B)) (hn : n.sh = false) :
    Calls Try.prog 36 #[.pointer (some ⟨r, 0, none⟩), .int .i64 (n.id : Int)] w fun e w' => e = .returned (.int .i64 0) ∧ NowB w w' O r g (A ++ { n with sh := true } :: B) := by
  obtain ⟨b, ps, e, hK⟩ := h
  obtain ⟨A', B', p, rfl, rfl, rfl, rfl⟩ := split_map e
  have lk := hK.lk
  have hp := hK.nk p (by simp)
  have r0 := cell_row hK.box 0
  have c6 := cell_row hp.box 6
  have z6 := frozen_row hp.box 6
  simp [ntc] at r0 c6
  rw [hn] at c6
  have Z : Hid (NowB w (w.setCell ⟨p.x, 6, none⟩ (.bool true)) O r g (A'.map NB.n ++ { p.n with sh := true } :: B'.map NB.n)) := by
    have hF : Fr (· = p.x) w (w.setCell ⟨p.x, 6, none⟩ (.bool true)) := Fr.setCell w ⟨p.x, 6, none⟩ _ rfl
    have hq : NK (w.setCell ⟨p.x, 6, none⟩ (.bool true)) { p with n := { p.n with sh := true } } := by
      refine ⟨?_, hp.said.fr hF (fun k hk e => ?_), hp.elems.fr hF (fun k hk e => ?_), hp.wf⟩
      · have := set_row hp.box 6 (.bool true)
        simpa [ntc] using this
      · have hs := hp.said
        rw [hk] at hs
        obtain ⟨cur, hc⟩ := hs.blk
        exact ty_ne hc hp.box (by decide) e
      · cases hk
        obtain ⟨cur, hc⟩ := (se_sf hp.elems).blk
        exact ty_ne hc hp.box (by decide) e
    have := hK.turn (hF.mono (fun k _ hk => .inl hk)) hq rfl rfl rfl (fun k hk => .inl hk)
    rw [List.map_append, List.map_cons] at this
    exact this
  clear hK hn e hp
  generalize p.x = x at *
  go_enter Try.func36, Try.ntmps36
  go_wp2
  go_ret
  exact ⟨rfl, Z.out⟩

set_option maxRecDepth 100000 in
set_option maxHeartbeats 1000000 in
theorem reply_none (O : Nat → Prop) (r g : Nat) (Ns : List Nt) (k cc : Int) (s : ByteArray) (w : World) (h : BD w O r g Ns) (hk : -9223372036854775808 ≤ k ∧ k ≤ 9223372036854775807) (hn : ∀ n ∈ Ns, (n.id : Int) ≠ k) :
    Calls Try.prog 34 #[.pointer (some ⟨r, 0, none⟩), .int .i64 k, .int .i64 cc, .string s] w fun e w' => e = .returned (.int .i64 232) ∧ w' = w := by
  obtain ⟨b, ps, rfl, hK⟩ := h
  have lk := hK.lk0 hk hn
  have r0 := cell_row hK.box 0
  simp at r0
  clear hK hn hk
  go_enter Try.func34, Try.ntmps34
  go_wp2
  go_ret
  exact ⟨rfl, rfl⟩

set_option maxRecDepth 100000 in
set_option maxHeartbeats 1000000 in
theorem reply_say (O : Nat → Prop) (r g : Nat) (A B : List Nt) (n : Nt) (cc : Int) (s : ByteArray) (w : World) (h : BD w O r g (A ++ n :: B)) (hsz : s.size ≤ 9223372036854775807) (hs : sayE cc s ≠ 0) :
    Calls Try.prog 34 #[.pointer (some ⟨r, 0, none⟩), .int .i64 (n.id : Int), .int .i64 cc, .string s] w fun e w' => e = .returned (.int .i64 (sayE cc s)) ∧ w' = w := by
  obtain ⟨b, ps, e, hK⟩ := h
  obtain ⟨A', B', p, rfl, rfl, rfl, rfl⟩ := split_map e
  have lk := hK.lk
  have r0 := cell_row hK.box 0
  simp at r0
  have CS := hd (say_any cc s w hsz)
  have hs' : (sayE cc s != 0) = true := by simpa using hs
  clear hK e hs
  generalize sayE cc s = q at *
  generalize p.n.id = id at *
  generalize p.x = x at *
  go_enter Try.func34, Try.ntmps34
  go_wp2_with fail
  refine CS.out.mono ?_
  rintro e w' ⟨rfl, rfl⟩
  go_wp2
  go_ret
  exact ⟨rfl, rfl⟩

set_option maxRecDepth 100000 in
set_option maxHeartbeats 1000000 in
theorem reply_shut (O : Nat → Prop) (r g : Nat) (A B : List Nt) (n : Nt) (cc : Int) (s : ByteArray) (w : World) (h : BD w O r g (A ++ n :: B)) (hsz : s.size ≤ 9223372036854775807) (hs : sayE cc s = 0) (hn : n.sh = true) :
    Calls Try.prog 34 #[.pointer (some ⟨r, 0, none⟩), .int .i64 (n.id : Int), .int .i64 cc, .string s] w fun e w' => e = .returned (.int .i64 233) ∧ w' = w := by
  obtain ⟨b, ps, e, hK⟩ := h
  obtain ⟨A', B', p, rfl, rfl, rfl, rfl⟩ := split_map e
  have lk := hK.lk
  have r0 := cell_row hK.box 0
  have c6 := cell_row (hK.nk p (by simp)).box 6
  simp [ntc] at r0 c6
  rw [hn] at c6
  have CS := hd (say_any cc s w hsz)
  rw [hs] at CS
  clear hK e hs hn
  generalize p.n.id = id at *
  generalize p.x = x at *
  go_enter Try.func34, Try.ntmps34
  go_wp2_with fail
  refine CS.out.mono ?_
  rintro e w' ⟨rfl, rfl⟩
  go_wp2
  go_ret
  exact ⟨rfl, rfl⟩

set_option maxRecDepth 100000 in
set_option maxHeartbeats 4000000 in
theorem reply_good (O : Nat → Prop) (r g : Nat) (A B : List Nt) (n : Nt) (cc : Int) (s : ByteArray) (w : World) (h : BD w O r g (A ++ n :: B)) (hsz : s.size ≤ 9223372036854775807) (hs : sayE cc s = 0) (hn : n.sh = false) (hroom : roomy (n.sd.length + 1) 24) :
    Calls Try.prog 34 #[.pointer (some ⟨r, 0, none⟩), .int .i64 (n.id : Int), .int .i64 cc, .string s] w fun e w' => e = .returned (.int .i64 0) ∧ NowB w w' O r g (A ++ { n with sd := n.sd ++ [(cc, s)] } :: B) := by
  obtain ⟨b, ps, e, hK⟩ := h
  obtain ⟨A', B', p, rfl, rfl, rfl, rfl⟩ := split_map e
  have lk := hK.lk
  have hp := hK.nk p (by simp)
  have r0 := cell_row hK.box 0
  have c6 := cell_row hp.box 6
  have c7 := cell_row hp.box 7
  have lx := block_lt hp.box
  simp [ntc] at r0 c6 c7
  rw [hn] at c6
  have CS := hd (say_any cc s w hsz)
  rw [hs] at CS
  obtain ⟨aq, cq, hsv, -, -⟩ := hp.said.form
  have hxr : p.ρ ≠ some p.x := fun e => by
    have hs := hp.said
    rw [e] at hs
    obtain ⟨cur, hc⟩ := hs.blk
    exact ty_ne hc hp.box (by decide) rfl
  have HS : Hid (SF rpc 2 w 90 p.ρ (.slice aq p.n.sd.length cq) p.n.sd) := by unfold Hid; rw [← hsv]; exact hp.said
  have HB : Hid (w.heap[p.x]? = some (.cells (ntc p.n (.slice aq p.n.sd.length cq) p.ev) 76 (0, 0))) := by unfold Hid; rw [← hsv]; exact hp.box
  have Z : Hid (∀ u, FinR w p.x p.ρ (p.n.sd ++ [(cc, s)]) p.n p.ev u → NowB w u O r g (A'.map NB.n ++ { p.n with sd := p.n.sd ++ [(cc, s)] } :: B'.map NB.n)) := by
    rintro u ⟨k, v, q1, q2, q3, q4⟩
    have hq : NK u { p with n := { p.n with sd := p.n.sd ++ [(cc, s)] }, ρ := some k, sv := v } := by
      refine ⟨q3, q1, hp.elems.fr q4 (fun k hk e => ?_), hp.wf⟩
      cases hk
      obtain ⟨cur, hc⟩ := (se_sf hp.elems).blk
      rcases e with e | e
      · exact ty_ne hc hp.box (by decide) e
      · have hs := hp.said
        rw [e] at hs
        obtain ⟨cur2, hc2⟩ := hs.blk
        exact ty_ne hc hc2 (by decide) rfl
    have := hK.turn q4 hq rfl rfl rfl (fun k hk => by cases hk; exact q2)
    rw [List.map_append, List.map_cons] at this
    exact this
  rw [hsv] at c7
  have HXR := hd hxr
  clear hK hn e hp hs hsv hxr
  go_enter Try.func34, Try.ntmps34
  go_wp2_with fail
  refine CS.out.mono ?_
  rintro e w' ⟨rfl, rfl⟩
  go_upto_region 9 with fail
  refine regRep _ w' p.x p.n.sd.length cq aq cc s p.ρ p.n.sd p.n p.ev HS.out hroom lx c7 HB.out HXR.out (by simp) rfl rfl rfl ?_
  intro L val u hL hW hV
  have Z2 := hd (Z.out u (hW.2.2.2 (hL 15 (by omega))))
  clear hW hV hL Z
  simp only [slRep, DRep, List.getD_cons_zero, List.getD_cons_succ, List.map_cons, List.map_nil, puts, List.foldl_cons, List.foldl_nil, Act.put, List.setIfInBounds_toArray, List.set_cons_succ, List.set_cons_zero]
  go_wp2
  go_ret
  exact ⟨rfl, Z2.out⟩

end Go.Proofs.Ytkkklfnooeofcab
