/-
  The clones.
-/
import Derived.Test.YtkkklfnooeofcaaWc
namespace Go.Proofs.Ytkkklfnooeofcaa
open Go.RowKit Go.Maps Go.ChangeMaps Go.MapKept Go.WideMaps
set_option linter.unusedVariables false

theorem eql_nil {P : Program} (w : World) (t e : TypeId) (a : Option Addr) (n c : Nat) (ht : P.underlying t = some (.slice e)) : (binOp .eql t (.slice a n c) (.slice none 0 0)).run P w = .ok (.bool a.isNone) w := by
  have h : ∀ d : Nat, (Op.equalIn (d + 1) t (.slice a n c) (.slice none 0 0)).run P w = .ok a.isNone w := fun d => by
    cases a <;> simp [Op.equalIn, run_underlying ht]
  simp only [binOp]
  simp [Op.equal, Op.maxDepth, h 9999]

theorem Try.infoR : (Try.prog.info? 45).map (fun i => (i.zero, i.size, i.bytes)) = some (some (.agg #[.int .i64 0, .string ⟨#[]⟩]), 2, 24) := by kernel_rfl

/-- What may be cloned, or grow, to n elements of so many bytes. -/
def roomy (n bytes : Nat) : Prop := (n + n / 4 + 192) * bytes ≤ 281474976710656 ∧ n ≤ 9223372036854775807

set_option maxRecDepth 100000 in
/-- append of a whole row onto an empty one. -/
theorem run_clone {α : Type} {f : α → List Value} {k : Nat} (hz : Sz f k) (w : World) (t e : TypeId) (i : TypeInfo) (z : Value) (bytes : Nat) (ht : Try.prog.underlying t = some (.slice e)) (hi : Try.prog.info? e = some i) (hzo : i.zero = some z) (hsz : i.size = k) (hzs : z.cells.size = k) (hby : i.bytes = bytes)
    (b c : Nat) (ad : Addr) (hb : w.heap[b]? = some (.cells #[] e (0, 0))) (xs : List α) (hc : ∀ j u, (cl f xs)[j]? = some u → w.cell? (ad.add j) = some u) (hl : roomy xs.length bytes) :
    ∃ v' w' g', (∀ ty, (Builtin.append_ #[t, t] ty #[.slice (some ⟨b, 0, none⟩) 0 0, .slice (some ad) xs.length c]).run Try.prog w = .ok v' w') ∧ SF f k w' e (some g') v' xs ∧ (g' = b ∨ g' = w.heap.size) ∧ Fr (· = b) w w' := by
  have h0 : RowF f k w b 0 0 e [] := ⟨[], by simpa using hb, by simp [cl_nil], rfl, Nat.le_refl _, by omega, by simp⟩
  by_cases hn : xs = []
  · subst hn
    have hlc : ∀ (x : Addr), (loadCells x 0).run Try.prog w = .ok #[] w := fun x => by simpa using run_loadCells_list (P := Try.prog) w x [] (by simp)
    refine ⟨.slice (some ⟨b, 0, none⟩) 0 0, w, b, fun ty => ?_, ⟨0, rfl, h0⟩, .inl rfl, Fr.refl _ _⟩
    simp [Builtin.append_, run_underlying ht, Builtin.lenOf, Builtin.firstCells, sizeOf, typeInfo, hi, storeCells, hlc]
  · have hp : 0 < xs.length := List.length_pos_iff.2 hn
    obtain ⟨v', w', hr, g', h1, h2⟩ := run_pushF hz (P := Try.prog) w t 0 e i z bytes ht hi hzo hsz hzs hby (some b) (.slice (some ⟨b, 0, none⟩) 0 0) [] ⟨0, rfl, h0⟩ ad xs.length c xs rfl hc hp (by have := hl.2; simpa using this) (by have := hl.1; simpa using this)
    refine ⟨v', w', g', fun ty => hr, by simpa using h1, ?_, ?_⟩
    · rcases h2 with ⟨h2, -⟩ | ⟨h2, -⟩
      · injection h2 with h2; exact .inl h2.symm
      · exact .inr h2
    · rcases h2 with ⟨h2, h3⟩ | ⟨h2, h3⟩
      · injection h2 with h2
        subst h2
        exact h3
      · exact h3.mono (fun _ _ h => h.elim)

set_option maxRecDepth 100000 in
set_option maxHeartbeats 4000000 in
theorem cloneE_any (ad : Addr) (c : Nat) (xs : List El) (w : World) (hc : ∀ j u, (cl elc xs)[j]? = some u → w.cell? (ad.add j) = some u) (hb0 : ad.block < w.heap.size) (hl : roomy xs.length 24) :
    Calls Try.prog 39 #[.slice (some ad) xs.length c] w fun e w' => ∃ u g, e = .returned u ∧ SE w' (some g) u xs ∧ w.heap.size ≤ g ∧ Below w.heap.size w w' := by
  obtain ⟨i0, hi0, hz0, hz1, hz2⟩ := info_parts Try.infoE
  have b1 : Below w.heap.size w (w.alloc (.cells #[] 57)) := (Below.refl _ _).alloc (Nat.le_refl _) _
  obtain ⟨v', w', g', hr, hS, hg, hF⟩ := run_clone sz_elc (w.alloc (.cells #[] 57)) 23 57 i0 _ 24 Try.underlying23 hi0 hz0 hz1 rfl hz2 w.heap.size c ad (heap_alloc_new w _) xs (fun j u hj => (b1.cell (p := ad.add j) (show (ad.add j).block < w.heap.size by unfold Addr.add; split <;> exact hb0)).trans (hc j u hj)) hl
  obtain ⟨a', c', hv', -⟩ := hS.form
  have Z : Hid (SE w' (some g') v' xs ∧ w.heap.size ≤ g' ∧ Below w.heap.size w w') := ⟨sf_se hS, (by rw [World.size_alloc] at hg; omega), b1.trans (hF.below (by simp) (fun k h => by omega))⟩
  subst hv'
  clear b1 hS hg hF hc hb0
  generalize xs.length = n at *
  have hq := fun w => eql_nil (P := Try.prog) w 23 57 (some ad) n c Try.underlying23
  simp only [Option.isNone_some] at hq
  go_enter Try.func39, Try.ntmps39
  go_wp2_with (at_builtin; refine wpList_append_k _ rfl _ _ 23 23 rfl _ _ rfl rfl (hr _) ?_; clear hr)
  go_ret
  exact ⟨_, _, rfl, Z.out⟩

set_option maxRecDepth 100000 in
set_option maxHeartbeats 4000000 in
theorem cloneR_any (β : Option Nat) (v : Value) (xs : List (Int × ByteArray)) (w : World) (h : SF rpc 2 w 45 β v xs) (hl : roomy xs.length 24) :
    Calls Try.prog 41 #[v] w fun e w' => ∃ u β', e = .returned u ∧ SF rpc 2 w' 45 β' u xs ∧ (∀ g, β' = some g → w.heap.size ≤ g) ∧ Below w.heap.size w w' := by
  cases β with
  | none =>
    obtain ⟨rfl, rfl⟩ := h
    have hq := fun w => eql_nil (P := Try.prog) w 35 45 none 0 0 Try.underlying35
    simp only [Option.isNone_none] at hq
    clear hl
    go_enter Try.func41, Try.ntmps41
    go_wp2
    go_ret
    exact ⟨_, none, rfl, ⟨rfl, rfl⟩, fun g h => (by cases h), Below.refl _ _⟩
  | some g =>
    obtain ⟨c, rfl, hR⟩ := h
    obtain ⟨i0, hi0, hz0, hz1, hz2⟩ := info_parts Try.infoR
    have b1 : Below w.heap.size w (w.alloc (.cells #[] 45)) := (Below.refl _ _).alloc (Nat.le_refl _) _
    obtain ⟨v', w', g', hr, hS, hg, hF⟩ := run_clone sz_rpc (w.alloc (.cells #[] 45)) 35 45 i0 _ 24 Try.underlying35 hi0 hz0 hz1 rfl hz2 w.heap.size c ⟨g, 0, none⟩ (heap_alloc_new w _) xs (fun j u hj => by
      have := (hR.fr (S := fun _ => False) (Fr.of_below b1) (fun h => h)).cells sz_rpc 0 j u (by simpa using hj)
      simpa using this) hl
    obtain ⟨a', c', hv', -⟩ := hS.form
    have Z : Hid (SF rpc 2 w' 45 (some g') v' xs ∧ (∀ k, some g' = some k → w.heap.size ≤ k) ∧ Below w.heap.size w w') := ⟨hS, fun k hk => (by cases hk; rw [World.size_alloc] at hg; omega), b1.trans (hF.below (by simp) (fun k h => by omega))⟩
    subst hv'
    clear hR b1 hS hg hF hl
    generalize xs.length = n at *
    have hq := fun w => eql_nil (P := Try.prog) w 35 45 (some ⟨g, 0, none⟩) n c Try.underlying35
    simp only [Option.isNone_some] at hq
    go_enter Try.func41, Try.ntmps41
    go_wp2_with (at_builtin; refine wpList_append_k _ rfl _ _ 35 35 rfl _ _ rfl rfl (hr _) ?_; clear hr)
    go_ret
    exact ⟨_, _, rfl, Z.out⟩

end Go.Proofs.Ytkkklfnooeofcaa
