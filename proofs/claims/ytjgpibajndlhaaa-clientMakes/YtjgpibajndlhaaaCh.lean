/-
  Clone, Doc, Pending.
-/
import Derived.Test.YtjgpibajndlhaaaCg
namespace Go.Proofs.Ytjgpibajndlhaaa
open Go.RowKit
set_option linter.unusedVariables false
variable {T : Nat → Prop}

theorem sz_elc : Sz elc 3 := fun x => ⟨rfl, fun v hv => by simp [elc] at hv; rcases hv with rfl | rfl | rfl <;> rfl⟩
theorem se_sf {w : World} {β : Option Nat} {v : Value} {xs : List El} (h : SE w β v xs) : SF elc 3 w 67 β v xs := by
  cases β with
  | none => exact h
  | some g => exact h
theorem sf_se {w : World} {β : Option Nat} {v : Value} {xs : List El} (h : SF elc 3 w 67 β v xs) : SE w β v xs := by
  cases β with
  | none => exact h
  | some g => exact h

theorem eql_nil {P : Program} (w : World) (t e : TypeId) (a : Option Addr) (n c : Nat) (ht : P.underlying t = some (.slice e)) : (binOp .eql t (.slice a n c) (.slice none 0 0)).run P w = .ok (.bool a.isNone) w := by
  have h : ∀ d : Nat, (Op.equalIn (d + 1) t (.slice a n c) (.slice none 0 0)).run P w = .ok a.isNone w := fun d => by
    cases a <;> simp [Op.equalIn, run_underlying ht]
  simp only [binOp]
  simp [Op.equal, Op.maxDepth, h 9999]

set_option maxRecDepth 100000 in
/-- append of a whole row onto an empty one. -/
theorem run_clone {α : Type} {f : α → List Value} {k : Nat} (hz : Sz f k) (w : World) (t e : TypeId) (i : TypeInfo) (z : Value) (bytes : Nat) (ht : Try.prog.underlying t = some (.slice e)) (hi : Try.prog.info? e = some i) (hzo : i.zero = some z) (hsz : i.size = k) (hzs : z.cells.size = k) (hby : i.bytes = bytes) (hk : bytes ≤ 1000)
    (b g c : Nat) (hb : w.heap[b]? = some (.cells #[] e (0, 0))) (xs : List α) (hR : RowF f k w g xs.length c e xs) (hl : xs.length ≤ 4096) :
    ∃ v' w' g', (∀ ty, (Builtin.append_ #[t, t] ty #[.slice (some ⟨b, 0, none⟩) 0 0, .slice (some ⟨g, 0, none⟩) xs.length c]).run Try.prog w = .ok v' w') ∧ SF f k w' e (some g') v' xs ∧ (g' = b ∨ g' = w.heap.size) ∧ Fr (· = b) w w' := by
  have h0 : RowF f k w b 0 0 e [] := ⟨[], by simpa using hb, by simp [cl_nil], rfl, Nat.le_refl _, by omega, by simp⟩
  by_cases hn : xs = []
  · subst hn
    have hlc : ∀ (x : Addr), (loadCells x 0).run Try.prog w = .ok #[] w := fun x => by simpa using run_loadCells_list (P := Try.prog) w x [] (by simp)
    refine ⟨.slice (some ⟨b, 0, none⟩) 0 0, w, b, fun ty => ?_, ⟨0, rfl, h0⟩, .inl rfl, Fr.refl _ _⟩
    simp [Builtin.append_, run_underlying ht, Builtin.lenOf, Builtin.firstCells, sizeOf, typeInfo, hi, storeCells, hlc]
  · have hp : 0 < xs.length := List.length_pos_iff.2 hn
    obtain ⟨v', w', hr, hN⟩ := run_pushF hz (P := Try.prog) w t 0 e i z bytes ht hi hzo hsz hzs hby (some b) (.slice (some ⟨b, 0, none⟩) 0 0) [] ⟨0, rfl, h0⟩ ⟨g, 0, none⟩ xs.length c xs rfl (fun j u hj => by
      have := hR.cells hz 0 j u (by simpa using hj)
      simpa using this) hp (by simp; omega) (by
        simp only [List.length_nil, Nat.zero_add]
        have h1 : xs.length + xs.length / 4 + 192 ≤ 10000 := by omega
        have h2 : (xs.length + xs.length / 4 + 192) * bytes ≤ 10000 * 1000 := Nat.mul_le_mul h1 hk
        exact Nat.le_trans h2 (of_decide_eq_true rfl))
    obtain ⟨g', h1, h2, h3⟩ := hN.out
    refine ⟨v', w', g', fun ty => hr, by simpa using h1, ?_, h3.mono (S' := (· = b)) (fun j _ hj => (Option.some.inj hj).symm)⟩
    rcases h2 with h2 | h2
    · injection h2 with h2; exact .inl h2.symm
    · exact .inr h2

set_option maxRecDepth 100000 in
set_option maxHeartbeats 4000000 in
theorem cloneE_any (β : Option Nat) (v : Value) (xs : List El) (w : World) (h : SE w β v xs) (hl : xs.length ≤ 4096) :
    Calls Try.prog 18 #[v] w fun e w' => ∃ u β', e = .returned u ∧ SE w' β' u xs ∧ Below w.heap.size w w' := by
  cases β with
  | none =>
    obtain ⟨rfl, rfl⟩ := h
    have hq := fun w => eql_nil (P := Try.prog) w 29 67 none 0 0 Try.underlying29
    simp only [Option.isNone_none] at hq
    go_enter Try.func18, Try.ntmps18
    go_wp2
    go_ret
    exact ⟨_, none, rfl, ⟨rfl, rfl⟩, Below.refl _ _⟩
  | some g =>
    obtain ⟨c, rfl, hR⟩ := h
    obtain ⟨i0, hi0, hz0, hz1, hz2⟩ := info_parts Try.infoE
    have b1 : Below w.heap.size w (w.alloc (.cells #[] 67)) := (Below.refl _ _).alloc (Nat.le_refl _) _
    obtain ⟨v', w', g', hr, hS, hg, hF⟩ := run_clone sz_elc (w.alloc (.cells #[] 67)) 29 67 i0 _ 24 Try.underlying29 hi0 hz0 hz1 rfl hz2 (by omega) w.heap.size g c (heap_alloc_new w _) xs (hR.fr (S := fun _ => False) (Fr.of_below b1) (fun h => h)) hl
    obtain ⟨a', c', hv', -⟩ := hS.form
    have Z : Hid (SE w' (some g') v' xs ∧ Below w.heap.size w w') := ⟨sf_se hS, b1.trans (hF.below (by simp) (fun k h => by omega))⟩
    subst hv'
    clear hR b1 hS hg hF
    generalize xs.length = n at *
    have hq := fun w => eql_nil (P := Try.prog) w 29 67 (some ⟨g, 0, none⟩) n c Try.underlying29
    simp only [Option.isNone_some] at hq
    go_enter Try.func18, Try.ntmps18
    go_wp2_with (at_builtin; refine wpList_append_k _ rfl _ _ 29 29 rfl _ _ rfl rfl (hr _) ?_; clear hr)
    go_ret
    exact ⟨_, _, rfl, Z.out⟩

set_option maxRecDepth 100000 in
set_option maxHeartbeats 4000000 in
theorem cloneD_any (β : Option Nat) (v : Value) (xs : List (Int × OpE)) (w : World) (h : SF edc 6 w 36 β v xs) (hl : xs.length ≤ 4096) :
    Calls Try.prog 19 #[v] w fun e w' => ∃ u β', e = .returned u ∧ SF edc 6 w' 36 β' u xs ∧ Below w.heap.size w w' := by
  cases β with
  | none =>
    obtain ⟨rfl, rfl⟩ := h
    have hq := fun w => eql_nil (P := Try.prog) w 30 36 none 0 0 Try.underlying30
    simp only [Option.isNone_none] at hq
    go_enter Try.func19, Try.ntmps19
    go_wp2
    go_ret
    exact ⟨_, none, rfl, ⟨rfl, rfl⟩, Below.refl _ _⟩
  | some g =>
    obtain ⟨c, rfl, hR⟩ := h
    obtain ⟨i0, hi0, hz0, hz1, hz2⟩ := info_parts Try.infoD
    have b1 : Below w.heap.size w (w.alloc (.cells #[] 36)) := (Below.refl _ _).alloc (Nat.le_refl _) _
    obtain ⟨v', w', g', hr, hS, hg, hF⟩ := run_clone sz_edc (w.alloc (.cells #[] 36)) 30 36 i0 _ 48 Try.underlying30 hi0 hz0 hz1 rfl hz2 (by omega) w.heap.size g c (heap_alloc_new w _) xs (hR.fr (S := fun _ => False) (Fr.of_below b1) (fun h => h)) hl
    obtain ⟨a', c', hv', -⟩ := hS.form
    have Z : Hid (SF edc 6 w' 36 (some g') v' xs ∧ Below w.heap.size w w') := ⟨hS, b1.trans (hF.below (by simp) (fun k h => by omega))⟩
    subst hv'
    clear hR b1 hS hg hF
    generalize xs.length = n at *
    have hq := fun w => eql_nil (P := Try.prog) w 30 36 (some ⟨g, 0, none⟩) n c Try.underlying30
    simp only [Option.isNone_some] at hq
    go_enter Try.func19, Try.ntmps19
    go_wp2_with (at_builtin; refine wpList_append_k _ rfl _ _ 30 30 rfl _ _ rfl rfl (hr _) ?_; clear hr)
    go_ret
    exact ⟨_, _, rfl, Z.out⟩

theorem cdoc_any (x z : Nat) (id : Int) (ds : List El) (es : List (Int × OpE)) (βp : Option Nat) (p : Sp) (w : World) (h : CL T w x z id ds es βp p) (hl : ds.length ≤ 4096) :
    Calls Try.prog 11 #[.pointer (some ⟨x, 0, none⟩)] w fun e w' => ∃ u β', e = .returned u ∧ SE w' β' u ds ∧ Below w.heap.size w w' := by
  obtain ⟨y, vt, vp, βt, c, i, t, e, s, _⟩ := h
  obtain ⟨⟨hx, -, -, -, c3, -⟩, -⟩ := c.cells
  have HT := hd t
  clear c i t e s
  go_enter Try.func11, Try.ntmps11
  go_wp2_with fail
  refine (cloneE_any βt vt ds w HT.out hl).mono ?_
  rintro e w1 ⟨u, β', rfl, h1, h2⟩
  have Z := hd (And.intro h1 h2)
  clear h1 h2
  go_wp2
  go_ret
  exact ⟨_, _, rfl, Z.out⟩

theorem cpending_any (x z : Nat) (id : Int) (ds : List El) (es : List (Int × OpE)) (βp : Option Nat) (p : Sp) (w : World) (h : CL T w x z id ds es βp p) (hl : es.length ≤ 4096) :
    Calls Try.prog 13 #[.pointer (some ⟨x, 0, none⟩)] w fun e w' => ∃ u β', e = .returned u ∧ SF edc 6 w' 36 β' u es ∧ Below w.heap.size w w' := by
  obtain ⟨y, vt, vp, βt, c, i, t, e, s, _⟩ := h
  obtain ⟨⟨hx, -, -, -, -, c4, -⟩, -⟩ := c.cells
  have HT := hd e
  clear c i t e s
  go_enter Try.func13, Try.ntmps13
  go_wp2_with fail
  refine (cloneD_any βp vp es w HT.out hl).mono ?_
  rintro e w1 ⟨u, β', rfl, h1, h2⟩
  have Z := hd (And.intro h1 h2)
  clear h1 h2
  go_wp2
  go_ret
  exact ⟨_, _, rfl, Z.out⟩

end Go.Proofs.Ytjgpibajndlhaaa
