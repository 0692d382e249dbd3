/-
  lay, Bytes.
-/
import Derived.Test.YtdlelbdhcpjdfabDb
import Derived.Deep.RegionHeld3
namespace Go.Proofs.Ytdlelbdhcpjdfab
open Go.RowKit
set_option linter.unusedVariables false

theorem splice2 (X Y cur : List Int) : splice (splice cur 0 X) X.length Y = X ++ Y ++ cur.drop (X ++ Y).length := by
  have e1 : splice cur 0 X = X ++ cur.drop X.length := by simp [splice]
  rw [e1]
  unfold splice
  rw [List.take_left, List.drop_length_add_append, List.drop_drop, List.length_append, List.append_assoc]

theorem laid_eq (B cur : List Int) (s : Nat) (hs : s ≤ B.length) : splice (splice cur 0 (B.take s)) s (B.drop s) = B ++ cur.drop B.length := by
  have h := splice2 (B.take s) (B.drop s) cur
  rw [List.take_append_drop] at h
  rwa [show (B.take s).length = s from by simp; omega] at h

set_option maxHeartbeats 2000000 in
theorem lay_any (r : Nat) (ρ : Option Nat) (B : List Int) (s : Nat) (g n : Nat) (cur : List Int) (w : World) (h : DK w r ρ B s) (hg : w.heap[g]? = some (.cells (ints cur).toArray 5 (0, 0))) (hgo : ¬ Own r ρ g) (hcur : cur.length = n) (hBn : B.length ≤ n) (hn : n ≤ 1000000) :
    Calls Try.prog 26 #[.pointer (some ⟨r, 0, none⟩), .slice (some ⟨g, 0, none⟩) n n] w fun x w' => (∃ v, x = .returned v) ∧ w'.heap[g]? = some (.cells (ints (B ++ cur.drop B.length)).toArray 5 (0, 0)) ∧ Fr (· = g) w w' := by
  have H := hd h
  have G := hd hg
  have hle := h.size_le
  have hown : Hid (∀ k, Own r ρ k → ¬ k = g) := fun k hk e => hgo (e ▸ hk)
  have hE := hd (laid_eq B cur s hle.1)
  have hdl : (B.drop s).length = B.length - s := by simp
  clear h hg hgo
  go_enter Try.func26, Try.ntmps26
  go_wp2_with fail
  refine (firm_any r ρ B s _ H.out).mono ?_
  rintro x w1 ⟨a, rfl, ⟨m, rfl⟩, hA⟩
  have H1 := hd (H.out.drewN m)
  have G1 := hd ((Fr.drewN (fun _ => False) w m).keeps G.out (fun h => h))
  have A1 := hd (hA.fr (Fr.drewN (fun _ => False) w m) (fun _ _ _ _ h => h))
  have F1 := hd (Fr.drewN (· = g) w m)
  clear H G hA
  generalize w.drewN m = w1 at *
  go_wp2_with (first | (refine wpList_copy_b rfl (.tmp 5) (.tmp 7) 22 22 rfl 5 Try.underlying22 (by kernel_rfl) _ _ n n s s rfl rfl g 0 cur 5 G1 (B.take s) A1 (by omega) (fun _ => rfl) (by omega) ?_) | go_in)
  intro w2 G2 F2
  have H2 := hd (H1.out.fr F2.out hown.out)
  have F3 := hd (F1.out.trans F2.out)
  clear H1 G1 A1 F1 F2
  have i1 : (s : Int) ≤ (n : Int) := by omega
  have H3 := hd (H2.out.fr (Fr.drew (fun _ => False) w2) (fun _ _ h => h))
  have G3 := hd ((Fr.drew (fun _ => False) w2).keeps G2.out (fun h => h))
  have F4 := hd (F3.out.trans (Fr.drew (· = g) w2))
  by_cases hsn : n = s
  · go_wp2_with fail
    go_region_held3 (fun _ => True) (trivial) (first | (refine step_copy_b (by rfl) (.tmp 11) (.tmp 13) 22 22 (by rfl) 5 Try.underlying22 (by kernel_rfl) _ _ 0 0 (B.length - s) (B.length - s) (by rfl) (by rfl) g s (splice cur 0 (B.take s)) 5 G4 (B.drop s) T4 (by omega) (fun h => by omega) (by rw [length_splice _ _ _ (by simp; omega)]; omega) ?_; intro w5 G5 F5) | (go_at_call 37; refine (tail_any r ρ B s _ H3.out).mono ?_; rintro x w4 ⟨a4, rfl, ⟨m4, rfl⟩, hT, hpos⟩; have G4 := hd ((Fr.drewN (fun _ => False) w2.drew m4).keeps G3.out (fun h => h)); have T4 := hd (hT.fr (Fr.drewN (fun _ => False) w2.drew m4) (fun _ _ _ _ h => h)); clear hT))
    go_wp2
    go_end0
    exact ⟨⟨_, rfl⟩, by rw [← hE.out]; exact G5.out, (F3.out.trans (Fr.drewN (· = g) w2 (1 + m4))).trans F5.out⟩
  · go_wp2_with fail
    go_region_held3 (fun _ => True) (trivial) (first | (refine step_copy_b (by rfl) (.tmp 11) (.tmp 13) 22 22 (by rfl) 5 Try.underlying22 (by kernel_rfl) _ _ (n - s) (n - s) (B.length - s) (B.length - s) (by rfl) (by rfl) g s (splice cur 0 (B.take s)) 5 G4 (B.drop s) T4 (by omega) (fun _ => rfl) (by rw [length_splice _ _ _ (by simp; omega)]; omega) ?_; intro w5 G5 F5) | (go_at_call 37; refine (tail_any r ρ B s _ H3.out).mono ?_; rintro x w4 ⟨a4, rfl, ⟨m4, rfl⟩, hT, hpos⟩; have G4 := hd ((Fr.drewN (fun _ => False) w2.drew m4).keeps G3.out (fun h => h)); have T4 := hd (hT.fr (Fr.drewN (fun _ => False) w2.drew m4) (fun _ _ _ _ h => h)); clear hT))
    go_wp2
    go_end0
    exact ⟨⟨_, rfl⟩, by rw [← hE.out]; exact G5.out, (F3.out.trans (Fr.drewN (· = g) w2 (1 + m4))).trans F5.out⟩

/-- The slice value is a block of bytes of its own, whole, from block base on. -/
def NewB (w : World) (base : Nat) (v : Value) (n : Nat) (xs : List Int) : Prop :=
  ∃ g, v = .slice (some ⟨g, 0, none⟩) n n ∧ base ≤ g ∧ w.heap[g]? = some (.cells (ints xs).toArray 5 (0, 0)) ∧ xs.length = n

theorem NewB.isB {w : World} {base : Nat} {v : Value} {n : Nat} {xs : List Int} (h : NewB w base v n xs) (hn : n ≤ 9223372036854775807) : ∃ g, v = .slice (some ⟨g, 0, none⟩) n n ∧ base ≤ g ∧ IsB w (some ⟨g, 0, none⟩) n n xs := by
  obtain ⟨g, rfl, hb, hg, rfl⟩ := h
  have := isB_of_block hg 0 xs.length xs.length (by omega) (Nat.le_refl _) hn
  exact ⟨g, rfl, hb, by simpa using this⟩

theorem drop_all (n : Nat) (B : List Int) (h : B.length = n) : B ++ (List.replicate n (0 : Int)).drop B.length = B := by simp [h]

set_option maxHeartbeats 2000000 in
theorem bytes_any (r : Nat) (ρ : Option Nat) (B : List Int) (s : Nat) (w : World) (h : DK w r ρ B s) :
    Calls Try.prog 10 #[.pointer (some ⟨r, 0, none⟩)] w fun x w' => ∃ v, x = .returned v ∧ NewB w' w.heap.size v B.length B ∧ Below w.heap.size w w' := by
  obtain ⟨i0, hi, hz0, hz1, hz2⟩ := info_parts Try.info5
  have H := hd h
  have hle := h.size_le
  obtain ⟨R, hh, -⟩ := h
  have c1 := cell_row hh 1
  simp at c1
  have hlt := hd H.out.lt
  clear hh
  go_enter Try.func10, Try.ntmps10
  go_wp2_with (first | (at_make; refine wpList_make_b _ rfl _ _ 22 rfl 5 i0 Try.underlying22 hi hz0 hz1 hz2 _ _ _ _ B.length rfl rfl rfl rfl (by omega) ?_; intro w1 G1 B1 hsz) | fail)
  have H1 := hd (H.out.below B1.out)
  go_wp2_with fail
  refine (lay_any r ρ B s w.heap.size B.length _ _ H1.out G1.out (fun hk => Nat.lt_irrefl _ (hlt.out _ hk)) (by simp) (Nat.le_refl _) (by omega)).mono ?_
  rintro x w2 ⟨⟨v, rfl⟩, hG, hF⟩
  have R : Hid (NewB w2 w.heap.size (.slice (some ⟨w.heap.size, 0, none⟩) B.length B.length) B.length B ∧ Below w.heap.size w w2) := by
    refine ⟨⟨_, rfl, Nat.le_refl _, ?_, rfl⟩, B1.out.trans (hF.below B1.out.size (fun k hk => by omega))⟩
    rw [hG, drop_all _ _ rfl]
  clear hG hF
  go_wp2
  go_ret
  exact ⟨_, rfl, R.out⟩

end Go.Proofs.Ytdlelbdhcpjdfab
