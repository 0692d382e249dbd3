/-
  Two outboxes and a Kept.
-/
import Derived.Test.YtocpfioifamkmaaOd
namespace Go.Proofs.Ytocpfioifamkmaa
open Go.RowKit
set_option linter.unusedVariables false

def FO (x y kb : Nat) (px py : St) (m : Nat) : Nat → Thg := setO (setO (setO (fun _ => noObj) 0 (boxO x px)) 1 (boxO y py)) 2 (keptO kb m)
section
variable (x y kb : Nat) (px py p : St) (m m' : Nat)
theorem FO_x : setO (FO x y kb px py m) 0 (boxO x p) = FO x y kb p py m := by
  funext j
  rcases j with _ | _ | _ | j <;> simp [FO, setO]
theorem FO_y : setO (FO x y kb px py m) 1 (boxO y p) = FO x y kb px p m := by
  funext j
  rcases j with _ | _ | _ | j <;> simp [FO, setO]
theorem FO_k : setO (FO x y kb px py m) 2 (keptO kb m') = FO x y kb px py m' := by
  funext j
  rcases j with _ | _ | _ | j <;> simp [FO, setO]
end

/-- A call that takes a kept block over. -/
theorem MO.nowG {w0 w : World} {K : Nat → Prop} {F : Nat → Thg} (h : MO w0 w K F) (i g : Nat) (hg : K g) (hg0 : w0.heap.size ≤ g) : ∃ S, F i w S ∧ ¬ S g ∧ ∀ (G : Thg) w' S', Frm G → G w' S' → (∀ k, S' k → S k ∨ k = g ∨ w.heap.size ≤ k) → Fr (fun k => S k ∨ k = g) w w' → MO w0 w' (fun k => K k ∧ k ≠ g) (setO F i G) ∧ KP (fun k => K k ∧ k ≠ g) w w' := by
  obtain ⟨T, hx, hk⟩ := h.tags
  obtain ⟨S, h1, h2⟩ := hx i
  have hSg : ¬ S g := fun hs => by have := (h2 g hs).1; have := hk g hg; omega
  refine ⟨S, h1, hSg, fun G w' S' hG h3 h4 h5 => ?_⟩
  have hs := h.base.size
  have hgl := h.old g hg
  let T' : Nat → Nat := fun k => if k = g then i + 1 else tagN w.heap.size (i + 1) T k
  have tg : T' g = i + 1 := if_pos rfl
  have tol : ∀ k, k ≠ g → k < w.heap.size → T' k = T k := fun k h1 h2 => (if_neg h1).trans (tag_old h2)
  have tn : ∀ k, w.heap.size ≤ k → T' k = i + 1 := fun k h1 => (if_neg (by omega)).trans (tag_new h1)
  refine ⟨⟨⟨T', fun j => ?_, fun k hk' => ?_⟩, h.base.trans (h5.below hs (fun k hk => ?_)), fun k hk => Nat.lt_of_lt_of_le (h.old k hk.1) h5.size, fun j => ?_⟩, fun k hk' => h5.block k (h.old k hk'.1) (fun hS => ?_)⟩
  · by_cases hji : j = i
    · subst hji
      rw [setO_same]
      refine ⟨S', h3, fun k hk => ?_⟩
      rcases h4 k hk with h6 | h6 | h6
      · have hkg : k ≠ g := fun h => hSg (h ▸ h6)
        rw [tol k hkg ((h.frm j).old _ _ h1 k h6)]
        exact h2 k h6
      · subst h6
        exact ⟨tg, hg0⟩
      · exact ⟨tn k h6, by omega⟩
    · obtain ⟨Sj, h6, h7⟩ := hx j
      rw [setO_other F G hji]
      have hjg : ∀ k, Sj k → k ≠ g := fun k hkk he => by subst he; have := (h7 k hkk).1; have := hk k hg; omega
      refine ⟨Sj, (h.frm j).fr _ _ _ _ h6 h5 (fun k hk hs => ?_), fun k hk => ?_⟩
      · rcases hs with hs | hs
        · have := (h2 k hs).1; have := (h7 k hk).1; omega
        · exact hjg k hk hs
      · rw [tol k (hjg k hk) ((h.frm j).old _ _ h6 k hk)]
        exact h7 k hk
  · rw [tol k hk'.2 (h.old k hk'.1)]
    exact hk k hk'.1
  · rcases hk with hk | hk
    · exact (h2 k hk).2
    · omega
  · by_cases hji : j = i
    · subst hji
      rw [setO_same]
      exact hG
    · rw [setO_other F G hji]
      exact h.frm j
  · rcases hS with hS | hS
    · have := (h2 k hS).1; have := hk k hk'.1; omega
    · exact hk'.2 hS

theorem dueS_twice (p : St) : dueS (dueS p) = dueS p ∧ dueL (dueS p) = dueL p := by
  have hN : dueN (dueS p) = dueN p := rfl
  refine ⟨?_, ?_⟩
  · show ({ W := p.W, a := p.a, s := max (max p.s (p.a + dueN p)) (p.a + dueN (dueS p)), L := p.L } : St) = { W := p.W, a := p.a, s := max p.s (p.a + dueN p), L := p.L }
    rw [hN, Nat.max_assoc, Nat.max_self]
  · rfl

section
variable {w0 w : World} {K : Nat → Prop} {x y kb : Nat} {px py : St} {m : Nat}
theorem ow_marked (h : MO w0 w K (FO x y kb px py m)) {b : Nat} {u : Value} {xs : List (Int × Int)} (hu : IL w b u xs) (hK : ∀ k, b ≤ k → k < w.heap.size → K k) (hb : w0.heap.size ≤ b) (hn : xs.length ≤ 4096) (hm : m ≤ 10000000) (mark : Int) :
    Calls Try.prog 21 #[.pointer (some ⟨kb, 0, none⟩), u, .int .i64 mark] w fun e w' => e = .returned (.tuple #[]) ∧ ∃ g, b ≤ g ∧ (∃ c, u = .slice (some ⟨g, 0, none⟩) xs.length c) ∧ MO w0 w' (fun k => K k ∧ k ≠ g) (FO x y kb px py (m + 2)) ∧ KP (fun k => K k ∧ k ≠ g) w w' := by
  obtain ⟨g, c, rfl, hR, hbg, -, -⟩ := hu.form
  obtain ⟨S, h1, h2, h3⟩ := h.nowG 2 g (hK g hbg hR.lt) (by omega)
  refine (marked_any kb m S g xs.length c xs mark w h1 hR h2 hn hm).mono ?_
  rintro e w' ⟨rfl, S', h4, h5, h6⟩
  have h7 := h3 _ w' S' (frm_kept kb (m + 2)) h4 h5 h6
  rw [FO_k] at h7
  exact ⟨rfl, g, hbg, ⟨c, rfl⟩, h7⟩
end

theorem sameList_il (b b' : Nat) (u u' : Value) (xs : List (Int × Int)) (w : World) (h1 : IL w b u xs) (h2 : IL w b' u' xs) : Calls Try.prog 20 #[u, u'] w fun e w' => e = .returned (.bool true) ∧ ∃ m, w' = w.drewN m := by
  obtain ⟨g, h1, -⟩ := h1
  obtain ⟨g', h2, -⟩ := h2
  obtain ⟨a, c, rfl, -⟩ := h1.form
  obtain ⟨a', c', rfl, -⟩ := h2.form
  exact sameList_hi (fun _ => True) (fun _ => True) a a' _ _ c c' xs w (h1.hi (fun _ _ => trivial)) (h2.hi (fun _ _ => trivial))

end Go.Proofs.Ytocpfioifamkmaa
