/-
  The five objects of a Box.
-/
import Derived.Test.YtpjnhjijipcjkaaPe
namespace Go.Proofs.Ytpjnhjijipcjkaa
open Go.RowKit
set_option linter.unusedVariables false

abbrev pt (x : Nat) : Value := .pointer (some ⟨x, 0, none⟩)
def FP (G : Thg) (x a b r q : Nat) (A B A' B' : Rb) (m : Nat) : Nat → Thg
  | 0 => iiO a A
  | 1 => opO b B
  | 2 => refO r A'
  | 3 => refO q B'
  | 4 => keptO x (pt a) (pt b) (pt r) (pt q) m
  | 5 => G
  | _ => noObj
section
variable (G : Thg) (x a b r q : Nat) (A B A' B' C : Rb) (m m' : Nat)
theorem FP_0 : setO (FP G x a b r q A B A' B' m) 0 (iiO a C) = FP G x a b r q C B A' B' m := by
  funext j
  rcases j with _ | _ | _ | _ | _ | _ | j <;> rfl
theorem FP_1 : setO (FP G x a b r q A B A' B' m) 1 (opO b C) = FP G x a b r q A C A' B' m := by
  funext j
  rcases j with _ | _ | _ | _ | _ | _ | j <;> rfl
theorem FP_2 : setO (FP G x a b r q A B A' B' m) 2 (refO r C) = FP G x a b r q A B C B' m := by
  funext j
  rcases j with _ | _ | _ | _ | _ | _ | j <;> rfl
theorem FP_3 : setO (FP G x a b r q A B A' B' m) 3 (refO q C) = FP G x a b r q A B A' C m := by
  funext j
  rcases j with _ | _ | _ | _ | _ | _ | j <;> rfl
theorem FP_4 : setO (FP G x a b r q A B A' B' m) 4 (keptO x (pt a) (pt b) (pt r) (pt q) m') = FP G x a b r q A B A' B' m' := by
  funext j
  rcases j with _ | _ | _ | _ | _ | _ | j <;> rfl
end

/-- A Box whose inboxes are as those of the document. -/
def PB (G : Thg) (w0 w : World) (K : Nat → Prop) (x a b r q : Nat) (A B : Rb) (m : Nat) : Prop := MO w0 w K (FP G x a b r q A B A B m)

section
variable {G : Thg} {w0 w : World} {K : Nat → Prop} {x a b r q : Nat} {A B A' B' : Rb} {m : Nat}
theorem pb_box (h : MO w0 w K (FP G x a b r q A B A' B' m)) : ∃ aL cL vW, w.heap[x]? = some (.cells #[pt a, pt b, pt r, pt q, .slice aL m cL, vW] 74 (0, 0)) ∧ m ≤ cL ∧ cL ≤ 9223372036854775807 ∧ x < w.heap.size := by
  obtain ⟨S, h1, -⟩ := h.now 4
  obtain ⟨vL, βL, SL, vW, βW, SW, E, K0⟩ := h1
  have hSLm : SL.length = m := by rw [K0.ke.1]; exact K0.len
  obtain ⟨aL, cL, rfl, hL1, hL2⟩ := K0.rowL.form
  rw [hSLm] at K0 hL1
  exact ⟨aL, cL, vW, K0.box, hL1, hL2, block_lt K0.box⟩
theorem heldR_len {p : Rb} (h : p.ib.ok) : (heldL p.ib).length ≤ 4096 := by
  have h1 := h.len
  have h2 := h.r2
  unfold heldL
  rw [List.length_mergeSort, List.length_map]
  exact Nat.le_trans h1 h2

/-- A call that takes a kept block over. -/
theorem MO.nowG {F : Nat → Thg} (h : MO w0 w K F) (i g : Nat) (hg : K g) (hg0 : w0.heap.size ≤ g) : ∃ S, F i w S ∧ ¬ S g ∧ ∀ (G : Thg) w' S', Frm G → G w' S' → (∀ k, S' k → S k ∨ k = g ∨ w.heap.size ≤ k) → Fr (fun k => S k ∨ k = g) w w' → MO w0 w' (fun k => K k ∧ k ≠ g) (setO F i G) ∧ KP (fun k => K k ∧ k ≠ g) w w' := by
  obtain ⟨T, hx, hk⟩ := h.tags
  obtain ⟨S, h1, h2⟩ := hx i
  have hSg : ¬ S g := fun hs => by have := (h2 g hs).1; have := hk g hg; omega
  refine ⟨S, h1, hSg, fun G w' S' hG h3 h4 h5 => ?_⟩
  have hs := h.base.size
  have hgl := h.old g hg
  let T' : Nat → Nat := fun k => if k = g then i + 1 else tagN w.heap.size (i + 1) T k
  have tg : T' g = i + 1 := if_pos rfl
  have tol : ∀ k, k ≠ g → k < w.heap.size → T' k = T k := fun k h1 h2 => (if_neg h1).trans (tag_old h2)
  have tn : ∀ k, w.heap.size ≤ k → T' k = i + 1 := fun k h1 => (if_neg (by omega)).trans (tag_new h1)
  refine ⟨⟨⟨T', fun j => ?_, fun k hk' => ?_⟩, h.base.trans (h5.below hs (fun k hk => ?_)), fun k hk => Nat.lt_of_lt_of_le (h.old k hk.1) h5.size, fun j => ?_⟩, fun k hk' => h5.block k (h.old k hk'.1) (fun hS => ?_)⟩
  · by_cases hji : j = i
    · subst hji
      rw [setO_same]
      refine ⟨S', h3, fun k hk => ?_⟩
      rcases h4 k hk with h6 | h6 | h6
      · have hkg : k ≠ g := fun h => hSg (h ▸ h6)
        rw [tol k hkg ((h.frm j).old _ _ h1 k h6)]
        exact h2 k h6
      · subst h6
        exact ⟨tg, hg0⟩
      · exact ⟨tn k h6, by omega⟩
    · obtain ⟨Sj, h6, h7⟩ := hx j
      rw [setO_other F G hji]
      have hjg : ∀ k, Sj k → k ≠ g := fun k hkk he => by subst he; have := (h7 k hkk).1; have := hk k hg; omega
      refine ⟨Sj, (h.frm j).fr _ _ _ _ h6 h5 (fun k hk hs => ?_), fun k hk => ?_⟩
      · rcases hs with hs | hs
        · have := (h2 k hs).1; have := (h7 k hk).1; omega
        · exact hjg k hk hs
      · rw [tol k (hjg k hk) ((h.frm j).old _ _ h6 k hk)]
        exact h7 k hk
  · rw [tol k hk'.2 (h.old k hk'.1)]
    exact hk k hk'.1
  · rcases hk with hk | hk
    · exact (h2 k hk).2
    · omega
  · by_cases hji : j = i
    · subst hji
      rw [setO_same]
      exact hG
    · rw [setO_other F G hji]
      exact h.frm j
  · rcases hS with hS | hS
    · have := (h2 k hS).1; have := hk k hk'.1; omega
    · exact hk'.2 hS

theorem pb_scrawl (h : MO w0 w K (FP G x a b r q A B A' B' m)) {β : Option Nat} {d : Option Addr} {n c : Nat} {xs : List Int} (hl : SF ei 1 w 3 β (.slice d n c) xs) (hβ : ∀ g, β = some g → K g ∧ w0.heap.size ≤ g) (hn : n ≤ 4096) (hm : m ≤ 50) :
    Calls Try.prog 51 #[pt x, .slice d n c] w fun ex w' => ex = .returned (.tuple #[]) ∧ MO w0 w' (fun k => K k ∧ β ≠ some k) (FP G x a b r q A B A' B' (m + 2)) ∧ KP (fun k => K k ∧ β ≠ some k) w w' := by
  cases β with
  | none =>
    obtain ⟨S, h1, h2⟩ := h.now 4
    refine (scrawl_any x m _ _ _ _ S none d n c xs w h1 hl (fun g hg => by cases hg) hn hm).mono ?_
    rintro _ w' ⟨rfl, S', k1, k2, k3⟩
    obtain ⟨k4, k5⟩ := h2 _ w' S' (frm_kept _ _ _ _ _ _) k1 (fun k hk => by
      rcases k2 k hk with h | h | h
      · exact .inl h
      · cases h
      · exact .inr h) (k3.mono (fun k _ h => by
      rcases h with h | h
      · exact h
      · cases h))
    rw [FP_4] at k4
    exact ⟨rfl, k4.less (fun k hk => hk.1), fun k hk => k5 k hk.1⟩
  | some g =>
    obtain ⟨hg1, hg2⟩ := hβ g rfl
    obtain ⟨S, h1, h0, h2⟩ := h.nowG 4 g hg1 hg2
    refine (scrawl_any x m _ _ _ _ S (some g) d n c xs w h1 hl (fun g' hg => by injection hg with hg; subst hg; exact h0) hn hm).mono ?_
    rintro _ w' ⟨rfl, S', k1, k2, k3⟩
    obtain ⟨k4, k5⟩ := h2 _ w' S' (frm_kept _ _ _ _ _ _) k1 (fun k hk => by
      rcases k2 k hk with h | h | h
      · exact .inl h
      · injection h with h; exact .inr (.inl h.symm)
      · exact .inr (.inr h)) (k3.mono (fun k _ h => by
      rcases h with h | h
      · exact .inl h
      · injection h with h; exact .inr h.symm))
    rw [FP_4] at k4
    exact ⟨rfl, k4.less (fun k hk => ⟨hk.1, fun e => hk.2 (by rw [e])⟩), fun k hk => k5 k ⟨hk.1, fun e => hk.2 (by rw [e])⟩⟩
end
theorem IV.form {w : World} {b : Nat} {v : Value} {xs : List Int} (h : IV w b v xs) : ∃ β a n c, v = .slice a n c ∧ n = xs.length ∧ SF ei 1 w 3 β (.slice a n c) xs ∧ ∀ g, β = some g → b ≤ g ∧ g < w.heap.size := by
  obtain ⟨β, h1, h2⟩ := h
  obtain ⟨a, c, h, -⟩ := h1.form
  subst h
  exact ⟨β, a, _, c, rfl, rfl, h1, fun g hg => ⟨h2 g hg, h1.lt g hg⟩⟩
theorem SF.keepAt {w w' : World} {β : Option Nat} {v : Value} {xs : List Int} (h : SF ei 1 w 3 β v xs) (hk : ∀ g, β = some g → w'.heap[g]? = w.heap[g]?) : SF ei 1 w' 3 β v xs := by
  cases β with
  | none => exact h
  | some g => exact SF.keepB h (hk g rfl)

end Go.Proofs.Ytpjnhjijipcjkaa
