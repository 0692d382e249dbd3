/-
  Two files of the program and the two of the document beside them.
-/
import Derived.Test.YtdlelbdhcpjdfabApart
import Derived.Test.YtdlelbdhcpjdfabRc
import Derived.Test.YtdlelbdhcpjdfabRd
namespace Go.Proofs.Ytdlelbdhcpjdfab
open Go.RowKit
set_option linter.unusedVariables false

theorem rappend_any (r : Nat) (β : Option Nat) (B : List Int) (s : Nat) (a : Option Addr) (n c : Nat) (xs : List Int) (w : World) (h : RK w r β B s) (hx : IsB w a n c xs) (hxr : 0 < n → ∀ b off, a = some ⟨b, off, none⟩ → ¬ Own r β b) :
    Calls Try.prog 30 #[.pointer (some ⟨r, 0, none⟩), .slice a n c] w fun x w' => x = .returned (.int .i64 (appP xs B s).e) ∧ RNow w w' r β (appP xs B s) := by
  have hl := hx.1
  unfold appP
  by_cases hn : B.length + xs.length ≤ 262144
  · rw [if_pos hn]
    exact rappend_good r β B s a n c xs w h hx hxr (by omega)
  · rw [if_neg hn]
    refine (rappend_bad r β B s a n c w h (by omega)).mono ?_
    rintro x w' ⟨rfl, rfl⟩
    exact ⟨rfl, RNow.of_fr (t := ⟨20, B, s⟩) h (Fr.refl _ _)⟩

def upd {α : Type} (F : Nat → α) (i : Nat) (v : α) : Nat → α := fun j => if j = i then v else F j
theorem upd_same {α : Type} (F : Nat → α) (i : Nat) (v : α) : upd F i v i = v := by simp [upd]
theorem upd_other {α : Type} (F : Nat → α) (i j : Nat) (v : α) (h : ¬ j = i) : upd F i v j = F j := by simp [upd, h]

structure PSt (w wr : World) (P : Nat) (D : Nat → Nat) (ρ : Nat → Option Nat) (FD : Nat → FS) (R : Nat → Nat) (β : Nat → Option Nat) (FR : Nat → FS) (tag : Nat → Nat) : Prop where
  cells : wr.heap[P]? = some (.cells #[.pointer (some ⟨D 0, 0, none⟩), .pointer (some ⟨D 1, 0, none⟩), .pointer (some ⟨R 0, 0, none⟩), .pointer (some ⟨R 1, 0, none⟩)] 63 (0, 0))
  disk : ∀ i, i < 2 → DK wr (D i) (ρ i) (FD i).B (FD i).s
  ref : ∀ i, i < 2 → RK wr (R i) (β i) (FR i).B (FR i).s
  tagD : ∀ i k, i < 2 → Own (D i) (ρ i) k → tag k = i ∧ w.heap.size ≤ k
  tagR : ∀ i k, i < 2 → Own (R i) (β i) k → tag k = 2 + i ∧ w.heap.size ≤ k
  tagP : tag P = 4 ∧ w.heap.size ≤ P
  below : Below w.heap.size w wr

def PS (w wr : World) (P : Nat) (FD FR : Nat → FS) : Prop := ∃ D ρ R β tag, PSt w wr P D ρ FD R β FR tag

theorem PSt.cellD {w wr : World} {P : Nat} {D : Nat → Nat} {ρ : Nat → Option Nat} {FD : Nat → FS} {R : Nat → Nat} {β : Nat → Option Nat} {FR : Nat → FS} {tag : Nat → Nat} (h : PSt w wr P D ρ FD R β FR tag) (i : Nat) (hi : i < 2) :
    wr.cell? ⟨P, i, none⟩ = some (.pointer (some ⟨D i, 0, none⟩)) := by
  rw [cell_row h.cells]
  have : i = 0 ∨ i = 1 := by omega
  rcases this with rfl | rfl <;> rfl
theorem PSt.cellR {w wr : World} {P : Nat} {D : Nat → Nat} {ρ : Nat → Option Nat} {FD : Nat → FS} {R : Nat → Nat} {β : Nat → Option Nat} {FR : Nat → FS} {tag : Nat → Nat} (h : PSt w wr P D ρ FD R β FR tag) (i : Nat) (hi : i < 2) :
    wr.cell? ⟨P, 2 + i, none⟩ = some (.pointer (some ⟨R i, 0, none⟩)) := by
  rw [cell_row h.cells]
  have : i = 0 ∨ i = 1 := by omega
  rcases this with rfl | rfl <;> rfl
theorem PSt.frozen {w wr : World} {P : Nat} {D : Nat → Nat} {ρ : Nat → Option Nat} {FD : Nat → FS} {R : Nat → Nat} {β : Nat → Option Nat} {FR : Nat → FS} {tag : Nat → Nat} (h : PSt w wr P D ρ FD R β FR tag) (j : Nat) :
    wr.frozen? ⟨P, j, none⟩ = false := frozen_row h.cells j

theorem PSt.belowP {w wr w' : World} {P : Nat} {D : Nat → Nat} {ρ : Nat → Option Nat} {FD : Nat → FS} {R : Nat → Nat} {β : Nat → Option Nat} {FR : Nat → FS} {tag : Nat → Nat} (h : PSt w wr P D ρ FD R β FR tag) (hb : Below wr.heap.size wr w') : PSt w w' P D ρ FD R β FR tag :=
  ⟨(hb.block P (block_lt h.cells)).trans h.cells, fun i hi => (h.disk i hi).below hb, fun i hi => (h.ref i hi).below hb, h.tagD, h.tagR, h.tagP, h.below.trans (hb.mono h.below.size)⟩

/-- A step on the program file of site i. -/
theorem PSt.dstep {w wr w' : World} {P : Nat} {D : Nat → Nat} {ρ : Nat → Option Nat} {FD : Nat → FS} {R : Nat → Nat} {β : Nat → Option Nat} {FR : Nat → FS} {tag : Nat → Nat} (h : PSt w wr P D ρ FD R β FR tag) (i : Nat) (hi : i < 2) {t : St} (hn : Now wr w' (D i) (ρ i) t) :
    ∃ ρ' tag', PSt w w' P D ρ' (upd FD i ⟨t.B, t.s⟩) R β FR tag' := by
  obtain ⟨ρ1, hDK, hM, hF⟩ := hn
  refine ⟨upd ρ i ρ1, fun k => if wr.heap.size ≤ k then i else tag k, ?_⟩
  have old : ∀ k, k < wr.heap.size → (if wr.heap.size ≤ k then i else tag k) = tag k := fun k hk => if_neg (by omega)
  refine ⟨hF.keeps h.cells (fun hk => by have := (h.tagD i P hi hk).1; have := h.tagP.1; omega), fun j hj => ?_, fun j hj => (h.ref j hj).fr hF (fun k hk hS => by have := (h.tagR j k hj hk).1; have := (h.tagD i k hi hS).1; omega), fun j k hj hk => ?_, fun j k hj hk => ?_, ?_, h.below.trans (hF.below h.below.size (fun k hk => (h.tagD i k hi hk).2))⟩
  · by_cases e : j = i
    · subst e
      rw [upd_same, upd_same]
      exact hDK
    · rw [upd_other _ _ _ _ e, upd_other _ _ _ _ e]
      exact (h.disk j hj).fr hF (fun k hk hS => by have := (h.tagD j k hj hk).1; have := (h.tagD i k hi hS).1; omega)
  · by_cases e : j = i
    · subst e
      rw [upd_same] at hk
      rcases hk with rfl | e2
      · rw [old _ ((h.disk j hj).lt _ (.inl rfl))]
        exact h.tagD j _ hj (.inl rfl)
      · rcases hM with e3 | ⟨p, e3, hp⟩
        · have hk : Own (D j) (ρ j) k := .inr (e3 ▸ e2)
          rw [old _ ((h.disk j hj).lt _ hk)]
          exact h.tagD j _ hj hk
        · rw [e3] at e2
          obtain rfl := Option.some.inj e2
          exact ⟨if_pos hp, Nat.le_trans h.below.size hp⟩
    · rw [upd_other _ _ _ _ e] at hk
      rw [old _ ((h.disk j hj).lt _ hk)]
      exact h.tagD j _ hj hk
  · rw [old _ ((h.ref j hj).lt _ hk)]
    exact h.tagR j _ hj hk
  · show (if _ then _ else _) = _ ∧ _
    rw [old _ (block_lt h.cells)]
    exact h.tagP

/-- A step on the document file of site i. -/
theorem PSt.rstep {w wr w' : World} {P : Nat} {D : Nat → Nat} {ρ : Nat → Option Nat} {FD : Nat → FS} {R : Nat → Nat} {β : Nat → Option Nat} {FR : Nat → FS} {tag : Nat → Nat} (h : PSt w wr P D ρ FD R β FR tag) (i : Nat) (hi : i < 2) {t : St} (hn : RNow wr w' (R i) (β i) t) :
    ∃ β' tag', PSt w w' P D ρ FD R β' (upd FR i ⟨t.B, t.s⟩) tag' := by
  obtain ⟨ρ1, hDK, hM, hF⟩ := hn
  refine ⟨upd β i ρ1, fun k => if wr.heap.size ≤ k then 2 + i else tag k, ?_⟩
  have old : ∀ k, k < wr.heap.size → (if wr.heap.size ≤ k then 2 + i else tag k) = tag k := fun k hk => if_neg (by omega)
  refine ⟨hF.keeps h.cells (fun hk => by have := (h.tagR i P hi hk).1; have := h.tagP.1; omega), fun j hj => (h.disk j hj).fr hF (fun k hk hS => by have := (h.tagD j k hj hk).1; have := (h.tagR i k hi hS).1; omega), fun j hj => ?_, fun j k hj hk => ?_, fun j k hj hk => ?_, ?_, h.below.trans (hF.below h.below.size (fun k hk => (h.tagR i k hi hk).2))⟩
  · by_cases e : j = i
    · subst e
      rw [upd_same, upd_same]
      exact hDK
    · rw [upd_other _ _ _ _ e, upd_other _ _ _ _ e]
      exact (h.ref j hj).fr hF (fun k hk hS => by have := (h.tagR j k hj hk).1; have := (h.tagR i k hi hS).1; omega)
  · rw [old _ ((h.disk j hj).lt _ hk)]
    exact h.tagD j _ hj hk
  · by_cases e : j = i
    · subst e
      rw [upd_same] at hk
      rcases hk with rfl | e2
      · rw [old _ ((h.ref j hj).lt _ (.inl rfl))]
        exact h.tagR j _ hj (.inl rfl)
      · rcases hM with e3 | ⟨p, e3, hp⟩
        · have hk : Own (R j) (β j) k := .inr (e3 ▸ e2)
          rw [old _ ((h.ref j hj).lt _ hk)]
          exact h.tagR j _ hj hk
        · rw [e3] at e2
          obtain rfl := Option.some.inj e2
          exact ⟨if_pos hp, Nat.le_trans h.below.size hp⟩
    · rw [upd_other _ _ _ _ e] at hk
      rw [old _ ((h.ref j hj).lt _ hk)]
      exact h.tagR j _ hj hk
  · show (if _ then _ else _) = _ ∧ _
    rw [old _ (block_lt h.cells)]
    exact h.tagP

theorem cells_updD (D R : Nat → Nat) (i r : Nat) (hi : i < 2) : (#[Value.pointer (some ⟨D 0, 0, none⟩), .pointer (some ⟨D 1, 0, none⟩), .pointer (some ⟨R 0, 0, none⟩), .pointer (some ⟨R 1, 0, none⟩)] : Array Value).setIfInBounds i (.pointer (some ⟨r, 0, none⟩)) =
    #[.pointer (some ⟨upd D i r 0, 0, none⟩), .pointer (some ⟨upd D i r 1, 0, none⟩), .pointer (some ⟨R 0, 0, none⟩), .pointer (some ⟨R 1, 0, none⟩)] := by
  have : i = 0 ∨ i = 1 := by omega
  rcases this with rfl | rfl <;> simp [upd]
theorem cells_updR (D R : Nat → Nat) (i r : Nat) (hi : i < 2) : (#[Value.pointer (some ⟨D 0, 0, none⟩), .pointer (some ⟨D 1, 0, none⟩), .pointer (some ⟨R 0, 0, none⟩), .pointer (some ⟨R 1, 0, none⟩)] : Array Value).setIfInBounds (2 + i) (.pointer (some ⟨r, 0, none⟩)) =
    #[.pointer (some ⟨D 0, 0, none⟩), .pointer (some ⟨D 1, 0, none⟩), .pointer (some ⟨upd R i r 0, 0, none⟩), .pointer (some ⟨upd R i r 1, 0, none⟩)] := by
  have : i = 0 ∨ i = 1 := by omega
  rcases this with rfl | rfl <;> simp [upd]

/-- A new file of the program takes the place of site i. The new file was made in between; base0 is the size of the heap ahead of it. -/
theorem PSt.dnew {w w1 : World} {P : Nat} {D : Nat → Nat} {ρ : Nat → Option Nat} {FD : Nat → FS} {R : Nat → Nat} {β : Nat → Option Nat} {FR : Nat → FS} {tag : Nat → Nat} (h : PSt w w1 P D ρ FD R β FR tag) (i : Nat) (hi : i < 2) {r : Nat} {ρ1 : Option Nat} {f : FS} (hDK : DK w1 r ρ1 f.B f.s)
    (hfD : ∀ j k, j < 2 → Own (D j) (ρ j) k → ¬ Own r ρ1 k) (hfR : ∀ j k, j < 2 → Own (R j) (β j) k → ¬ Own r ρ1 k) (hfP : ¬ Own r ρ1 P) (hb : ∀ k, Own r ρ1 k → w.heap.size ≤ k) :
    ∃ tag', PSt w (w1.setCell ⟨P, i, none⟩ (.pointer (some ⟨r, 0, none⟩))) P (upd D i r) (upd ρ i ρ1) (upd FD i f) R β FR tag' := by
  classical
  have hF : Fr (· = P) w1 (w1.setCell ⟨P, i, none⟩ (.pointer (some ⟨r, 0, none⟩))) := Fr.setCell _ _ _ rfl
  refine ⟨fun k => if Own r ρ1 k then i else tag k, ?_⟩
  have old : ∀ k, ¬ Own r ρ1 k → (if Own r ρ1 k then i else tag k) = tag k := fun k hk => if_neg hk
  refine ⟨?_, fun j hj => ?_, fun j hj => (h.ref j hj).fr hF (fun k hk hS => by have := (h.tagR j k hj hk).1; have := h.tagP.1; rw [hS] at *; omega), fun j k hj hk => ?_, fun j k hj hk => ?_, ?_, h.below.setCell (p := ⟨P, i, none⟩) h.tagP.2 _⟩
  · rw [set_row h.cells i _, cells_updD D R i r hi]
  · by_cases e : j = i
    · subst e
      rw [upd_same, upd_same, upd_same]
      exact hDK.fr hF (fun k hk hS => hfP (hS ▸ hk))
    · rw [upd_other _ _ _ _ e, upd_other _ _ _ _ e, upd_other _ _ _ _ e]
      exact (h.disk j hj).fr hF (fun k hk hS => by have := (h.tagD j k hj hk).1; have := h.tagP.1; rw [hS] at *; omega)
  · by_cases e : j = i
    · subst e
      rw [upd_same, upd_same] at hk
      exact ⟨if_pos hk, hb k hk⟩
    · rw [upd_other _ _ _ _ e, upd_other _ _ _ _ e] at hk
      rw [old k (hfD j k hj hk)]
      exact h.tagD j _ hj hk
  · rw [old k (hfR j k hj hk)]
    exact h.tagR j _ hj hk
  · show (if _ then _ else _) = _ ∧ _
    rw [old P hfP]
    exact h.tagP

theorem PSt.rnew {w w1 : World} {P : Nat} {D : Nat → Nat} {ρ : Nat → Option Nat} {FD : Nat → FS} {R : Nat → Nat} {β : Nat → Option Nat} {FR : Nat → FS} {tag : Nat → Nat} (h : PSt w w1 P D ρ FD R β FR tag) (i : Nat) (hi : i < 2) {r : Nat} {β1 : Option Nat} {f : FS} (hRK : RK w1 r β1 f.B f.s)
    (hfD : ∀ j k, j < 2 → Own (D j) (ρ j) k → ¬ Own r β1 k) (hfR : ∀ j k, j < 2 → Own (R j) (β j) k → ¬ Own r β1 k) (hfP : ¬ Own r β1 P) (hb : ∀ k, Own r β1 k → w.heap.size ≤ k) :
    ∃ tag', PSt w (w1.setCell ⟨P, 2 + i, none⟩ (.pointer (some ⟨r, 0, none⟩))) P D ρ FD (upd R i r) (upd β i β1) (upd FR i f) tag' := by
  classical
  have hF : Fr (· = P) w1 (w1.setCell ⟨P, 2 + i, none⟩ (.pointer (some ⟨r, 0, none⟩))) := Fr.setCell _ _ _ rfl
  refine ⟨fun k => if Own r β1 k then 2 + i else tag k, ?_⟩
  have old : ∀ k, ¬ Own r β1 k → (if Own r β1 k then 2 + i else tag k) = tag k := fun k hk => if_neg hk
  refine ⟨?_, fun j hj => (h.disk j hj).fr hF (fun k hk hS => by have := (h.tagD j k hj hk).1; have := h.tagP.1; rw [hS] at *; omega), fun j hj => ?_, fun j k hj hk => ?_, fun j k hj hk => ?_, ?_, h.below.setCell (p := ⟨P, 2 + i, none⟩) h.tagP.2 _⟩
  · rw [set_row h.cells (2 + i) _, cells_updR D R i r hi]
  · by_cases e : j = i
    · subst e
      rw [upd_same, upd_same, upd_same]
      exact hRK.fr hF (fun k hk hS => hfP (hS ▸ hk))
    · rw [upd_other _ _ _ _ e, upd_other _ _ _ _ e, upd_other _ _ _ _ e]
      exact (h.ref j hj).fr hF (fun k hk hS => by have := (h.tagR j k hj hk).1; have := h.tagP.1; rw [hS] at *; omega)
  · rw [old k (hfD j k hj hk)]
    exact h.tagD j _ hj hk
  · by_cases e : j = i
    · subst e
      rw [upd_same, upd_same] at hk
      exact ⟨if_pos hk, hb k hk⟩
    · rw [upd_other _ _ _ _ e, upd_other _ _ _ _ e] at hk
      rw [old k (hfR j k hj hk)]
      exact h.tagR j _ hj hk
  · show (if _ then _ else _) = _ ∧ _
    rw [old P hfP]
    exact h.tagP

end Go.Proofs.Ytdlelbdhcpjdfab
