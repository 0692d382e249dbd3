/-
  The kept lists: one more.
-/
import Derived.Test.YtdlelbdhcpjdfabOb
namespace Go.Proofs.Ytdlelbdhcpjdfab
open Go.RowKit
set_option linter.unusedVariables false

section
variable {w wr w2 : World} {K rd rx : Nat} {ρd ρw βL βW : Option Nat} {td tw : FS} {Lv Wv : Value} {LL WW : List Value} {tag : Nat → Nat}

theorem Pushed.fr {e : TypeId} {β : Option Nat} {g' N cap' : Nat} {vs : List Value} (h : Pushed wr w2 e β g' N cap' vs) : Fr (fun k => β = some k) wr w2 := by
  rcases h.2 with ⟨e1, hF⟩ | ⟨_, hF⟩
  · exact hF.mono (fun k _ e => by rw [e]; exact e1)
  · exact hF.mono (fun k _ e => e.elim)

theorem Pushed.ge {e : TypeId} {β : Option Nat} {g' N cap' : Nat} {vs : List Value} (h : Pushed wr w2 e β g' N cap' vs) : β = some g' ∨ wr.heap.size ≤ g' := by
  rcases h.2 with ⟨e1, _⟩ | ⟨e1, _⟩
  · exact .inl e1
  · exact .inr (by omega)

/-- A loose block is kept from now on. -/
theorem KSt.keep (h : KSt w wr K rd rx ρd ρw βL βW td tw Lv Wv LL WW tag) (b : Nat) (hb : tag b = 6 ∨ tag b = 5) : KSt w wr K rd rx ρd ρw βL βW td tw Lv Wv LL WW (fun k => if k = b then 5 else tag k) := by
  have old : ∀ k, ¬ tag k = 6 → ¬ tag k = 5 → (if k = b then 5 else tag k) = tag k := fun k h1 h2 => if_neg (fun e => by subst e; omega)
  have five : ∀ k, k < wr.heap.size → tag k = 5 → (if k = b then 5 else tag k) = 5 := fun k _ h5 => by
    split
    · rfl
    · exact h5
  refine ⟨h.cells, h.rowL, h.rowW, ?_, h.dd, h.ww, ?_, ?_, ?_, ?_, ?_, h.below⟩
  · intro j u v h1 h2
    obtain ⟨xs, i1, i2⟩ := h.pairs j u v h1 h2
    exact ⟨xs, i1.fr (Fr.refl (fun _ => False) wr) (fun _ _ s => s.elim) five, i2.fr (Fr.refl (fun _ => False) wr) (fun _ _ s => s.elim) five⟩
  · intro k hk
    have := h.tagd k hk
    rw [old k (by omega) (by omega)]
    exact this
  · intro k hk
    have := h.tagw k hk
    rw [old k (by omega) (by omega)]
    exact this
  · have := h.tagK
    show (if _ then _ else _) = _ ∧ _
    rw [old K (by omega) (by omega)]
    exact this
  · intro k hk
    have := h.tagL k hk
    rw [old k (by omega) (by omega)]
    exact this
  · intro k hk
    have := h.tagW k hk
    rw [old k (by omega) (by omega)]
    exact this

theorem KSt.pushL (h : KSt w wr K rd rx ρd ρw βL βW td tw Lv Wv LL WW tag) {g' cap' : Nat} {u : Value} (hP : Pushed wr w2 22 βL g' (LL.length + 1) cap' (LL ++ [u])) (hWL : WW.length ≤ LL.length) :
    ∃ tag', KSt w (w2.setCell ⟨K, 0, none⟩ (.slice (some ⟨g', 0, none⟩) (LL.length + 1) cap')) K rd rx ρd ρw (some g') βW td tw (.slice (some ⟨g', 0, none⟩) (LL.length + 1) cap') Wv (LL ++ [u]) WW tag' ∧ ∀ k, k < wr.heap.size → tag' k = tag k := by
  have lK := block_lt h.cells
  have hg := hP.ge
  have old : ∀ k, k < wr.heap.size → (if k = g' then 3 else tag k) = tag k := by
    intro k hk
    split
    · next e =>
      subst e
      rcases hg with e1 | e1
      · exact ((h.tagL k e1).1).symm
      · omega
    · rfl
  have hKg : ¬ K = g' := by
    intro e
    subst e
    rcases hg with e1 | e1
    · have := (h.tagL K e1).1
      have := h.tagK.1
      omega
    · omega
  have f1 := hP.fr
  have f2 : Fr (· = K) w2 (w2.setCell ⟨K, 0, none⟩ (.slice (some ⟨g', 0, none⟩) (LL.length + 1) cap')) := Fr.setCell _ _ _ rfl
  have f : Fr (fun k => βL = some k ∨ k = K) wr (w2.setCell ⟨K, 0, none⟩ (.slice (some ⟨g', 0, none⟩) (LL.length + 1) cap')) := (f1.mono (fun k _ e => .inl e)).trans (f2.mono (fun k _ e => .inr e))
  have nS : ∀ k, k < wr.heap.size → (βL = some k ∨ k = K) → tag k = 2 ∨ tag k = 3 := by
    rintro k hk (e | rfl)
    · exact .inr (h.tagL k e).1
    · exact .inl h.tagK.1
  refine ⟨fun k => if k = g' then 3 else tag k, ⟨?_, ⟨cap', by simp, ?_⟩, h.rowW.fr f (fun g e s => by have := nS g (h.rowW.lt g e) s; have := (h.tagW g e).1; omega), ?_, h.dd.fr f (fun k hk s => by have := nS k (h.dd.lt k hk) s; have := (h.tagd k hk).1; omega), h.ww.fr f (fun k hk s => by have := nS k (h.ww.lt k hk) s; have := (h.tagw k hk).1; omega), ?_, ?_, ?_, ?_, ?_, ?_⟩, old⟩
  · have hc : w2.heap[K]? = some (.cells #[Lv, Wv] 38 (0, 0)) := f1.keeps h.cells (fun e => by have := (h.tagL K e).1; have := h.tagK.1; omega)
    rw [set_row hc 0 _]
    rfl
  · have := hP.1.fr f2 (fun e => hKg e.symm)
    simpa using this
  · intro j a b h1 h2
    have hjl : j < WW.length := (List.getElem?_eq_some_iff.1 h2).1
    rw [List.getElem?_append_left (by omega)] at h1
    obtain ⟨xs, i1, i2⟩ := h.pairs j a b h1 h2
    exact ⟨xs, i1.fr f (fun k hk s => by have := nS k hk s; omega) (fun k hk e => (old k hk).trans e), i2.fr f (fun k hk s => by have := nS k hk s; omega) (fun k hk e => (old k hk).trans e)⟩
  · intro k hk
    rw [old k (h.dd.lt k hk)]
    exact h.tagd k hk
  · intro k hk
    rw [old k (h.ww.lt k hk)]
    exact h.tagw k hk
  · show (if _ then _ else _) = _ ∧ _
    rw [old K lK]
    exact h.tagK
  · intro k hk
    obtain rfl := Option.some.inj hk
    refine ⟨if_pos rfl, ?_⟩
    rcases hg with e1 | e1
    · exact (h.tagL _ e1).2
    · exact Nat.le_trans h.below.size e1
  · intro k hk
    rw [old k (h.rowW.lt k hk)]
    exact h.tagW k hk
  · refine h.below.trans (f.below h.below.size ?_)
    rintro k (e | rfl)
    · exact (h.tagL k e).2
    · exact h.tagK.2

theorem KSt.pushW (h : KSt w wr K rd rx ρd ρw βL βW td tw Lv Wv LL WW tag) {g' cap' : Nat} {u v : Value} {xs : List Int} (hP : Pushed wr w2 22 βW g' (WW.length + 1) cap' (WW ++ [v])) (hu : LL[WW.length]? = some u) (iu : Item wr tag u xs) (iv : Item wr tag v xs) :
    ∃ tag', KSt w (w2.setCell ⟨K, 1, none⟩ (.slice (some ⟨g', 0, none⟩) (WW.length + 1) cap')) K rd rx ρd ρw βL (some g') td tw Lv (.slice (some ⟨g', 0, none⟩) (WW.length + 1) cap') LL (WW ++ [v]) tag' ∧ ∀ k, k < wr.heap.size → tag' k = tag k := by
  have lK := block_lt h.cells
  have hg := hP.ge
  have old : ∀ k, k < wr.heap.size → (if k = g' then 4 else tag k) = tag k := by
    intro k hk
    split
    · next e =>
      subst e
      rcases hg with e1 | e1
      · exact ((h.tagW k e1).1).symm
      · omega
    · rfl
  have hKg : ¬ K = g' := by
    intro e
    subst e
    rcases hg with e1 | e1
    · have := (h.tagW K e1).1
      have := h.tagK.1
      omega
    · omega
  have f1 := hP.fr
  have f2 : Fr (· = K) w2 (w2.setCell ⟨K, 1, none⟩ (.slice (some ⟨g', 0, none⟩) (WW.length + 1) cap')) := Fr.setCell _ _ _ rfl
  have f : Fr (fun k => βW = some k ∨ k = K) wr (w2.setCell ⟨K, 1, none⟩ (.slice (some ⟨g', 0, none⟩) (WW.length + 1) cap')) := (f1.mono (fun k _ e => .inl e)).trans (f2.mono (fun k _ e => .inr e))
  have nS : ∀ k, k < wr.heap.size → (βW = some k ∨ k = K) → tag k = 2 ∨ tag k = 4 := by
    rintro k hk (e | rfl)
    · exact .inr (h.tagW k e).1
    · exact .inl h.tagK.1
  refine ⟨fun k => if k = g' then 4 else tag k, ⟨?_, h.rowL.fr f (fun g e s => by have := nS g (h.rowL.lt g e) s; have := (h.tagL g e).1; omega), ⟨cap', by simp, ?_⟩, ?_, h.dd.fr f (fun k hk s => by have := nS k (h.dd.lt k hk) s; have := (h.tagd k hk).1; omega), h.ww.fr f (fun k hk s => by have := nS k (h.ww.lt k hk) s; have := (h.tagw k hk).1; omega), ?_, ?_, ?_, ?_, ?_, ?_⟩, old⟩
  · have hc : w2.heap[K]? = some (.cells #[Lv, Wv] 38 (0, 0)) := f1.keeps h.cells (fun e => by have := (h.tagW K e).1; have := h.tagK.1; omega)
    rw [set_row hc 1 _]
    rfl
  · have := hP.1.fr f2 (fun e => hKg e.symm)
    simpa using this
  · intro j a b h1 h2
    by_cases hj : j < WW.length
    · rw [List.getElem?_append_left hj] at h2
      obtain ⟨ys, i1, i2⟩ := h.pairs j a b h1 h2
      exact ⟨ys, i1.fr f (fun k hk s => by have := nS k hk s; omega) (fun k hk e => (old k hk).trans e), i2.fr f (fun k hk s => by have := nS k hk s; omega) (fun k hk e => (old k hk).trans e)⟩
    · have hjl := (List.getElem?_eq_some_iff.1 h2).1
      simp at hjl
      obtain rfl : j = WW.length := by omega
      rw [hu] at h1
      obtain rfl := Option.some.inj h1
      have h3 : (WW ++ [v])[WW.length]? = some v := by simp
      rw [h3] at h2
      obtain rfl := Option.some.inj h2
      exact ⟨xs, iu.fr f (fun k hk s => by have := nS k hk s; omega) (fun k hk e => (old k hk).trans e), iv.fr f (fun k hk s => by have := nS k hk s; omega) (fun k hk e => (old k hk).trans e)⟩
  · intro k hk
    rw [old k (h.dd.lt k hk)]
    exact h.tagd k hk
  · intro k hk
    rw [old k (h.ww.lt k hk)]
    exact h.tagw k hk
  · show (if _ then _ else _) = _ ∧ _
    rw [old K lK]
    exact h.tagK
  · intro k hk
    rw [old k (h.rowL.lt k hk)]
    exact h.tagL k hk
  · intro k hk
    obtain rfl := Option.some.inj hk
    refine ⟨if_pos rfl, ?_⟩
    rcases hg with e1 | e1
    · exact (h.tagW _ e1).2
    · exact Nat.le_trans h.below.size e1
  · refine h.below.trans (f.below h.below.size ?_)
    rintro k (e | rfl)
    · exact (h.tagW k e).2
    · exact h.tagK.2
end

end Go.Proofs.Ytdlelbdhcpjdfab
