/-
  The kept lists beside two files.
-/
import Derived.Test.YtdlelbdhcpjdfabOa
namespace Go.Proofs.Ytdlelbdhcpjdfab
open Go.RowKit
set_option linter.unusedVariables false

/-- A kept list: its bytes, and its block marked as one of the kept. -/
def Item (w : World) (tag : Nat → Nat) (u : Value) (xs : List Int) : Prop :=
  ∃ a n c, u = .slice a n c ∧ IsB w a n c xs ∧ (0 < n → ∀ b off, a = some ⟨b, off, none⟩ → tag b = 5)

structure KSt (w wr : World) (K rd rx : Nat) (ρd ρw βL βW : Option Nat) (td tw : FS) (Lv Wv : Value) (LL WW : List Value) (tag : Nat → Nat) : Prop where
  cells : wr.heap[K]? = some (.cells #[Lv, Wv] 38 (0, 0))
  rowL : SRow wr 22 βL Lv LL
  rowW : SRow wr 22 βW Wv WW
  pairs : ∀ (j : Nat) (u v : Value), LL[j]? = some u → WW[j]? = some v → ∃ xs, Item wr tag u xs ∧ Item wr tag v xs
  dd : DK wr rd ρd td.B td.s
  ww : DK wr rx ρw tw.B tw.s
  tagd : ∀ k, Own rd ρd k → tag k = 0 ∧ w.heap.size ≤ k
  tagw : ∀ k, Own rx ρw k → tag k = 1 ∧ w.heap.size ≤ k
  tagK : tag K = 2 ∧ w.heap.size ≤ K
  tagL : ∀ k, βL = some k → tag k = 3 ∧ w.heap.size ≤ k
  tagW : ∀ k, βW = some k → tag k = 4 ∧ w.heap.size ≤ k
  below : Below w.heap.size w wr

theorem SRow.lt {w : World} {e : TypeId} {β : Option Nat} {v : Value} {vs : List Value} (h : SRow w e β v vs) : ∀ k, β = some k → k < w.heap.size := by
  rintro k rfl
  obtain ⟨cap, _, hR⟩ := h
  exact hR.lt

theorem Item.fr {S : Nat → Prop} {w w' : World} {tag tag' : Nat → Nat} {u : Value} {xs : List Int} (h : Item w tag u xs) (hF : Fr S w w') (hS : ∀ k, k < w.heap.size → S k → ¬ tag k = 5) (ht : ∀ k, k < w.heap.size → tag k = 5 → tag' k = 5) : Item w' tag' u xs := by
  obtain ⟨a, n, c, rfl, hB, hT⟩ := h
  refine ⟨a, n, c, rfl, hB.fr hF (fun h0 b off e hs => ?_), fun h0 b off e => ?_⟩
  · obtain ⟨b', off', e', hb', _⟩ := hB.2.2.2 h0
    have e2 := e
    rw [e'] at e2
    have := Option.some.inj e2
    simp at this
    exact hS b (by omega) hs (hT h0 b off e)
  · obtain ⟨b', off', e', hb', _⟩ := hB.2.2.2 h0
    have e2 := e
    rw [e'] at e2
    have := Option.some.inj e2
    simp at this
    exact ht b (by omega) (hT h0 b off e)

section
variable {w wr w' : World} {K rd rx : Nat} {ρd ρw βL βW : Option Nat} {td tw : FS} {Lv Wv : Value} {LL WW : List Value} {tag : Nat → Nat}

/-- Loose blocks alone have turned; what is new is loose. -/
theorem KSt.fr {S : Nat → Prop} (h : KSt w wr K rd rx ρd ρw βL βW td tw Lv Wv LL WW tag) (hF : Fr S wr w') (hS : ∀ k, k < wr.heap.size → S k → tag k = 6 ∧ w.heap.size ≤ k) :
    KSt w w' K rd rx ρd ρw βL βW td tw Lv Wv LL WW (fun k => if wr.heap.size ≤ k then 6 else tag k) := by
  have old : ∀ k, k < wr.heap.size → (if wr.heap.size ≤ k then 6 else tag k) = tag k := fun k hk => if_neg (by omega)
  have lK := block_lt h.cells
  refine ⟨hF.keeps h.cells (fun s => by have := (hS K lK s).1; have := h.tagK.1; omega), h.rowL.fr hF (fun g e s => by have := (hS g (h.rowL.lt g e) s).1; have := (h.tagL g e).1; omega), h.rowW.fr hF (fun g e s => by have := (hS g (h.rowW.lt g e) s).1; have := (h.tagW g e).1; omega), ?_, h.dd.fr hF (fun k hk s => by have := (hS k (h.dd.lt k hk) s).1; have := (h.tagd k hk).1; omega), h.ww.fr hF (fun k hk s => by have := (hS k (h.ww.lt k hk) s).1; have := (h.tagw k hk).1; omega), ?_, ?_, ?_, ?_, ?_, ?_⟩
  · intro j u v h1 h2
    obtain ⟨xs, i1, i2⟩ := h.pairs j u v h1 h2
    exact ⟨xs, i1.fr hF (fun k hk s => by have := (hS k hk s).1; omega) (fun k hk e => (old k hk).trans e), i2.fr hF (fun k hk s => by have := (hS k hk s).1; omega) (fun k hk e => (old k hk).trans e)⟩
  · intro k hk
    rw [old k (h.dd.lt k hk)]
    exact h.tagd k hk
  · intro k hk
    rw [old k (h.ww.lt k hk)]
    exact h.tagw k hk
  · show (if _ then _ else _) = _ ∧ _
    rw [old K lK]
    exact h.tagK
  · intro k hk
    rw [old k (h.rowL.lt k hk)]
    exact h.tagL k hk
  · intro k hk
    rw [old k (h.rowW.lt k hk)]
    exact h.tagW k hk
  · refine h.below.trans ⟨hF.os, hF.tape, hF.output, hF.size, fun k hk => hF.block k (Nat.lt_of_lt_of_le hk h.below.size) (fun s => ?_)⟩
    have := (hS k (Nat.lt_of_lt_of_le hk h.below.size) s).2
    omega

theorem KSt.bel (h : KSt w wr K rd rx ρd ρw βL βW td tw Lv Wv LL WW tag) (hb : Below wr.heap.size wr w') :
    KSt w w' K rd rx ρd ρw βL βW td tw Lv Wv LL WW (fun k => if wr.heap.size ≤ k then 6 else tag k) :=
  h.fr (S := fun _ => False) (Fr.of_below hb) (fun k _ s => s.elim)

/-- A step on the first file. -/
theorem KSt.dact (h : KSt w wr K rd rx ρd ρw βL βW td tw Lv Wv LL WW tag) {t : St} (hn : Now wr w' rd ρd t) :
    ∃ ρd' tag', KSt w w' K rd rx ρd' ρw βL βW ⟨t.B, t.s⟩ tw Lv Wv LL WW tag' ∧ (∀ k, k < wr.heap.size → tag' k = tag k) := by
  obtain ⟨ρ1, hDK, hM, hF⟩ := hn
  have old : ∀ k, k < wr.heap.size → (if wr.heap.size ≤ k then 0 else tag k) = tag k := fun k hk => if_neg (by omega)
  have lK := block_lt h.cells
  refine ⟨ρ1, fun k => if wr.heap.size ≤ k then 0 else tag k, ⟨hF.keeps h.cells (fun s => by have := (h.tagd K s).1; have := h.tagK.1; omega), h.rowL.fr hF (fun g e s => by have := (h.tagd g s).1; have := (h.tagL g e).1; omega), h.rowW.fr hF (fun g e s => by have := (h.tagd g s).1; have := (h.tagW g e).1; omega), ?_, hDK, h.ww.fr hF (fun k hk s => by have := (h.tagd k s).1; have := (h.tagw k hk).1; omega), ?_, ?_, ?_, ?_, ?_, h.below.trans (hF.below h.below.size (fun k s => (h.tagd k s).2))⟩, old⟩
  · intro j u v h1 h2
    obtain ⟨xs, i1, i2⟩ := h.pairs j u v h1 h2
    exact ⟨xs, i1.fr hF (fun k hk s => by have := (h.tagd k s).1; omega) (fun k hk e => (old k hk).trans e), i2.fr hF (fun k hk s => by have := (h.tagd k s).1; omega) (fun k hk e => (old k hk).trans e)⟩
  · rintro k (rfl | e2)
    · rw [old _ (h.dd.lt _ (.inl rfl))]
      exact h.tagd _ (.inl rfl)
    · rcases hM with e3 | ⟨p, e3, hp⟩
      · have hk : Own rd ρd k := .inr (e3 ▸ e2)
        rw [old _ (h.dd.lt _ hk)]
        exact h.tagd _ hk
      · rw [e3] at e2
        obtain rfl := Option.some.inj e2
        exact ⟨if_pos hp, Nat.le_trans h.below.size hp⟩
  · intro k hk
    rw [old k (h.ww.lt k hk)]
    exact h.tagw k hk
  · show (if _ then _ else _) = _ ∧ _
    rw [old K lK]
    exact h.tagK
  · intro k hk
    rw [old k (h.rowL.lt k hk)]
    exact h.tagL k hk
  · intro k hk
    rw [old k (h.rowW.lt k hk)]
    exact h.tagW k hk

/-- A step on the second file. -/
theorem KSt.wact (h : KSt w wr K rd rx ρd ρw βL βW td tw Lv Wv LL WW tag) {t : St} (hn : Now wr w' rx ρw t) :
    ∃ ρw' tag', KSt w w' K rd rx ρd ρw' βL βW td ⟨t.B, t.s⟩ Lv Wv LL WW tag' := by
  obtain ⟨ρ1, hDK, hM, hF⟩ := hn
  have old : ∀ k, k < wr.heap.size → (if wr.heap.size ≤ k then 1 else tag k) = tag k := fun k hk => if_neg (by omega)
  have lK := block_lt h.cells
  refine ⟨ρ1, fun k => if wr.heap.size ≤ k then 1 else tag k, ⟨hF.keeps h.cells (fun s => by have := (h.tagw K s).1; have := h.tagK.1; omega), h.rowL.fr hF (fun g e s => by have := (h.tagw g s).1; have := (h.tagL g e).1; omega), h.rowW.fr hF (fun g e s => by have := (h.tagw g s).1; have := (h.tagW g e).1; omega), ?_, h.dd.fr hF (fun k hk s => by have := (h.tagw k s).1; have := (h.tagd k hk).1; omega), hDK, ?_, ?_, ?_, ?_, ?_, h.below.trans (hF.below h.below.size (fun k s => (h.tagw k s).2))⟩⟩
  · intro j u v h1 h2
    obtain ⟨xs, i1, i2⟩ := h.pairs j u v h1 h2
    exact ⟨xs, i1.fr hF (fun k hk s => by have := (h.tagw k s).1; omega) (fun k hk e => (old k hk).trans e), i2.fr hF (fun k hk s => by have := (h.tagw k s).1; omega) (fun k hk e => (old k hk).trans e)⟩
  · intro k hk
    rw [old k (h.dd.lt k hk)]
    exact h.tagd k hk
  · rintro k (rfl | e2)
    · rw [old _ (h.ww.lt _ (.inl rfl))]
      exact h.tagw _ (.inl rfl)
    · rcases hM with e3 | ⟨p, e3, hp⟩
      · have hk : Own rx ρw k := .inr (e3 ▸ e2)
        rw [old _ (h.ww.lt _ hk)]
        exact h.tagw _ hk
      · rw [e3] at e2
        obtain rfl := Option.some.inj e2
        exact ⟨if_pos hp, Nat.le_trans h.below.size hp⟩
  · show (if _ then _ else _) = _ ∧ _
    rw [old K lK]
    exact h.tagK
  · intro k hk
    rw [old k (h.rowL.lt k hk)]
    exact h.tagL k hk
  · intro k hk
    rw [old k (h.rowW.lt k hk)]
    exact h.tagW k hk
end

end Go.Proofs.Ytdlelbdhcpjdfab
