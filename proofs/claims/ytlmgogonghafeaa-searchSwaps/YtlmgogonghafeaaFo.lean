/-
  The law Follows: what it needs besides.
-/
import Derived.Test.YtlmgogonghafeaaGp
import Derived.Test.YtlmgogonghafeaaGq
import Derived.Test.YtlmgogonghafeaaMD
import Derived.Test.YtlmgogonghafeaaWq
import Derived.Test.YtlmgogonghafeaaIn
import Derived.Test.YtlmgogonghafeaaNd
import Derived.Test.YtlmgogonghafeaaEa
namespace Go.Proofs.Ytlmgogonghafeaa
open Go.RowKit Go.Lib
set_option linter.unusedVariables false

theorem rise_one : ∀ {l m : List By}, l.Pairwise (· < ·) → m.Pairwise (· < ·) → (∀ x, x ∈ l ↔ x ∈ m) → l = m
  | [], [], _, _, _ => rfl
  | [], b :: m, _, _, h => absurd ((h b).2 List.mem_cons_self) (by simp)
  | a :: l, [], _, _, h => absurd ((h a).1 List.mem_cons_self) (by simp)
  | a :: l, b :: m, hl, hm, h => by
    obtain ⟨hl1, hl2⟩ := List.pairwise_cons.1 hl
    obtain ⟨hm1, hm2⟩ := List.pairwise_cons.1 hm
    have e : a = b := by
      rcases List.mem_cons.1 ((h a).1 List.mem_cons_self) with e | e
      · exact e
      · rcases List.mem_cons.1 ((h b).2 List.mem_cons_self) with e2 | e2
        · exact e2.symm
        · exact absurd (hm1 a e) (List.lt_asymm (hl1 b e2))
    subst e
    rw [rise_one hl2 hm2 fun x => ⟨fun hx => ?_, fun hx => ?_⟩]
    · rcases List.mem_cons.1 ((h x).1 (List.mem_cons_of_mem _ hx)) with e | e
      · subst e
        exact absurd (hl1 x hx) (List.lt_irrefl _)
      · exact e
    · rcases List.mem_cons.1 ((h x).2 (List.mem_cons_of_mem _ hx)) with e | e
      · subst e
        exact absurd (hm1 x hx) (List.lt_irrefl _)
      · exact e
theorem wds_one {ws ks ks' : List By} (h : Wds ws ks) (h' : Wds ws ks') : ks = ks' := rise_one h.sort h'.sort fun x => (h.mem x).trans (h'.mem x).symm
theorem IsN.isL' {w W : World} {v : Value} {l : List Nat} (h : IsN w W v l) : ∃ a c, v = .slice a l.length c ∧ IsL W a l.length c l := h.isL
theorem StI.isW {w W : World} {v : Value} {l : List ByteArray} (h : StI w W v l) : ∃ a c, v = .slice a l.length c ∧ IsW W a l.length c l := by
  obtain ⟨a, c, hv, h1, h2, h3⟩ := h.cells
  refine ⟨a, c, hv, rfl, h1, h2, fun h0 => ?_⟩
  obtain ⟨g, e, -, hg, hc⟩ := h3 h0
  exact ⟨g, 0, e, hg, fun k hk => by rw [Nat.zero_add]; exact hc k hk⟩

/-- Between two steps: the text d, the index x of it, of one's own blocks. -/
def FoI (w : World) (x k : Nat) (v : Value) (wr : World) : Prop :=
  ∃ (xs : List El) (a : Option Addr) (c : Nat) (O : Nat → Prop), v = .slice a xs.length c ∧ IsE wr a xs.length c xs ∧ (∀ b off, a = some ⟨b, off, none⟩ → ¬ O b) ∧ IM wr O x (tB xs) ∧ (∀ k, O k → w.heap.size ≤ k ∧ k < wr.heap.size) ∧ Below w.heap.size w wr ∧ xs.length ≤ 1000 + k
theorem IsE.frm {w w' : World} {a : Option Addr} {n c : Nat} {xs : List El} {Q : Nat → Prop} (h : IsE w a n c xs) (hF : Fr Q w w') (hQ : ∀ b off, a = some ⟨b, off, none⟩ → ¬ Q b) : IsE w' a n c xs := by
  obtain ⟨h1, h2, h3, h4⟩ := h
  refine ⟨h1, h2, h3, fun h0 => ?_⟩
  obtain ⟨b, off, e, hb, hc⟩ := h4 h0
  refine ⟨b, off, e, Nat.lt_of_lt_of_le hb hF.size, fun j v hj => ?_⟩
  rw [hF.cell (p := ⟨b, off + j, none⟩) hb (hQ b off e)]
  exact hc j v hj
theorem FoI.below {w W W' : World} {x k : Nat} {v : Value} (h : FoI w x k v W) (hb : Below W.heap.size W W') : FoI w x k v W' := by
  obtain ⟨xs, a, c, O, h1, h2, h3, h4, h5, h6, h7⟩ := h
  exact ⟨xs, a, c, O, h1, h2.below hb, h3, h4.below hb, fun j hj => ⟨(h5 j hj).1, Nat.lt_of_lt_of_le (h5 j hj).2 hb.size⟩, h6.trans (hb.mono h6.size), h7⟩
/-- Apply of the program and of the document, and what is between two steps then. -/
theorem fo_step {w W W' W'' : World} {x k : Nat} {xs : List El} {O : Nat → Prop} {v : Value} {o : OpE} (hO : ∀ k, O k → w.heap.size ≤ k ∧ k < W.heap.size) (hB : Below w.heap.size w W) (hA : ApR W W' O x (apT (tB xs) o)) (b2 : Below W'.heap.size W' W'') (hE : OwnE W'' W'.heap.size v (applyP xs o)) (hy : (applyP xs o).length ≤ 1000 + k) : FoI w x k v W'' := by
  obtain ⟨g, cc, hg, rfl, hR⟩ := hE.form
  obtain ⟨hI, hF⟩ := hA
  have hs := hF.size
  have hs2 := b2.size
  have hE2 : IsE W'' (some ⟨g, 0, none⟩) (applyP xs o).length cc (applyP xs o) := by
    have h0 : SE W'' (some g) (.slice (some ⟨g, 0, none⟩) (applyP xs o).length cc) (applyP xs o) := ⟨cc, rfl, hR⟩
    obtain ⟨a', c', hv, hE, -⟩ := h0.form
    obtain ⟨rfl, -, rfl⟩ := Value.slice.inj hv
    exact hE
  refine ⟨applyP xs o, _, cc, fun k => O k ∨ (W.heap.size ≤ k ∧ k < W'.heap.size), rfl, hE2, ?_, ?_, ?_, ?_, hy⟩
  · intro b off e hb
    have : g = b := by injection e with e; injection e
    subst this
    rcases hb with hb | hb
    · have := (hO g hb).2
      omega
    · omega
  · rw [tB_apply]
    exact hI.below b2
  · intro j hj
    have := hB.size
    rcases hj with hj | hj
    · have := hO j hj
      omega
    · omega
  · exact (hB.trans (hF.below hB.size (fun j hj => (hO j hj.1).1))).trans (b2.mono (Nat.le_trans hB.size hs))
theorem apply_len (xs : List El) (o : OpE) (h : fitsP (xs.length : Int) o = 0) : (applyP xs o).length ≤ xs.length + 1 := by
  unfold applyP
  split
  · simp; omega
  · split
    · simp; omega
    · omega
def stc (q : Bool × Int × Nat) : List Value := [.bool q.1, .int .i64 q.2.1, .int .u8 q.2.2]
end Go.Proofs.Ytlmgogonghafeaa
