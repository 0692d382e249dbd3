/-
  The net of the document: Send, Double.
-/
import Derived.Test.YtnglcnilckolkaaRa
namespace Go.Proofs.Ytnglcnilckolkaa
open Go.RowKit Go.Lib
set_option linter.unusedVariables false

theorem SO.blk {w : World} {g : Nat} {v : Value} {L : List It} (h : SO w (some g) v L) : ∃ cur : Array Value, w.heap[g]? = some (.cells cur 37 (0, 0)) := by
  obtain ⟨cap, -, cur, hh, -⟩ := h
  exact ⟨_, hh⟩

theorem RK.b_y {w : World} {y : Nat} {cl : Int} {L : List It} {S : Nat → Prop} {v : Value} {β : Option Nat} (h : RK w y cl L S v β) {g : Nat} (hg : β = some g) : g ≠ y := by
  subst hg
  obtain ⟨cur, h1⟩ := SO.blk h.so
  rintro rfl
  have := h.net
  rw [h1] at this
  simp at this
theorem RK.e_y {w : World} {y : Nat} {cl : Int} {L : List It} {S : Nat → Prop} {v : Value} {β : Option Nat} (h : RK w y cl L S v β) {γ : Option Nat} {u : Value} {b : List Int} (hs : SB w γ u b) {g : Nat} (hg : γ = some g) : g ≠ y ∧ β ≠ some g := by
  subst hg
  obtain ⟨cur, h1⟩ := SRow.blk hs
  refine ⟨?_, ?_⟩
  · rintro rfl
    have := h.net
    rw [h1] at this
    simp at this
  · rintro rfl
    obtain ⟨c2, h2⟩ := SO.blk h.so
    rw [h1] at h2
    simp at h2

theorem step_pushD {ops : Array Oper} {o : Oper} {a : Act} {w : World} {K : Act → World → Prop} {Q : Exit → Act → World → Prop} {E : Prop}
    (hg : o.guard = none) (d x : Operand) (hop : o.op = Op.call { callee := Callee.builtin Builtin.append, args := #[d, x], argTypes := #[43, 43] })
    (v : Value) (g : Nat) (hv : a.eval d = v) (hx : a.eval x = .slice (some ⟨g, 0, none⟩) 1 1) (β : Option Nat) (L : List It) (w2 : World) (hWW : Fr (fun _ => False) w2 w) (hS : SO w2 β v L) (it : It) (hb : w.heap[g]? = some (.cells (opc it).toArray 37 (0, 0)))
    (r : Nat) (C : Array Value) (hN : w2.heap[r]? = some (.cells C 77 (0, 0))) (hn : L.length ≤ 4096)
    (hK : ∀ a' c' w', (∃ W, Fr (fun _ => False) w2 W ∧ NowO W w' β (.slice a' (L.length + 1) c') (L ++ [it])) → w'.heap[r]? = some (.cells C 77 (0, 0)) → K (a.put o.dst (.slice a' (L.length + 1) c')) w') :
    if Region.wanted o (yielded ops a.tmps) = true then Oper.wp Try.prog o a w K Q else E := by
  have hS' := SO.fr hS hWW (fun _ _ h => h)
  obtain ⟨v', w', hr, hN'⟩ := run_pushO w β v L hS' g it hb hn
  obtain ⟨a', c', rfl, -⟩ : ∃ a' c', v' = .slice a' (L.length + 1) c' ∧ True := by
    obtain ⟨β', h1, -⟩ := hN'
    obtain ⟨a', c', hv', -⟩ := h1.form
    exact ⟨a', c', by rw [hv']; simp, trivial⟩
  have hr' : w'.heap[r]? = some (.cells C 77 (0, 0)) := by
    obtain ⟨β', -, -, hF⟩ := hN'
    refine hF.keeps (hWW.keeps hN (fun h => h)) ?_
    rintro rfl
    obtain ⟨c2, h2⟩ := SO.blk hS
    rw [hN] at h2
    simp at h2
  exact step_append_k hg d x 43 43 hop _ _ hv hx (hr _) (hK a' c' w' ⟨w, hWW, hN'⟩ hr')

theorem rpush_end {w u W w3 : World} {y : Nat} {cl : Int} {L : List It} {S : Nat → Prop} {v : Value} {β γ : Option Nat} {d : DG} {a : Option Addr} {c : Nat} {a' : Option Addr} {c' : Nat} (N : RK u y cl L S v β) (hW0 : Below w.heap.size w u) (hold : ∀ k, S k → k < w.heap.size)
    (hWW : Fr (fun _ => False) u W) (hP : NowO W w3 β (.slice a' (L.length + 1) c') (L ++ [⟨d, a, c, γ⟩]))
    (hg : SB u γ (.slice a d.b.length c) d.b) (hγ : ∀ g, γ = some g → w.heap.size ≤ g) (hn : d.b.length ≤ 64) (hE : L.length < 2048) :
    NowR w (w3.setCell ⟨y, 1, none⟩ (.slice a' (L.length + 1) c')) y cl (L.map It.d ++ [d]) S := by
  obtain ⟨β', hS, hM, hF⟩ := hP
  generalize hw4 : w3.setCell ⟨y, 1, none⟩ (.slice a' (L.length + 1) c') = w4
  have F4 : Fr (· = y) w3 w4 := by rw [← hw4]; exact Fr.setCell w3 ⟨y, 1, none⟩ _ rfl
  have F3 : Fr (fun k => β = some k) u w3 := (hWW.mono (fun _ _ h => h.elim)).trans hF
  have hby : ∀ g, β = some g → g ≠ y := fun g hg => N.b_y hg
  have n3 : w3.heap[y]? = some (.cells #[.int .i64 cl, v] 77 (0, 0)) := F3.keeps N.net (fun hb => hby _ hb rfl)
  have n4 : w4.heap[y]? = some (.cells #[.int .i64 cl, .slice a' (L.length + 1) c'] 77 (0, 0)) := by
    rw [← hw4]
    exact set_row n3 1 _
  have Fall : Fr (fun k => k = y ∨ β = some k) u w4 := (F3.mono (fun _ _ h => .inr h)).trans (F4.mono (fun _ _ h => .inl h))
  have hb'y : ∀ g, β' = some g → g ≠ y := by
    rintro g rfl rfl
    obtain ⟨c2, h2⟩ := SO.blk hS
    rw [n3] at h2
    simp at h2
  have hb'S : ∀ g, β' = some g → S g ∨ w.heap.size ≤ g := by
    intro g hg'
    rcases hM with hM | ⟨g', hM, hl⟩
    · exact .inl (N.own.2.1 g (by rw [← hM]; exact hg'))
    · rw [hM] at hg'
      injection hg' with hg'
      have h1 := hWW.size
      have h2 := hW0.size
      exact .inr (by omega)
  refine ⟨fun k => S k ∨ (k < w4.heap.size ∧ w.heap.size ≤ k ∧ (γ = some k ∨ β' = some k)), ⟨L ++ [⟨d, a, c, γ⟩], .slice a' (L.length + 1) c', β', ⟨n4, ?_, ?_, ?_, ?_, by simp; omega, ?_, ?_⟩, by simp⟩, ?_, ?_⟩
  · exact SO.fr hS F4 hb'y
  · intro x hx
    simp at hx
    have key : ∀ γ' u' b', SB u γ' u' b' → SB w4 γ' u' b' := fun γ' u' b' hs => SRow.fr hs Fall (fun g hg' hk => by
      have := N.e_y hs hg'
      rcases hk with hk | hk
      · exact this.1 hk
      · exact this.2 hk)
    rcases hx with hx | rfl
    · exact key _ _ _ (N.rows x hx)
    · exact key _ _ _ hg
  · intro x hx
    simp at hx
    rcases hx with hx | rfl
    · exact N.short x hx
    · exact hn
  · rw [List.pairwise_append]
    refine ⟨N.sep, by simp, fun p hp q hq g h1 h2 => ?_⟩
    simp at hq
    subst hq
    have h3 := hold g (N.own.2.2 p hp g h1)
    have h4 := hγ g h2
    omega
  · refine ⟨.inl N.own.1, ?_, ?_⟩
    · intro g hg'
      rcases hb'S g hg' with h | h
      · exact .inl h
      · exact .inr ⟨Nat.lt_of_lt_of_le (SO.lt hS g hg') F4.size, h, .inr hg'⟩
    · intro x hx g hg'
      simp at hx
      rcases hx with hx | rfl
      · exact .inl (N.own.2.2 x hx g hg')
      · exact .inr ⟨Nat.lt_of_lt_of_le (SRow.lt hg g hg') Fall.size, hγ g hg', .inl hg'⟩
  · rintro k (hk | hk)
    · have := hold k hk
      have h1 := hW0.size
      have h2 := Fall.size
      omega
    · exact hk.1
  · rintro k (hk | hk)
    · exact .inl hk
    · exact .inr hk.2.1
  · refine Fr.next (Fr.of_below hW0) Fall ?_
    rintro k - (rfl | hk)
    · exact N.own.1
    · exact N.own.2.1 k hk

end Go.Proofs.Ytnglcnilckolkaa
