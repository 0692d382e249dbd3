/-
  NotesTalks.
-/
import Derived.Test.YtkkklfnooeofcaaLb
import Derived.Deep.CutBlock
namespace Go.Proofs.Ytkkklfnooeofcaa
open Go.RowKit Go.Maps Go.ChangeMaps Go.MapKept Go.WideMaps
set_option linter.unusedVariables false

/-- The slice value at a, of n answers and capacity c, holds the list xs in w. -/
def IsQ (w : World) (a : Option Addr) (n c : Nat) (xs : List (Int × ByteArray)) : Prop :=
  xs.length = n ∧ n ≤ c ∧ c ≤ 9223372036854775807 ∧ (∀ x ∈ xs, x.2.size ≤ 9223372036854775807) ∧
  (0 < n → ∃ b off, a = some ⟨b, off, none⟩ ∧ b < w.heap.size ∧ ∀ j v, (cl rpc xs)[j]? = some v → w.cell? ⟨b, off + j, none⟩ = some v)
theorem IsQ.at {w : World} {a : Option Addr} {n c : Nat} {xs : List (Int × ByteArray)} (h : IsQ w a n c xs) (k : Nat) (hk : k < xs.length) : ∃ b off, a = some ⟨b, off, none⟩ ∧ b < w.heap.size ∧ w.cell? ⟨b, off + k * 2, none⟩ = some (.int .i64 xs[k].1) ∧ w.cell? ⟨b, off + k * 2 + 1, none⟩ = some (.string xs[k].2) := by
  obtain ⟨h1, h2, h3, h4, h5⟩ := h
  obtain ⟨b, off, e, hb, hc⟩ := h5 (by omega)
  refine ⟨b, off, e, hb, ?_, ?_⟩
  · have := hc (k * 2 + 0) _ (by rw [cl_get sz_rpc xs k 0 hk (by omega)]; rfl)
    simpa using this
  · have := hc (k * 2 + 1) _ (by rw [cl_get sz_rpc xs k 1 hk (by omega)]; rfl)
    simpa [Nat.add_assoc] using this

/-- Within the talk: the answers W, whether the note is shut, the law's own list at v. -/
def TkI (w wr : World) (r g : Nat) (W : List (Int × ByteArray)) (sh : Bool) (v : Value) : Prop :=
  ∃ O β, BD wr O r 1 [{ nt1 with sh := sh, sd := W }] ∧ SF rpc 2 wr 45 β v W ∧ (∀ k, β = some k → w.heap.size ≤ k ∧ ¬ O k) ∧ wr.heap[g]? = some (.cells #[.int .u8 120, .int .i64 1, .int .i64 1] 57 (0, 0)) ∧ ¬ O g ∧ (∀ k, O k → w.heap.size ≤ k) ∧ Below w.heap.size w wr
/-- Besides: the answer that is said, at block x. -/
def TkX (w wr : World) (r g : Nat) (W : List (Int × ByteArray)) (sh : Bool) (v : Value) (x : Nat) (cc : Int) (s : ByteArray) : Prop :=
  w.heap.size ≤ x ∧ wr.heap[x]? = some (.cells #[.int .i64 cc, .string s] 45 (0, 0)) ∧ ∃ O β, (BD wr O r 1 [{ nt1 with sh := sh, sd := W }] ∧ SF rpc 2 wr 45 β v W ∧ (∀ k, β = some k → w.heap.size ≤ k ∧ ¬ O k) ∧ wr.heap[g]? = some (.cells #[.int .u8 120, .int .i64 1, .int .i64 1] 57 (0, 0)) ∧ ¬ O g ∧ (∀ k, O k → w.heap.size ≤ k) ∧ Below w.heap.size w wr) ∧ ¬ O x ∧ β ≠ some x
section
variable {w wr u : World} {r g : Nat} {W W' : List (Int × ByteArray)} {sh sh' : Bool} {v : Value} {x : Nat} {cc : Int} {s : ByteArray}
theorem TkI.below (h : TkI w wr r g W sh v) (hb : Below wr.heap.size wr u) : TkI w u r g W sh v := by
  obtain ⟨O, β, h1, h2, h3, h4, h5, h6, h7⟩ := h
  have hF : Fr (fun _ => False) wr u := Fr.of_below hb
  exact ⟨O, β, h1.below hb, h2.fr hF (fun _ _ h => h), h3, hF.keeps h4 (fun h => h), h5, h6, h7.trans (hb.mono h7.size)⟩
theorem TkX.below (h : TkX w wr r g W sh v x cc s) (hb : Below wr.heap.size wr u) : TkX w u r g W sh v x cc s := by
  obtain ⟨hx, hc, O, β, ⟨h1, h2, h3, h4, h5, h6, h7⟩, h8, h9⟩ := h
  have hF : Fr (fun _ => False) wr u := Fr.of_below hb
  exact ⟨hx, hF.keeps hc (fun h => h), O, β, ⟨h1.below hb, h2.fr hF (fun _ _ h => h), h3, hF.keeps h4 (fun h => h), h5, h6, h7.trans (hb.mono h7.size)⟩, h8, h9⟩
theorem TkX.tk (h : TkX w wr r g W sh v x cc s) : TkI w wr r g W sh v := by
  obtain ⟨hx, hc, O, β, h, h8, h9⟩ := h
  exact ⟨O, β, h⟩
theorem TkI.new (h : TkI w wr r g W sh v) (cc : Int) (s : ByteArray) : TkX w (wr.alloc (.cells #[.int .i64 cc, .string s] 45)) r g W sh v wr.heap.size cc s := by
  have hb : Below wr.heap.size wr (wr.alloc (.cells #[.int .i64 cc, .string s] 45)) := (Below.refl _ _).alloc (Nat.le_refl _) _
  obtain ⟨O, β, h1, h2, h3, h4, h5, h6, h7⟩ := h
  have hF : Fr (fun _ => False) wr (wr.alloc (.cells #[.int .i64 cc, .string s] 45)) := Fr.of_below hb
  exact ⟨h7.size, heap_alloc_new _ _, O, β, ⟨h1.below hb, h2.fr hF (fun _ _ h => h), h3, hF.keeps h4 (fun h => h), h5, h6, h7.trans (hb.mono h7.size)⟩, fun ho => by have := h1.old _ ho; omega, fun e => by have := h2.lt _ e; omega⟩
/-- What is known of the board. -/
theorem TkI.bd (h : TkI w wr r g W sh v) : ∃ O, BD wr O r 1 ([] ++ ({ nt1 with sh := sh, sd := W } : Nt) :: []) ∧ (∀ u W' sh', NowB wr u O r 1 [{ nt1 with sh := sh', sd := W' }] → (W' = W → TkI w u r g W sh' v)) := by
  obtain ⟨O, β, h1, h2, h3, h4, h5, h6, h7⟩ := h
  refine ⟨O, h1, fun u W' sh' hN e => ?_⟩
  subst e
  obtain ⟨O', q1, q2, q3⟩ := hN
  have e : ∀ k, k < wr.heap.size → ¬ O k → ¬ O' k := fun k hk hn ho => by
    rcases q2 k ho with h | h
    · exact hn h
    · omega
  exact ⟨O', β, q1, h2.fr q3 (fun k hk => (h3 k hk).2), fun k hk => ⟨(h3 k hk).1, e k (h2.lt k hk) (h3 k hk).2⟩, q3.keeps h4 h5, e g (block_lt h4) h5, fun k hk => by rcases q2 k hk with h | h; exact h6 k h; have := h7.size; omega, h7.trans (q3.below h7.size (fun k hk => h6 k hk))⟩
theorem TkX.bd (h : TkX w wr r g W sh v x cc s) : ∃ O, BD wr O r 1 ([] ++ ({ nt1 with sh := sh, sd := W } : Nt) :: []) ∧
    (∀ u, NowB wr u O r 1 [{ nt1 with sh := sh, sd := W ++ [(cc, s)] }] → roomy (W.length + 1) 24 → ∃ v' w', (∀ ty, (Builtin.append_ #[35, 35] ty #[v, .slice (some ⟨u.heap.size, 0, none⟩) 1 1]).run Try.prog (u.alloc (.cells #[.int .i64 cc, .string s] 45)) = .ok v' w') ∧ TkX w w' r g (W ++ [(cc, s)]) sh v' x cc s) ∧ (∀ u, NowB wr u O r 1 [{ nt1 with sh := sh, sd := W ++ [(cc, s)] }] → u.heap[x]? = some (.cells #[.int .i64 cc, .string s] 45 (0, 0))) := by
  obtain ⟨hx, hc, O, β, ⟨h1, h2, h3, h4, h5, h6, h7⟩, h8, h9⟩ := h
  refine ⟨O, h1, fun u hN hroom => ?_, fun u hN => ?_⟩
  · obtain ⟨O', q1, q2, q3⟩ := hN
    have e : ∀ k, k < wr.heap.size → ¬ O k → ¬ O' k := fun k hk hn ho => by
      rcases q2 k ho with h | h
      · exact hn h
      · omega
    have hB : Below w.heap.size w u := h7.trans (q3.below h7.size (fun k hk => h6 k hk))
    have hA : Fr (fun _ => False) u (u.alloc (.cells #[.int .i64 cc, .string s] 45)) := Fr.alloc _ _ _
    have hS := (h2.fr q3 (fun k hk => (h3 k hk).2)).fr hA (fun _ _ h => h)
    obtain ⟨v', w', hr, g', hS', hN'⟩ := push_reply _ β v W hS u.heap.size cc s (heap_alloc_new u _) hroom
    have hsz : (u.alloc (.cells #[.int .i64 cc, .string s] 45)).heap.size = u.heap.size + 1 := by simp
    have hFg : Fr (fun k => β = some k) (u.alloc (.cells #[.int .i64 cc, .string s] 45)) w' := by
      rcases hN' with ⟨e1, hf⟩ | ⟨e1, hf⟩
      · exact hf.mono (fun k _ hk => by rw [e1, hk])
      · exact hf.mono (fun k _ hk => hk.elim)
    have hFu : Fr (fun k => β = some k) u w' := (hA.mono (fun _ _ h => h.elim)).trans hFg
    have hO'u : ∀ k, O' k → k < u.heap.size := q1.old
    have hg' : w.heap.size ≤ g' ∧ ¬ O' g' ∧ g' ≠ x := by
      rcases hN' with ⟨e1, -⟩ | ⟨e1, -⟩
      · exact ⟨(h3 g' e1).1, e g' (h2.lt g' e1) (h3 g' e1).2, fun e2 => h9 (e2 ▸ e1)⟩
      · rw [hsz] at e1
        have := hB.size
        have hxl := block_lt hc
        have := q3.size
        exact ⟨by omega, fun ho => by have := hO'u _ ho; omega, by omega⟩
    have hnβ : ∀ k, k < wr.heap.size → (∀ j, β = some j → k ≠ j) → ¬ (β = some k) := fun k _ hj e1 => hj k e1 rfl
    refine ⟨v', w', hr, hx, hFu.keeps (q3.keeps hc h8) (fun e1 => h9 e1), O', some g', ⟨q1.fr hFu (fun k hk e1 => ?_), hS', fun k hk => by cases hk; exact ⟨hg'.1, hg'.2.1⟩, hFu.keeps (q3.keeps h4 h5) (fun e1 => ?_), e g (block_lt h4) h5, fun k hk => ?_, ?_⟩, e x (block_lt hc) h8, fun e1 => by cases e1; exact hg'.2.2 rfl⟩
    · exact e k (h2.lt k e1) (h3 k e1).2 hk
    · have hh := h2
      rw [e1] at hh
      obtain ⟨cur, hcur⟩ := hh.blk
      exact ty_ne hcur h4 (by decide) rfl
    · rcases q2 k hk with h | h
      · exact h6 k h
      · have := h7.size; omega
    · exact hB.trans (hFu.below hB.size (fun k hk => (h3 k hk).1))
  · obtain ⟨O', q1, q2, q3⟩ := hN
    exact q3.keeps hc h8
theorem TkI.doc (h : TkI w wr r g W sh v) : IsE wr (some ⟨g, 0, none⟩) 1 1 [el1] := by
  obtain ⟨O, β, h1, h2, h3, h4, h5, h6, h7⟩ := h
  refine ⟨rfl, Nat.le_refl _, by omega, fun _ => ⟨g, 0, rfl, block_lt h4, fun j v hj => ?_⟩⟩
  rw [Nat.zero_add, cell_row h4]
  simpa [cE, elc, el1] using hj
theorem TkI.low (h : TkI w wr r g W sh v) : Below w.heap.size w wr := by
  obtain ⟨O, β, h1, h2, h3, h4, h5, h6, h7⟩ := h
  exact h7
theorem TkI.want (h : TkI w wr r g W sh v) : ∃ β, SF rpc 2 wr 45 β v W := by
  obtain ⟨O, β, h1, h2, h3, h4, h5, h6, h7⟩ := h
  exact ⟨β, h2⟩
end

end Go.Proofs.Ytkkklfnooeofcaa
