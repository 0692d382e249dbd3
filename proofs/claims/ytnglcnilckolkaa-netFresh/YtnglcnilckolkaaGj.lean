/-
  NetFresh: two nets, and every block from gw on the law's own; rows that are marked and lengthened.
-/
import Derived.Test.YtnglcnilckolkaaTw
namespace Go.Proofs.Ytnglcnilckolkaa
open Go.RowKit
set_option linter.unusedVariables false

/-- Two nets; all blocks from gw on are the law's. -/
def TV (w0 w : World) (x y : Nat) (Gx : List DG) (Bx : Nat) (Gy : List DG) (By : Nat) (gw : Nat) : Prop := TW w0 w x y Gx Bx Gy By (fun k => k < w0.heap.size ∨ (gw ≤ k ∧ k < w.heap.size)) ∧ w0.heap.size ≤ gw
section
variable {w0 w w' : World} {x y : Nat} {Gx Gy : List DG} {Bx By gw : Nat}
theorem TV.swap (h : TV w0 w x y Gx Bx Gy By gw) : TV w0 w y x Gy By Gx Bx gw := ⟨h.1.swap, h.2⟩
theorem TV.base (h : TV w0 w x y Gx Bx Gy By gw) : Below w0.heap.size w0 w := h.1.base
theorem TV.write (h : TV w0 w x y Gx Bx Gy By gw) (hF : Fr (fun k => gw ≤ k) w w') : TV w0 w' x y Gx Bx Gy By gw := by
  have hs := hF.size
  refine ⟨(h.1.own ⟨hF.os, hF.tape, hF.output, hF.size, fun k hk hn => hF.block k hk (fun hg => hn ⟨.inr ⟨hg, hk⟩, Nat.le_trans h.2 hg⟩)⟩).sub ?_, h.2⟩
  rintro k (hk | ⟨hk, hk'⟩)
  · exact .inl (.inl hk)
  · rcases Nat.lt_or_ge k w.heap.size with h1 | h1
    · exact .inl (.inr ⟨hk, h1⟩)
    · exact .inr ⟨h1, hk'⟩
theorem TV.below (h : TV w0 w x y Gx Bx Gy By gw) (b : Below w.heap.size w w') : TV w0 w' x y Gx Bx Gy By gw := h.write (Fr.of_below b)
theorem tv_flight (h : TV w0 w x y Gx Bx Gy By gw) :
    Calls Try.prog 21 #[.pointer (some ⟨x, 0, none⟩)] w fun e w' => ∃ E : Ent, e = .returned E.v ∧ FE w' E ∧ E.lo = w.heap.size ∧ E.hi = w'.heap.size ∧ E.L.map It.d = Gx ∧ TV w0 w' x y Gx Bx Gy By gw ∧ Below w.heap.size w w' := by
  refine (tw_flight h.1).mono ?_
  rintro e w' ⟨E, rfl, e1, e2, e3, e4, -, hb⟩
  exact ⟨E, rfl, e1, e2, e3, e4, h.below hb, hb⟩
theorem tv_deliver (h : TV w0 w x y Gx Bx Gy By gw) (i : Nat) (hi : i < Gx.length) :
    Calls Try.prog 17 #[.pointer (some ⟨x, 0, none⟩), .int .i64 i] w fun e w' => ∃ γ c, e = .returned (.tuple #[dgv (Gx.getD i zDG) (.slice (at0 γ) (Gx.getD i zDG).b.length c), .int .i64 0]) ∧ TR w' γ c (Gx.getD i zDG).b ∧ (∀ g, γ = some g → w.heap.size ≤ g) ∧
      TV w0 w' x y (without Gx i) Bx Gy By gw ∧ Fr (fun k => w0.heap.size ≤ k ∧ k < gw) w w' := by
  refine (tw_deliver h.1 i hi).mono ?_
  rintro e w' ⟨γ, c, rfl, hT, hγ, hW, hK⟩
  have hs := hK.size
  refine ⟨γ, c, rfl, hT, hγ, ⟨hW.sub ?_, h.2⟩, hK.mono (fun k hk ⟨h1, h2⟩ => ⟨h1, Nat.lt_of_not_le (fun hg => h2 (.inr ⟨hg, hk⟩))⟩)⟩
  rintro k (hk | ⟨hk, hk'⟩)
  · exact .inl (.inl hk)
  · rcases Nat.lt_or_ge k w.heap.size with h1 | h1
    · exact .inl (.inr ⟨hk, h1⟩)
    · exact .inr ⟨h1, hk'⟩
end

/-- append of one byte onto a row: what the row itself held it still holds. -/
theorem push_keep {w : World} {γ : Option Nat} {c n : Nat} {ys : List Int} (h : TR w γ c ys) (hn : ys.length = n) (x : Int) (hl : n ≤ 4096) :
    ∃ g' c' w3, (∀ ty, (Builtin.append_ #[28, 28] ty #[.slice (at0 γ) n c, .slice (some ⟨w.heap.size, 0, none⟩) 1 1]).run Try.prog (w.alloc (.cells #[.int .u8 x] 5)) = .ok (.slice (some ⟨g', 0, none⟩) (n + 1) c') w3) ∧
      TR w3 (some g') c' (ys ++ [x]) ∧ IsB w3 (at0 γ) n c ys ∧ Fr (fun q => γ = some q) w w3 ∧ (γ = some g' ∨ w.heap.size ≤ g') := by
  subst hn
  obtain ⟨g', c', w3, hr, hT, hF⟩ := run_push1 w γ c _ ys h rfl x hl
  have hB : IsB w (at0 γ) ys.length c ys := by
    obtain ⟨a, c1, e, hb⟩ := h.sb.isB
    injection e with e1 e2 e3
    rw [e1, e3]
    exact hb
  refine ⟨g', c', w3, hr, hT, ?_, ?_, ?_⟩
  · rcases hF with ⟨rfl, hF⟩ | ⟨hg, hF⟩
    · obtain ⟨a, c1, e, hb⟩ := hT.sb.isB
      injection e with e1 e2 e3
      rw [← e1] at hb
      have := hb.take ys.length (by simp)
      rw [List.take_left] at this
      exact ⟨this.1, hB.2.1, hB.2.2.1, this.2.2.2⟩
    · exact hB.fr hF (fun _ _ _ _ h => h)
  · rcases hF with ⟨rfl, hF⟩ | ⟨hg, hF⟩
    · exact hF.mono (fun q _ e => by rw [e])
    · exact hF.mono (fun q _ e => e.elim)
  · rcases hF with ⟨rfl, -⟩ | ⟨hg, -⟩
    · exact .inl rfl
    · exact .inr hg

/-- A cell of a row of datagrams is written. -/
theorem RowO.set1 {w : World} {g N cap : Nat} {os os' : List It} (h : RowO w g N cap os) (i : Nat) (v : Value) (hi : i < N * 4) (hl : os'.length = N) (he : cO os' = (cO os).set i v) : RowO (w.setCell ⟨g, i, none⟩ v) g N cap os' := by
  obtain ⟨cur, hh, ht, -, h1, h2, h3⟩ := h
  refine ⟨cur.set i v, ?_, ?_, hl, h1, h2, by simpa using h3⟩
  · rw [set_row hh i]
    simp
  · rw [List.take_set, ht, he]
theorem RowO.frz {w : World} {g N cap : Nat} {os : List It} (h : RowO w g N cap os) (i : Nat) : w.frozen? ⟨g, i, none⟩ = false := by
  obtain ⟨cur, hh, -⟩ := h
  exact frozen_row hh i
theorem RowO.cell4 {w : World} {g N cap : Nat} {os : List It} (h : RowO w g N cap os) (i : Nat) (hi : i < N * 4) : w.cell? ⟨g, i, none⟩ = (cO os)[i]? := by
  obtain ⟨cur, hh, ht, -⟩ := h
  rw [cell_row hh, ← ht, List.getElem?_take, if_pos hi]
  simp

theorem tr_block {w : World} {g m : Nat} {ys : List Int} (h : w.heap[g]? = some (.cells (ints ys).toArray 5 (0, 0))) (hm : ys.length = m) (hl : m ≤ 9223372036854775807) : TR w (some g) m ys := by
  subst hm
  refine ⟨(ints ys).toArray, h, ?_, by simp [ints], Nat.le_refl _, hl, by simp [ints]⟩
  rw [List.toList_toArray]
  exact List.take_of_length_le (by simp [ints])

theorem TR.isB {w : World} {γ : Option Nat} {c n : Nat} {ys : List Int} (h : TR w γ c ys) (hn : ys.length = n) : IsB w (at0 γ) n c ys := by
  subst hn
  obtain ⟨a, c1, e, hb⟩ := h.sb.isB
  injection e with e1 e2 e3
  rw [e1, e3]
  exact hb
theorem mine_isB {w : World} {gr m n : Nat} {b zs : List Int} (h : TR w (some gr) m (b ++ zs)) (hn : b.length = n) : IsB w (some ⟨gr, 0, none⟩) n m b := by
  have := (h.isB rfl).take n (by simp; omega)
  rw [← hn, List.take_left] at this
  rw [← hn]
  exact this
theorem snd_ok {G : List DG} {f t : Int} {b : List Int} {n : Nat} (hj : joinsP 2 f t = true) (hb : b.length = n) (hn : n ≤ 60) (hG : G.length < 2048) : sendE 2 G.length f t n = 0 ∧ sendG 2 G f t b = G ++ [⟨f, t, b, false⟩] := by
  have h : sendE 2 G.length f t n = 0 := sendE_ok hj (by omega) hG
  exact ⟨h, sendG_yes (by rw [hb]; exact h)⟩

def mkZ (z : It) : It := ⟨⟨9, z.d.t, z.d.b, true⟩, z.a, z.c, z.γ⟩

/-- While l is marked: k of its three datagrams are. -/
structure LK (w wr : World) (g cap n : Nat) (b : List Int) (z0 z1 z2 : It) (k : Nat) : Prop where
  row : RowO wr g 3 cap [if 0 < k then mkZ z0 else z0, if 1 < k then mkZ z1 else z1, if 2 < k then mkZ z2 else z2]
  t0 : TR wr z0.γ z0.c (if 0 < k then List.replicate n 193 else b)
  t1 : TR wr z1.γ z1.c (if 1 < k then List.replicate n 194 else b)
  t2 : TR wr z2.γ z2.c (if 2 < k then List.replicate n 195 else b)
  fr : Fr (fun q => q = g ∨ z0.γ = some q ∨ z1.γ = some q ∨ z2.γ = some q) w wr

end Go.Proofs.Ytnglcnilckolkaa
