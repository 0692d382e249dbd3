/-
  OtOwn: the calls over rows of the law's own.
-/
import Derived.Test.YtmkgkgdngjmcmabDoorOj
import Derived.Test.YtmkgkgdngjmcmabDoorNd
import Derived.Test.YtmkgkgdngjmcmabDoorNe
namespace Go.Proofs.YtmkgkgdngjmcmabDoor
open Go.RowKit Go.Lib
set_option linter.unusedVariables false

/-- The rows of the law, and all that was there as it was. -/
structure St (w0 w : World) (l : List Ent) : Prop where
  rows : RowsO w0.heap.size w l
  bel : Below w0.heap.size w0 w

section
variable {w0 w w' : World} {l l1 l2 : List Ent} {g n c : Nat} {xs : List OpE}

theorem St.below (h : St w0 w l) (hb : Below w.heap.size w w') : St w0 w' l := ⟨h.rows.below hb, h.bel.trans (hb.mono h.bel.size)⟩
theorem St.drewN (h : St w0 w l) (m : Nat) : St w0 (w.drewN m) l := h.below (below_drewN (Below.refl _ _) m)
theorem St.isO (h : St w0 w l) (hm : (g, n, c, xs) ∈ l) : IsO w (some ⟨g, 0, none⟩) n c xs := (h.rows.row _ hm).isO
theorem St.isF {x : OpE} (h : St w0 w l) (hm : (g, n + 1, c, xs ++ [x]) ∈ l) (hn : xs.length = n) : IsO w (some ⟨g, 0, none⟩) n c xs := ((h.rows.row _ hm).front hn).isO
theorem St.new (h : St w0 w l) (hb : Below w.heap.size w w') (hR : RowO w' g n c xs) (hg : w.heap.size ≤ g) : St w0 w' ((g, n, c, xs) :: l) :=
  ⟨h.rows.new hb h.bel.size hR hg, h.bel.trans (hb.mono h.bel.size)⟩
theorem St.front {x : OpE} (h : St w0 w (l1 ++ (g, n + 1, c, xs ++ [x]) :: l2)) (hn : xs.length = n) : St w0 w (l1 ++ (g, n, c, xs) :: l2) :=
  ⟨h.rows.fill (Fr.refl _ _) h.bel.size ((h.rows.row (g, n + 1, c, xs ++ [x]) (by simp)).front hn) (.inl rfl), h.bel⟩

theorem c_same (h : St w0 w l) {a b : Option Addr} {n n' c d : Nat} {xs ys : List OpE} (hx : IsO w a n c xs) (hy : IsO w b n' d ys) (he : xs = ys) :
    Calls Tryd.prog 12 #[.slice a n c, .slice b n' d] w fun e w' => e = .returned (.bool true) ∧ Hid (St w0 w' l) := by
  refine (same_true a b n n' c d xs ys w hx hy he).mono ?_
  rintro e w' ⟨rfl, m, rfl⟩
  exact ⟨rfl, h.drewN m⟩
theorem c_copy (h : St w0 w l) {a : Option Addr} (hx : IsO w a n c xs) (hn : n ≤ 4097) :
    Calls Tryd.prog 8 #[.slice a n c] w fun e w' => ∃ g c', e = .returned (.slice (some ⟨g, 0, none⟩) n c') ∧ Hid (St w0 w' ((g, n, c', xs) :: l)) := by
  refine (lcopied_any a n c xs w hx (by omega)).mono ?_
  rintro e w' ⟨v, rfl, ⟨g, cg, hg, rfl, hR⟩, b⟩
  rw [hx.1] at hR ⊢
  exact ⟨g, cg, rfl, h.new b hR hg⟩
theorem c_fill (h : St w0 w (l1 ++ (g, n, c, xs) :: l2)) (mark : Int) (hn : n ≤ 4096) :
    Calls Tryd.prog 13 #[.slice (some ⟨g, 0, none⟩) n c, .int .i64 mark] w fun e w' => ∃ g' c', e = .returned (.slice (some ⟨g', 0, none⟩) (n + 1) c') ∧ Hid (St w0 w' (l1 ++ (g', n + 1, c', fillP n mark) :: l2)) := by
  have hR := h.rows.row (g, n, c, xs) (by simp)
  refine (fill_any g n c xs mark w hR hn).mono ?_
  rintro e w' ⟨g', c', rfl, k1, k2, k3⟩
  have hg := h.rows.low (g, n, c, xs) (by simp)
  exact ⟨g', c', rfl, h.rows.fill k3 h.bel.size k1 k2, h.bel.trans (k3.below h.bel.size (fun k hk => by subst hk; exact hg))⟩
theorem c_weave (h : St w0 w l) (hT : Table w0) {a b : Option Addr} {m d : Nat} {ys : List OpE} (hx : IsO w a n c xs) (hy : IsO w b m d ys) (hn : n ≤ 4096) (hm : m ≤ 4096) :
    Calls Tryd.prog 10 #[.slice a n c, .slice b m d] w fun e w' => ∃ g h cg ch, e = .returned (.tuple #[.slice (some ⟨g, 0, none⟩) n cg, .slice (some ⟨h, 0, none⟩) m ch, .int .i64 0]) ∧
      Hid (St w0 w' ((h, m, ch, (weaveP xs ys).2) :: (g, n, cg, (weaveP xs ys).1) :: l)) := by
  refine (weave_any a b n c m d xs ys w (hT.below h.bel hT.1) hx hy hn hm).mono ?_
  rintro e w' ⟨g, q, cg, cq, rfl, k1, k2, k3, k4, k5⟩
  refine ⟨g, q, cg, cq, rfl, ⟨?_, h.bel.trans (k5.mono h.bel.size)⟩⟩
  have r1 := h.rows.new k5 h.bel.size k3 k1
  refine r1.add k4 (by have := h.bel.size; omega) (fun e he => ?_)
  rcases List.mem_cons.1 he with rfl | he
  · exact Nat.ne_of_lt k2
  · have := (h.rows.row e he).lt
    omega
theorem c_through (h : St w0 w l) (hT : Table w0) (op : OpE) {a : Option Addr} (hx : IsO w a n c xs) (hn : n ≤ 4096) :
    Calls Tryd.prog 9 #[op.val, .slice a n c, .bool true] w fun e w' => ∃ pk pp pc pl ps : Int, ∃ g cg, e = .returned (.tuple #[.agg #[.int .i64 pk, .int .i64 pp, .int .u8 pc, .int .i64 pl, .int .i64 ps], .slice (some ⟨g, 0, none⟩) n cg, .int .i64 0]) ∧ Hid (St w0 w' ((g, n, cg, (throughP op xs true).2) :: l)) := by
  refine (through_any op a n c xs true w (hT.below h.bel hT.1) hx hn).mono ?_
  rintro e w' ⟨v, rfl, ⟨g, cg, hg, rfl, hR⟩, b⟩
  rw [throughP_len, hx.1] at hR ⊢
  exact ⟨_, _, _, _, _, g, cg, rfl, h.new b hR hg⟩
end

end Go.Proofs.YtmkgkgdngjmcmabDoor
