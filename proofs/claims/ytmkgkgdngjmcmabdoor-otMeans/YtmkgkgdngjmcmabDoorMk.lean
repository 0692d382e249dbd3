/-
  Moves and texts: what OtSquare and OtMeans share.
-/
import Derived.Test.YtmkgkgdngjmcmabDoorQd
namespace Go.Proofs.YtmkgkgdngjmcmabDoor
open Go.RowKit
set_option linter.unusedVariables false

theorem textP_cl (n : Nat) : ∀ z ∈ textP n, z.2.1 = 1 := by
  intro z hz
  obtain ⟨i, -, rfl⟩ := List.mem_map.mp hz
  rfl

theorem textP_nodup (n : Nat) : (textP n).Nodup := by
  rw [List.nodup_iff_pairwise_ne, textP, List.pairwise_map]
  refine List.Pairwise.imp ?_ List.nodup_range
  intro i j h e
  simp at e
  omega

theorem IsM.below {w w' : World} {a : Option Addr} {n c : Nat} {M : Nat → Bool × Int × Int} (h : IsM w a n c M) (hb : Below w.heap.size w w') : IsM w' a n c M := by
  obtain ⟨h1, h2, h3⟩ := h
  refine ⟨h1, h2, fun h0 => ?_⟩
  obtain ⟨b, off, e, hl, hc⟩ := h3 h0
  refine ⟨b, off, e, Nat.lt_of_lt_of_le hl hb.size, fun i hi => ?_⟩
  obtain ⟨k0, k1, k2⟩ := hc i hi
  exact ⟨(hb.cell (p := ⟨b, off + i * 3, none⟩) hl).trans k0, (hb.cell (p := ⟨b, off + i * 3 + 1, none⟩) hl).trans k1, (hb.cell (p := ⟨b, off + i * 3 + 2, none⟩) hl).trans k2⟩

end Go.Proofs.YtmkgkgdngjmcmabDoor
