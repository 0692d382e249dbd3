/-
  Addresses.
-/
import Derived.Test.YtfhghijefjhehaaGreatDoorMUa
namespace Go.Proofs.YtfhghijefjhehaaGreatDoor
open Go.RowKit

theorem add_lit (b off j : Nat) : (⟨b, off, none⟩ : Addr).add j = ⟨b, off + j, none⟩ := by
  by_cases h0 : j = 0
  · subst h0; simp [Addr.add]
  · simp [Addr.add, h0]

end Go.Proofs.YtfhghijefjhehaaGreatDoor
