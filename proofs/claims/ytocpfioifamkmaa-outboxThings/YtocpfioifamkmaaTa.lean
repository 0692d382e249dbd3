/-
  thing.
-/
import Derived.Test.YtocpfioifamkmaaMa
import Derived.Laws.BytesArg
namespace Go.Proofs.Ytocpfioifamkmaa
open Go.RowKit
set_option linter.unusedVariables false

theorem conv_two (w : World) (x y : Int) : (convert 56 9 (.slice (some ⟨w.heap.size, 0, none⟩) 2 2)).run Try.prog (w.alloc (.cells #[.int .u8 x, .int .u8 y] 5)) = .ok (.string (strOfNums [x, y])) (w.alloc (.cells #[.int .u8 x, .int .u8 y] 5)) :=
  run_convert_bytes_arg _ 56 5 Try.underlying56 Try.underlying5 w.heap.size 0 2 2 [x, y] rfl (fun i hi => by
    rcases (by omega : i = 0 ∨ i = 1) with rfl | rfl <;>
    · rw [cell_row (heap_alloc_new _ _)]
      rfl) 9 Try.underlying9

def nm (n : Int) : ByteArray := strOfNums [n % 256, n / 256 % 256]
def ng (n : Int) : Int := wrap64 (-n)
/-- The thing of a number. -/
def eT (n : Int) : List Value := [.string (nm n), .int .i64 0, .int .i64 n, .int .u8 0, .int .i64 0, .int .i64 (ng n)]
def iT (p : Int × Int) : List Value := [.int .i64 p.1, .string (nm p.2), .int .i64 0, .int .i64 p.2, .int .u8 0, .int .i64 0, .int .i64 (ng p.2)]
theorem sz_eT : Sz eT 6 := fun x => ⟨rfl, fun v hv => by simp [eT] at hv; rcases hv with rfl | rfl | rfl | rfl | rfl | rfl <;> rfl⟩
theorem sz_iT : Sz iT 7 := fun x => ⟨rfl, fun v hv => by simp [iT] at hv; rcases hv with rfl | rfl | rfl | rfl | rfl | rfl | rfl <;> rfl⟩
theorem Try.infoTh : (Try.prog.info? 63).map (fun i => (i.zero, i.size, i.bytes)) = some (some (.agg #[.string ⟨#[]⟩, .int .i64 0, .int .i64 0, .int .u8 0, .int .i64 0, .int .i64 0]), 6, 56) := by kernel_rfl
theorem Try.infoTi : (Try.prog.info? 93).map (fun i => (i.zero, i.size, i.bytes)) = some (some (.agg #[.int .i64 0, .string ⟨#[]⟩, .int .i64 0, .int .i64 0, .int .u8 0, .int .i64 0, .int .i64 0]), 7, 64) := by kernel_rfl

theorem thing_any (n : Int) (w : World) : Calls Try.prog 30 #[.int .i64 n] w fun e w' => e = .returned (.agg #[.string (nm n), .int .i64 0, .int .i64 n, .int .u8 0, .int .i64 0, .int .i64 (ng n)]) ∧ Below w.heap.size w w' := by
  have cv := fun x y => conv_two (w.alloc (.cells #[.string ⟨#[]⟩, .int .i64 0, .int .i64 0, .int .u8 0, .int .i64 0, .int .i64 0] 63)) x y
  simp at cv
  go_enter Try.func30, Try.ntmps30
  go_wp2
  refine bodyPost_ret (v := .agg #[.string (nm n), .int .i64 0, .int .i64 n, .int .u8 0, .int .i64 0, .int .i64 (ng n)]) ?_ rfl ?_
  · simp [results, Try.results30, go_sem]
    exact ⟨rfl, rfl⟩
  · exact ⟨rfl, ((Below.refl _ _).alloc (Nat.le_refl _) _).alloc (by simp) _⟩

end Go.Proofs.Ytocpfioifamkmaa
