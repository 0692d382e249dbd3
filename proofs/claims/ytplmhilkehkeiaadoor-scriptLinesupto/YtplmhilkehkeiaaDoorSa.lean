/-
  Of Go's library: Index, Cut and SplitN at a space; IndexByte among the sixteen signs.
-/
import Derived.Test.YtplmhilkehkeiaaDoorBa
import Derived.Test.YtplmhilkehkeiaaDoorSl
import Derived.Test.YtplmhilkehkeiaaDoorSp
import Derived.Lib.SplitLaws
import Derived.Lib.IndexBytes
import Derived.Deep.QuietTactic
import Derived.BigQuiet
namespace Go.Proofs.YtplmhilkehkeiaaDoor
open Go.RowKit
set_option linter.unusedVariables false

/-- The bytes of a string. -/
abbrev tl (s : ByteArray) : Bs := s.data.toList
def sp : ByteArray := ⟨#[32]⟩

theorem tl_size (s : ByteArray) : s.size = (tl s).length := by simp [tl]

theorem indexL_any (s : ByteArray) (w : World) : Calls Tryd.prog 58 #[.string s, .string ⟨#[32]⟩] w fun e w' => e = .returned (.int .i64 (Lib.indexByte (tl s) 32)) ∧ w' = w :=
  Any.stringslite_Index_one { laysSplit with } s 32 w
theorem index_any (s : ByteArray) (w : World) : Calls Tryd.prog 79 #[.string s, .string ⟨#[32]⟩] w fun e w' => e = .returned (.int .i64 (Lib.indexByte (tl s) 32)) ∧ w' = w :=
  Any.strings_Index_one { laysSplit with } s 32 w
theorem count_any (s : ByteArray) (w : World) : Calls Tryd.prog 78 #[.string s, .string ⟨#[32]⟩] w fun e w' => e = .returned (.int .i64 (Lib.countByte (tl s) 32)) ∧ w' = w :=
  Any.strings_Count_one { laysSplit with } s 32 w
theorem sign_any (c : UInt8) (w : World) : Calls Tryd.prog 62 #[.string ⟨#[48, 49, 50, 51, 52, 53, 54, 55, 56, 57, 97, 98, 99, 100, 101, 102]⟩, .int .u8 c.toNat] w fun e w' => e = .returned (.int .i64 (hexI c)) ∧ w' = w := by
  have h := Any.strings_IndexByte laysIndexByte ⟨#[48, 49, 50, 51, 52, 53, 54, 55, 56, 57, 97, 98, 99, 100, 101, 102]⟩ (c.toNat : Int) w
  have e : ((c.toNat : Int)).toNat.toUInt8 = c := by simp
  rw [e] at h
  exact h

theorem extract_take (s : ByteArray) (k : Nat) : tl (s.extract 0 k) = (tl s).take k := by simp [tl, ByteArray.data_extract]
theorem extract_drop (s : ByteArray) (k : Nat) : tl (s.extract k s.size) = (tl s).drop k := by
  have : s.size = s.data.toList.length := by simp
  simp [tl, ByteArray.data_extract]
  rw [this]
  exact List.take_of_length_le (by simp)

set_option maxRecDepth 100000 in
set_option maxHeartbeats 2000000 in
theorem cutL_any (s : ByteArray) (w : World) (hz : s.size ≤ 2000000) : Calls Tryd.prog 43 #[.string s, .string ⟨#[32]⟩] w fun e w' => ∃ a b f, e = .returned (.tuple #[.string a, .string b, .bool f]) ∧ tl a = verbP (tl s) ∧ ∃ n, w' = w.drewN n := by
  rcases cut1_index (tl s) with ⟨h1, h2⟩ | ⟨k, h1, h2, h3⟩
  · have hv : verbP (tl s) = tl s := by simp [verbP, h1]
    have HV := (show Hid _ from hv)
    clear hv h1
    go_enter Tryd.func43, Tryd.ntmps43
    go_wp2_with (go_at_call 58; refine (indexL_any s _).mono ?_; rintro e w' ⟨rfl, rfl⟩; rw [h2])
    go_ret3
    exact ⟨_, _, _, rfl, HV.out.symm, 0, rfl⟩
  · have hv : verbP (tl s) = (tl s).take k := by simp [verbP, h3]
    have HV := (show Hid _ from hv)
    have hs := tl_size s
    have c1 : (0 : Int) ≤ ↑k := by omega
    have c2 : (↑k : Int) ≤ ↑s.size := by omega
    have c3 : (0 : Int) ≤ ↑k + 1 := by omega
    have c4 : (↑k + 1 : Int) ≤ ↑s.size := by omega
    have hwr : IntKind.i64.wrap ((k : Int) + 1) = (k : Int) + 1 := by
      rw [IntKind.wrap_i64]
      omega
    clear hv h2 h3 hs
    go_enter Tryd.func43, Tryd.ntmps43
    go_wp2_with (go_at_call 58; refine (indexL_any s _).mono ?_; rintro e w' ⟨rfl, rfl⟩; rw [h1])
    go_region
    go_wp2
    go_ret3
    exact ⟨_, _, _, rfl, by rw [HV.out]; exact extract_take s k, 1, rfl⟩

theorem cut_any (s : ByteArray) (w : World) (hz : s.size ≤ 2000000) : Calls Tryd.prog 20 #[.string s, .string ⟨#[32]⟩] w fun e w' => ∃ a b f, e = .returned (.tuple #[.string a, .string b, .bool f]) ∧ tl a = verbP (tl s) ∧ ∃ n, w' = w.drewN n := by
  go_enter Tryd.func20, Tryd.ntmps20
  go_wp2_with (go_at_call 43; refine (cutL_any s _ hz).mono ?_; rintro e w' ⟨a, b, f, rfl, ha, n, rfl⟩)
  go_ret3
  exact ⟨_, _, _, rfl, ha, n, rfl⟩

end Go.Proofs.YtplmhilkehkeiaaDoor
