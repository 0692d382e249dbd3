/-
  A word: a number, a single byte, bytes in signs.
-/
import Derived.Test.YtplmhilkehkeiaaDoorSa
namespace Go.Proofs.YtplmhilkehkeiaaDoor
open Go.RowKit
set_option linter.unusedVariables false

theorem at_tl (s : ByteArray) (i : Nat) (h : i < s.size) : (tl s)[i]? = some s[i] := by
  have h' : i < s.data.toList.length := by simpa using h
  rw [List.getElem?_eq_getElem h']
  rfl

theorem wrap_byte (b : UInt8) : wrap64 (b.toNat : Int) = b.toNat := by
  have := b.toNat_lt
  rw [wrap64]
  omega

def singleE (s : Bs) : Int × Int := if s.length = 1 then ((s.headD 0).toNat, 0) else (0, 154)

set_option maxRecDepth 100000 in
theorem single_any (s : ByteArray) (w : World) (hz : s.size ≤ 2000000) : Calls Tryd.prog 60 #[.string s] w fun e w' => e = .returned (.tuple #[.int .i64 (singleE (tl s)).1, .int .i64 (singleE (tl s)).2]) ∧ w' = w := by
  have hl := tl_size s
  by_cases h1 : s.size = 1
  · have hv : ∀ h : 0 < s.size, singleE (tl s) = ((s[0].toNat : Int), 0) := by
      intro h
      have := at_tl s 0 (by omega)
      unfold singleE
      rw [if_pos (by omega)]
      cases ht : tl s with
      | nil => rw [ht] at this; simp at this
      | cons b r => rw [ht] at this; simp at this; simp [this]
    have i1 : (s.size : Int) = 1 := by omega
    have i2 : 0 < s.size := by omega
    have HV := hd hv
    clear hv hl h1 hz
    generalize singleE (tl s) = V at HV ⊢
    go_enter Tryd.func60, Tryd.ntmps60
    go_wp2
    go_ret2
    rw [HV.out i2, wrap_byte]
    exact ⟨rfl, rfl⟩
  · have hv : singleE (tl s) = (0, 154) := by
      unfold singleE
      rw [if_neg (by omega)]
    rw [hv]
    have i1 : ¬ (s.size : Int) = 1 := by omega
    clear hv hl h1 hz
    go_enter Tryd.func60, Tryd.ntmps60
    go_wp2
    go_ret2
    exact ⟨rfl, rfl⟩

/-- A number or its error. -/
def numE (s : Bs) : Int × Int := match numP s with | some v => (v, 0) | none => (0, 154)

/-- The digits from place i on. -/
theorem digs_step (s : ByteArray) (i : Nat) (h : i < s.size) (n : Int) : digs n ((tl s).drop i) = if s[i] < 48 ∨ 57 < s[i] then none else digs (10 * n + (s[i].toNat - 48)) ((tl s).drop (i + 1)) := by
  have h' : i < (tl s).length := by rw [← tl_size]; exact h
  rw [List.drop_eq_getElem_cons h', digs]
  rfl

theorem numE_none {s : Bs} {n : Int} {t t' : Bs} {n' : Int} {c : Prop} [Decidable c] (h1 : numP s = digs 0 s) (h2 : digs n t = digs 0 s) (h3 : digs n t = if c then none else digs n' t') (hc : c) : numE s = (0, 154) := by
  rw [if_pos hc] at h3
  unfold numE
  rw [h1, ← h2, h3]
theorem numE_some {s : Bs} {n : Int} {i : Nat} (h1 : numP s = digs 0 s) (h2 : digs n (s.drop i) = digs 0 s) (hi : s.length ≤ i) : numE s = (n, 0) := by
  rw [List.drop_eq_nil_of_le hi, digs] at h2
  unfold numE
  rw [h1, ← h2]
theorem pow6 (i : Nat) (h : i ≤ 6) : (10 : Int) ^ i ≤ 1000000 := by
  match i, h with
  | 0, _ | 1, _ | 2, _ | 3, _ | 4, _ | 5, _ | 6, _ => decide
  | n + 7, h => omega

set_option maxRecDepth 100000 in
set_option maxHeartbeats 4000000 in
theorem number_loop (s : ByteArray) (w : World) (N : Nat) (hN : N ≤ 6) (hs : s.size = N) (h1 : 1 ≤ N) (h0 : N = 1 ∨ ∀ h : 0 < s.size, s[0].toNat ≠ 48) :
    Calls Tryd.prog 56 #[.string s] w fun e w' => e = .returned (.tuple #[.int .i64 (numE (tl s)).1, .int .i64 (numE (tl s)).2]) ∧ w' = w := by
  have hnum : numP (tl s) = digs 0 (tl s) := by
    unfold numP
    rw [if_neg]
    have hl := tl_size s
    rintro (h | h | ⟨h2, h⟩)
    · omega
    · omega
    · rcases h0 with h0 | h0
      · omega
      · have ha := at_tl s 0 (by omega)
        have := h0 (by omega)
        rw [List.head?_eq_getElem?] at h
        rw [h] at ha
        simp only [Option.some.injEq] at ha
        rw [← ha] at this
        exact this rfl
  have i0 : ¬ (s.size : Int) < 1 := by omega
  have i6 : ¬ (6 : Int) < (s.size : Int) := by omega
  have j0 : 0 < s.size := by omega
  have HN := hd hnum
  have HS := hd hs
  have H0 := hd h0
  have H6 := hd hN
  clear hnum hs h0 hN
  generalize hV : numE (tl s) = V
  have HV := hd hV
  clear hV
  go_enter Tryd.func56, Tryd.ntmps56
  by_cases hone : N = 1
  · have i1 : ¬ (1 : Int) < (s.size : Int) := by have := HS.out; omega
    go_wp2
    have HX := hd hone
    clear hone i1
    clear i0 i6
    go_loopw [4, 26] (fun a b wr => ∃ (i : Nat) (n : Int), i ≤ N ∧ a = .int .i64 n ∧ b = .int .i64 i ∧ wr = w ∧ Hid (0 ≤ n ∧ n < 10 ^ i ∧ digs n ((tl s).drop i) = digs 0 (tl s))) (fun _ b _ => N - (intOf b).toNat)
    case atStart => exact ⟨0, 0, Nat.zero_le _, rfl, rfl, rfl, by simp [Hid]⟩
    case round =>
      obtain ⟨i, n, hi, rfl, rfl, rfl, HD⟩ := hrel
      by_cases hlt : i < N
      · have j1 : i < s.size := by have := HS.out; omega
        have i1 : (i : Int) < (s.size : Int) := by omega
        have HST := hd (digs_step s i j1 n)
        by_cases hlo : (s[i].toNat : Int) < 48
        · go_wp2
          go_ret2
          refine ⟨?_, rfl⟩
          rw [← HV.out, numE_none HN.out HD.out.2.2 HST.out (.inl (by rw [UInt8.lt_iff_toNat_lt]; show _ < 48; omega))]
          rfl
        · by_cases hhi : (57 : Int) < (s[i].toNat : Int)
          · go_wp2
            go_ret2
            refine ⟨?_, rfl⟩
            rw [← HV.out, numE_none HN.out HD.out.2.2 HST.out (.inr (by rw [UInt8.lt_iff_toNat_lt]; show 57 < _; omega))]
            rfl
          · go_wp2
            have hb := pow6 i (by have := H6.out; omega)
            have hD := HD.out
            have e1 : wrap64 (10 * n) = 10 * n := by rw [wrap64]; omega
            have e2 : wrap64 (10 * n + (↑s[i].toNat - 48)) = 10 * n + (↑s[i].toNat - 48) := by rw [wrap64]; omega
            have e3 : wrap64 ((i : Int) + 1) = ((i + 1 : Nat) : Int) := by have := H6.out; rw [wrap64]; omega
            rw [e1, e2, e3]
            refine ⟨⟨i + 1, _, by omega, rfl, rfl, trivial, by omega, by rw [Int.pow_succ]; omega, ?_⟩, by simp [intOf]; omega⟩
            rw [← hD.2.2, HST.out, if_neg]
            rintro (h | h)
            · rw [UInt8.lt_iff_toNat_lt] at h
              have : s[i].toNat < 48 := h
              omega
            · rw [UInt8.lt_iff_toNat_lt] at h
              have : 57 < s[i].toNat := h
              omega
      · have i1 : ¬ (i : Int) < (s.size : Int) := by have := HS.out; omega
        go_wp2
        go_ret2
        refine ⟨?_, rfl⟩
        rw [← HV.out, numE_some HN.out HD.out.2.2 (by have := HS.out; have := tl_size s; omega)]
        rfl
  · have i1 : (1 : Int) < (s.size : Int) := by have := HS.out; omega
    have hx : ¬ (s[0].toNat : Int) = 48 := by
      rcases H0.out with h | h
      · exact absurd h hone
      · have := h j0; omega
    go_wp2
    have HX := hd hone
    clear hone i1 hx
    clear i0 i6
    go_loopw [4, 26] (fun a b wr => ∃ (i : Nat) (n : Int), i ≤ N ∧ a = .int .i64 n ∧ b = .int .i64 i ∧ wr = w ∧ Hid (0 ≤ n ∧ n < 10 ^ i ∧ digs n ((tl s).drop i) = digs 0 (tl s))) (fun _ b _ => N - (intOf b).toNat)
    case atStart => exact ⟨0, 0, Nat.zero_le _, rfl, rfl, rfl, by simp [Hid]⟩
    case round =>
      obtain ⟨i, n, hi, rfl, rfl, rfl, HD⟩ := hrel
      by_cases hlt : i < N
      · have j1 : i < s.size := by have := HS.out; omega
        have i1 : (i : Int) < (s.size : Int) := by omega
        have HST := hd (digs_step s i j1 n)
        by_cases hlo : (s[i].toNat : Int) < 48
        · go_wp2
          go_ret2
          refine ⟨?_, rfl⟩
          rw [← HV.out, numE_none HN.out HD.out.2.2 HST.out (.inl (by rw [UInt8.lt_iff_toNat_lt]; show _ < 48; omega))]
          rfl
        · by_cases hhi : (57 : Int) < (s[i].toNat : Int)
          · go_wp2
            go_ret2
            refine ⟨?_, rfl⟩
            rw [← HV.out, numE_none HN.out HD.out.2.2 HST.out (.inr (by rw [UInt8.lt_iff_toNat_lt]; show 57 < _; omega))]
            rfl
          · go_wp2
            have hb := pow6 i (by have := H6.out; omega)
            have hD := HD.out
            have e1 : wrap64 (10 * n) = 10 * n := by rw [wrap64]; omega
            have e2 : wrap64 (10 * n + (↑s[i].toNat - 48)) = 10 * n + (↑s[i].toNat - 48) := by rw [wrap64]; omega
            have e3 : wrap64 ((i : Int) + 1) = ((i + 1 : Nat) : Int) := by have := H6.out; rw [wrap64]; omega
            rw [e1, e2, e3]
            refine ⟨⟨i + 1, _, by omega, rfl, rfl, trivial, by omega, by rw [Int.pow_succ]; omega, ?_⟩, by simp [intOf]; omega⟩
            rw [← hD.2.2, HST.out, if_neg]
            rintro (h | h)
            · rw [UInt8.lt_iff_toNat_lt] at h
              have : s[i].toNat < 48 := h
              omega
            · rw [UInt8.lt_iff_toNat_lt] at h
              have : 57 < s[i].toNat := h
              omega
      · have i1 : ¬ (i : Int) < (s.size : Int) := by have := HS.out; omega
        go_wp2
        go_ret2
        refine ⟨?_, rfl⟩
        rw [← HV.out, numE_some HN.out HD.out.2.2 (by have := HS.out; have := tl_size s; omega)]
        rfl

set_option maxRecDepth 100000 in
set_option maxHeartbeats 4000000 in
theorem number_any (s : ByteArray) (w : World) :
    Calls Tryd.prog 56 #[.string s] w fun e w' => e = .returned (.tuple #[.int .i64 (numE (tl s)).1, .int .i64 (numE (tl s)).2]) ∧ w' = w := by
  have hl := tl_size s
  have bad : (tl s).length < 1 ∨ 6 < (tl s).length ∨ (1 < (tl s).length ∧ (tl s).head? = some 48) → numE (tl s) = (0, 154) := by
    intro h
    unfold numE numP
    rw [if_pos h]
  by_cases h1 : s.size < 1
  · rw [bad (.inl (by omega))]
    have i1 : (s.size : Int) < 1 := by omega
    clear bad hl h1
    go_enter Tryd.func56, Tryd.ntmps56
    go_wp2
    go_ret2
    exact ⟨rfl, rfl⟩
  by_cases h6 : 6 < s.size
  · rw [bad (.inr (.inl (by omega)))]
    have i1 : ¬ (s.size : Int) < 1 := by omega
    have i2 : (6 : Int) < (s.size : Int) := by omega
    clear bad hl h1 h6
    go_enter Tryd.func56, Tryd.ntmps56
    go_wp2
    go_ret2
    exact ⟨rfl, rfl⟩
  by_cases h0 : 1 < s.size ∧ ∃ h : 0 < s.size, s[0].toNat = 48
  · obtain ⟨h2, j0, h0⟩ := h0
    have hh : (tl s).head? = some 48 := by
      rw [List.head?_eq_getElem?, at_tl s 0 j0]
      congr 1
      exact UInt8.toNat_inj.1 h0
    rw [bad (.inr (.inr ⟨by omega, hh⟩))]
    have i1 : ¬ (s.size : Int) < 1 := by omega
    have i2 : ¬ (6 : Int) < (s.size : Int) := by omega
    have i3 : (1 : Int) < (s.size : Int) := by omega
    have i4 : (s[0].toNat : Int) = 48 := by omega
    clear bad hl h1 h6 h2 h0 hh
    go_enter Tryd.func56, Tryd.ntmps56
    go_wp2
    go_ret2
    exact ⟨rfl, rfl⟩
  refine number_loop s w s.size (by omega) rfl (by omega) ?_
  by_cases h : s.size = 1
  · exact .inl h
  · exact .inr (fun j hj => h0 ⟨by omega, j, hj⟩)

end Go.Proofs.YtplmhilkehkeiaaDoor
