/-
  The file of the document: Append.
-/
import Derived.Test.YtdlelbdhcpjdfabRa
import Derived.Deep.RegionLaw
namespace Go.Proofs.Ytdlelbdhcpjdfab
open Go.RowKit
set_option linter.unusedVariables false

set_option maxRecDepth 100000 in
theorem rappend_bad (r : Nat) (β : Option Nat) (B : List Int) (s : Nat) (a : Option Addr) (n c : Nat) (w : World) (h : RK w r β B s) (hn : 262144 < B.length + n) :
    Calls Try.prog 30 #[.pointer (some ⟨r, 0, none⟩), .slice a n c] w fun x w' => x = .returned (.int .i64 20) ∧ w = w' := by
  have hle := h.size_le
  obtain ⟨v, hh, hR, -⟩ := h
  obtain ⟨a', c', rfl, -, -⟩ := hR.form
  have c0 := cell_row hh 0
  simp at c0
  clear hh hR
  generalize B.length = L at *
  have i1 : (262144 : Int) - (L : Int) < (n : Int) := by omega
  go_enter Try.func30, Try.ntmps30
  go_wp2
  go_ret
  exact ⟨rfl, rfl⟩

/-- What holds in the loop of Append. -/
def ARel (w wr : World) (r : Nat) (β : Option Nat) (B : List Int) (s : Nat) : Prop := ∃ β', RK wr r β' B s ∧ Moved w β β' ∧ Fr (Own r β) w wr

/-- Behind one byte appended, ahead of the store. -/
theorem ARel.step {w wr w2 : World} {r g2 cap2 : Nat} {β β' : Option Nat} {B : List Int} {s : Nat} {v : Value} {y : Int} (hR : RefB wr r β' v B) (hsl : s ≤ B.length) (hm : Moved w β β') (hF : Fr (Own r β) w wr) (hrl : r < wr.heap.size)
    (hq : w2.heap[r]? = some (.cells #[v, .int .i64 s] 69 (0, 0)))
    (hown : w2.ownsRow 0 5 1 (.slice (some ⟨g2, 0, none⟩) (B.length + 1) cap2) (B.length + 1) (ints B ++ ints [y])) (hgrow : (wr.alloc (.cells #[.int .u8 y] 5)).drew.grownBy w2 v.ownBlock) (hat : v.ownBlock = some g2 ∨ g2 = wr.heap.size + 1) (hl : B.length < 262144) :
    ARel w (w2.setCell ⟨r, 0, none⟩ (.slice (some ⟨g2, 0, none⟩) (B.length + 1) cap2)) r β (B ++ [y]) s := by
  have hob : v.ownBlock = β' := by
    cases β' with
    | none =>
      obtain ⟨rfl, _⟩ := hR
      rfl
    | some g =>
      obtain ⟨_, cap, rfl, _⟩ := hR
      rfl
  rw [hob] at hgrow hat
  have hRow := (rowB_of_own (ys := B ++ [y]) (by rw [show ints (B ++ [y]) = ints B ++ ints [y] from by simp [ints]]; exact hown)).1
  have hg2 : ¬ g2 = r := by
    rcases hat with rfl | rfl
    · exact hR.1
    · omega
  have f1 : Fr (· = r) w2 (w2.setCell ⟨r, 0, none⟩ (.slice (some ⟨g2, 0, none⟩) (B.length + 1) cap2)) := Fr.setCell _ _ _ rfl
  have hl1 : (B ++ [y]).length = B.length + 1 := by simp
  have hsz := hF.size
  refine ⟨some g2, ⟨.slice (some ⟨g2, 0, none⟩) (B.length + 1) cap2, ?_, ⟨hg2, cap2, ?_, ?_⟩, by omega, by omega⟩, ?_, ?_⟩
  · rw [set_row hq 0 _]
    rfl
  · rw [hl1]
  · rw [hl1]
    exact hRow.fr f1 hg2
  · rcases hat with rfl | rfl
    · exact hm
    · exact .inr ⟨_, rfl, by omega⟩
  · have fa : Fr (Own r β) w (wr.alloc (.cells #[.int .u8 y] 5)).drew := (hF.trans (Fr.alloc _ _ _)).trans (Fr.drew _ _)
    have fg : Fr (fun k => β' = some k) (wr.alloc (.cells #[.int .u8 y] 5)).drew w2 := ⟨hgrow.os, hgrow.tape, hgrow.output, hgrow.size, fun k hk hn => hgrow.block k hk (fun e => hn e.symm)⟩
    refine (fa.next fg ?_).next f1 (fun i _ e => .inl e)
    intro i hi e
    rcases hm with e2 | ⟨p, e2, hp⟩
    · exact .inr (e2 ▸ e)
    · rw [e2] at e
      obtain rfl := Option.some.inj e
      omega

set_option maxRecDepth 100000 in
set_option maxHeartbeats 4000000 in
theorem rappend_good (r : Nat) (β : Option Nat) (B : List Int) (s : Nat) (a : Option Addr) (n c : Nat) (xs : List Int) (w : World) (h : RK w r β B s) (hx : IsB w a n c xs) (hxr : 0 < n → ∀ b off, a = some ⟨b, off, none⟩ → ¬ Own r β b) (hn : B.length + n ≤ 262144) :
    Calls Try.prog 30 #[.pointer (some ⟨r, 0, none⟩), .slice a n c] w fun x w' => x = .returned (.int .i64 0) ∧ RNow w w' r β ⟨0, B ++ xs, s⟩ := by
  obtain ⟨i0, hi, hz0, hz1, hz2⟩ := info_parts Try.info5
  have hle := h.size_le
  have hxl := hx.1
  have X := hd hx
  have XR := hd hxr
  have S0 : Hid (ARel w w r β (B ++ xs.take 0) s) := by
    rw [List.take_zero, List.append_nil]
    exact ⟨β, h, .inl rfl, Fr.refl _ _⟩
  obtain ⟨v, hh, hR, -⟩ := h
  obtain ⟨a', c', rfl, -, -⟩ := hR.form
  have c0 := cell_row hh 0
  simp at c0
  have hrl0 := hd (block_lt hh)
  clear hh hR hx hxr
  have i1 : ¬ (262144 : Int) - (B.length : Int) < (n : Int) := by omega
  go_enter Try.func30, Try.ntmps30
  go_wp2
  clear c0
  go_loopw [5] (fun i wr => ∃ k : Nat, k ≤ n ∧ i = .int .i64 k ∧ Hid (ARel w wr r β (B ++ xs.take k) s)) (fun i _ => n - (intOf i).toNat)
  case atStart => exact ⟨0, Nat.zero_le _, rfl, S0⟩
  case round =>
    obtain ⟨k, hk, rfl, hr⟩ := hrel
    clear S0
    by_cases hlt : k < n
    · obtain ⟨b, off, e, hbb, hc⟩ := X.out.2.2.2 (by omega)
      obtain ⟨β', hRK, hMv, hFr⟩ := hr.out
      have e1 := (hFr.cell (p := ⟨b, off + k, none⟩) hbb (XR.out (by omega) b off e)).trans (hc k hlt)
      have TS : Hid ((B ++ xs.take k) ++ [xs.getD k 0] = B ++ xs.take (k + 1)) := by
        show _ = _
        rw [List.append_assoc, take_snoc xs k (by omega)]
      have hBL : Hid ((B ++ xs.take k).length = B.length + k) := by
        show _ = _
        rw [List.length_append, List.length_take]
        omega
      have j1 : (k : Int) < (n : Int) := by omega
      subst e
      clear hc
      obtain ⟨BT, hBT⟩ : ∃ BT, BT = B ++ xs.take (k + 1) := ⟨_, rfl⟩
      rw [← hBT] at TS
      have HBT := hd hBT
      clear hBT
      generalize B ++ xs.take k = BB at *
      generalize xs.getD k 0 = y at *
      obtain ⟨v, hh, hRB, hs1, hs2⟩ := hRK
      have hbl := hBL.out
      have hsz := hFr.size
      have hrl : Hid (r < wr.heap.size) := block_lt hh
      have RB := hd hRB
      have MV := hd hMv
      have FR := hd hFr
      have HAL : Hid ((wr.alloc (.cells #[.int .u8 y] 5)).drew.heap[r]? = some (.cells #[v, .int .i64 s] 69 (0, 0))) := (Below.heap_alloc wr _ r (block_lt hh)).trans hh
      have NW : Hid (∀ j u, (ints [y])[j]? = some u → (wr.alloc (.cells #[.int .u8 y] 5)).drew.cell? ((⟨wr.heap.size, 0, none⟩ : Addr).add j) = some u) := news1 wr y
      have hls : Hid (BB.length < 262144) := by
        show _ < _
        omega
      clear hbl
      cases β' with
      | none =>
        have hv : v = .slice none 0 0 := hRB.1
        have hb0 : BB = [] := hRB.2
        subst hv
        have c1 := cell_row hh 0
        simp at c1
        have c2 : (wr.alloc (.cells #[.int .u8 y] 5)).cell? ⟨r, 0, none⟩ = some (.slice none 0 0) := (cell_row (show (wr.alloc (.cells #[.int .u8 y] 5)).heap[r]? = _ from HAL.out) 0).trans rfl
        have OW : Hid ((wr.alloc (.cells #[.int .u8 y] 5)).drew.ownsRow 0 5 1 (.slice none 0 0) BB.length (ints BB)) := by
          rw [hb0]
          exact World.ownsRow_nil _ _ _ _
        clear hh hRB hMv hFr hr hb0
        go_wp2_with fail
        go_region_law (refine step_append_lies _ (by rfl) (.tmp 25) (.tmp 30) 22 (by rfl) 0 5 i0 (.int .u8 0) 1 1 Try.underlying22 hi hz0 hz1 hz2 rfl (by decide) (.slice none 0 0) BB.length (ints BB) (by rfl) OW.out ⟨wr.heap.size, 0, none⟩ 1 1 (ints [y]) (by rfl) (one_len y) NW.out (ints_one _) (by decide) (by unfold maxLen; omega) (by omega) (Nat.zero_le _) (wr.heap.size + 1) (by simp) ?_; intro g2 cap2 w2 hown hgrow hat hglt; have q0 : w2.heap[r]? = some (.cells #[(.slice none 0 0), .int .i64 s] 69 (0, 0)) := (hgrow.block r (by have := hrl.out; simp; omega) (fun e => by cases e)).trans HAL.out; have k0 := cell_row q0 0; have f0 := frozen_row q0 0; simp only [List.getElem?_toArray, List.getElem?_cons_zero] at k0; have HS := hd (ARel.step RB.out hs1 MV.out FR.out hrl.out q0 hown hgrow hat hls.out); rw [TS.out, HBT.out] at HS; clear q0 hown hgrow hat hglt)
        all_goals (
          go_wp2
          exact ⟨⟨k + 1, by omega, by go_num, HS⟩, by simp [intOf]; omega⟩)
      | some g =>
        obtain ⟨hgr, cap, hv, hRow⟩ := hRB
        subst hv
        have c1 := cell_row hh 0
        simp at c1
        have c2 : (wr.alloc (.cells #[.int .u8 y] 5)).cell? ⟨r, 0, none⟩ = some (.slice (some ⟨g, 0, none⟩) BB.length cap) := (cell_row (show (wr.alloc (.cells #[.int .u8 y] 5)).heap[r]? = _ from HAL.out) 0).trans rfl
        have OW : Hid ((wr.alloc (.cells #[.int .u8 y] 5)).drew.ownsRow 0 5 1 (.slice (some ⟨g, 0, none⟩) BB.length cap) BB.length (ints BB)) := row_own (hRow.fr ((Fr.alloc (fun _ => False) wr _).trans (Fr.drew _ _)) (fun h => h)) 0 (Nat.zero_le _)
        clear hh hMv hFr hr hRow
        go_wp2_with fail
        go_region_law (refine step_append_lies _ (by rfl) (.tmp 25) (.tmp 30) 22 (by rfl) 0 5 i0 (.int .u8 0) 1 1 Try.underlying22 hi hz0 hz1 hz2 rfl (by decide) (.slice (some ⟨g, 0, none⟩) BB.length cap) BB.length (ints BB) (by rfl) OW.out ⟨wr.heap.size, 0, none⟩ 1 1 (ints [y]) (by rfl) (one_len y) NW.out (ints_one _) (by decide) (by unfold maxLen; omega) (by omega) (Nat.zero_le _) (wr.heap.size + 1) (by simp) ?_; intro g2 cap2 w2 hown hgrow hat hglt; have q0 : w2.heap[r]? = some (.cells #[(.slice (some ⟨g, 0, none⟩) BB.length cap), .int .i64 s] 69 (0, 0)) := (hgrow.block r (by have := hrl.out; simp; omega) (fun e => hgr (Option.some.inj e).symm)).trans HAL.out; have k0 := cell_row q0 0; have f0 := frozen_row q0 0; simp only [List.getElem?_toArray, List.getElem?_cons_zero] at k0; have HS := hd (ARel.step RB.out hs1 MV.out FR.out hrl.out q0 hown hgrow hat hls.out); rw [TS.out, HBT.out] at HS; clear q0 hown hgrow hat hglt)
        all_goals (
          go_wp2
          exact ⟨⟨k + 1, by omega, by go_num, HS⟩, by simp [intOf]; omega⟩)
    · obtain rfl : k = n := by omega
      have R := hd hr.out
      rw [List.take_of_length_le (by omega)] at R
      clear hr
      go_wp2
      go_ret
      exact ⟨rfl, R.out⟩

end Go.Proofs.Ytdlelbdhcpjdfab
