/-
  The file of the document: Bytes, Sync, Cut, From.
-/
import Derived.Test.YtdlelbdhcpjdfabRa
namespace Go.Proofs.Ytdlelbdhcpjdfab
open Go.RowKit
set_option linter.unusedVariables false

set_option maxRecDepth 100000 in
set_option maxHeartbeats 2000000 in
theorem rbytes_any (r : Nat) (β : Option Nat) (B : List Int) (s : Nat) (w : World) (h : RK w r β B s) :
    Calls Try.prog 36 #[.pointer (some ⟨r, 0, none⟩)] w fun x w' => ∃ g, x = .returned (.slice (some ⟨g, 0, none⟩) B.length B.length) ∧ w.heap.size ≤ g ∧ RowB w' g B.length B.length B ∧ Below w.heap.size w w' := by
  have hle := h.size_le
  obtain ⟨v, hh, hR, -⟩ := h
  obtain ⟨a, c, rfl, hB, -⟩ := hR.form
  have c0 := cell_row hh 0
  simp at c0
  have X := hd (hB.fr (Fr.drew (fun _ => False) w) (fun _ _ _ _ h => h))
  have HT : Hid (B.take B.length = B) := List.take_of_length_le (Nat.le_refl _)
  have hrl : Hid (r < w.drew.heap.size) := block_lt hh
  clear hh hR hB
  go_enter Try.func36, Try.ntmps36
  go_wp2_with fail
  go_region_held3 (fun w' => w'.cell? ⟨r, 0, none⟩ = some (.slice a B.length c)) (first | go_keep | assumption) (first | (go_at_call 42; refine (part_any a B.length c B.length B _ X.out (Nat.le_refl _) (by omega)).mono ?_; rintro e w1 ⟨g, rfl, hg, hRow, hb⟩; have k0 : w1.cell? ⟨r, 0, none⟩ = some (.slice a B.length c) := (hb.cell (p := ⟨r, 0, none⟩) hrl.out).trans (by simpa using c0); rw [HT.out] at hRow; have R1 := hd (And.intro hg (And.intro hRow ((show Below w.heap.size w w.drew from (Below.refl _ _).drew).trans hb))); clear hg hRow hb))
  go_wp2
  go_ret
  exact ⟨g, rfl, R1.out⟩

set_option maxRecDepth 100000 in
set_option maxHeartbeats 2000000 in
theorem rsync_any (r : Nat) (β : Option Nat) (B : List Int) (s : Nat) (w : World) (h : RK w r β B s) :
    Calls Try.prog 31 #[.pointer (some ⟨r, 0, none⟩)] w fun x w' => x = .returned (.int .i64 ((B.length - s : Nat) : Int)) ∧ RK w' r β B B.length ∧ Fr (· = r) w w' := by
  have hle := h.size_le
  have H := hd h
  obtain ⟨v, hh, hR, -⟩ := h
  obtain ⟨a, c, rfl, -, -⟩ := hR.form
  have c0 := cell_row hh 0
  have c1 := cell_row hh 1
  have f1 := frozen_row hh 1
  simp at c0 c1
  have Z := hd (fun m : Nat => show RK ((w.drewN m).setCell ⟨r, 1, none⟩ (.int .i64 B.length)) r β B B.length ∧ Fr (· = r) w ((w.drewN m).setCell ⟨r, 1, none⟩ (.int .i64 B.length)) from by
    have f0 : Fr (· = r) w (w.drewN m) := Fr.drewN _ _ _
    have f := f0.trans (Fr.setCell (w.drewN m) ⟨r, 1, none⟩ (.int .i64 B.length) rfl)
    refine ⟨⟨_, ?_, hR.fr f ?_, Nat.le_refl _, hle.2⟩, f⟩
    · rw [set_row ((Fr.drewN (fun _ => False) w m).keeps hh (fun h => h)) 1 _]
      rfl
    · rintro g rfl
      exact hR.1)
  have ei : (B.length : Int) - (s : Int) = ((B.length - s : Nat) : Int) := by omega
  rw [← ei]
  clear hh hR H ei
  generalize B.length = L at *
  go_enter Try.func31, Try.ntmps31
  go_wp2
  go_quiet (fail)
  go_wp2
  go_ret
  exact ⟨rfl, Z.out nq⟩

/-- The document file with a new list. -/
theorem RK.set {w : World} {r g : Nat} {v0 v1 : Value} (hh : w.heap[r]? = some (.cells #[v0, v1] 69 (0, 0))) {q : Nat} {B : List Int} (hR : RowB w g q q B) (hg : ¬ g = r) (hq : q ≤ 262144) (s : Nat) (hs : s ≤ q) :
    RK ((w.setCell ⟨r, 0, none⟩ (.slice (some ⟨g, 0, none⟩) q q)).setCell ⟨r, 1, none⟩ (.int .i64 s)) r (some g) B s ∧ Fr (· = r) w ((w.setCell ⟨r, 0, none⟩ (.slice (some ⟨g, 0, none⟩) q q)).setCell ⟨r, 1, none⟩ (.int .i64 s)) := by
  have f1 : Fr (· = r) w (w.setCell ⟨r, 0, none⟩ (.slice (some ⟨g, 0, none⟩) q q)) := Fr.setCell _ _ _ rfl
  have f2 := f1.trans (Fr.setCell (w.setCell ⟨r, 0, none⟩ (.slice (some ⟨g, 0, none⟩) q q)) ⟨r, 1, none⟩ (.int .i64 s) rfl)
  have hl : B.length = q := by
    obtain ⟨_, _, _, h, _⟩ := hR
    exact h
  subst hl
  refine ⟨⟨_, ?_, ⟨hg, B.length, rfl, hR.fr f2 hg⟩, hs, hq⟩, f2⟩
  rw [set_row (set_row hh 0 _) 1 _]
  rfl

theorem RK.setB {w : World} {r g : Nat} {v0 : Value} {s : Nat} (hh : w.heap[r]? = some (.cells #[v0, .int .i64 s] 69 (0, 0))) {q : Nat} {B : List Int} (hR : RowB w g q q B) (hg : ¬ g = r) (hq : q ≤ 262144) (hs : s ≤ q) :
    RK (w.setCell ⟨r, 0, none⟩ (.slice (some ⟨g, 0, none⟩) q q)) r (some g) B s ∧ Fr (· = r) w (w.setCell ⟨r, 0, none⟩ (.slice (some ⟨g, 0, none⟩) q q)) := by
  have f1 : Fr (· = r) w (w.setCell ⟨r, 0, none⟩ (.slice (some ⟨g, 0, none⟩) q q)) := Fr.setCell _ _ _ rfl
  have hl : B.length = q := by
    obtain ⟨_, _, _, h, _⟩ := hR
    exact h
  subst hl
  refine ⟨⟨_, ?_, ⟨hg, B.length, rfl, hR.fr f1 hg⟩, hs, hq⟩, f1⟩
  rw [set_row hh 0 _]
  rfl

theorem RNow.of_new {w w1 W : World} {r g : Nat} {β : Option Nat} {t : St} (hb : Below w.heap.size w w1) (hR : RK W r (some g) t.B t.s) (hF : Fr (· = r) w1 W) (hg : w.heap.size ≤ g) : RNow w W r β t :=
  ⟨some g, hR, .inr ⟨g, rfl, hg⟩, (Fr.of_below hb).next hF (fun i _ e => .inl e)⟩

set_option maxRecDepth 100000 in
set_option maxHeartbeats 2000000 in
theorem rcut_bad (r : Nat) (β : Option Nat) (B : List Int) (s : Nat) (n : Int) (w : World) (h : RK w r β B s) (hn : n < 0 ∨ (B.length : Int) < n) :
    Calls Try.prog 32 #[.pointer (some ⟨r, 0, none⟩), .int .i64 n] w fun x w' => x = .returned (.int .i64 23) ∧ w = w' := by
  obtain ⟨v, hh, hR, -⟩ := h
  obtain ⟨a, c, rfl, -, -⟩ := hR.form
  have c0 := cell_row hh 0
  simp at c0
  clear hh hR
  generalize B.length = L at *
  by_cases h0 : n < 0
  · clear hn
    go_enter Try.func32, Try.ntmps32
    go_wp2
    go_ret
    exact ⟨rfl, rfl⟩
  · have h1 : (L : Int) < n := by omega
    clear hn
    go_enter Try.func32, Try.ntmps32
    go_wp2
    go_ret
    exact ⟨rfl, rfl⟩

set_option maxRecDepth 100000 in
set_option maxHeartbeats 2000000 in
theorem rcut_good (r : Nat) (β : Option Nat) (B : List Int) (s : Nat) (q : Nat) (w : World) (h : RK w r β B s) (hq : q ≤ B.length) :
    Calls Try.prog 32 #[.pointer (some ⟨r, 0, none⟩), .int .i64 q] w fun x w' => x = .returned (.int .i64 0) ∧ RNow w w' r β ⟨0, B.take q, min s q⟩ := by
  have hle := h.size_le
  have hlt := hd h.lt
  obtain ⟨v, hh, hR, -⟩ := h
  obtain ⟨a, c, rfl, hB, -⟩ := hR.form
  have c0 := cell_row hh 0
  simp at c0
  have X := hd hB
  have HH := hd hh
  clear hh hR hB
  have i1 : ¬ (B.length : Int) < (q : Int) := by omega
  go_enter Try.func32, Try.ntmps32
  go_wp2_with fail
  refine (part_any a B.length c q B _ X.out hq (by omega)).mono ?_
  rintro e w1 ⟨g, rfl, hg, hRow, hb⟩
  have hr0 : r < w.heap.size := block_lt HH.out
  have H1 : Hid (w1.heap[r]? = some (.cells #[.slice a B.length c, .int .i64 s] 69 (0, 0))) := (hb.block r hr0).trans HH.out
  have e0 := cell_row H1.out 0
  have e1 := cell_row H1.out 1
  have f0 := frozen_row H1.out 0
  have f1 := frozen_row H1.out 1
  simp at e0 e1
  have hgr : ¬ g = r := by omega
  by_cases hqs : q < s
  · have i2 : (q : Int) < (s : Int) := by omega
    have Z0 := RK.set H1.out hRow hgr (by omega) q (Nat.le_refl _)
    have Z : Hid (RNow w ((w1.setCell ⟨r, 0, none⟩ (.slice (some ⟨g, 0, none⟩) q q)).setCell ⟨r, 1, none⟩ (.int .i64 q)) r β ⟨0, B.take q, min s q⟩) := by
      rw [show min s q = q from by omega]
      exact RNow.of_new hb Z0.1 Z0.2 hg
    clear hRow hb hg Z0
    go_wp2
    go_ret
    exact ⟨rfl, Z.out⟩
  · have i2 : ¬ (q : Int) < (s : Int) := by omega
    have Z0 := RK.setB H1.out hRow hgr (by omega) (by omega)
    have Z : Hid (RNow w (w1.setCell ⟨r, 0, none⟩ (.slice (some ⟨g, 0, none⟩) q q)) r β ⟨0, B.take q, min s q⟩) := by
      rw [show min s q = s from by omega]
      exact RNow.of_new hb Z0.1 Z0.2 hg
    clear hRow hb hg Z0
    go_wp2
    go_ret
    exact ⟨rfl, Z.out⟩

theorem rcut_any (r : Nat) (β : Option Nat) (B : List Int) (s : Nat) (n : Int) (w : World) (h : RK w r β B s) :
    Calls Try.prog 32 #[.pointer (some ⟨r, 0, none⟩), .int .i64 n] w fun x w' => x = .returned (.int .i64 (cutP n B s).e) ∧ RNow w w' r β (cutP n B s) := by
  unfold cutP
  by_cases hn : 0 ≤ n ∧ n ≤ B.length
  · rw [if_pos hn]
    obtain ⟨q, rfl⟩ := Int.eq_ofNat_of_zero_le hn.1
    exact rcut_good r β B s q w h (by omega)
  · rw [if_neg hn]
    refine (rcut_bad r β B s n w h (by omega)).mono ?_
    rintro x w' ⟨rfl, rfl⟩
    exact ⟨rfl, RNow.of_fr (t := ⟨23, B, s⟩) h (Fr.refl _ _)⟩

set_option maxRecDepth 100000 in
set_option maxHeartbeats 2000000 in
theorem rfrom_good (a : Option Addr) (n c : Nat) (xs : List Int) (w : World) (hx : IsB w a n c xs) (hn : n ≤ 262144) :
    Calls Try.prog 41 #[.slice a n c] w fun x w' => ∃ r g, x = .returned (.tuple #[.pointer (some ⟨r, 0, none⟩), .int .i64 0]) ∧ RK w' r (some g) xs n ∧ w.heap.size ≤ r ∧ w.heap.size ≤ g ∧ Below w.heap.size w w' := by
  have X := hd hx
  have hxl := hx.1
  have j1 : ¬ (262144 : Int) < (n : Int) := by omega
  clear hx
  go_enter Try.func41, Try.ntmps41
  go_wp2_with fail
  refine (part_any a n c n xs _ X.out (Nat.le_refl _) hn).mono ?_
  rintro e w1 ⟨g, rfl, hg, hRow, hb⟩
  rw [List.take_of_length_le (by omega)] at hRow
  have al : Below w1.heap.size w1 (w1.alloc (.cells #[.slice (some ⟨g, 0, none⟩) n n, .int .i64 n] 69)) := (Below.refl _ _).alloc (Nat.le_refl _) _
  have R : Hid (RK (w1.alloc (.cells #[.slice (some ⟨g, 0, none⟩) n n, .int .i64 n] 69)) w1.heap.size (some g) xs n ∧ w.heap.size ≤ w1.heap.size ∧ w.heap.size ≤ g ∧ Below w.heap.size w (w1.alloc (.cells #[.slice (some ⟨g, 0, none⟩) n n, .int .i64 n] 69))) := by
    refine ⟨⟨_, heap_alloc_new _ _, ⟨?_, n, ?_, ?_⟩, by omega, by omega⟩, hb.size, hg, hb.trans (al.mono hb.size)⟩
    · have := hRow.lt
      omega
    · rw [hxl]
    · rw [hxl]
      exact hRow.fr (Fr.of_below al : Fr (fun _ => False) _ _) (fun h => h)
  clear hg hRow hb al
  go_wp2
  go_ret2
  exact ⟨_, g, rfl, R.out⟩

set_option maxRecDepth 100000 in
theorem rfrom_bad (a : Option Addr) (n c : Nat) (w : World) (hn : 262144 < n) :
    Calls Try.prog 41 #[.slice a n c] w fun x w' => x = .returned (.tuple #[.pointer none, .int .i64 20]) ∧ w = w' := by
  have j1 : (262144 : Int) < (n : Int) := by omega
  go_enter Try.func41, Try.ntmps41
  go_wp2
  go_ret2
  exact ⟨rfl, rfl⟩

end Go.Proofs.Ytdlelbdhcpjdfab
