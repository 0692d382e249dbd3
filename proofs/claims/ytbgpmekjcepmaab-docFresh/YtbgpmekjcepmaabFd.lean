/-
  DocFresh: bags of texts; asked.
-/
import Derived.Test.YtbgpmekjcepmaabFb
import Derived.Test.YtbgpmekjcepmaabRep
import Derived.OwnWalk
namespace Go.Proofs.Ytbgpmekjcepmaab
open Go.RowKit
set_option linter.unusedVariables false

abbrev Rw := Nat × Nat × List El
def valR (r : Rw) : Value := .slice (some ⟨r.1, 0, none⟩) r.2.2.length r.2.1
/-- Rows of texts, each in a block of its own. -/
def Bag (w : World) (Rs : List Rw) : Prop := (Rs.map (·.1)).Nodup ∧ ∀ r ∈ Rs, RowE w r.1 r.2.2.length r.2.1 r.2.2

theorem Bag.nil (w : World) : Bag w [] := ⟨List.nodup_nil, fun r h => (by cases h)⟩
theorem Bag.below {w w' : World} {Rs : List Rw} (h : Bag w Rs) (hb : Below w.heap.size w w') : Bag w' Rs := ⟨h.1, fun r hr => (h.2 r hr).fr (S := fun _ => False) (Fr.of_below hb) (fun h => h)⟩
theorem Bag.tfr {t : TypeId} {w w' : World} {Rs : List Rw} (h : Bag w Rs) (hF : TFr t w w') (hne : 46 ≠ t) : Bag w' Rs := ⟨h.1, fun r hr => (h.2 r hr).tfr hF hne⟩
theorem Bag.lt {w : World} {Rs : List Rw} (h : Bag w Rs) : ∀ r ∈ Rs, r.1 < w.heap.size := fun r hr => (h.2 r hr).lt
/-- A new row behind all that was there. -/
theorem Bag.snoc {w w' : World} {Rs : List Rw} {r : Rw} (h : Bag w Rs) (hb : Below w.heap.size w w') (hr : w.heap.size ≤ r.1) (hR : RowE w' r.1 r.2.2.length r.2.1 r.2.2) : Bag w' (Rs ++ [r]) := by
  refine ⟨?_, ?_⟩
  · rw [List.map_append, List.nodup_append]
    refine ⟨h.1, by simp, ?_⟩
    intro a ha b hb'
    obtain ⟨q, hq, rfl⟩ := List.mem_map.1 ha
    simp at hb'
    subst hb'
    have := h.lt q hq
    omega
  · intro q hq
    rcases List.mem_append.1 hq with hq | hq
    · exact (h.below hb).2 q hq
    · obtain rfl := List.mem_singleton.1 hq
      exact hR

theorem OwnE.row {w : World} {base : Nat} {v : Value} {xs : List El} (h : OwnE w base v xs) : ∃ r : Rw, v = valR r ∧ base ≤ r.1 ∧ r.2.2 = xs ∧ RowE w r.1 r.2.2.length r.2.1 r.2.2 := by
  obtain ⟨g, c, hb, hv, hR⟩ := h.form
  exact ⟨(g, c, xs), hv, hb, rfl, hR⟩
theorem MineE.own {w : World} {base : Nat} {v : Value} {xs : List El} (h : MineE w base v xs) (hx : xs ≠ []) : OwnE w base v xs := by
  obtain ⟨β, h1, h2⟩ := h
  cases β with
  | none => exact absurd h1.2 hx
  | some g => exact ⟨g, h2 g rfl, h1⟩

/-- What asked answers of a text. -/
def askP (xs : List El) (c : Int) : List (List El) :=
  [applyP xs ⟨1, 0, c, 7, 1⟩, applyP xs ⟨1, xs.length, c, 7, 1⟩, applyP xs ⟨2, 0, 0, 7, 1⟩, xs, [(c, 7, 1), (114, 7, 2)]]

theorem ask_replay (c : Int) (h0 : 32 ≤ c) (h1 : c ≤ 126) : replayP [⟨1, 0, c, 7, 1⟩, ⟨1, 1, 114, 7, 2⟩] [] 0 = ([(c, 7, 1), (114, 7, 2)], 2, 0) := by
  have f1 : fitsP (([] : List El).length : Int) ⟨1, 0, c, 7, 1⟩ = 0 := fits_ins (n := 0) (p := 0) h0 h1 (by omega) (by omega) (by omega) (by omega) (by omega) (by omega)
  have e1 : applyP [] ⟨1, 0, c, 7, 1⟩ = [(c, 7, 1)] := by simp [applyP]
  have f2 : fitsP (([(c, 7, 1)] : List El).length : Int) ⟨1, 1, 114, 7, 2⟩ = 0 := fits_ins (n := 1) (p := 1) (by omega) (by omega) (by omega) (by omega) (by omega) (by omega) (by omega) (by omega)
  have e2 : applyP [(c, 7, 1)] ⟨1, 1, 114, 7, 2⟩ = [(c, 7, 1), (114, 7, 2)] := by simp [applyP]
  rw [replayP, if_pos f1, e1, replayP, if_pos f2, e2, replayP]

/-- A list of texts, in memory. -/
def AskR (w w' : World) (v : Value) (Ts : List (List El)) : Prop :=
  ∃ (gL : Nat) (Rs : List Rw), v = .slice (some ⟨gL, 0, none⟩) Ts.length Ts.length ∧ w'.heap[gL]? = some (.cells (Rs.map valR).toArray 22 (0, 0)) ∧ w.heap.size ≤ gL ∧ Bag w' Rs ∧ (∀ r ∈ Rs, w.heap.size ≤ r.1) ∧ Rs.map (·.2.2) = Ts ∧ Below w.heap.size w w'

theorem isO_block {w : World} {r : Nat} (os : List OpE) {t : TypeId} (hn : os.length ≤ 9223372036854775807) (h : w.heap[r]? = some (.cells (cO os).toArray t (0, 0))) : IsO w (some ⟨r, 0, none⟩) os.length os.length os :=
  ⟨rfl, Nat.le_refl _, hn, fun _ => ⟨r, 0, rfl, block_lt h, fun j v hj => by rw [Nat.zero_add, cell_row h, List.getElem?_toArray]; exact hj⟩⟩

theorem op_cells {w : World} {r : Nat} {v0 v1 v2 v3 v4 : Value} {t : TypeId} (h : w.heap[r]? = some (.cells #[v0, v1, v2, v3, v4] t (0, 0))) :
    w.cell? ⟨r, 0, none⟩ = some v0 ∧ w.cell? ⟨r, 1, none⟩ = some v1 ∧ w.cell? ⟨r, 2, none⟩ = some v2 ∧ w.cell? ⟨r, 3, none⟩ = some v3 ∧ w.cell? ⟨r, 4, none⟩ = some v4 := by
  refine ⟨?_, ?_, ?_, ?_, ?_⟩ <;> (rw [cell_row h]; rfl)
theorem below_keep {w w' : World} {r : Nat} {o : Obj} (hb : Below w.heap.size w w') (h : w.heap[r]? = some o) : w'.heap[r]? = some o := (hb.block r (block_lt h)).trans h

set_option maxRecDepth 100000 in
set_option maxHeartbeats 8000000 in
theorem asked_in (a : Option Addr) (n cc : Nat) (ch c : Int) (xs : List El) (w : World) (hE : IsE w a n cc xs) (hc : c = 32 + ch % 95) (h0 : 32 ≤ c) (h1 : c ≤ 126) (h2 : 0 ≤ ch) (h3 : ch ≤ 255) (hn : 0 < n) (hn2 : n ≤ 400) :
    Calls Try.prog 29 #[.slice a n cc, .int .u8 ch] w fun e w' => ∃ v, e = .returned v ∧ AskR w w' v (askP xs c) := by
  have hcc : 32 + ch % 95 = c := hc.symm
  have HE := hd hE
  have HL := hd hE.1
  have F1 : Hid (fitsP (n : Int) ⟨1, 0, c, 7, 1⟩ = 0) := fits_ins (n := n) (p := 0) h0 h1 (by omega) (by omega) (by omega) (by omega) (by omega) (by omega)
  have F2 : Hid (fitsP (n : Int) ⟨1, n, c, 7, 1⟩ = 0) := fits_ins (n := n) (p := n) h0 h1 (by omega) (by omega) (by omega) (by omega) (by omega) (by omega)
  have F3 : Hid (fitsP (n : Int) ⟨2, 0, 0, 7, 1⟩ = 0) := fits_del (n := n) (p := 0) (by omega) (by omega) (by omega) (by omega) (by omega) (by omega)
  have F4 : Hid (fitsP (n : Int) ⟨0, 0, 0, 7, 1⟩ = 0) := fits_nop (by omega) (by omega) (by omega) (by omega) (by omega)
  have AP := hd (ask_replay c h0 h1)
  have bA : Below w.heap.size w ((w.alloc (.cells #[.int .i64 1, .int .i64 0, .int .u8 c, .int .i64 7, .int .i64 1] 29)).alloc (.cells #[.int .i64 1, .int .i64 n, .int .u8 c, .int .i64 7, .int .i64 1] 29)) := ((Below.refl _ _).alloc (Nat.le_refl _) _).alloc (by simp) _
  have BA := hd bA
  have OA : Hid (((w.alloc (.cells #[.int .i64 1, .int .i64 0, .int .u8 c, .int .i64 7, .int .i64 1] 29)).alloc (.cells #[.int .i64 1, .int .i64 n, .int .u8 c, .int .i64 7, .int .i64 1] 29)).heap[w.heap.size]? = some (.cells #[.int .i64 1, .int .i64 0, .int .u8 c, .int .i64 7, .int .i64 1] 29 (0, 0))) := by
    rw [heap_alloc_old _ _ (by simp), heap_alloc_new]
    exact (rfl : _ = _)
  have PA : Hid (((w.alloc (.cells #[.int .i64 1, .int .i64 0, .int .u8 c, .int .i64 7, .int .i64 1] 29)).alloc (.cells #[.int .i64 1, .int .i64 n, .int .u8 c, .int .i64 7, .int .i64 1] 29)).heap[w.heap.size + 1]? = some (.cells #[.int .i64 1, .int .i64 n, .int .u8 c, .int .i64 7, .int .i64 1] 29 (0, 0))) := by
    rw [show w.heap.size + 1 = (w.alloc (.cells #[.int .i64 1, .int .i64 0, .int .u8 c, .int .i64 7, .int .i64 1] 29)).heap.size from by simp, heap_alloc_new]
    exact (rfl : _ = _)
  clear hE hc bA
  go_enter Try.func29, Try.ntmps29
  have EA := hd (HE.out.below BA.out)
  have GA : Hid (Bag ((w.alloc (.cells #[.int .i64 1, .int .i64 0, .int .u8 c, .int .i64 7, .int .i64 1] 29)).alloc (.cells #[.int .i64 1, .int .i64 n, .int .u8 c, .int .i64 7, .int .i64 1] 29)) []) := Bag.nil _
  have MA : Hid (∀ r ∈ ([] : List Rw), w.heap.size ≤ r.1) := fun r h => (by cases h)
  clear HE
  go_wp2_with fail
  refine (apply_good a n cc 1 0 c 7 1 xs _ EA.out (by omega) (by omega) F1.out).mono ?_
  rintro e w3 ⟨v3, rfl, hO3, b3⟩
  obtain ⟨r3, rfl, hb3, ht3, hR3⟩ := hO3.row
  have T3 := hd ht3
  have E3 := hd (EA.out.below b3)
  have B3 := hd (BA.out.trans (b3.mono BA.out.size))
  have O3 := hd (below_keep b3 OA.out)
  have P3 := hd (below_keep b3 PA.out)
  have G3 := hd (GA.out.snoc b3 hb3 hR3)
  have M3 : Hid (∀ r ∈ ([] ++ [r3]), w.heap.size ≤ r.1) := by
    intro r hr
    rcases List.mem_append.1 hr with hr | hr
    · exact MA.out r hr
    · obtain rfl := List.mem_singleton.1 hr
      exact Nat.le_trans BA.out.size hb3
  obtain ⟨o0, o1, o2, o3, o4⟩ := op_cells O3.out
  obtain ⟨p0, p1, p2, p3, p4⟩ := op_cells P3.out
  clear hO3 hb3 ht3 hR3 b3 EA BA OA PA GA MA 
  go_wp2_with fail
  refine (apply_good a n cc 1 n c 7 1 xs _ E3.out (by omega) (by omega) F2.out).mono ?_
  rintro e w4 ⟨v4, rfl, hO4, b4⟩
  obtain ⟨r4, rfl, hb4, ht4, hR4⟩ := hO4.row
  have T4 := hd ht4
  have E4 := hd (E3.out.below b4)
  have B4 := hd (B3.out.trans (b4.mono B3.out.size))
  have O4 := hd (below_keep b4 O3.out)
  have P4 := hd (below_keep b4 P3.out)
  have G4 := hd (G3.out.snoc b4 hb4 hR4)
  have M4 : Hid (∀ r ∈ ([] ++ [r3] ++ [r4]), w.heap.size ≤ r.1) := by
    intro r hr
    rcases List.mem_append.1 hr with hr | hr
    · exact M3.out r hr
    · obtain rfl := List.mem_singleton.1 hr
      exact Nat.le_trans B3.out.size hb4
  clear o0 o1 o2 o3 o4 p0 p1 p2 p3 p4
  obtain ⟨o0, o1, o2, o3, o4⟩ := op_cells O4.out
  obtain ⟨p0, p1, p2, p3, p4⟩ := op_cells P4.out
  clear hO4 hb4 ht4 hR4 b4 E3 B3 O3 P3 G3 M3 
  go_wp2_with fail
  refine (apply_good a n cc 2 0 0 7 1 xs _ E4.out (by omega) (by omega) F3.out).mono ?_
  rintro e w5 ⟨v5, rfl, hO5, b5⟩
  obtain ⟨r5, rfl, hb5, ht5, hR5⟩ := hO5.row
  have T5 := hd ht5
  have E5 := hd (E4.out.below b5)
  have B5 := hd (B4.out.trans (b5.mono B4.out.size))
  have O5 := hd (below_keep b5 O4.out)
  have P5 := hd (below_keep b5 P4.out)
  have G5 := hd (G4.out.snoc b5 hb5 hR5)
  have M5 : Hid (∀ r ∈ ([] ++ [r3] ++ [r4] ++ [r5]), w.heap.size ≤ r.1) := by
    intro r hr
    rcases List.mem_append.1 hr with hr | hr
    · exact M4.out r hr
    · obtain rfl := List.mem_singleton.1 hr
      exact Nat.le_trans B4.out.size hb5
  clear o0 o1 o2 o3 o4 p0 p1 p2 p3 p4
  obtain ⟨o0, o1, o2, o3, o4⟩ := op_cells O5.out
  obtain ⟨p0, p1, p2, p3, p4⟩ := op_cells P5.out
  clear hO5 hb5 ht5 hR5 b5 E4 B4 O4 P4 G4 M4 
  go_wp2_with fail
  refine (apply_good a n cc 0 0 0 7 1 xs _ E5.out (by omega) (by omega) F4.out).mono ?_
  rintro e w6 ⟨v6, rfl, hO6, b6⟩
  obtain ⟨r6, rfl, hb6, ht6, hR6⟩ := hO6.row
  have T6 := hd ht6
  have E6 := hd (E5.out.below b6)
  have B6 := hd (B5.out.trans (b6.mono B5.out.size))
  have O6 := hd (below_keep b6 O5.out)
  have P6 := hd (below_keep b6 P5.out)
  have G6 := hd (G5.out.snoc b6 hb6 hR6)
  have M6 : Hid (∀ r ∈ ([] ++ [r3] ++ [r4] ++ [r5] ++ [r6]), w.heap.size ≤ r.1) := by
    intro r hr
    rcases List.mem_append.1 hr with hr | hr
    · exact M5.out r hr
    · obtain rfl := List.mem_singleton.1 hr
      exact Nat.le_trans B5.out.size hb6
  clear o0 o1 o2 o3 o4 p0 p1 p2 p3 p4
  obtain ⟨o0, o1, o2, o3, o4⟩ := op_cells O6.out
  obtain ⟨p0, p1, p2, p3, p4⟩ := op_cells P6.out
  clear hO6 hb6 ht6 hR6 b6 E5 B5 O5 P5 G5 M5 
  have gs : w.heap.size < w6.heap.size := block_lt O6.out
  have gs1 : w.heap.size + 1 < w6.heap.size := block_lt P6.out
  simp only [valR]
  have bR : Below w6.heap.size w6 (w6.alloc (.cells #[.int .i64 1, .int .i64 0, .int .u8 c, .int .i64 7, .int .i64 1, .int .i64 1, .int .i64 1, .int .u8 114, .int .i64 7, .int .i64 2] 29)) := (Below.refl _ _).alloc (Nat.le_refl _) _
  have IOq : Hid (IsO (w6.alloc (.cells #[.int .i64 1, .int .i64 0, .int .u8 c, .int .i64 7, .int .i64 1, .int .i64 1, .int .i64 1, .int .u8 114, .int .i64 7, .int .i64 2] 29)) (some ⟨w6.heap.size, 0, none⟩) 2 2 [⟨1, 0, c, 7, 1⟩, ⟨1, 1, 114, 7, 2⟩]) := isO_block [⟨1, 0, c, 7, 1⟩, ⟨1, 1, 114, 7, 2⟩] (by simp) (heap_alloc_new _ _)
  have OO : Hid (OkO [⟨1, 0, c, 7, 1⟩, ⟨1, 1, 114, 7, 2⟩]) := by
    intro o ho
    simp at ho
    rcases ho with rfl | rfl
    · simp only; omega
    · simp only; omega
  have BR := hd bR
  clear bR
  go_wp2_with fail
  refine (replay_any _ 2 2 [⟨1, 0, c, 7, 1⟩, ⟨1, 1, 114, 7, 2⟩] _ IOq.out OO.out).mono ?_
  rintro e w7 ⟨v7, rfl, hM7, b7⟩
  rw [AP.out] at hM7 ⊢
  simp only [] at hM7 ⊢
  obtain ⟨r7, rfl, hb7, ht7, hR7⟩ := (hM7.own (by simp)).row
  have b67 : Below w6.heap.size w6 w7 := BR.out.trans (b7.mono BR.out.size)
  have G7 := hd (G6.out.snoc b67 (Nat.le_trans BR.out.size hb7) hR7)
  have B7 := hd (B6.out.trans (b67.mono B6.out.size))
  have M7 : Hid (∀ r ∈ ([] ++ [r3] ++ [r4] ++ [r5] ++ [r6] ++ [r7]), w.heap.size ≤ r.1) := by
    intro r hr
    rcases List.mem_append.1 hr with hr | hr
    · exact M6.out r hr
    · obtain rfl := List.mem_singleton.1 hr
      exact Nat.le_trans B6.out.size (Nat.le_trans BR.out.size hb7)
  have T7 := hd ht7
  have R : Hid (AskR w (w7.alloc (.cells #[valR r3, valR r4, valR r5, valR r6, valR r7] 22)) (.slice (some ⟨w7.heap.size, 0, none⟩) 5 5) (askP xs c)) := by
    have bZ : Below w7.heap.size w7 (w7.alloc (.cells #[valR r3, valR r4, valR r5, valR r6, valR r7] 22)) := (Below.refl _ _).alloc (Nat.le_refl _) _
    refine ⟨w7.heap.size, [r3, r4, r5, r6, r7], rfl, heap_alloc_new _ _, B7.out.size, by simpa using G7.out.below bZ, by simpa using M7.out, ?_, B7.out.trans (bZ.mono B7.out.size)⟩
    simp only [List.map_cons, List.map_nil, askP, T3.out, T4.out, T5.out, T6.out, T7.out, HL.out]
    simp [applyP]
  clear hM7 hb7 ht7 hR7 b7 b67 G7 B7 M7 T7 T3 T4 T5 T6 G6 B6 M6 O6 P6 E6 IOq OO BR o0 o1 o2 o3 o4 p0 p1 p2 p3 p4 AP
  simp only [valR] at R ⊢
  go_wp2
  go_ret
  exact ⟨_, rfl, R.out⟩

theorem asked_any (a : Option Addr) (n cc : Nat) (ch : Int) (xs : List El) (w : World) (hE : IsE w a n cc xs) (h2 : 0 ≤ ch) (h3 : ch ≤ 255) (hn : 0 < n) (hn2 : n ≤ 400) :
    Calls Try.prog 29 #[.slice a n cc, .int .u8 ch] w fun e w' => ∃ v, e = .returned v ∧ AskR w w' v (askP xs (32 + ch % 95)) :=
  asked_in a n cc ch _ xs w hE rfl (char_range h2).1 (char_range h2).2 h2 h3 hn hn2

end Go.Proofs.Ytbgpmekjcepmaab
