/-
  View.
-/
import Derived.Test.YtjgpibajndlhaaaCh
import Derived.Test.YtjgpibajndlhaaaCi
namespace Go.Proofs.Ytjgpibajndlhaaa
open Go.RowKit
set_option linter.unusedVariables false
variable {T : Nat → Prop}

theorem open_any (w : World) : Calls Try.prog 64 #[.agg #[]] w fun e w' => e = .returned (.bool false) ∧ Below w.heap.size w w' := by
  go_enter Try.func64, Try.ntmps64
  go_wp2
  go_ret
  exact ⟨rfl, (Below.refl _ _).alloc (Nat.le_refl _) _⟩

theorem cells7 {w : World} {g : Nat} {a b c d e f h : Value} {t : TypeId} (H : w.heap[g]? = some (.cells #[a, b, c, d, e, f, h] t (0, 0))) :
    (w.cell? ⟨g, 0, none⟩ = some a ∧ w.cell? ⟨g, 1, none⟩ = some b ∧ w.cell? ⟨g, 2, none⟩ = some c ∧ w.cell? ⟨g, 3, none⟩ = some d ∧ w.cell? ⟨g, 4, none⟩ = some e ∧ w.cell? ⟨g, 5, none⟩ = some f ∧ w.cell? ⟨g, 6, none⟩ = some h) ∧
    (w.frozen? ⟨g, 0, none⟩ = false ∧ w.frozen? ⟨g, 1, none⟩ = false ∧ w.frozen? ⟨g, 2, none⟩ = false ∧ w.frozen? ⟨g, 3, none⟩ = false ∧ w.frozen? ⟨g, 4, none⟩ = false ∧ w.frozen? ⟨g, 5, none⟩ = false ∧ w.frozen? ⟨g, 6, none⟩ = false) := by
  simp [World.cell?, World.frozen?, H]

/-- Seven cells stored. -/
theorem set7 (W : World) (b : Nat) (a0 a1 a2 a3 a4 a5 a6 : Value) :
    Fr (· = b) W (((((((W.setCell ⟨b, 0, none⟩ a0).setCell ⟨b, 1, none⟩ a1).setCell ⟨b, 2, none⟩ a2).setCell ⟨b, 3, none⟩ a3).setCell ⟨b, 4, none⟩ a4).setCell ⟨b, 5, none⟩ a5).setCell ⟨b, 6, none⟩ a6) :=
  ((((((Fr.setCell (S := (· = b)) W ⟨b, 0, none⟩ a0 rfl).trans (Fr.setCell _ ⟨b, 1, none⟩ a1 rfl)).trans (Fr.setCell _ ⟨b, 2, none⟩ a2 rfl)).trans (Fr.setCell _ ⟨b, 3, none⟩ a3 rfl)).trans (Fr.setCell _ ⟨b, 4, none⟩ a4 rfl)).trans (Fr.setCell _ ⟨b, 5, none⟩ a5 rfl)).trans (Fr.setCell _ ⟨b, 6, none⟩ a6 rfl)

theorem keep7 (u : World) (b x : Nat) (id : Int) (hx : x ≠ b) (hl : x < u.heap.size) (k0 : u.cell? ⟨x, 0, none⟩ = some (.int .i64 id)) (k1 : u.cell? ⟨x, 1, none⟩ = some (.int .i64 0)) (k7 : u.cell? ⟨x, 73, none⟩ = some (.iface 59 (.agg #[]))) (a0 a1 a2 a3 a4 a5 a6 : Value) :
    (((((((u.setCell ⟨b, 0, none⟩ a0).setCell ⟨b, 1, none⟩ a1).setCell ⟨b, 2, none⟩ a2).setCell ⟨b, 3, none⟩ a3).setCell ⟨b, 4, none⟩ a4).setCell ⟨b, 5, none⟩ a5).setCell ⟨b, 6, none⟩ a6).cell? ⟨x, 0, none⟩ = some (.int .i64 id) ∧
    (((((((u.setCell ⟨b, 0, none⟩ a0).setCell ⟨b, 1, none⟩ a1).setCell ⟨b, 2, none⟩ a2).setCell ⟨b, 3, none⟩ a3).setCell ⟨b, 4, none⟩ a4).setCell ⟨b, 5, none⟩ a5).setCell ⟨b, 6, none⟩ a6).cell? ⟨x, 1, none⟩ = some (.int .i64 0) ∧
    (((((((u.setCell ⟨b, 0, none⟩ a0).setCell ⟨b, 1, none⟩ a1).setCell ⟨b, 2, none⟩ a2).setCell ⟨b, 3, none⟩ a3).setCell ⟨b, 4, none⟩ a4).setCell ⟨b, 5, none⟩ a5).setCell ⟨b, 6, none⟩ a6).cell? ⟨x, 73, none⟩ = some (.iface 59 (.agg #[])) :=
  ⟨((set7 u b a0 a1 a2 a3 a4 a5 a6).cell (p := ⟨x, 0, none⟩) hl hx).trans k0, ((set7 u b a0 a1 a2 a3 a4 a5 a6).cell (p := ⟨x, 1, none⟩) hl hx).trans k1, ((set7 u b a0 a1 a2 a3 a4 a5 a6).cell (p := ⟨x, 73, none⟩) hl hx).trans k7⟩

set_option maxRecDepth 100000 in
set_option maxHeartbeats 8000000 in
theorem view_any (x z : Nat) (id : Int) (ds : List El) (es : List (Int × OpE)) (βp : Option Nat) (p : Sp) (w : World) (h : CL T w x z id ds es βp p) (hl1 : ds.length ≤ 4096) (hl2 : es.length ≤ 4096) :
    Calls Try.prog 14 #[.pointer (some ⟨x, 0, none⟩)] w fun e w' => ∃ a b c d f g, e = .returned (.agg #[.int .i64 id, .int .i64 0, .bool false, .int .i64 p.last, .int .i64 0, .slice a b c, .slice d f g]) ∧ Below w.heap.size w w' := by
  obtain ⟨U, hU⟩ : ∃ U, U = w.alloc (.cells #[.int .i64 0, .int .i64 0, .bool false, .int .i64 0, .int .i64 0, .slice none 0 0, .slice none 0 0] 47) := ⟨_, rfl⟩
  have bU : Below w.heap.size w U := by rw [hU]; exact (Below.refl _ _).alloc (Nat.le_refl _) _
  have X : U.heap[w.heap.size]? = some (.cells #[.int .i64 0, .int .i64 0, .bool false, .int .i64 0, .int .i64 0, .slice none 0 0, .slice none 0 0] 47 (0, 0)) := by rw [hU]; exact heap_alloc_new w _
  have hC := h.below bU
  have hx : x ≠ w.heap.size := by have := h.tg.lt; omega
  have CE : Hid (∀ W, Below U.heap.size U W → W.cell? ⟨x, 0, none⟩ = some (.int .i64 id) ∧ W.cell? ⟨x, 1, none⟩ = some (.int .i64 0) ∧ W.cell? ⟨x, 73, none⟩ = some (.iface 59 (.agg #[]))) := by
    intro W hW
    obtain ⟨_, _, _, _, c, _⟩ := hC.below hW
    exact ⟨c.cells.1.2.1, c.cells.1.2.2.1, c.cells.1.2.2.2.2.2.2.2.2⟩
  have C1 : Hid (∀ W, Below U.heap.size U W → Calls Try.prog 64 #[.agg #[]] W fun e w' => e = .returned (.bool false) ∧ Below U.heap.size U w') := fun W hW => (open_any W).mono (fun e w' ⟨h1, h2⟩ => ⟨h1, hW.trans (h2.mono hW.size)⟩)
  have C2 : Hid (∀ W, Below U.heap.size U W → Calls Try.prog 20 #[.pointer (some ⟨x, 0, none⟩)] W fun e w' => e = .returned (.int .i64 p.last) ∧ Below U.heap.size U w') := fun W hW => (made_any x z id ds es βp p W (hC.below hW)).mono (fun e w' ⟨h1, h2⟩ => ⟨h1, by rw [h2]; exact hW⟩)
  have C3 : Hid (∀ W, Below U.heap.size U W → Calls Try.prog 21 #[.pointer (some ⟨x, 0, none⟩)] W fun e w' => e = .returned (.int .i64 0) ∧ Below U.heap.size U w') := fun W hW => (have_any x z id ds es βp p W (hC.below hW)).mono (fun e w' ⟨h1, m, h2⟩ => ⟨h1, by rw [h2]; exact below_drewN hW _⟩)
  have C4 : Hid (∀ W, Below U.heap.size U W → Calls Try.prog 11 #[.pointer (some ⟨x, 0, none⟩)] W fun e w' => ∃ a n c, e = .returned (.slice a n c) ∧ Below U.heap.size U w') := fun W hW => (cdoc_any x z id ds es βp p W (hC.below hW) hl1).mono (by
    rintro e w' ⟨u, β', rfl, h1, h2⟩
    obtain ⟨a, c, rfl, -⟩ := h1.form
    exact ⟨_, _, _, rfl, hW.trans (h2.mono hW.size)⟩)
  have C5 : Hid (∀ W, Below U.heap.size U W → Calls Try.prog 13 #[.pointer (some ⟨x, 0, none⟩)] W fun e w' => ∃ a n c, e = .returned (.slice a n c) ∧ Below U.heap.size U w') := fun W hW => (cpending_any x z id ds es βp p W (hC.below hW) hl2).mono (by
    rintro e w' ⟨u, β', rfl, h1, h2⟩
    obtain ⟨a, c, rfl, -⟩ := h1.form
    exact ⟨_, _, _, rfl, hW.trans (h2.mono hW.size)⟩)
  have CR : Hid (∀ W, Below U.heap.size U W → w.heap.size < W.heap.size ∧ (∀ V, Fr (· = w.heap.size) W V → Below w.heap.size w V) ∧ W.heap[w.heap.size]? = some (.cells #[.int .i64 0, .int .i64 0, .bool false, .int .i64 0, .int .i64 0, .slice none 0 0, .slice none 0 0] 47 (0, 0))) := by
    intro W hW
    have hX := (hW.block _ (block_lt X)).trans X
    have hB := bU.trans (hW.mono bU.size)
    exact ⟨block_lt hX, fun V hF => hB.trans (hF.below hB.size (fun j h => by omega)), hX⟩
  have HBX : Hid (Below U.heap.size U U) := Below.refl _ _
  obtain ⟨k0, k1, k7⟩ := CE.out _ HBX.out
  have hxl : x < U.heap.size := hC.tg.lt
  have HU := hd hU
  clear hC h X bU hU hl1 hl2
  have hm : ∀ w : World, (method 225 59 (.agg #[]) "jotter/client.open").run Try.prog w = .ok (64, .agg #[]) w := fun _ => by kernel_rfl
  go_enter Try.func14, Try.ntmps14
  go_wp2
  rw [← HU.out]
  go_region_held3 (fun W => W.cell? ⟨x, 0, none⟩ = some (.int .i64 id) ∧ W.cell? ⟨x, 1, none⟩ = some (.int .i64 0) ∧ W.cell? ⟨x, 73, none⟩ = some (.iface 59 (.agg #[]))) (first | (with_reducible exact ⟨by assumption, by assumption, by assumption⟩) | (with_reducible exact KS.out _ _ _ _ _ _ _) | (go_keep; done)) (first | (go_at_call 64; refine (C1.out _ (by first | exact HBX.out | exact HBX.out.drew | exact below_drewN HBX.out _)).mono ?_; rintro e u ⟨rfl, kb⟩; obtain ⟨k0, k1, k7⟩ := CE.out _ kb; clear HBX; have HBX := hd kb; clear kb) | (go_at_call 20; refine (C2.out _ (by first | exact HBX.out | exact HBX.out.drew | exact below_drewN HBX.out _)).mono ?_; rintro e u ⟨rfl, kb⟩; obtain ⟨k0, k1, k7⟩ := CE.out _ kb; clear HBX; have HBX := hd kb; clear kb) | (go_at_call 21; refine (C3.out _ (by first | exact HBX.out | exact HBX.out.drew | exact below_drewN HBX.out _)).mono ?_; rintro e u ⟨rfl, kb⟩; obtain ⟨k0, k1, k7⟩ := CE.out _ kb; clear HBX; have HBX := hd kb; clear kb) | (go_at_call 11; refine (C4.out _ (by first | exact HBX.out | exact HBX.out.drew | exact below_drewN HBX.out _)).mono ?_; rintro e u ⟨a4, n4, c4, rfl, kb⟩; obtain ⟨k0, k1, k7⟩ := CE.out _ kb; clear HBX; have HBX := hd kb; clear kb) | (go_at_call 13; refine (C5.out _ (by first | exact HBX.out | exact HBX.out.drew | exact below_drewN HBX.out _)).mono ?_; rintro e u ⟨a5, n5, c5, rfl, kb⟩; obtain ⟨k0, k1, k7⟩ := CE.out _ kb; obtain ⟨lr, FR, hX⟩ := CR.out _ kb; obtain ⟨⟨r0, r1, r2, r3, r4, r5, r6⟩, ⟨t0, t1, t2, t3, t4, t5, t6⟩⟩ := cells7 hX; have HFR := hd FR; have KS := hd (keep7 u w.heap.size x id hx (Nat.lt_of_lt_of_le hxl kb.size) k0 k1 k7); clear FR hX; clear HBX; have HBX := hd kb; clear kb))
  all_goals go_wp2
  all_goals refine bodyPost_ret (v := .agg #[.int .i64 id, .int .i64 0, .bool false, .int .i64 p.last, .int .i64 0, .slice a4 n4 c4, .slice a5 n5 c5]) (by simp [results, Try.results14, go_sem, r0, r1, r2, r3, r4, r5, r6]) rfl ?_
  all_goals exact ⟨_, _, _, _, _, _, rfl, HFR.out _ (set7 _ _ _ _ _ _ _ _ _)⟩

end Go.Proofs.Ytjgpibajndlhaaa
