/-
  The document's space in memory; New, Last, Keep, DropTo.
-/
import Derived.Test.YtmbnimlibnheeabDoorRp
namespace Go.Proofs.YtmbnimlibnheeabDoor
open Go.RowKit
set_option linter.unusedVariables false

def fr (e : Nat × Nat × OpE) : List Value := [.int .i64 e.1, .int .i64 e.2.1, .int .i64 e.2.2.kind, .int .i64 e.2.2.pos, .int .u8 e.2.2.ch, .int .i64 e.2.2.cl, .int .i64 e.2.2.sq]
theorem sz_fr : Sz fr 7 := fun x => ⟨rfl, fun v hv => by simp [fr] at hv; rcases hv with rfl | rfl | rfl | rfl | rfl | rfl | rfl <;> rfl⟩
theorem Tryd.infoW : (Tryd.prog.info? 83).map (fun i => (i.zero, i.size, i.bytes)) = some (some (.agg #[.int .i64 0, .int .i64 0, .int .i64 0, .int .u8 0, .int .i64 0, .int .i64 0]), 6, 48) := by kernel_rfl
theorem Tryd.infoF : (Tryd.prog.info? 96).map (fun i => (i.zero, i.size, i.bytes)) = some (some (.agg #[.int .i64 0, .int .i64 0, .int .i64 0, .int .i64 0, .int .u8 0, .int .i64 0, .int .i64 0]), 7, 56) := by kernel_rfl

/-- The document's space at block x. -/
structure RK (w : World) (x : Nat) (r : Rf) (vo vf : Value) (βo βf : Option Nat) : Prop where
  box : w.heap[x]? = some (.cells #[.bool r.f, vo, vf, .int .i64 r.dr] 76 (0, 0))
  ro : SF mkd 6 w 83 βo vo r.own
  rf : SF fr 7 w 96 βf vf r.far
def RefAt (w : World) (x : Nat) (r : Rf) (S : Nat → Prop) : Prop :=
  (∃ vo vf βo βf, RK w x r vo vf βo βf ∧ S x ∧ (∀ g, βo = some g → S g) ∧ (∀ g, βf = some g → S g) ∧ ∀ k, S k → k < w.heap.size) ∧ r.ok
def RNow (w w' : World) (x : Nat) (r : Rf) (S : Nat → Prop) : Prop := ∃ S', RefAt w' x r S' ∧ (∀ k, S' k → S k ∨ w.heap.size ≤ k) ∧ Fr S w w'
section
variable {w w' u : World} {x : Nat} {r : Rf} {vo vf : Value} {βo βf : Option Nat} {S T : Nat → Prop}
theorem RK.fr (h : RK w x r vo vf βo βf) (hF : Fr S w w') (hx : ¬ S x) (h1 : ∀ g, βo = some g → ¬ S g) (h2 : ∀ g, βf = some g → ¬ S g) : RK w' x r vo vf βo βf :=
  ⟨hF.keeps h.box hx, h.ro.fr hF h1, h.rf.fr hF h2⟩
theorem RK.below (h : RK w x r vo vf βo βf) (hb : Below w.heap.size w w') : RK w' x r vo vf βo βf :=
  h.fr (S := fun _ => False) (Fr.of_below hb) (fun h => h) (fun _ _ h => h) (fun _ _ h => h)
theorem RK.o_ne (h : RK w x r vo vf βo βf) : βo ≠ some x := by
  rintro rfl
  obtain ⟨cur, h1⟩ := h.ro.blk
  have := h.box
  rw [h1] at this
  simp at this
theorem RK.f_ne (h : RK w x r vo vf βo βf) : βf ≠ some x := by
  rintro rfl
  obtain ⟨cur, h1⟩ := h.rf.blk
  have := h.box
  rw [h1] at this
  simp at this
theorem RK.of_ne (h : RK w x r vo vf βo βf) {g : Nat} (hg : βo = some g) : βf ≠ some g := by
  rintro rfl
  subst hg
  obtain ⟨c1, h1⟩ := h.ro.blk
  obtain ⟨c2, h2⟩ := h.rf.blk
  rw [h1] at h2
  simp at h2
theorem RefAt.fr (h : RefAt w x r S) (hF : Fr T w w') (hS : ∀ k, S k → ¬ T k) : RefAt w' x r S := by
  obtain ⟨⟨vo, vf, βo, βf, h, h1, h2, h3, h4⟩, h5⟩ := h
  exact ⟨⟨vo, vf, βo, βf, h.fr hF (hS x h1) (fun g hg => hS g (h2 g hg)) (fun g hg => hS g (h3 g hg)), h1, h2, h3, fun k hk => Nat.lt_of_lt_of_le (h4 k hk) hF.size⟩, h5⟩
theorem RefAt.below (h : RefAt w x r S) (hb : Below w.heap.size w w') : RefAt w' x r S := h.fr (T := fun _ => False) (Fr.of_below hb) (fun _ _ h => h)
theorem RefAt.old (h : RefAt w x r S) : ∀ k, S k → k < w.heap.size := by
  obtain ⟨⟨vo, vf, βo, βf, h, h1, h2, h3, h4⟩, h5⟩ := h
  exact h4
theorem RNow.of_below (h : RefAt w x r S) (hb : Below w.heap.size w w') : RNow w w' x r S := ⟨S, h.below hb, fun k hk => .inl hk, Fr.of_below hb⟩
end
def refO (x : Nat) (r : Rf) : Thg := fun w S => RefAt w x r S
theorem frm_ref (x : Nat) (r : Rf) : Frm (refO x r) := ⟨fun _ _ _ _ h hF hS => h.fr hF hS, fun _ _ h => h.old⟩

theorem rnew_any (f : Bool) (w : World) : Calls Tryd.prog 12 #[.bool f] w fun e w' => ∃ x, e = .returned (.pointer (some ⟨x, 0, none⟩)) ∧ ∃ S, RefAt w' x ⟨f, [], [], 0⟩ S ∧ (∀ k, S k → w.heap.size ≤ k) ∧ Below w.heap.size w w' := by
  go_enter Tryd.func12, Tryd.ntmps12
  go_wp2
  refine bodyPost_ret (v := .pointer (some ⟨w.heap.size, 0, none⟩)) (by simp [results, Tryd.results12, go_sem]) rfl ?_
  refine ⟨_, rfl, fun k => k = w.heap.size, ⟨⟨.slice none 0 0, .slice none 0 0, none, none, ⟨?_, ⟨rfl, rfl⟩, ⟨rfl, rfl⟩⟩, rfl, by simp, by simp, ?_⟩, ⟨by simp, by simp⟩⟩, ?_, ?_⟩
  · exact heap_alloc_new w _
  · rintro k rfl; simp
  · rintro k rfl; omega
  · exact (Below.refl _ _).alloc (Nat.le_refl _) _

/-- The last of the own. -/
theorem Rf.last_get {r : Rf} {n : Nat} (hn : r.own.length = n + 1) (h : n < r.own.length) : r.last = r.own[n].1 := by
  unfold Rf.last
  rw [List.getLast?_eq_getElem?, hn, Nat.add_sub_cancel, List.getElem?_eq_getElem h]

set_option maxRecDepth 100000 in
set_option maxHeartbeats 4000000 in
theorem rlast_any (x : Nat) (r : Rf) (S : Nat → Prop) (w : World) (h : RefAt w x r S) :
    Calls Tryd.prog 15 #[.pointer (some ⟨x, 0, none⟩)] w fun e w' => e = .returned (.int .i64 r.last) ∧ Below w.heap.size w w' := by
  obtain ⟨⟨vo, vf, βo, βf, hK, -⟩, -⟩ := h
  have c1 := cell_row hK.box 1
  simp at c1
  have hro := hK.ro
  clear hK
  cases βo with
  | none =>
    obtain ⟨rfl, h2⟩ := hro
    have hl : r.last = 0 := by unfold Rf.last; rw [h2]; rfl
    rw [hl]
    clear h2
    go_enter Tryd.func15, Tryd.ntmps15
    go_wp2
    go_ret
    exact ⟨rfl, Below.refl _ _⟩
  | some g =>
    obtain ⟨cap, rfl, hR⟩ := hro
    have hR' := hR
    obtain ⟨cur, -, -, -, hc1, hc2, -⟩ := hR'
    cases hn : r.own.length with
    | zero =>
      have hl : r.last = 0 := by unfold Rf.last; rw [List.length_eq_zero_iff.1 hn]; rfl
      rw [hl]
      rw [hn] at c1
      clear hR hc1
      go_enter Tryd.func15, Tryd.ntmps15
      go_wp2
      go_ret
      exact ⟨rfl, Below.refl _ _⟩
    | succ n =>
      have hlt : n < r.own.length := by omega
      have hce := hR.cell sz_mkd n 0 hlt (by omega)
      simp [mkd] at hce
      rw [Rf.last_get hn hlt]
      rw [hn] at c1 hc1
      generalize r.own[n].1 = m at *
      have i1 : ¬ ((n : Int) + 1 = 0) := by omega
      have i2 : ((n : Int) + 1 - 1) = (n : Int) := by omega
      clear hR hn hlt
      go_enter Tryd.func15, Tryd.ntmps15
      go_wp2_with fail
      go_quiet (fail)
      go_wp2
      go_ret
      exact ⟨rfl, by repeat (first | exact Below.refl _ _ | refine Below.drew ?_ | refine below_drewN ?_ _)⟩

end Go.Proofs.YtmbnimlibnheeabDoor
