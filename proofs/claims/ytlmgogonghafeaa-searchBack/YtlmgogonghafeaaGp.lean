/-
  Apply, of a deletion; of all that fits.
-/
import Derived.Test.YtlmgogonghafeaaGo
namespace Go.Proofs.Ytlmgogonghafeaa
open Go.RowKit Go.Lib
set_option linter.unusedVariables false

theorem take_some (x : Nat) (sz : Int) (β : Option Nat) (v : Value) (ps : List Pc) (pos : Nat) (w : World) (h : PcS w x sz β v ps) (hpos : pos < (txP ps).length) (hT : (txP ps).length ≤ 4096) :
    Calls Try.prog 41 #[.pointer (some ⟨x, 0, none⟩), .int .i64 pos] w fun e w' => e = .returned (.tuple #[]) ∧ PutR w w' x sz β ps ((txP ps).take pos ++ (txP ps).drop (pos + 1)) := by
  cases ps with
  | nil => simp [txP] at hpos
  | cons q ps =>
    cases β with
    | none =>
      obtain ⟨-, h2⟩ := h.row
      cases h2
    | some g => exact take_any x g sz v (q :: ps) pos w h hpos hT (by simp)

set_option maxRecDepth 100000 in
set_option maxHeartbeats 2000000 in
theorem iapply_del (x : Nat) (O : Nat → Prop) (T : By) (p : Nat) (l s : Int) (w : World) (hI : IM w O x T) (hf : fitsP (T.length : Int) ⟨2, p, 0, l, s⟩ = 0) (hp : p < T.length) (hT : T.length ≤ 4096) :
    Calls Try.prog 20 #[.pointer (some ⟨x, 0, none⟩), .agg #[.int .i64 2, .int .i64 p, .int .u8 0, .int .i64 l, .int .i64 s]] w fun e w' => e = .returned (.int .i64 0) ∧ ApR w w' O x (T.take p ++ T.drop (p + 1)) := by
  have CF := hd (fun W => fits_any (T.length : Int) 2 p 0 l s W (by omega) (by omega))
  simp only [hf] at CF
  obtain ⟨β, v, ps, h1, h2, h3⟩ := hI
  have CP : Hid (∀ W, Below w.heap.size w W → Calls Try.prog 41 #[.pointer (some ⟨x, 0, none⟩), .int .i64 p] W fun e w' => e = .returned (.tuple #[]) ∧ PutR W w' x (T.length : Int) β ps (T.take p ++ T.drop (p + 1))) := by
    intro W b
    have := take_some x (T.length : Int) β v ps p W (h1.fr (Fr.of_below (S := fun _ => False) b) (fun _ _ h => h)) (by rw [h2]; exact hp) (by rw [h2]; omega)
    rw [h2] at this
    exact this
  have H1 := hd h1
  have H3 := hd h3
  have HL : Hid (((T.length : Nat) : Int) - 1 = (((T.take p ++ T.drop (p + 1)).length : Nat) : Int)) := by
    show _ = _
    simp
    omega
  have hw1 : IntKind.i64.wrap ((T.length : Int) - 1) = (T.length : Int) - 1 := by rw [IntKind.wrap_i64]; omega
  obtain ⟨W1, hW1⟩ : ∃ W1, w.alloc (.cells #[.int .i64 2, .int .i64 p, .int .u8 0, .int .i64 l, .int .i64 s] 39) = W1 := ⟨_, rfl⟩
  have b1 : Below w.heap.size w W1 := by rw [← hW1]; exact (Below.refl _ _).alloc (Nat.le_refl _) _
  have hn : W1.heap[w.heap.size]? = some (.cells #[.int .i64 2, .int .i64 p, .int .u8 0, .int .i64 l, .int .i64 s] 39 (0, 0)) := by rw [← hW1]; exact heap_alloc_new w _
  have hx1 := (b1.block x (block_lt h1.idx)).trans h1.idx
  have c1 : W1.cell? ⟨x, 1, none⟩ = some (.int .i64 (T.length : Int)) := by have := cell_row hx1 1; simpa using this
  have n0 : W1.cell? ⟨w.heap.size, 0, none⟩ = some (.int .i64 2) := by have := cell_row hn 0; simpa using this
  have n1 : W1.cell? ⟨w.heap.size, 1, none⟩ = some (.int .i64 p) := by have := cell_row hn 1; simpa using this
  have n2 : W1.cell? ⟨w.heap.size, 2, none⟩ = some (.int .u8 0) := by have := cell_row hn 2; simpa using this
  have n3 : W1.cell? ⟨w.heap.size, 3, none⟩ = some (.int .i64 l) := by have := cell_row hn 3; simpa using this
  have n4 : W1.cell? ⟨w.heap.size, 4, none⟩ = some (.int .i64 s) := by have := cell_row hn 4; simpa using this
  have HYtlmgogonghafeaa := hd hn
  have B1 := hd b1
  clear b1 hn h1 h2 h3 hf hp hT hx1
  go_enter Try.func20, Try.ntmps20
  go_upto_region 1 with fail
  clear hW1
  go_region_with (go_at_call 38; refine (CF.out _).mono ?_; rintro e2 w2 ⟨rfl, b2⟩)
  all_goals
    have b3 : Below W1.heap.size W1 w2 := (below_drew W1).trans b2
    have B2 : Hid (Below w.heap.size w w2) := B1.out.trans (b3.mono B1.out.size)
    have hn2 := (b3.block _ (block_lt HYtlmgogonghafeaa.out)).trans HYtlmgogonghafeaa.out
    have m0 : w2.cell? ⟨w.heap.size, 0, none⟩ = some (.int .i64 2) := by have := cell_row hn2 0; simpa using this
    have m1 : w2.drew.cell? ⟨w.heap.size, 1, none⟩ = some (.int .i64 p) := by have := cell_row hn2 1; simpa using this
    clear b3 hn2 b2
    go_wp2_with fail
    go_region_with (go_at_call 41; refine (CP.out w2.drew (B2.out.trans ((below_drew _).mono B2.out.size))).mono ?_; rintro e3 W3 ⟨rfl, hP⟩)
    all_goals
      have HP := hd hP
      obtain ⟨β', v', ps', q1, -⟩ := hP
      have i1 : W3.cell? ⟨x, 1, none⟩ = some (.int .i64 (T.length : Int)) := by have := cell_row q1.idx 1; simpa using this
      have f1 : W3.frozen? ⟨x, 1, none⟩ = false := frozen_row q1.idx 1
      clear q1
      go_wp2
      go_ret
      exact ⟨rfl, ap_done H1.out H3.out (B2.out.trans ((below_drew _).mono B2.out.size)) HP.out _ HL.out⟩

theorem holdP_del {c : Int} (h : holdP 2 c = true) : c = 0 := by
  unfold holdP at h
  rw [if_neg (by decide)] at h
  exact of_decide_eq_true h
theorem validP_ch {o : OpE} (h : validP o = 0) (hk : o.kind = 2) : o.ch = 0 := by
  unfold validP at h
  have hh : holdP o.kind o.ch = true := by
    cases hc : holdP o.kind o.ch with
    | true => rfl
    | false =>
      exfalso
      simp only [hc] at h
      repeat' split at h
      all_goals simp_all
  rw [hk] at hh
  exact holdP_del hh
theorem IM.len {w : World} {O : Nat → Prop} {x : Nat} {T : By} (h : IM w O x T) : w.heap[x]? ≠ none := by
  obtain ⟨β, v, ps, h1, -⟩ := h
  rw [h1.idx]
  simp

/-- Apply of what fits. -/
theorem iapply_good (x : Nat) (O : Nat → Prop) (T : By) (k p c l s : Int) (w : World) (hI : IM w O x T) (h0 : 0 ≤ c) (h1 : c ≤ 255) (hf : fitsP (T.length : Int) ⟨k, p, c, l, s⟩ = 0) :
    Calls Try.prog 20 #[.pointer (some ⟨x, 0, none⟩), .agg #[.int .i64 k, .int .i64 p, .int .u8 c, .int .i64 l, .int .i64 s]] w fun e w' => e = .returned (.int .i64 0) ∧ ApR w w' O x (apT T ⟨k, p, c, l, s⟩) := by
  obtain ⟨hv, hn0, hn1, hk, hp0⟩ := fitsP_zero hf
  simp only at hk hp0
  obtain ⟨b, rfl⟩ : ∃ b : UInt8, c = ((b.toNat : Nat) : Int) := ⟨UInt8.ofNat c.toNat, by
    rw [UInt8.toNat_ofNat']
    omega⟩
  obtain ⟨q, rfl⟩ : ∃ q : Nat, p = (q : Int) := ⟨p.toNat, by omega⟩
  rcases hk with rfl | ⟨rfl, h2, h3⟩ | ⟨rfl, h2⟩
  · refine (iapply_nop x T q _ l s w hI.ix h0 h1 hf).mono ?_
    rintro e w' ⟨rfl, hb⟩
    exact ⟨rfl, ApR.of_below hI hb⟩
  · refine (iapply_ins x O T q b l s w hI hf (by omega) (by omega)).mono ?_
    rintro e w' ⟨rfl, hA⟩
    refine ⟨rfl, ?_⟩
    have e1 : apT T ⟨1, q, ((b.toNat : Nat) : Int), l, s⟩ = T.take q ++ b :: T.drop q := by simp [apT]
    rw [e1]
    exact hA
  · have hb : ((b.toNat : Nat) : Int) = 0 := validP_ch hv rfl
    rw [hb] at hf ⊢
    refine (iapply_del x O T q l s w hI hf (by omega) (by omega)).mono ?_
    rintro e w' ⟨rfl, hA⟩
    refine ⟨rfl, ?_⟩
    have e1 : apT T ⟨2, q, 0, l, s⟩ = T.take q ++ T.drop (q + 1) := by simp [apT]
    rw [e1]
    exact hA

/-- The text of what the document's operation leaves. -/
theorem tB_apply (xs : List El) (o : OpE) : tB (applyP xs o) = apT (tB xs) o := by
  unfold applyP apT tB
  split
  · simp
  · split
    · simp
    · rfl
end Go.Proofs.Ytlmgogonghafeaa
