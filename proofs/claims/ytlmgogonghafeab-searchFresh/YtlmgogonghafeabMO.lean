/-
  Texts put together: Go Gp.
-/
import Derived.Test.YtlmgogonghafeabGn
import Derived.Test.YtlmgogonghafeabSq
/-! Go -/
namespace Go.Proofs.Ytlmgogonghafeab
open Go.RowKit Go.Lib
set_option linter.unusedVariables false

theorem PcS.size {w : World} {x : Nat} {sz sz' : Int} {β : Option Nat} {v : Value} {ps : List Pc} (h : PcS w x sz β v ps) : PcS (w.setCell ⟨x, 1, none⟩ (.int .i64 sz')) x sz' β v ps := by
  have F : Fr (· = x) w (w.setCell ⟨x, 1, none⟩ (.int .i64 sz')) := Fr.setCell _ _ _ rfl
  have hb : ∀ g, β = some g → g ≠ x := by
    intro g hg e
    obtain ⟨cs, hc⟩ := SF.tyB h.row g hg
    rw [e] at hc
    have := obj_ty h.idx hc
    simp at this
  have hp : ∀ q ∈ ps, q.b ≠ x := by
    intro q hq e
    obtain ⟨cs, f, hc⟩ := (h.all q hq).ty
    rw [e] at hc
    have := obj_ty h.idx hc
    simp at this
  refine ⟨?_, h.row.fr F hb, fun q hq => (h.all q hq).fr F (hp q hq), h.long, h.two⟩
  have := set_row h.idx 1 (.int .i64 sz')
  simpa using this

/-- What Apply leaves: the index holds T', of its own blocks and new ones. -/
def ApR (w w' : World) (O : Nat → Prop) (x : Nat) (T' : By) : Prop := IM w' (fun k => O k ∨ (w.heap.size ≤ k ∧ k < w'.heap.size)) x T' ∧ Fr (fun k => O k ∧ tyI w k) w w'
theorem ApR.of_below {w w' : World} {O : Nat → Prop} {x : Nat} {T : By} (h : IM w O x T) (hb : Below w.heap.size w w') : ApR w w' O x T :=
  ⟨(h.below hb).more (fun k _ hk => .inl hk), Fr.of_below hb⟩

/-- Put or take, and the count, behind a world that is only longer. -/
theorem ap_done {w W W3 : World} {O : Nat → Prop} {x : Nat} {β : Option Nat} {v : Value} {ps : List Pc} {sz : Int} {T' : By} (h : PcS w x sz β v ps) (hO : ∀ k, Ow x β ps k → O k) (b : Below w.heap.size w W) (hP : PutR W W3 x sz β ps T') (sz' : Int) (hs : sz' = ((T'.length : Nat) : Int)) :
    ApR w (W3.setCell ⟨x, 1, none⟩ (.int .i64 sz')) O x T' := by
  obtain ⟨β', v', ps', h1, h2, h3, h4⟩ := hP
  have F1 : Fr (fun _ => False) w W := Fr.of_below b
  have hsz := b.size
  have hsz3 := h3.size
  have F4 : Fr (· = x) W3 (W3.setCell ⟨x, 1, none⟩ (.int .i64 sz')) := Fr.setCell _ _ _ rfl
  have hty := h.own_ty
  have hlt := h.own_lt
  refine ⟨⟨β', v', ps', by rw [← hs]; exact h1.size, h2, fun k hk => ?_⟩, ?_⟩
  · have hk3 := h1.own_lt k hk
    rcases h4 k hk with h5 | h5
    · exact .inl (hO k h5)
    · exact .inr ⟨by omega, Nat.lt_of_lt_of_le hk3 F4.size⟩
  · refine (F1.mono (fun _ _ h => h.elim)).next (S' := fun k => Ow x β ps k) (h3.trans (F4.mono (fun k _ hk => .inl hk))) (fun k _ hk => ⟨hO k hk, hty k hk⟩)

theorem put_any (x : Nat) (sz : Int) (β : Option Nat) (v : Value) (ps : List Pc) (pos : Nat) (c : UInt8) (w : World) (h : PcS w x sz β v ps) (hpos : pos ≤ (txP ps).length) (hT : (txP ps).length ≤ 4096) :
    Calls Try.prog 22 #[.pointer (some ⟨x, 0, none⟩), .int .i64 pos, ub c] w fun e w' => e = .returned (.tuple #[]) ∧ PutR w w' x sz β ps ((txP ps).take pos ++ c :: (txP ps).drop pos) := by
  cases ps with
  | nil =>
    have e : (txP []).take pos ++ c :: (txP []).drop pos = [c] := by simp [txP]
    rw [e]
    exact put_nil x sz β v pos c w h
  | cons q ps =>
    cases β with
    | none =>
      obtain ⟨-, h2⟩ := h.row
      cases h2
    | some g => exact put_some x g sz v (q :: ps) pos c w h hpos hT (by simp)

set_option maxRecDepth 100000 in
set_option maxHeartbeats 2000000 in
theorem iapply_ins (x : Nat) (O : Nat → Prop) (T : By) (p : Nat) (c : UInt8) (l s : Int) (w : World) (hI : IM w O x T) (hf : fitsP (T.length : Int) ⟨1, p, ((c.toNat : Nat) : Int), l, s⟩ = 0) (hp : p ≤ T.length) (hT : T.length < 4096) :
    Calls Try.prog 8 #[.pointer (some ⟨x, 0, none⟩), .agg #[.int .i64 1, .int .i64 p, .int .u8 ((c.toNat : Nat) : Int), .int .i64 l, .int .i64 s]] w fun e w' => e = .returned (.int .i64 0) ∧ ApR w w' O x (T.take p ++ c :: T.drop p) := by
  have hc8 : c.toNat < 256 := c.toNat_lt
  have CF := hd (fun W => fits_any (T.length : Int) 1 p ((c.toNat : Nat) : Int) l s W (by omega) (by omega))
  simp only [hf] at CF
  obtain ⟨β, v, ps, h1, h2, h3⟩ := hI
  have CP : Hid (∀ W, Below w.heap.size w W → Calls Try.prog 22 #[.pointer (some ⟨x, 0, none⟩), .int .i64 p, .int .u8 ((c.toNat : Nat) : Int)] W fun e w' => e = .returned (.tuple #[]) ∧ PutR W w' x (T.length : Int) β ps (T.take p ++ c :: T.drop p)) := by
    intro W b
    have := put_any x (T.length : Int) β v ps p c W (h1.fr (Fr.of_below (S := fun _ => False) b) (fun _ _ h => h)) (by rw [h2]; exact hp) (by rw [h2]; omega)
    rw [h2] at this
    exact this
  have H1 := hd h1
  have H3 := hd h3
  have HL : Hid (((T.length : Nat) : Int) + 1 = (((T.take p ++ c :: T.drop p).length : Nat) : Int)) := by
    show _ = _
    simp
    omega
  have hw1 : IntKind.i64.wrap ((T.length : Int) + 1) = (T.length : Int) + 1 := by rw [IntKind.wrap_i64]; omega
  obtain ⟨W1, hW1⟩ : ∃ W1, w.alloc (.cells #[.int .i64 1, .int .i64 p, .int .u8 ((c.toNat : Nat) : Int), .int .i64 l, .int .i64 s] 32) = W1 := ⟨_, rfl⟩
  have b1 : Below w.heap.size w W1 := by rw [← hW1]; exact (Below.refl _ _).alloc (Nat.le_refl _) _
  have hn : W1.heap[w.heap.size]? = some (.cells #[.int .i64 1, .int .i64 p, .int .u8 ((c.toNat : Nat) : Int), .int .i64 l, .int .i64 s] 32 (0, 0)) := by rw [← hW1]; exact heap_alloc_new w _
  have hx1 := (b1.block x (block_lt h1.idx)).trans h1.idx
  have c1 : W1.cell? ⟨x, 1, none⟩ = some (.int .i64 (T.length : Int)) := by have := cell_row hx1 1; simpa using this
  have n0 : W1.cell? ⟨w.heap.size, 0, none⟩ = some (.int .i64 1) := by have := cell_row hn 0; simpa using this
  have n1 : W1.cell? ⟨w.heap.size, 1, none⟩ = some (.int .i64 p) := by have := cell_row hn 1; simpa using this
  have n2 : W1.cell? ⟨w.heap.size, 2, none⟩ = some (.int .u8 ((c.toNat : Nat) : Int)) := by have := cell_row hn 2; simpa using this
  have n3 : W1.cell? ⟨w.heap.size, 3, none⟩ = some (.int .i64 l) := by have := cell_row hn 3; simpa using this
  have n4 : W1.cell? ⟨w.heap.size, 4, none⟩ = some (.int .i64 s) := by have := cell_row hn 4; simpa using this
  have HYtlmgogonghafeab := hd hn
  have B1 := hd b1
  clear b1 hn h1 h2 h3 hf hp hT hx1
  go_enter Try.func8, Try.ntmps8
  go_upto_region 1 with fail
  clear hW1
  go_region_with (go_at_call 21; refine (CF.out _).mono ?_; rintro e2 w2 ⟨rfl, b2⟩)
  all_goals
    have b3 : Below W1.heap.size W1 w2 := (below_drew W1).trans b2
    have B2 : Hid (Below w.heap.size w w2) := B1.out.trans (b3.mono B1.out.size)
    have hn2 := (b3.block _ (block_lt HYtlmgogonghafeab.out)).trans HYtlmgogonghafeab.out
    have m0 : w2.cell? ⟨w.heap.size, 0, none⟩ = some (.int .i64 1) := by have := cell_row hn2 0; simpa using this
    have m1 : w2.drew.cell? ⟨w.heap.size, 1, none⟩ = some (.int .i64 p) := by have := cell_row hn2 1; simpa using this
    have m2 : w2.drew.cell? ⟨w.heap.size, 2, none⟩ = some (.int .u8 ((c.toNat : Nat) : Int)) := by have := cell_row hn2 2; simpa using this
    clear b3 hn2 b2
    go_wp2_with fail
    go_region_with (go_at_call 22; refine (CP.out w2.drew (B2.out.trans ((below_drew _).mono B2.out.size))).mono ?_; rintro e3 W3 ⟨rfl, hP⟩)
    all_goals
      have HP := hd hP
      obtain ⟨β', v', ps', q1, -⟩ := hP
      have i1 : W3.cell? ⟨x, 1, none⟩ = some (.int .i64 (T.length : Int)) := by have := cell_row q1.idx 1; simpa using this
      have f1 : W3.frozen? ⟨x, 1, none⟩ = false := frozen_row q1.idx 1
      clear q1
      go_wp2
      go_ret
      exact ⟨rfl, ap_done H1.out H3.out (B2.out.trans ((below_drew _).mono B2.out.size)) HP.out _ HL.out⟩
end Go.Proofs.Ytlmgogonghafeab

/-! Gp -/
namespace Go.Proofs.Ytlmgogonghafeab
open Go.RowKit Go.Lib
set_option linter.unusedVariables false

theorem take_some (x : Nat) (sz : Int) (β : Option Nat) (v : Value) (ps : List Pc) (pos : Nat) (w : World) (h : PcS w x sz β v ps) (hpos : pos < (txP ps).length) (hT : (txP ps).length ≤ 4096) :
    Calls Try.prog 23 #[.pointer (some ⟨x, 0, none⟩), .int .i64 pos] w fun e w' => e = .returned (.tuple #[]) ∧ PutR w w' x sz β ps ((txP ps).take pos ++ (txP ps).drop (pos + 1)) := by
  cases ps with
  | nil => simp [txP] at hpos
  | cons q ps =>
    cases β with
    | none =>
      obtain ⟨-, h2⟩ := h.row
      cases h2
    | some g => exact take_any x g sz v (q :: ps) pos w h hpos hT (by simp)

set_option maxRecDepth 100000 in
set_option maxHeartbeats 2000000 in
theorem iapply_del (x : Nat) (O : Nat → Prop) (T : By) (p : Nat) (l s : Int) (w : World) (hI : IM w O x T) (hf : fitsP (T.length : Int) ⟨2, p, 0, l, s⟩ = 0) (hp : p < T.length) (hT : T.length ≤ 4096) :
    Calls Try.prog 8 #[.pointer (some ⟨x, 0, none⟩), .agg #[.int .i64 2, .int .i64 p, .int .u8 0, .int .i64 l, .int .i64 s]] w fun e w' => e = .returned (.int .i64 0) ∧ ApR w w' O x (T.take p ++ T.drop (p + 1)) := by
  have CF := hd (fun W => fits_any (T.length : Int) 2 p 0 l s W (by omega) (by omega))
  simp only [hf] at CF
  obtain ⟨β, v, ps, h1, h2, h3⟩ := hI
  have CP : Hid (∀ W, Below w.heap.size w W → Calls Try.prog 23 #[.pointer (some ⟨x, 0, none⟩), .int .i64 p] W fun e w' => e = .returned (.tuple #[]) ∧ PutR W w' x (T.length : Int) β ps (T.take p ++ T.drop (p + 1))) := by
    intro W b
    have := take_some x (T.length : Int) β v ps p W (h1.fr (Fr.of_below (S := fun _ => False) b) (fun _ _ h => h)) (by rw [h2]; exact hp) (by rw [h2]; omega)
    rw [h2] at this
    exact this
  have H1 := hd h1
  have H3 := hd h3
  have HL : Hid (((T.length : Nat) : Int) - 1 = (((T.take p ++ T.drop (p + 1)).length : Nat) : Int)) := by
    show _ = _
    simp
    omega
  have hw1 : IntKind.i64.wrap ((T.length : Int) - 1) = (T.length : Int) - 1 := by rw [IntKind.wrap_i64]; omega
  obtain ⟨W1, hW1⟩ : ∃ W1, w.alloc (.cells #[.int .i64 2, .int .i64 p, .int .u8 0, .int .i64 l, .int .i64 s] 32) = W1 := ⟨_, rfl⟩
  have b1 : Below w.heap.size w W1 := by rw [← hW1]; exact (Below.refl _ _).alloc (Nat.le_refl _) _
  have hn : W1.heap[w.heap.size]? = some (.cells #[.int .i64 2, .int .i64 p, .int .u8 0, .int .i64 l, .int .i64 s] 32 (0, 0)) := by rw [← hW1]; exact heap_alloc_new w _
  have hx1 := (b1.block x (block_lt h1.idx)).trans h1.idx
  have c1 : W1.cell? ⟨x, 1, none⟩ = some (.int .i64 (T.length : Int)) := by have := cell_row hx1 1; simpa using this
  have n0 : W1.cell? ⟨w.heap.size, 0, none⟩ = some (.int .i64 2) := by have := cell_row hn 0; simpa using this
  have n1 : W1.cell? ⟨w.heap.size, 1, none⟩ = some (.int .i64 p) := by have := cell_row hn 1; simpa using this
  have n2 : W1.cell? ⟨w.heap.size, 2, none⟩ = some (.int .u8 0) := by have := cell_row hn 2; simpa using this
  have n3 : W1.cell? ⟨w.heap.size, 3, none⟩ = some (.int .i64 l) := by have := cell_row hn 3; simpa using this
  have n4 : W1.cell? ⟨w.heap.size, 4, none⟩ = some (.int .i64 s) := by have := cell_row hn 4; simpa using this
  have HYtlmgogonghafeab := hd hn
  have B1 := hd b1
  clear b1 hn h1 h2 h3 hf hp hT hx1
  go_enter Try.func8, Try.ntmps8
  go_upto_region 1 with fail
  clear hW1
  go_region_with (go_at_call 21; refine (CF.out _).mono ?_; rintro e2 w2 ⟨rfl, b2⟩)
  all_goals
    have b3 : Below W1.heap.size W1 w2 := (below_drew W1).trans b2
    have B2 : Hid (Below w.heap.size w w2) := B1.out.trans (b3.mono B1.out.size)
    have hn2 := (b3.block _ (block_lt HYtlmgogonghafeab.out)).trans HYtlmgogonghafeab.out
    have m0 : w2.cell? ⟨w.heap.size, 0, none⟩ = some (.int .i64 2) := by have := cell_row hn2 0; simpa using this
    have m1 : w2.drew.cell? ⟨w.heap.size, 1, none⟩ = some (.int .i64 p) := by have := cell_row hn2 1; simpa using this
    clear b3 hn2 b2
    go_wp2_with fail
    go_region_with (go_at_call 23; refine (CP.out w2.drew (B2.out.trans ((below_drew _).mono B2.out.size))).mono ?_; rintro e3 W3 ⟨rfl, hP⟩)
    all_goals
      have HP := hd hP
      obtain ⟨β', v', ps', q1, -⟩ := hP
      have i1 : W3.cell? ⟨x, 1, none⟩ = some (.int .i64 (T.length : Int)) := by have := cell_row q1.idx 1; simpa using this
      have f1 : W3.frozen? ⟨x, 1, none⟩ = false := frozen_row q1.idx 1
      clear q1
      go_wp2
      go_ret
      exact ⟨rfl, ap_done H1.out H3.out (B2.out.trans ((below_drew _).mono B2.out.size)) HP.out _ HL.out⟩

theorem holdP_del {c : Int} (h : holdP 2 c = true) : c = 0 := by
  unfold holdP at h
  rw [if_neg (by decide)] at h
  exact of_decide_eq_true h
theorem validP_ch {o : OpE} (h : validP o = 0) (hk : o.kind = 2) : o.ch = 0 := by
  unfold validP at h
  have hh : holdP o.kind o.ch = true := by
    cases hc : holdP o.kind o.ch with
    | true => rfl
    | false =>
      exfalso
      simp only [hc] at h
      repeat' split at h
      all_goals simp_all
  rw [hk] at hh
  exact holdP_del hh
theorem IM.len {w : World} {O : Nat → Prop} {x : Nat} {T : By} (h : IM w O x T) : w.heap[x]? ≠ none := by
  obtain ⟨β, v, ps, h1, -⟩ := h
  rw [h1.idx]
  simp

/-- Apply of what fits. -/
theorem iapply_good (x : Nat) (O : Nat → Prop) (T : By) (k p c l s : Int) (w : World) (hI : IM w O x T) (h0 : 0 ≤ c) (h1 : c ≤ 255) (hf : fitsP (T.length : Int) ⟨k, p, c, l, s⟩ = 0) :
    Calls Try.prog 8 #[.pointer (some ⟨x, 0, none⟩), .agg #[.int .i64 k, .int .i64 p, .int .u8 c, .int .i64 l, .int .i64 s]] w fun e w' => e = .returned (.int .i64 0) ∧ ApR w w' O x (apT T ⟨k, p, c, l, s⟩) := by
  obtain ⟨hv, hn0, hn1, hk, hp0⟩ := fitsP_zero hf
  simp only at hk hp0
  obtain ⟨b, rfl⟩ : ∃ b : UInt8, c = ((b.toNat : Nat) : Int) := ⟨UInt8.ofNat c.toNat, by
    rw [UInt8.toNat_ofNat']
    omega⟩
  obtain ⟨q, rfl⟩ : ∃ q : Nat, p = (q : Int) := ⟨p.toNat, by omega⟩
  rcases hk with rfl | ⟨rfl, h2, h3⟩ | ⟨rfl, h2⟩
  · refine (iapply_nop x T q _ l s w hI.ix h0 h1 hf).mono ?_
    rintro e w' ⟨rfl, hb⟩
    exact ⟨rfl, ApR.of_below hI hb⟩
  · refine (iapply_ins x O T q b l s w hI hf (by omega) (by omega)).mono ?_
    rintro e w' ⟨rfl, hA⟩
    refine ⟨rfl, ?_⟩
    have e1 : apT T ⟨1, q, ((b.toNat : Nat) : Int), l, s⟩ = T.take q ++ b :: T.drop q := by simp [apT]
    rw [e1]
    exact hA
  · have hb : ((b.toNat : Nat) : Int) = 0 := validP_ch hv rfl
    rw [hb] at hf ⊢
    refine (iapply_del x O T q l s w hI hf (by omega) (by omega)).mono ?_
    rintro e w' ⟨rfl, hA⟩
    refine ⟨rfl, ?_⟩
    have e1 : apT T ⟨2, q, 0, l, s⟩ = T.take q ++ T.drop (q + 1) := by simp [apT]
    rw [e1]
    exact hA

/-- The text of what the document's operation leaves. -/
theorem tB_apply (xs : List El) (o : OpE) : tB (applyP xs o) = apT (tB xs) o := by
  unfold applyP apT tB
  split
  · simp
  · split
    · simp
    · rfl
end Go.Proofs.Ytlmgogonghafeab
