/-
  Texts put together: Go Gp Gq.
-/
import Derived.Test.YtlmgogonghafeabGn
import Derived.Test.YtlmgogonghafeabSq
import Derived.Test.YtlmgogonghafeabGf
/-! Go -/
namespace Go.Proofs.Ytlmgogonghafeab
open Go.RowKit Go.Lib
set_option linter.unusedVariables false

theorem PcS.size {w : World} {x : Nat} {sz sz' : Int} {β : Option Nat} {v : Value} {ps : List Pc} (h : PcS w x sz β v ps) : PcS (w.setCell ⟨x, 1, none⟩ (.int .i64 sz')) x sz' β v ps := by
  have F : Fr (· = x) w (w.setCell ⟨x, 1, none⟩ (.int .i64 sz')) := Fr.setCell _ _ _ rfl
  have hb : ∀ g, β = some g → g ≠ x := by
    intro g hg e
    obtain ⟨cs, hc⟩ := SF.tyB h.row g hg
    rw [e] at hc
    have := obj_ty h.idx hc
    simp at this
  have hp : ∀ q ∈ ps, q.b ≠ x := by
    intro q hq e
    obtain ⟨cs, f, hc⟩ := (h.all q hq).ty
    rw [e] at hc
    have := obj_ty h.idx hc
    simp at this
  refine ⟨?_, h.row.fr F hb, fun q hq => (h.all q hq).fr F (hp q hq), h.long, h.two⟩
  have := set_row h.idx 1 (.int .i64 sz')
  simpa using this

/-- What Apply leaves: the index holds T', of its own blocks and new ones. -/
def ApR (w w' : World) (O : Nat → Prop) (x : Nat) (T' : By) : Prop := IM w' (fun k => O k ∨ (w.heap.size ≤ k ∧ k < w'.heap.size)) x T' ∧ Fr (fun k => O k ∧ tyI w k) w w'
theorem ApR.of_below {w w' : World} {O : Nat → Prop} {x : Nat} {T : By} (h : IM w O x T) (hb : Below w.heap.size w w') : ApR w w' O x T :=
  ⟨(h.below hb).more (fun k _ hk => .inl hk), Fr.of_below hb⟩

/-- Put or take, and the count, behind a world that is only longer. -/
theorem ap_done {w W W3 : World} {O : Nat → Prop} {x : Nat} {β : Option Nat} {v : Value} {ps : List Pc} {sz : Int} {T' : By} (h : PcS w x sz β v ps) (hO : ∀ k, Ow x β ps k → O k) (b : Below w.heap.size w W) (hP : PutR W W3 x sz β ps T') (sz' : Int) (hs : sz' = ((T'.length : Nat) : Int)) :
    ApR w (W3.setCell ⟨x, 1, none⟩ (.int .i64 sz')) O x T' := by
  obtain ⟨β', v', ps', h1, h2, h3, h4⟩ := hP
  have F1 : Fr (fun _ => False) w W := Fr.of_below b
  have hsz := b.size
  have hsz3 := h3.size
  have F4 : Fr (· = x) W3 (W3.setCell ⟨x, 1, none⟩ (.int .i64 sz')) := Fr.setCell _ _ _ rfl
  have hty := h.own_ty
  have hlt := h.own_lt
  refine ⟨⟨β', v', ps', by rw [← hs]; exact h1.size, h2, fun k hk => ?_⟩, ?_⟩
  · have hk3 := h1.own_lt k hk
    rcases h4 k hk with h5 | h5
    · exact .inl (hO k h5)
    · exact .inr ⟨by omega, Nat.lt_of_lt_of_le hk3 F4.size⟩
  · refine (F1.mono (fun _ _ h => h.elim)).next (S' := fun k => Ow x β ps k) (h3.trans (F4.mono (fun k _ hk => .inl hk))) (fun k _ hk => ⟨hO k hk, hty k hk⟩)

theorem put_any (x : Nat) (sz : Int) (β : Option Nat) (v : Value) (ps : List Pc) (pos : Nat) (c : UInt8) (w : World) (h : PcS w x sz β v ps) (hpos : pos ≤ (txP ps).length) (hT : (txP ps).length ≤ 4096) :
    Calls Try.prog 22 #[.pointer (some ⟨x, 0, none⟩), .int .i64 pos, ub c] w fun e w' => e = .returned (.tuple #[]) ∧ PutR w w' x sz β ps ((txP ps).take pos ++ c :: (txP ps).drop pos) := by
  cases ps with
  | nil =>
    have e : (txP []).take pos ++ c :: (txP []).drop pos = [c] := by simp [txP]
    rw [e]
    exact put_nil x sz β v pos c w h
  | cons q ps =>
    cases β with
    | none =>
      obtain ⟨-, h2⟩ := h.row
      cases h2
    | some g => exact put_some x g sz v (q :: ps) pos c w h hpos hT (by simp)

set_option maxRecDepth 100000 in
set_option maxHeartbeats 2000000 in
theorem iapply_ins (x : Nat) (O : Nat → Prop) (T : By) (p : Nat) (c : UInt8) (l s : Int) (w : World) (hI : IM w O x T) (hf : fitsP (T.length : Int) ⟨1, p, ((c.toNat : Nat) : Int), l, s⟩ = 0) (hp : p ≤ T.length) (hT : T.length < 4096) :
    Calls Try.prog 8 #[.pointer (some ⟨x, 0, none⟩), .agg #[.int .i64 1, .int .i64 p, .int .u8 ((c.toNat : Nat) : Int), .int .i64 l, .int .i64 s]] w fun e w' => e = .returned (.int .i64 0) ∧ ApR w w' O x (T.take p ++ c :: T.drop p) := by
  have hc8 : c.toNat < 256 := c.toNat_lt
  have CF := hd (fun W => fits_any (T.length : Int) 1 p ((c.toNat : Nat) : Int) l s W (by omega) (by omega))
  simp only [hf] at CF
  obtain ⟨β, v, ps, h1, h2, h3⟩ := hI
  have CP : Hid (∀ W, Below w.heap.size w W → Calls Try.prog 22 #[.pointer (some ⟨x, 0, none⟩), .int .i64 p, .int .u8 ((c.toNat : Nat) : Int)] W fun e w' => e = .returned (.tuple #[]) ∧ PutR W w' x (T.length : Int) β ps (T.take p ++ c :: T.drop p)) := by
    intro W b
    have := put_any x (T.length : Int) β v ps p c W (h1.fr (Fr.of_below (S := fun _ => False) b) (fun _ _ h => h)) (by rw [h2]; exact hp) (by rw [h2]; omega)
    rw [h2] at this
    exact this
  have H1 := hd h1
  have H3 := hd h3
  have HL : Hid (((T.length : Nat) : Int) + 1 = (((T.take p ++ c :: T.drop p).length : Nat) : Int)) := by
    show _ = _
    simp
    omega
  have hw1 : IntKind.i64.wrap ((T.length : Int) + 1) = (T.length : Int) + 1 := by rw [IntKind.wrap_i64]; omega
  obtain ⟨W1, hW1⟩ : ∃ W1, w.alloc (.cells #[.int .i64 1, .int .i64 p, .int .u8 ((c.toNat : Nat) : Int), .int .i64 l, .int .i64 s] 32) = W1 := ⟨_, rfl⟩
  have b1 : Below w.heap.size w W1 := by rw [← hW1]; exact (Below.refl _ _).alloc (Nat.le_refl _) _
  have hn : W1.heap[w.heap.size]? = some (.cells #[.int .i64 1, .int .i64 p, .int .u8 ((c.toNat : Nat) : Int), .int .i64 l, .int .i64 s] 32 (0, 0)) := by rw [← hW1]; exact heap_alloc_new w _
  have hx1 := (b1.block x (block_lt h1.idx)).trans h1.idx
  have c1 : W1.cell? ⟨x, 1, none⟩ = some (.int .i64 (T.length : Int)) := by have := cell_row hx1 1; simpa using this
  have n0 : W1.cell? ⟨w.heap.size, 0, none⟩ = some (.int .i64 1) := by have := cell_row hn 0; simpa using this
  have n1 : W1.cell? ⟨w.heap.size, 1, none⟩ = some (.int .i64 p) := by have := cell_row hn 1; simpa using this
  have n2 : W1.cell? ⟨w.heap.size, 2, none⟩ = some (.int .u8 ((c.toNat : Nat) : Int)) := by have := cell_row hn 2; simpa using this
  have n3 : W1.cell? ⟨w.heap.size, 3, none⟩ = some (.int .i64 l) := by have := cell_row hn 3; simpa using this
  have n4 : W1.cell? ⟨w.heap.size, 4, none⟩ = some (.int .i64 s) := by have := cell_row hn 4; simpa using this
  have HYtlmgogonghafeab := hd hn
  have B1 := hd b1
  clear b1 hn h1 h2 h3 hf hp hT hx1
  go_enter Try.func8, Try.ntmps8
  go_upto_region 1 with fail
  clear hW1
  go_region_with (go_at_call 21; refine (CF.out _).mono ?_; rintro e2 w2 ⟨rfl, b2⟩)
  all_goals
    have b3 : Below W1.heap.size W1 w2 := (below_drew W1).trans b2
    have B2 : Hid (Below w.heap.size w w2) := B1.out.trans (b3.mono B1.out.size)
    have hn2 := (b3.block _ (block_lt HYtlmgogonghafeab.out)).trans HYtlmgogonghafeab.out
    have m0 : w2.cell? ⟨w.heap.size, 0, none⟩ = some (.int .i64 1) := by have := cell_row hn2 0; simpa using this
    have m1 : w2.drew.cell? ⟨w.heap.size, 1, none⟩ = some (.int .i64 p) := by have := cell_row hn2 1; simpa using this
    have m2 : w2.drew.cell? ⟨w.heap.size, 2, none⟩ = some (.int .u8 ((c.toNat : Nat) : Int)) := by have := cell_row hn2 2; simpa using this
    clear b3 hn2 b2
    go_wp2_with fail
    go_region_with (go_at_call 22; refine (CP.out w2.drew (B2.out.trans ((below_drew _).mono B2.out.size))).mono ?_; rintro e3 W3 ⟨rfl, hP⟩)
    all_goals
      have HP := hd hP
      obtain ⟨β', v', ps', q1, -⟩ := hP
      have i1 : W3.cell? ⟨x, 1, none⟩ = some (.int .i64 (T.length : Int)) := by have := cell_row q1.idx 1; simpa using this
      have f1 : W3.frozen? ⟨x, 1, none⟩ = false := frozen_row q1.idx 1
      clear q1
      go_wp2
      go_ret
      exact ⟨rfl, ap_done H1.out H3.out (B2.out.trans ((below_drew _).mono B2.out.size)) HP.out _ HL.out⟩
end Go.Proofs.Ytlmgogonghafeab

/-! Gp -/
namespace Go.Proofs.Ytlmgogonghafeab
open Go.RowKit Go.Lib
set_option linter.unusedVariables false

theorem take_some (x : Nat) (sz : Int) (β : Option Nat) (v : Value) (ps : List Pc) (pos : Nat) (w : World) (h : PcS w x sz β v ps) (hpos : pos < (txP ps).length) (hT : (txP ps).length ≤ 4096) :
    Calls Try.prog 23 #[.pointer (some ⟨x, 0, none⟩), .int .i64 pos] w fun e w' => e = .returned (.tuple #[]) ∧ PutR w w' x sz β ps ((txP ps).take pos ++ (txP ps).drop (pos + 1)) := by
  cases ps with
  | nil => simp [txP] at hpos
  | cons q ps =>
    cases β with
    | none =>
      obtain ⟨-, h2⟩ := h.row
      cases h2
    | some g => exact take_any x g sz v (q :: ps) pos w h hpos hT (by simp)

set_option maxRecDepth 100000 in
set_option maxHeartbeats 2000000 in
theorem iapply_del (x : Nat) (O : Nat → Prop) (T : By) (p : Nat) (l s : Int) (w : World) (hI : IM w O x T) (hf : fitsP (T.length : Int) ⟨2, p, 0, l, s⟩ = 0) (hp : p < T.length) (hT : T.length ≤ 4096) :
    Calls Try.prog 8 #[.pointer (some ⟨x, 0, none⟩), .agg #[.int .i64 2, .int .i64 p, .int .u8 0, .int .i64 l, .int .i64 s]] w fun e w' => e = .returned (.int .i64 0) ∧ ApR w w' O x (T.take p ++ T.drop (p + 1)) := by
  have CF := hd (fun W => fits_any (T.length : Int) 2 p 0 l s W (by omega) (by omega))
  simp only [hf] at CF
  obtain ⟨β, v, ps, h1, h2, h3⟩ := hI
  have CP : Hid (∀ W, Below w.heap.size w W → Calls Try.prog 23 #[.pointer (some ⟨x, 0, none⟩), .int .i64 p] W fun e w' => e = .returned (.tuple #[]) ∧ PutR W w' x (T.length : Int) β ps (T.take p ++ T.drop (p + 1))) := by
    intro W b
    have := take_some x (T.length : Int) β v ps p W (h1.fr (Fr.of_below (S := fun _ => False) b) (fun _ _ h => h)) (by rw [h2]; exact hp) (by rw [h2]; omega)
    rw [h2] at this
    exact this
  have H1 := hd h1
  have H3 := hd h3
  have HL : Hid (((T.length : Nat) : Int) - 1 = (((T.take p ++ T.drop (p + 1)).length : Nat) : Int)) := by
    show _ = _
    simp
    omega
  have hw1 : IntKind.i64.wrap ((T.length : Int) - 1) = (T.length : Int) - 1 := by rw [IntKind.wrap_i64]; omega
  obtain ⟨W1, hW1⟩ : ∃ W1, w.alloc (.cells #[.int .i64 2, .int .i64 p, .int .u8 0, .int .i64 l, .int .i64 s] 32) = W1 := ⟨_, rfl⟩
  have b1 : Below w.heap.size w W1 := by rw [← hW1]; exact (Below.refl _ _).alloc (Nat.le_refl _) _
  have hn : W1.heap[w.heap.size]? = some (.cells #[.int .i64 2, .int .i64 p, .int .u8 0, .int .i64 l, .int .i64 s] 32 (0, 0)) := by rw [← hW1]; exact heap_alloc_new w _
  have hx1 := (b1.block x (block_lt h1.idx)).trans h1.idx
  have c1 : W1.cell? ⟨x, 1, none⟩ = some (.int .i64 (T.length : Int)) := by have := cell_row hx1 1; simpa using this
  have n0 : W1.cell? ⟨w.heap.size, 0, none⟩ = some (.int .i64 2) := by have := cell_row hn 0; simpa using this
  have n1 : W1.cell? ⟨w.heap.size, 1, none⟩ = some (.int .i64 p) := by have := cell_row hn 1; simpa using this
  have n2 : W1.cell? ⟨w.heap.size, 2, none⟩ = some (.int .u8 0) := by have := cell_row hn 2; simpa using this
  have n3 : W1.cell? ⟨w.heap.size, 3, none⟩ = some (.int .i64 l) := by have := cell_row hn 3; simpa using this
  have n4 : W1.cell? ⟨w.heap.size, 4, none⟩ = some (.int .i64 s) := by have := cell_row hn 4; simpa using this
  have HYtlmgogonghafeab := hd hn
  have B1 := hd b1
  clear b1 hn h1 h2 h3 hf hp hT hx1
  go_enter Try.func8, Try.ntmps8
  go_upto_region 1 with fail
  clear hW1
  go_region_with (go_at_call 21; refine (CF.out _).mono ?_; rintro e2 w2 ⟨rfl, b2⟩)
  all_goals
    have b3 : Below W1.heap.size W1 w2 := (below_drew W1).trans b2
    have B2 : Hid (Below w.heap.size w w2) := B1.out.trans (b3.mono B1.out.size)
    have hn2 := (b3.block _ (block_lt HYtlmgogonghafeab.out)).trans HYtlmgogonghafeab.out
    have m0 : w2.cell? ⟨w.heap.size, 0, none⟩ = some (.int .i64 2) := by have := cell_row hn2 0; simpa using this
    have m1 : w2.drew.cell? ⟨w.heap.size, 1, none⟩ = some (.int .i64 p) := by have := cell_row hn2 1; simpa using this
    clear b3 hn2 b2
    go_wp2_with fail
    go_region_with (go_at_call 23; refine (CP.out w2.drew (B2.out.trans ((below_drew _).mono B2.out.size))).mono ?_; rintro e3 W3 ⟨rfl, hP⟩)
    all_goals
      have HP := hd hP
      obtain ⟨β', v', ps', q1, -⟩ := hP
      have i1 : W3.cell? ⟨x, 1, none⟩ = some (.int .i64 (T.length : Int)) := by have := cell_row q1.idx 1; simpa using this
      have f1 : W3.frozen? ⟨x, 1, none⟩ = false := frozen_row q1.idx 1
      clear q1
      go_wp2
      go_ret
      exact ⟨rfl, ap_done H1.out H3.out (B2.out.trans ((below_drew _).mono B2.out.size)) HP.out _ HL.out⟩

theorem holdP_del {c : Int} (h : holdP 2 c = true) : c = 0 := by
  unfold holdP at h
  rw [if_neg (by decide)] at h
  exact of_decide_eq_true h
theorem validP_ch {o : OpE} (h : validP o = 0) (hk : o.kind = 2) : o.ch = 0 := by
  unfold validP at h
  have hh : holdP o.kind o.ch = true := by
    cases hc : holdP o.kind o.ch with
    | true => rfl
    | false =>
      exfalso
      simp only [hc] at h
      repeat' split at h
      all_goals simp_all
  rw [hk] at hh
  exact holdP_del hh
theorem IM.len {w : World} {O : Nat → Prop} {x : Nat} {T : By} (h : IM w O x T) : w.heap[x]? ≠ none := by
  obtain ⟨β, v, ps, h1, -⟩ := h
  rw [h1.idx]
  simp

/-- Apply of what fits. -/
theorem iapply_good (x : Nat) (O : Nat → Prop) (T : By) (k p c l s : Int) (w : World) (hI : IM w O x T) (h0 : 0 ≤ c) (h1 : c ≤ 255) (hf : fitsP (T.length : Int) ⟨k, p, c, l, s⟩ = 0) :
    Calls Try.prog 8 #[.pointer (some ⟨x, 0, none⟩), .agg #[.int .i64 k, .int .i64 p, .int .u8 c, .int .i64 l, .int .i64 s]] w fun e w' => e = .returned (.int .i64 0) ∧ ApR w w' O x (apT T ⟨k, p, c, l, s⟩) := by
  obtain ⟨hv, hn0, hn1, hk, hp0⟩ := fitsP_zero hf
  simp only at hk hp0
  obtain ⟨b, rfl⟩ : ∃ b : UInt8, c = ((b.toNat : Nat) : Int) := ⟨UInt8.ofNat c.toNat, by
    rw [UInt8.toNat_ofNat']
    omega⟩
  obtain ⟨q, rfl⟩ : ∃ q : Nat, p = (q : Int) := ⟨p.toNat, by omega⟩
  rcases hk with rfl | ⟨rfl, h2, h3⟩ | ⟨rfl, h2⟩
  · refine (iapply_nop x T q _ l s w hI.ix h0 h1 hf).mono ?_
    rintro e w' ⟨rfl, hb⟩
    exact ⟨rfl, ApR.of_below hI hb⟩
  · refine (iapply_ins x O T q b l s w hI hf (by omega) (by omega)).mono ?_
    rintro e w' ⟨rfl, hA⟩
    refine ⟨rfl, ?_⟩
    have e1 : apT T ⟨1, q, ((b.toNat : Nat) : Int), l, s⟩ = T.take q ++ b :: T.drop q := by simp [apT]
    rw [e1]
    exact hA
  · have hb : ((b.toNat : Nat) : Int) = 0 := validP_ch hv rfl
    rw [hb] at hf ⊢
    refine (iapply_del x O T q l s w hI hf (by omega) (by omega)).mono ?_
    rintro e w' ⟨rfl, hA⟩
    refine ⟨rfl, ?_⟩
    have e1 : apT T ⟨2, q, 0, l, s⟩ = T.take q ++ T.drop (q + 1) := by simp [apT]
    rw [e1]
    exact hA

/-- The text of what the document's operation leaves. -/
theorem tB_apply (xs : List El) (o : OpE) : tB (applyP xs o) = apT (tB xs) o := by
  unfold applyP apT tB
  split
  · simp
  · split
    · simp
    · rfl
end Go.Proofs.Ytlmgogonghafeab

/-! Gq -/
namespace Go.Proofs.Ytlmgogonghafeab
open Go.RowKit Go.Lib
set_option linter.unusedVariables false

/-- The pieces that lay makes are one's own. -/
theorem lay_own {w W : World} {g z k : Nat} {b : By} {v : Value} (h : LyS w g b z k v W) (hb : b.length ≤ 9000000000000000000) (hk : 128 * k ≤ b.length + 127) :
    ∃ β, SF pcv 1 W 35 β v (pcsG g b k) ∧ (∀ h, β = some h → w.heap.size ≤ h) ∧ (∀ q ∈ pcsG g b k, PcO W q ∧ (0 < q.bs.length ∧ q.bs.length ≤ 128) ∧ w.heap.size ≤ q.b) ∧ (pcsG g b k).Pairwise Aprt := by
  obtain ⟨β, h1, h2, h3, h4, h5⟩ := h
  refine ⟨β, h1, fun h hh => (h2 h hh).1, ?_, ?_⟩
  · intro q hq
    obtain ⟨j, hj, rfl⟩ := List.mem_map.1 hq
    have hj' : j < k := List.mem_range.1 hj
    have hlen : ((b.drop (128 * j)).take 128).length = min 128 (b.length - 128 * j) := by simp
    refine ⟨⟨(b.length + z, b.length + z + 1), (b.take (128 * j)).map ub, [], (b.drop (128 * j + 128)).map ub ++ List.replicate z (Value.int .u8 0), ⟨?_, ?_⟩, ?_, ?_, ?_⟩, ⟨?_, ?_⟩, h5⟩
    · show W.heap[g]? = _
      rw [h3]
      congr 3
      rw [List.nil_append, ← List.append_assoc, ← List.append_assoc]
      congr 1
      rw [← List.map_append, ← List.map_append]
      congr 1
      show b = b.take (128 * j) ++ (b.drop (128 * j)).take 128 ++ b.drop (128 * j + 128)
      rw [List.append_assoc, ← List.drop_drop, List.take_append_drop, List.take_append_drop]
    · right
      show _ ≤ b.length + z
      simp only [List.length_append, List.length_map, List.length_nil, List.length_replicate, List.length_drop]
      show (List.take (128 * j) b).length + (((b.drop (128 * j)).take 128).length + (0 + (b.length - (128 * j + 128) + z))) ≤ b.length + z
      rw [hlen, List.length_take]
      omega
    · show ((b.take (128 * j)).map ub).length = 128 * j
      simp
      omega
    · show ((b.drop (128 * j)).take 128).length + 0 = ((b.drop (128 * j)).take 128).length
      omega
    · show ((b.drop (128 * j)).take 128).length ≤ _
      omega
    · show 0 < ((b.drop (128 * j)).take 128).length
      omega
    · show ((b.drop (128 * j)).take 128).length ≤ 128
      omega
  · unfold pcsG
    rw [List.pairwise_map]
    refine List.Pairwise.imp (R := fun a b => a < b) ?_ List.pairwise_lt_range
    intro i j hij
    right
    left
    show 128 * i + ((b.drop (128 * i)).take 128).length ≤ 128 * j
    simp
    omega

set_option maxRecDepth 100000 in
set_option maxHeartbeats 4000000 in
theorem lay_mine (a : Option Addr) (n c : Nat) (xs : List El) (w : World) (hE : IsE w a n c xs) (hn : n * 24 ≤ 140737488351232) :
    Calls Try.prog 20 #[.slice a n c] w fun e w' => ∃ a' k c' ps β, e = .returned (.slice a' k c') ∧ SF pcv 1 w' 35 β (.slice a' k c') ps ∧ (∀ h, β = some h → w.heap.size ≤ h) ∧ (∀ q ∈ ps, PcO w' q ∧ (0 < q.bs.length ∧ q.bs.length ≤ 128) ∧ w.heap.size ≤ q.b) ∧ ps.Pairwise Aprt ∧ txP ps = tB xs ∧ Below w.heap.size w w' := by
  have CT := hd (text_any a n c xs w hE hn)
  have HL : Hid ((bsA (tB xs)).size = n ∧ (tB xs).length = n) := by
    have := hE.1
    rw [bsA_size]
    simp [tB, this, Hid]
  rw [bstr_tB] at CT
  have HN := hd hn
  clear hE hn
  go_enter Try.func20, Try.ntmps20
  go_wp2_with (go_at_call 6; refine CT.out.mono ?_; rintro e w1 ⟨rfl, hb1⟩)
  have hb1' := hd hb1
  have hcv := Go.Lib.run_convert_string_bytes (P := Try.prog) w1 9 35 5 (bsA (tB xs)) Try.underlying9 Try.underlying35 Try.underlying5
  have hg1 : (bsA (tB xs)).size ≤ grownCap w1 (bsA (tB xs)).size 0 5 := grownCap_ge w1 _ 0 5
  have hg2 : grownCap w1 (bsA (tB xs)).size 0 5 ≤ 9223372036854775807 := grownCap_le_maxLen w1 _ 0 5 (by unfold maxLen; have := HL.out.1; have := HN.out; omega)
  have R0 := bytes_row w1 (bsA (tB xs))
  have B0 := bytes_below w1 (bsA (tB xs))
  rw [bsA_list] at R0
  have hs := HL.out.1
  rw [hs] at hcv hg1 hg2 R0
  clear hs
  generalize grownCap w1 n 0 5 = G at *
  generalize bytesWorld w1 5 (bsA (tB xs)) = w2 at *
  have S0 : Hid (LyS w w1.heap.size (tB xs) (G - n) 0 (.slice none 0 0) w2) := ⟨none, ⟨rfl, rfl⟩, fun h hh => (by cases hh), R0, hb1.trans (B0.mono hb1.size), hb1.size⟩
  clear R0 B0 hb1 CT
  go_wp2_with (simp only [hcv])
  generalize w1.heap.size = g at *
  have hn63 : n ≤ 5864062014634 := by have := HN.out; omega
  have HG1 := hd hg1
  clear hcv hg1 hb1'
  go_loopw [3, 5] (fun v f wr => ∃ k F : Nat, 128 * k = F ∧ F ≤ n + 127 ∧ f = .int .i64 ((F : Nat) : Int) ∧ Hid (LyS w g (tB xs) (G - n) k v wr)) (fun _ f _ => n + 127 - (intOf f).toNat)
  case atStart => exact ⟨0, 0, rfl, by omega, rfl, S0⟩
  case round =>
    obtain ⟨k, F, hF, hFn, rfl, hS⟩ := hrel
    clear S0
    by_cases hlt : F < n
    · obtain ⟨t, ht⟩ : ∃ t, t = min (F + 128) n := ⟨_, rfl⟩
      obtain ⟨v', w', hrun, hS2⟩ := hS.out.push (by omega)
      have ev : (pcG g (tB xs) k).val = .slice (some ⟨g, F, none⟩) (t - F) (t - F) := by
        unfold pcG Pc.val
        have e : (((tB xs).drop (128 * k)).take 128).length = t - F := by
          rw [List.length_take, List.length_drop, HL.out.2]
          omega
        rw [hF] at e
        simp only [hF, e]
      rw [ev] at hrun
      have HS2 := hd hS2
      have HF := hd hF
      have h1 : F < t := by omega
      have h2 : t ≤ n := by omega
      have hne : ¬ F = t := by omega
      have h3 : t ≤ G := by have := HG1.out; omega
      have h4 : ((if (F : Int) + 128 ≤ (n : Int) then (F : Int) + 128 else (n : Int))) = (t : Int) := by split <;> omega
      clear ev hS hS2 hF
      by_cases hc : F + 128 ≤ n
      · have ht2 : t = F + 128 := by omega
        subst ht2
        have hc2 : (F : Int) + 128 ≤ (n : Int) := by omega
        rw [show F + 128 - F = 128 by omega] at hrun
        clear h4 ht
        go_wp2_with (at_builtin; refine wpList_append_k _ rfl _ _ 57 57 rfl _ _ rfl rfl (hrun _) ?_)
        exact ⟨⟨k + 1, F + 128, by have := HF.out; omega, by omega, by go_num, HS2⟩, by simp [intOf]; omega⟩
      · have ht2 : t = n := by omega
        subst ht2
        have hc2 : ¬ (F : Int) + 128 ≤ (t : Int) := by omega
        clear h4 ht
        go_wp2_with (at_builtin; refine wpList_append_k _ rfl _ _ 57 57 rfl _ _ rfl rfl (hrun _) ?_)
        exact ⟨⟨k + 1, F + 128, by have := HF.out; omega, by omega, by go_num, HS2⟩, by simp [intOf]; omega⟩
    · obtain ⟨a', c', hv, hP⟩ := hS.out.isP (by rw [HL.out.2]; omega) (by rw [HL.out.2]; omega)
      subst hv
      have HOW := hd (lay_own hS.out (by rw [HL.out.2]; omega) (by rw [HL.out.2]; omega))
      have Z : Hid (txP (pcsG g (tB xs) k) = tB xs ∧ Below w.heap.size w wr) := by
        obtain ⟨β, q1, q2, q3, q4, q5⟩ := hS.out
        exact ⟨by rw [pcsG_tx, hF, List.take_of_length_le (by rw [HL.out.2]; omega)], q4⟩
      clear hS hP
      go_wp2
      go_ret
      obtain ⟨β, o1, o2, o3, o4⟩ := HOW.out
      exact ⟨_, _, _, _, β, rfl, o1, o2, o3, o4, Z.out⟩

set_option maxRecDepth 100000 in
set_option maxHeartbeats 4000000 in
theorem new_own (a : Option Addr) (n c : Nat) (xs : List El) (w : World) (hE : IsE w a n c xs) (hn : n * 24 ≤ 140737488351232) :
    Calls Try.prog 7 #[.slice a n c] w fun e w' => ∃ x, e = .returned (.pointer (some ⟨x, 0, none⟩)) ∧ IM w' (fun k => w.heap.size ≤ k ∧ k < w'.heap.size) x (tB xs) ∧ w.heap.size ≤ x ∧ Below w.heap.size w w' := by
  have CL := hd (lay_mine a n c xs w hE hn)
  have HL : Hid ((tB xs).length = n) := by
    have := hE.1
    simp [tB, this, Hid]
  clear hE hn
  go_enter Try.func7, Try.ntmps7
  go_wp2_with (go_at_call 20; refine CL.out.mono ?_; rintro e w1 ⟨a', k, c', ps, β, rfl, hS, hβ, hP, hT2, hT, hb⟩)
  obtain ⟨W2, hW2⟩ : ∃ W2, W2 = w1.alloc (.cells #[.slice a' k c', .int .i64 ((n : Nat) : Int)] 60) := ⟨_, rfl⟩
  have Z : Hid (IM W2 (fun k => w.heap.size ≤ k ∧ k < W2.heap.size) w1.heap.size (tB xs) ∧ Below w.heap.size w W2) := by
    have b1 : Below w1.heap.size w1 W2 := by rw [hW2]; exact (Below.refl _ _).alloc (Nat.le_refl _) _
    have F1 : Fr (fun _ => False) w1 W2 := Fr.of_below b1
    have hidx : W2.heap[w1.heap.size]? = some (.cells #[.slice a' k c', .int .i64 ((tB xs).length : Int)] 60 (0, 0)) := by
      rw [hW2, HL.out]
      exact heap_alloc_new _ _
    refine ⟨⟨β, _, ps, ⟨hidx, hS.fr F1 (fun _ _ h => h), fun q hq => (hP q hq).1.fr F1 (fun h => h), fun q hq => (hP q hq).2.1, hT2⟩, hT, ?_⟩, hb.trans (b1.mono hb.size)⟩
    intro j hj
    have hlt : j < W2.heap.size := by
      have h0 : PcS W2 w1.heap.size ((tB xs).length : Int) β (.slice a' k c') ps := ⟨hidx, hS.fr F1 (fun _ _ h => h), fun q hq => (hP q hq).1.fr F1 (fun h => h), fun q hq => (hP q hq).2.1, hT2⟩
      exact h0.own_lt j hj
    refine ⟨?_, hlt⟩
    rcases hj with rfl | hj | ⟨q, hq, rfl⟩
    · exact hb.size
    · exact hβ j hj
    · exact (hP q hq).2.2
  subst hW2
  have hsz := hd hb.size
  clear hP hT hb CL hS hβ hT2
  go_wp2
  go_ret
  exact ⟨_, rfl, Z.out.1, hsz.out, Z.out.2⟩
end Go.Proofs.Ytlmgogonghafeab
