/-
  Texts put together: TChg TApp Rows2 RAt RApp.
-/
import Derived.Test.YtfhghijefjhehaaGreatDoorMIq
import Derived.Test.YtfhghijefjhehaaGreatDoorVb
import Derived.Laws.NewDeep
import Derived.Test.YtfhghijefjhehaaGreatDoorVc
/-! TChg -/
namespace Go.Proofs.YtfhghijefjhehaaGreatDoor
open Go.RowKit Go.Lib
set_option linter.unusedVariables false

/-- The text behind an operation that fits. -/
def applyP (xs : List El) (o : OpE) : List El :=
  if o.kind = 1 then xs.take o.pos.toNat ++ @List.cons El (o.ch, o.cl, o.sq) (xs.drop o.pos.toNat)
  else if o.kind = 2 then xs.take o.pos.toNat ++ xs.drop (o.pos.toNat + 1)
  else xs

theorem NowE.base {w w1 w2 : World} {β : Option Nat} {v : Value} {ys : List El} (hN : NowE w1 w2 β v ys) (hb : Below w.heap.size w w1) (hβ : ∀ g, β = some g → g < w.heap.size) : NowE w w2 β v ys := by
  obtain ⟨β', h1, h2, h3⟩ := hN
  refine ⟨β', h1, ?_, (Fr.of_below hb).trans h3⟩
  rcases h2 with h2 | ⟨g, h2, h4⟩
  · exact .inl h2
  · exact .inr ⟨g, h2, Nat.le_trans hb.size h4⟩

set_option maxHeartbeats 1000000 in
theorem change_ins (β : Option Nat) (v : Value) (i : Nat) (c l s : Int) (xs : List El) (w : World) (hS : SE w β v xs) (hi : i ≤ xs.length) (hn : xs.length < 4096) :
    Calls Tryz.prog 89 #[v, .agg #[.int .i64 1, .int .i64 i, .int .u8 c, .int .i64 l, .int .i64 s]] w fun e w' => ∃ v', e = .returned v' ∧ NowE w w' β v' (xs.take i ++ @List.cons El (c, l, s) (xs.drop i)) := by
  obtain ⟨a, cc, rfl, -, -⟩ := hS.form
  have HS := hd hS
  have HI := hd hi
  have HN := hd hn
  clear hS hi hn
  go_enter Tryz.func89, Tryz.ntmps89
  go_wp2_with fail
  generalize hW : World.alloc _ _ = W1
  have B1 : Below w.heap.size w W1 := by
    rw [← hW]
    exact ((Below.refl _ _).alloc (Nat.le_refl _) _).alloc (by simp) _
  refine (insert_any β _ i (w.heap.size + 1) (c, l, s) xs W1 (HS.out.below B1) HI.out HN.out (by rw [← hW, show w.heap.size + 1 = (w.alloc _).heap.size from by simp, heap_alloc_new]; rfl) (fun h => by have := HS.out.lt _ h; omega)).mono ?_
  rintro e w2 ⟨v', rfl, hN⟩
  have N2 := hd (hN.base B1 HS.out.lt)
  clear hN hW B1
  go_wp2
  go_ret
  exact ⟨_, rfl, N2.out⟩

set_option maxHeartbeats 1000000 in
theorem change_del (β : Option Nat) (v : Value) (i : Nat) (c l s : Int) (xs : List El) (w : World) (hS : SE w β v xs) (hi : i < xs.length) (hn : xs.length ≤ 4096) :
    Calls Tryz.prog 89 #[v, .agg #[.int .i64 2, .int .i64 i, .int .u8 c, .int .i64 l, .int .i64 s]] w fun e w' => ∃ v', e = .returned v' ∧ NowE w w' β v' (xs.take i ++ xs.drop (i + 1)) := by
  obtain ⟨a, cc, rfl, -, -⟩ := hS.form
  have HS := hd hS
  have HI := hd hi
  have HN := hd hn
  have hw1 : IntKind.i64.wrap ((i : Int) + 1) = (i : Int) + 1 := by rw [IntKind.wrap_i64]; omega
  clear hS hi hn
  go_enter Tryz.func89, Tryz.ntmps89
  go_wp2_with fail
  generalize hW : World.alloc _ _ = W1
  have B1 : Below w.heap.size w W1 := by
    rw [← hW]
    exact (Below.refl _ _).alloc (Nat.le_refl _) _
  refine (delete_any β _ i xs W1 (HS.out.below B1) HI.out HN.out).mono ?_
  rintro e w2 ⟨v', rfl, hN⟩
  have N2 := hd (hN.base B1 HS.out.lt)
  clear hN hW B1
  go_wp2
  go_ret
  exact ⟨_, rfl, N2.out⟩

set_option maxHeartbeats 1000000 in
theorem change_nop (β : Option Nat) (v : Value) (p c l s : Int) (xs : List El) (w : World) (hS : SE w β v xs) :
    Calls Tryz.prog 89 #[v, .agg #[.int .i64 0, .int .i64 p, .int .u8 c, .int .i64 l, .int .i64 s]] w fun e w' => ∃ v', e = .returned v' ∧ NowE w w' β v' xs := by
  obtain ⟨a, cc, rfl, -, -⟩ := hS.form
  have B1 : Below w.heap.size w (w.alloc (.cells #[.int .i64 0, .int .i64 p, .int .u8 c, .int .i64 l, .int .i64 s] 69)) := (Below.refl _ _).alloc (Nat.le_refl _) _
  have R : Hid (NowE w (w.alloc (.cells #[.int .i64 0, .int .i64 p, .int .u8 c, .int .i64 l, .int .i64 s] 69)) β (.slice a xs.length cc) xs) := ⟨β, hS.below B1, .inl rfl, Fr.of_below B1⟩
  clear hS B1
  go_enter Tryz.func89, Tryz.ntmps89
  go_wp2
  go_ret
  exact ⟨_, rfl, R.out⟩

theorem tchange_any (β : Option Nat) (v : Value) (k p c l s : Int) (xs : List El) (w : World) (hS : SE w β v xs) (hf : fitsP xs.length ⟨k, p, c, l, s⟩ = 0) :
    Calls Tryz.prog 89 #[v, .agg #[.int .i64 k, .int .i64 p, .int .u8 c, .int .i64 l, .int .i64 s]] w fun e w' => ∃ v', e = .returned v' ∧ NowE w w' β v' (applyP xs ⟨k, p, c, l, s⟩) := by
  obtain ⟨hv, h0, h1, h2, h3⟩ := fitsP_zero hf
  simp only at h2 h3
  obtain ⟨i, rfl⟩ : ∃ i : Nat, p = (i : Int) := ⟨p.toNat, by omega⟩
  rcases h2 with rfl | ⟨rfl, h4, h5⟩ | ⟨rfl, h4⟩
  · simp only [applyP]
    exact change_nop β v i c l s xs w hS
  · simp only [applyP, Int.toNat_natCast]
    exact change_ins β v i c l s xs w hS (by omega) (by omega)
  · simp only [applyP, Int.toNat_natCast]
    exact change_del β v i c l s xs w hS (by omega) (by omega)

theorem applyP_len {xs : List El} {o : OpE} (hf : fitsP xs.length o = 0) : ((applyP xs o).length : Int) = if o.kind = 1 then (xs.length : Int) + 1 else if o.kind = 2 then (xs.length : Int) - 1 else (xs.length : Int) := by
  obtain ⟨hv, h0, h1, h2, h3⟩ := fitsP_zero hf
  unfold applyP
  rcases h2 with h2 | ⟨h2, h4, h5⟩ | ⟨h2, h4⟩ <;> simp [h2] <;> first | omega | (erw [List.length_cons]; simp only [List.length_drop]; omega)

theorem applyP_le {xs : List El} {o : OpE} (hf : fitsP xs.length o = 0) : (applyP xs o).length ≤ 4096 := by
  obtain ⟨hv, h0, h1, h2, h3⟩ := fitsP_zero hf
  have := applyP_len hf
  rcases h2 with h2 | ⟨h2, h4, h5⟩ | ⟨h2, h4⟩ <;> simp [h2] at this <;> omega

end Go.Proofs.YtfhghijefjhehaaGreatDoor

/-! TApp -/
namespace Go.Proofs.YtfhghijefjhehaaGreatDoor
open Go.RowKit Go.Lib
set_option linter.unusedVariables false

/-- A copy of a whole text into a row of the call's own. -/
theorem run_copyE (w : World) (a : Option Addr) (n c m g : Nat) (xs : List El) (cur : List Value) (hE : IsE w a n c xs) (hg : w.heap[g]? = some (.cells cur.toArray 42 (0, 0))) (hl : cur.length = m * 3) (hm : n ≤ m) (hm63 : m ≤ 9223372036854775807) :
    ∃ w', (∀ ty, (Builtin.copy_ #[70, 70] ty #[.slice (some ⟨g, 0, none⟩) n m, .slice a n c]).run Tryz.prog w = .ok (goInt n) w') ∧ RowE w' g n m xs ∧ Fr (· = g) w w' := by
  obtain ⟨h1, h2, h3, h4⟩ := hE
  by_cases h0 : n = 0
  · subst h0
    obtain rfl := List.eq_nil_of_length_eq_zero h1
    exact ⟨w, fun ty => run_copy_zero w _ _ ty 42 _ _ _ _ _ _ 3 Tryz.underlying70 (by obtain ⟨i0, hi, hz0, hz1, hz2⟩ := info_parts Tryz.infoE; rw [hi]; simp [hz1]) (Nat.min_self _), ⟨cur, hg, by simp [cE_nil], rfl, hm, hm63, hl⟩, Fr.refl _ _⟩
  · obtain ⟨b, off, rfl, hlt, hc⟩ := h4 (by omega)
    have hcl : (cE xs).length = n * 3 := by rw [cE_len, h1]
    refine ⟨_, fun ty => run_copy_k w 70 70 ty 42 3 g 0 n m ⟨b, off, none⟩ n c n cur 42 (cE xs) Tryz.underlying70 sizeE' hg (Nat.min_self _).symm hcl (fun j v hj => by rw [add_lit]; exact hc j v hj) (by rw [hcl, hl]; omega) (cE_one' _), ?_, Fr.setRow _ _ _ rfl⟩
    refine ⟨_, setRow_heap w g _ _ 42 _ hg, ?_, h1, hm, hm63, by rw [length_splice _ _ _ (by rw [hcl, hl]; omega), hl]⟩
    have := splice_take_end cur 0 (cE xs) (Nat.zero_le _)
    rw [Nat.zero_add, hcl] at this
    simpa using this

/-- A row of the call's own, from block base on. -/
def OwnE (w : World) (base : Nat) (v : Value) (xs : List El) : Prop := ∃ g, base ≤ g ∧ SE w (some g) v xs

theorem OwnE.form {w : World} {base : Nat} {v : Value} {xs : List El} (h : OwnE w base v xs) : ∃ g c, base ≤ g ∧ v = .slice (some ⟨g, 0, none⟩) xs.length c ∧ RowE w g xs.length c xs := by
  obtain ⟨g, hb, c, hv, hR⟩ := h
  exact ⟨g, c, hb, hv, hR⟩
theorem OwnE.below {w w' : World} {base : Nat} {v : Value} {xs : List El} (h : OwnE w base v xs) (hb : Below w.heap.size w w') : OwnE w' base v xs := by
  obtain ⟨g, h1, h2⟩ := h
  exact ⟨g, h1, h2.below hb⟩

set_option maxRecDepth 100000 in
set_option maxHeartbeats 2000000 in
theorem apply_good (a : Option Addr) (n cc : Nat) (k p c l s : Int) (xs : List El) (w : World) (hE : IsE w a n cc xs) (h0 : 0 ≤ c) (h1 : c ≤ 255) (hf : fitsP n ⟨k, p, c, l, s⟩ = 0) :
    Calls Tryz.prog 51 #[.slice a n cc, .agg #[.int .i64 k, .int .i64 p, .int .u8 c, .int .i64 l, .int .i64 s]] w fun x w' =>
      ∃ v, x = .returned (.tuple #[v, .int .i64 0]) ∧ OwnE w' w.heap.size v (applyP xs ⟨k, p, c, l, s⟩) ∧ Below w.heap.size w w' := by
  obtain ⟨i0, hi0, hz0, hz1, hz2⟩ := info_parts Tryz.infoE
  have hn : n ≤ 4096 := by have := (fitsP_zero hf).2.2.1; omega
  have hL := hd hE.1
  have HE := hd hE
  have H0 := hd h0
  have H1 := hd h1
  have HF := hd hf
  have hw : IntKind.i64.wrap ((n : Int) + 1) = (n : Int) + 1 := by rw [IntKind.wrap_i64]; omega
  clear h0 h1 hf hE
  go_enter Tryz.func51, Tryz.ntmps51
  go_wp2_with fail
  refine (fits_any _ _ _ _ _ _ _ H0.out H1.out).mono ?_
  rintro x w1 ⟨rfl, b1⟩
  rw [HF.out]
  have B1 := hd (out_below b1)
  have c0 := out_cell b1 0
  have c1 := out_cell b1 1
  have c2 := out_cell b1 2
  have c3 := out_cell b1 3
  have c4 := out_cell b1 4
  have lt1 := hd (show w.heap.size < w1.heap.size from Nat.lt_of_lt_of_le (by simp) b1.size)
  simp at c0 c1 c2 c3 c4
  clear b1
  go_wp2_with (at_make; refine wpList_make_k _ rfl _ _ 70 rfl 42 i0 _ Tryz.underlying70 hi0 hz0 _ _ _ _ n (n + 1) rfl rfl (by go_num) (by first | go_num | (rw [hw]; go_num)) (by omega) (by rw [hz2]; omega) (by omega) ?_; intro w2 cur hg2 hcur hb2)
  have hlen2 : Hid (cur.length = (n + 1) * 3) := by
    have e := hcur.out
    rw [hz1] at e
    rw [e, Array.length_toList, size_madeCells]
    exact (rfl : _ = _)
  have B2 := hd (B1.out.trans (hb2.out.mono B1.out.size))
  have E2 := hd (HE.out.below B2.out)
  have d0 := (hb2.out.cell (p := ⟨w.heap.size, 0, none⟩) lt1.out).trans c0
  have d1 := (hb2.out.cell (p := ⟨w.heap.size, 1, none⟩) lt1.out).trans c1
  have d2 := (hb2.out.cell (p := ⟨w.heap.size, 2, none⟩) lt1.out).trans c2
  have d3 := (hb2.out.cell (p := ⟨w.heap.size, 3, none⟩) lt1.out).trans c3
  have d4 := (hb2.out.cell (p := ⟨w.heap.size, 4, none⟩) lt1.out).trans c4
  have S1 := hd B1.out.size
  have lt2 := hd (Nat.lt_of_lt_of_le lt1.out hb2.out.size)
  generalize w1.heap.size = g at *
  clear hb2 hcur c0 c1 c2 c3 c4 B1 HE
  obtain ⟨w3, hcp, hr3⟩ := run_copyE w2 a n cc (n + 1) g xs cur E2.out hg2.out hlen2.out (by omega) (by omega)
  have hR3 := hd hr3
  clear hr3
  have S3 : Hid (SE w3 (some g) (.slice (some ⟨g, 0, none⟩) n (n + 1)) xs) := ⟨n + 1, by rw [hL.out], by rw [hL.out]; exact hR3.out.1⟩
  have hne : ¬ w.heap.size = g := by have := lt1.out; omega
  have e0 := (hR3.out.2.cell (p := ⟨w.heap.size, 0, none⟩) lt2.out hne).trans d0
  have e1 := (hR3.out.2.cell (p := ⟨w.heap.size, 1, none⟩) lt2.out hne).trans d1
  have e2 := (hR3.out.2.cell (p := ⟨w.heap.size, 2, none⟩) lt2.out hne).trans d2
  have e3 := (hR3.out.2.cell (p := ⟨w.heap.size, 3, none⟩) lt2.out hne).trans d3
  have e4 := (hR3.out.2.cell (p := ⟨w.heap.size, 4, none⟩) lt2.out hne).trans d4
  have B3 : Hid (Below w.heap.size w w3) := B2.out.trans (hR3.out.2.below B2.out.size (fun k h => by rw [h]; exact S1.out))
  clear hR3 d0 d1 d2 d3 d4 hg2 hlen2 E2 B2
  go_wp2_with (simp only [hcp])
  refine (tchange_any (some g) _ _ _ _ _ _ xs _ S3.out (by rw [hL.out]; exact HF.out)).mono ?_
  rintro x w4 ⟨v, rfl, hN⟩
  have R : Hid (OwnE w4 w.heap.size v (applyP xs ⟨k, p, c, l, s⟩) ∧ Below w.heap.size w w4) := by
    obtain ⟨β, h1, h2, h3⟩ := hN
    have hB : Below w.heap.size w w4 := B3.out.trans (h3.below B3.out.size (fun k h => by obtain rfl := Option.some.inj h; exact S1.out))
    rcases h2 with rfl | ⟨g', rfl, h4⟩
    · exact ⟨⟨g, S1.out, h1⟩, hB⟩
    · exact ⟨⟨g', Nat.le_trans B3.out.size h4, h1⟩, hB⟩
  clear hN S3 B3
  go_wp2
  go_ret2
  exact ⟨v, rfl, R.out⟩

end Go.Proofs.YtfhghijefjhehaaGreatDoor

/-! Rows2 -/
namespace Go.Proofs.YtfhghijefjhehaaGreatDoor
open Go.RowKit
set_option linter.unusedVariables false

def elT (a b c : Int) : El := (a, b, c)
theorem cE_split (xs : List El) (k : Nat) (hk : k < xs.length) : cE xs = cE (xs.take k) ++ (elc xs[k] ++ cE (xs.drop (k + 1))) := by
  rw [← cE_cons, ← cE_app]
  congr 1
  rw [← List.drop_eq_getElem_cons hk, List.take_append_drop]

theorem set_appE (A B : List Value) (n j : Nat) (v : Value) (h : A.length = n) : (A ++ B).set (n + j) v = A ++ B.set j v := by
  rw [List.set_append_right _ _ (by omega), show n + j - A.length = j by omega]

theorem cE_set (xs : List El) (k : Nat) (a b c : Int) (hk : k < xs.length) :
    (((cE xs).set (k * 3) (.int .u8 a)).set (k * 3 + 1) (.int .i64 b)).set (k * 3 + 2) (.int .i64 c) = cE (xs.set k (elT a b c)) := by
  have hl : (cE (xs.take k)).length = k * 3 := by rw [cE_len, List.length_take]; congr 1; omega
  have es : xs.set k (elT a b c) = xs.take k ++ @List.cons El (elT a b c) (xs.drop (k + 1)) := by rw [List.set_eq_take_append_cons_drop, if_pos hk]
  rw [es, cE_app, cE_cons, cE_split xs k hk]
  have h0 : (cE (xs.take k) ++ (elc xs[k] ++ cE (xs.drop (k + 1)))).set (k * 3) (.int .u8 a) = cE (xs.take k) ++ (elc xs[k] ++ cE (xs.drop (k + 1))).set 0 (.int .u8 a) := set_appE _ _ (k * 3) 0 _ hl
  rw [h0, set_appE _ _ (k * 3) 1 _ hl, set_appE _ _ (k * 3) 2 _ hl]
  simp [elc, elT]

theorem RowE.set3 {w : World} {g N cap : Nat} {xs : List El} (h : RowE w g N cap xs) (k : Nat) (a b c : Int) (hk : k < N) :
    RowE (((w.setCell ⟨g, k * 3, none⟩ (.int .u8 a)).setCell ⟨g, k * 3 + 1, none⟩ (.int .i64 b)).setCell ⟨g, k * 3 + 2, none⟩ (.int .i64 c)) g N cap (xs.set k (elT a b c)) := by
  obtain ⟨cur, hh, ht, hl, hn, hm, hs⟩ := h
  refine ⟨((cur.set (k * 3) (.int .u8 a)).set (k * 3 + 1) (.int .i64 b)).set (k * 3 + 2) (.int .i64 c), ?_, ?_, by simpa using hl, hn, hm, by simpa using hs⟩
  · have h1 := set_row hh (k * 3) (.int .u8 a)
    have h2 := set_row h1 (k * 3 + 1) (.int .i64 b)
    have h3 := set_row h2 (k * 3 + 2) (.int .i64 c)
    simpa using h3
  · rw [List.take_set, List.take_set, List.take_set, ht, cE_set xs k a b c (by omega)]

theorem RowE.cells {w : World} {g N cap : Nat} {xs : List El} (h : RowE w g N cap xs) (k : Nat) (hk : k < N) :
    (∃ v, w.cell? ⟨g, k * 3, none⟩ = some v) ∧ (∃ v, w.cell? ⟨g, k * 3 + 1, none⟩ = some v) ∧ (∃ v, w.cell? ⟨g, k * 3 + 2, none⟩ = some v) := by
  have hl := h.isE.1
  have := h.isE.at k hk (by omega)
  rw [Nat.zero_add] at this
  exact ⟨⟨_, this.1⟩, ⟨_, this.2.1⟩, ⟨_, this.2.2⟩⟩
theorem RowE.frozen {w : World} {g N cap : Nat} {xs : List El} (h : RowE w g N cap xs) (i : Nat) : w.frozen? ⟨g, i, none⟩ = false := by
  obtain ⟨cur, hh, _⟩ := h
  exact frozen_row hh i

theorem made_zeroE (n : Nat) : (madeCells #[.int .u8 0, .int .i64 0, .int .i64 0] (n * 3)).toList = cE (List.replicate n (elT 0 0 0)) := by
  induction n with
  | zero => simp [madeCells, cE]
  | succ n ih =>
    have e : (madeCells #[.int .u8 0, .int .i64 0, .int .i64 0] ((n + 1) * 3)).toList = (madeCells #[.int .u8 0, .int .i64 0, .int .i64 0] (n * 3)).toList ++ [.int .u8 0, .int .i64 0, .int .i64 0] := by
      simp only [madeCells, Array.toList_map, Array.toList_range, show (n + 1) * 3 = n * 3 + 1 + 1 + 1 by omega, List.range_succ, List.map_append, List.map_cons, List.map_nil, List.append_assoc, List.cons_append, List.nil_append]
      congr 1
      have e0 : n * 3 % 3 = 0 := by omega
      have e1 : (n * 3 + 1) % 3 = 1 := by omega
      have e2 : (n * 3 + 1 + 1) % 3 = 2 := by omega
      simp [e0, e1, e2]
    rw [e, ih, List.replicate_succ', cE_app, cE_one]
    rfl

/-- A row that make has made, of zero values. -/
theorem row_madeE {w : World} {g n : Nat} {cur : List Value} (hg : w.heap[g]? = some (.cells cur.toArray 42 (0, 0))) (hc : cur = (madeCells #[.int .u8 0, .int .i64 0, .int .i64 0] (n * 3)).toList) (hn : n ≤ 9223372036854775807) :
    RowE w g n n (List.replicate n (elT 0 0 0)) := by
  rw [made_zeroE] at hc
  refine ⟨cur, hg, ?_, by simp, Nat.le_refl _, hn, ?_⟩
  · rw [hc, List.take_of_length_le (by rw [cE_len]; simp)]
  · rw [hc, cE_len]; simp

end Go.Proofs.YtfhghijefjhehaaGreatDoor

/-! RAt -/
namespace Go.Proofs.YtfhghijefjhehaaGreatDoor
open Go.RowKit
set_option linter.unusedVariables false

set_option maxHeartbeats 1000000 in
theorem rlong_any (n : Nat) (k p c l s : Int) (w : World) (hk : k = 0 ∨ k = 1 ∨ k = 2) (hn : n ≤ 4096) :
    Calls Tryz.prog 99 #[.int .i64 n, .agg #[.int .i64 k, .int .i64 p, .int .u8 c, .int .i64 l, .int .i64 s]] w fun e w' =>
      e = .returned (.int .i64 (if k = 1 then (n : Int) + 1 else if k = 2 then (n : Int) - 1 else (n : Int))) ∧ Below w.heap.size w w' := by
  rcases hk with hk | hk | hk <;> subst hk
  · simp only [show ¬ (0 : Int) = 1 by omega, show ¬ (0 : Int) = 2 by omega, if_false]
    go_enter Tryz.func99, Tryz.ntmps99
    go_wp2
    go_ret
    exact ⟨rfl, (Below.refl _ _).alloc (Nat.le_refl _) _⟩
  · simp only [if_true]
    go_enter Tryz.func99, Tryz.ntmps99
    go_wp2
    go_ret
    exact ⟨rfl, (Below.refl _ _).alloc (Nat.le_refl _) _⟩
  · simp only [show ¬ (2 : Int) = 1 by omega, if_false, if_true]
    go_enter Tryz.func99, Tryz.ntmps99
    go_wp2
    go_ret
    exact ⟨rfl, (Below.refl _ _).alloc (Nat.le_refl _) _⟩

def elv (x : El) : Value := .agg #[.int .u8 x.1, .int .i64 x.2.1, .int .i64 x.2.2]

set_option maxHeartbeats 1000000 in
theorem rat_load (a : Option Addr) (n cc : Nat) (k p c l s : Int) (i j : Nat) (xs : List El) (w : World) (hE : IsE w a n cc xs) (hj : j < n) (hx : j < xs.length)
    (h : (k = 0 ∧ j = i) ∨ (k ≠ 0 ∧ (i : Int) < p ∧ j = i) ∨ (k = 2 ∧ p ≤ (i : Int) ∧ j = i + 1) ∨ (k = 1 ∧ p < (i : Int) ∧ i = j + 1)) (hi : i ≤ 4097) :
    Calls Tryz.prog 100 #[.slice a n cc, .agg #[.int .i64 k, .int .i64 p, .int .u8 c, .int .i64 l, .int .i64 s], .int .i64 i] w fun e w' => e = .returned (elv xs[j]) ∧ Below w.heap.size w w' := by
  obtain ⟨b, off, rfl, hb⟩ := hE.addr (by omega)
  obtain ⟨e0, e1, e2⟩ := hE.at j hj hx
  generalize xs[j] = X at *
  obtain ⟨x0, x1, x2⟩ := X
  simp only [elv] at *
  have hb2 : ¬ b = w.heap.size := by omega
  have z0 : (w.alloc (.cells #[.int .i64 k, .int .i64 p, .int .u8 c, .int .i64 l, .int .i64 s] 69)).cell? ⟨b, off + j * 3, none⟩ = some (.int .u8 x0) := by
    rw [World.cell?_alloc_past _ b _ hb]; exact e0
  have z1 : (w.alloc (.cells #[.int .i64 k, .int .i64 p, .int .u8 c, .int .i64 l, .int .i64 s] 69)).cell? ⟨b, off + j * 3 + 1, none⟩ = some (.int .i64 x1) := by
    rw [World.cell?_alloc_past _ b _ hb]; exact e1
  have z2 : (w.alloc (.cells #[.int .i64 k, .int .i64 p, .int .u8 c, .int .i64 l, .int .i64 s] 69)).cell? ⟨b, off + j * 3 + 2, none⟩ = some (.int .i64 x2) := by
    rw [World.cell?_alloc_past _ b _ hb]; exact e2
  clear hE
  rcases h with ⟨rfl, rfl⟩ | ⟨h1, h2, rfl⟩ | ⟨rfl, h2, rfl⟩ | ⟨rfl, h2, rfl⟩
  · have i1 : (j : Int) < (n : Int) := by omega
    go_enter Tryz.func100, Tryz.ntmps100
    go_wp2
    refine bodyPost_ret (v := .agg #[.int .u8 x0, .int .i64 x1, .int .i64 x2]) (by simp [results, Tryz.results100, go_sem]) rfl ?_
    exact ⟨rfl, ((Below.refl _ _).alloc (Nat.le_refl _) _).alloc (by simp) _⟩
  · have i1 : (j : Int) < (n : Int) := by omega
    have i2 : (k == 0) = false := by simpa using h1
    go_enter Tryz.func100, Tryz.ntmps100
    go_wp2
    refine bodyPost_ret (v := .agg #[.int .u8 x0, .int .i64 x1, .int .i64 x2]) (by simp [results, Tryz.results100, go_sem]) rfl ?_
    exact ⟨rfl, ((Below.refl _ _).alloc (Nat.le_refl _) _).alloc (by simp) _⟩
  · have i1 : (i : Int) + 1 < (n : Int) := by omega
    have i2 : ¬ (i : Int) < p := by omega
    have i3 : 0 ≤ (i : Int) + 1 := by omega
    have i4 : ((i : Int) + 1).toNat = i + 1 := by omega
    go_enter Tryz.func100, Tryz.ntmps100
    go_wp2
    refine bodyPost_ret (v := .agg #[.int .u8 x0, .int .i64 x1, .int .i64 x2]) (by simp [results, Tryz.results100, go_sem]) rfl ?_
    exact ⟨rfl, ((Below.refl _ _).alloc (Nat.le_refl _) _).alloc (by simp) _⟩
  · have i1 : (j : Int) < (n : Int) := by omega
    have h2' : p < (j : Int) + 1 := by omega
    have i2 : ¬ (j : Int) + 1 < p := by omega
    have i3 : ((j : Int) + 1 == p) = false := by simp; omega
    go_enter Tryz.func100, Tryz.ntmps100
    go_wp2
    refine bodyPost_ret (v := .agg #[.int .u8 x0, .int .i64 x1, .int .i64 x2]) (by simp [results, Tryz.results100, go_sem]) rfl ?_
    exact ⟨rfl, ((Below.refl _ _).alloc (Nat.le_refl _) _).alloc (by simp) _⟩

set_option maxHeartbeats 1000000 in
theorem rat_new (a : Option Addr) (n cc : Nat) (c l s : Int) (i : Nat) (w : World) :
    Calls Tryz.prog 100 #[.slice a n cc, .agg #[.int .i64 1, .int .i64 i, .int .u8 c, .int .i64 l, .int .i64 s], .int .i64 i] w fun e w' => e = .returned (elv (c, l, s)) ∧ Below w.heap.size w w' := by
  simp only [elv]
  have i2 : ¬ (i : Int) < (i : Int) := by omega
  go_enter Tryz.func100, Tryz.ntmps100
  go_wp2
  refine bodyPost_ret (v := .agg #[.int .u8 c, .int .i64 l, .int .i64 s]) (by simp [results, Tryz.results100, go_sem]) rfl ?_
  exact ⟨rfl, ((Below.refl _ _).alloc (Nat.le_refl _) _).alloc (by simp) _⟩

theorem ins_mid {α : Type} (xs : List α) (x : α) (q : Nat) (hq : q ≤ xs.length) (h : q < (xs.take q ++ x :: xs.drop q).length) : (xs.take q ++ x :: xs.drop q)[q] = x := by
  rw [List.getElem_append_right (by simp; omega)]
  simp [show min q xs.length = q by omega]
theorem ins_late {α : Type} (xs : List α) (x : α) (q j : Nat) (hq : q ≤ j) (hj : j < xs.length) (h : j + 1 < (xs.take q ++ x :: xs.drop q).length) : (xs.take q ++ x :: xs.drop q)[j + 1] = xs[j] := by
  rw [List.getElem_append_right (by simp; omega)]
  simp only [List.length_take, show min q xs.length = q by omega, show j + 1 - q = (j - q) + 1 by omega, List.getElem_cons_succ, List.getElem_drop]
  congr 1
  omega
theorem rat_any (a : Option Addr) (n cc : Nat) (k p c l s : Int) (i : Nat) (xs : List El) (w : World) (hE : IsE w a n cc xs) (hf : fitsP n ⟨k, p, c, l, s⟩ = 0) (hi : i < (applyP xs ⟨k, p, c, l, s⟩).length) :
    Calls Tryz.prog 100 #[.slice a n cc, .agg #[.int .i64 k, .int .i64 p, .int .u8 c, .int .i64 l, .int .i64 s], .int .i64 i] w fun e w' => e = .returned (elv (applyP xs ⟨k, p, c, l, s⟩)[i]) ∧ Below w.heap.size w w' := by
  have hl := hE.1
  obtain ⟨hv, h0, h1, h2, h3⟩ := fitsP_zero hf
  simp only at h2 h3
  have hlen := applyP_len (xs := xs) (o := ⟨k, p, c, l, s⟩) (by rw [hl]; exact hf)
  obtain ⟨q, rfl⟩ : ∃ q : Nat, p = (q : Int) := ⟨p.toNat, by omega⟩
  rcases h2 with rfl | ⟨rfl, h4, h5⟩ | ⟨rfl, h4⟩
  · simp [applyP] at hlen hi ⊢
    exact rat_load a n cc 0 q c l s i i xs w hE (by omega) hi (.inl ⟨rfl, rfl⟩) (by omega)
  · simp [applyP] at hlen
    have hi' : i < n + 1 := by
      have := hi
      simp [applyP] at this
      omega
    by_cases c1 : i < q
    · have e : (applyP xs ⟨1, q, c, l, s⟩)[i] = xs[i]'(by omega) := by
        simp only [applyP, Int.toNat_natCast, if_pos]
        rw [List.getElem_append_left (by simp; omega), List.getElem_take]
      rw [e]
      exact rat_load a n cc 1 q c l s i i xs w hE (by omega) (by omega) (.inr (.inl ⟨by omega, by omega, rfl⟩)) (by omega)
    · by_cases c2 : i = q
      · subst c2
        have e : (applyP xs ⟨1, i, c, l, s⟩)[i] = (c, l, s) := by
          simp only [applyP, Int.toNat_natCast, if_pos]
          exact ins_mid (α := El) xs _ i (by omega) _
        rw [e]
        exact rat_new a n cc c l s i w
      · obtain ⟨j, rfl⟩ : ∃ j, i = j + 1 := ⟨i - 1, by omega⟩
        have e : (applyP xs ⟨1, q, c, l, s⟩)[j + 1] = xs[j]'(by omega) := by
          simp only [applyP, Int.toNat_natCast, if_pos]
          exact ins_late (α := El) xs _ q j (by omega) (by omega) _
        rw [e]
        exact rat_load a n cc 1 q c l s (j + 1) j xs w hE (by omega) (by omega) (.inr (.inr (.inr ⟨rfl, by omega, rfl⟩))) (by omega)
  · have hi' : i + 1 < n := by
      have := hi
      simp [applyP] at this
      omega
    by_cases c1 : i < q
    · have e : (applyP xs ⟨2, q, c, l, s⟩)[i] = xs[i]'(by omega) := by
        simp only [applyP, Int.toNat_natCast, show ¬ (2 : Int) = 1 by omega, if_false, if_true]
        rw [List.getElem_append_left (by simp; omega), List.getElem_take]
      rw [e]
      exact rat_load a n cc 2 q c l s i i xs w hE (by omega) (by omega) (.inr (.inl ⟨by omega, by omega, rfl⟩)) (by omega)
    · have e : (applyP xs ⟨2, q, c, l, s⟩)[i] = xs[i + 1]'(by omega) := by
        simp only [applyP, Int.toNat_natCast, show ¬ (2 : Int) = 1 by omega, if_false, if_true]
        rw [List.getElem_append_right (by simp; omega)]
        simp only [List.length_take, show min q xs.length = q by omega, List.getElem_drop]
        congr 1
        omega
      rw [e]
      exact rat_load a n cc 2 q c l s i (i + 1) xs w hE (by omega) (by omega) (.inr (.inr (.inl ⟨rfl, by omega, rfl⟩))) (by omega)

end Go.Proofs.YtfhghijefjhehaaGreatDoor

/-! RApp -/
namespace Go.Proofs.YtfhghijefjhehaaGreatDoor
open Go.RowKit
set_option linter.unusedVariables false

theorem take_set_succE {α : Type} (ys : List α) (k : Nat) (v : α) (hk : k < ys.length) : (ys.set k v).take (k + 1) = ys.take k ++ [v] := by
  rw [List.take_set, List.take_succ_eq_append_getElem hk, List.set_append_right _ _ (by simp; omega)]
  simp [show min k ys.length = k by omega]

set_option maxHeartbeats 1000000 in
theorem rapply_bad (a : Option Addr) (n cc : Nat) (k p c l s e : Int) (w : World) (hf : fitsP n ⟨k, p, c, l, s⟩ = e) (he : ¬ e = 0) :
    Calls Tryz.prog 62 #[.slice a n cc, .agg #[.int .i64 k, .int .i64 p, .int .u8 c, .int .i64 l, .int .i64 s]] w fun x w' => x = .returned (.tuple #[.slice none 0 0, .int .i64 e]) ∧ Below w.heap.size w w' := by
  have HF := hd hf
  have he' : (e != 0) = true := by simpa using he
  clear hf he
  go_enter Tryz.func62, Tryz.ntmps62
  go_wp2_with fail
  refine (rfits_any _ _ _ _ _ _ _).mono ?_
  rintro x w1 ⟨rfl, b1⟩
  rw [HF.out]
  have B1 := hd (out_below b1)
  clear b1
  go_wp2
  go_ret2
  exact ⟨rfl, B1.out⟩

/-- What holds in the loop of Apply. -/
def ARel (w1 wr : World) (g : Nat) (T : List El) (k : Nat) : Prop := ∃ ys, RowE wr g T.length T.length ys ∧ ys.take k = T.take k ∧ Below w1.heap.size w1 wr

set_option maxRecDepth 100000 in
set_option maxHeartbeats 4000000 in
theorem rapply_good (a : Option Addr) (n cc : Nat) (k p c l s : Int) (xs T : List El) (N : Nat) (w : World) (hE : IsE w a n cc xs) (hf : fitsP n ⟨k, p, c, l, s⟩ = 0) (hT : T = applyP xs ⟨k, p, c, l, s⟩) (hN : N = T.length) :
    Calls Tryz.prog 62 #[.slice a n cc, .agg #[.int .i64 k, .int .i64 p, .int .u8 c, .int .i64 l, .int .i64 s]] w fun x w' =>
      ∃ v, x = .returned (.tuple #[v, .int .i64 0]) ∧ OwnE w' w.heap.size v T ∧ Below w.heap.size w w' := by
  obtain ⟨i0, hi0, hz0, hz1, hz2⟩ := info_parts Tryz.infoE
  have hL := hE.1
  have hn : n ≤ 4096 := by have := (fitsP_zero hf).2.2.1; omega
  have hk := (validP_zero (fitsP_zero hf).1).1
  have hLN : (if k = 1 then (n : Int) + 1 else if k = 2 then (n : Int) - 1 else (n : Int)) = (N : Int) := by
    have := applyP_len (xs := xs) (o := ⟨k, p, c, l, s⟩) (by rw [hL]; exact hf)
    rw [hN, hT, this, hL]
  have hN4 : N ≤ 4096 := by
    have := applyP_le (xs := xs) (o := ⟨k, p, c, l, s⟩) (by rw [hL]; exact hf)
    rw [hN, hT]; exact this
  have HE := hd hE
  have HF := hd hf
  have HK := hd hk
  have HT := hd hT
  have HN := hd hN
  have HLN := hd hLN
  clear hE hf hk hLN hT hN hL
  have B0 := hd ((Below.refl w.heap.size w).alloc (Nat.le_refl _) (.cells #[.int .i64 k, .int .i64 p, .int .u8 c, .int .i64 l, .int .i64 s] 69))
  go_enter Tryz.func62, Tryz.ntmps62
  go_wp2_with fail
  refine (rfits_any _ _ _ _ _ _ _).mono ?_
  rintro x w1 ⟨rfl, b1⟩
  rw [HF.out]
  have B1 := hd b1
  have c0 := out_cell b1 0
  have c1 := out_cell b1 1
  have c2 := out_cell b1 2
  have c3 := out_cell b1 3
  have c4 := out_cell b1 4
  simp at c0 c1 c2 c3 c4
  clear b1
  go_wp2_with fail
  refine (rlong_any n k p c l s _ HK.out hn).mono ?_
  rintro x w2 ⟨rfl, b2⟩
  rw [HLN.out]
  have B2 := hd (B1.out.trans (b2.mono B1.out.size))
  clear b2 c0 c1 c2 c3 c4 B1
  go_wp2_with (at_make; refine wpList_make_k _ rfl _ _ 70 rfl 42 i0 _ Tryz.underlying70 hi0 hz0 _ _ _ _ N N rfl rfl rfl rfl (Nat.le_refl _) (by rw [hz2]; omega) (by omega) ?_; intro w3 cur hg3 hcur hb3)
  have R3 : Hid (ARel (w.alloc (.cells #[.int .i64 k, .int .i64 p, .int .u8 c, .int .i64 l, .int .i64 s] 69)) w3 w2.heap.size T 0) := by
    refine ⟨List.replicate N (0, 0, 0), ?_, by simp, B2.out.trans (hb3.out.mono B2.out.size)⟩
    rw [← HN.out]
    exact row_madeE hg3.out (by have := hcur.out; rw [hz1] at this; exact this) (by omega)
  have hgB : (w.alloc (.cells #[.int .i64 k, .int .i64 p, .int .u8 c, .int .i64 l, .int .i64 s] 69)).heap.size ≤ w2.heap.size := B2.out.size
  have HG := hd hgB
  generalize w2.heap.size = g at *
  clear hg3 hcur hb3 hi0 hz0 hz1 hz2 B2 hgB
  go_wp2
  go_loopw [9] (fun i wr => ∃ j : Nat, j ≤ N ∧ i = .int .i64 j ∧ Hid (ARel (w.alloc (.cells #[.int .i64 k, .int .i64 p, .int .u8 c, .int .i64 l, .int .i64 s] 69)) wr g T j)) (fun i _ => N - (intOf i).toNat)
  case atStart => exact ⟨0, Nat.zero_le _, rfl, R3⟩
  case round =>
    obtain ⟨j, hj, rfl, hr⟩ := hrel
    clear R3
    by_cases hlt : j < N
    · have jT : j < T.length := by have := HN.out; omega
      obtain ⟨ys, hR, hT2, hB⟩ := hr.out
      have c0 := out_cell hB 0
      have c1 := out_cell hB 1
      have c2 := out_cell hB 2
      have c3 := out_cell hB 3
      have c4 := out_cell hB 4
      simp at c0 c1 c2 c3 c4
      have i1 : (j : Int) < (N : Int) := by omega
      have HR := hd hR
      have HT2 := hd hT2
      have HB := hd hB
      have E1 := hd (HE.out.below (B0.out.trans (hB.mono B0.out.size)))
      clear hr hR hT2 hB
      have TE := hd (show (applyP xs ⟨k, p, c, l, s⟩)[j]'(by rw [← HT.out]; exact jT) = T[j] from by simp only [HT.out])
      go_wp2_with fail
      refine (rat_any a n cc k p c l s j xs _ E1.out HF.out (by rw [← HT.out]; exact jT)).mono ?_
      rintro x w5 ⟨rfl, b5⟩
      rw [TE.out]
      have R5 := hd (HR.out.fr (S := fun _ => False) (Fr.of_below b5) (fun h => h))
      have B5 := hd (HB.out.trans (b5.mono HB.out.size))
      obtain ⟨⟨a0, d0⟩, ⟨a1, d1⟩, ⟨a2, d2⟩⟩ := R5.out.cells j (by omega)
      have f0 := R5.out.frozen (j * 3)
      have f1 := R5.out.frozen (j * 3 + 1)
      have f2 := R5.out.frozen (j * 3 + 2)
      have TS : Hid (∀ v, v = T[j] → (ys.set j v).take (j + 1) = T.take (j + 1)) := by
        rintro v rfl
        rw [take_set_succE ys j _ (by rw [R5.out.isE.1]; exact jT), HT2.out, List.take_succ_eq_append_getElem jT]
      generalize T[j] = X at *
      obtain ⟨x0, x1, x2⟩ := X
      simp only [elv]
      clear b5 HR HB c0 c1 c2 c3 c4
      go_wp2
      refine ⟨⟨j + 1, by omega, by go_num, ⟨_, R5.out.set3 j x0 x1 x2 jT, TS.out _ rfl, ?_⟩⟩, by simp [intOf]; omega⟩
      exact ((B5.out.setCell HG.out _).setCell HG.out _).setCell HG.out _
    · obtain rfl : j = N := by omega
      obtain ⟨ys, hR, hT2, hB⟩ := hr.out
      have R : Hid (OwnE wr w.heap.size (.slice (some ⟨g, 0, none⟩) j j) T ∧ Below w.heap.size w wr) := by
        have hl := hR.isE.1
        rw [List.take_of_length_le (by rw [hl, ← HN.out]; exact Nat.le_refl _), List.take_of_length_le (by rw [← HN.out]; exact Nat.le_refl _)] at hT2
        subst hT2
        exact ⟨⟨g, Nat.le_trans (by simp) HG.out, ys.length, by rw [HN.out], hR⟩, B0.out.trans (hB.mono B0.out.size)⟩
      clear hr hR hT2 hB
      go_wp2
      go_ret2
      exact ⟨_, rfl, R.out⟩

end Go.Proofs.YtfhghijefjhehaaGreatDoor
