/-
  Apply.
-/
import Derived.Test.YtlmgogonghafeaaChg
namespace Go.Proofs.Ytlmgogonghafeaa
open Go.RowKit Go.Lib
set_option linter.unusedVariables false

theorem wpList_make_k {P : Program} (w : World) {ops : Array Oper} {rest : List Oper} {o : Oper} {a : Act} {Q : Exit → Act → World → Prop}
    (hg : o.guard = none) (l c : Operand) (t : TypeId) (hop : o.op = Op.makeSlice t l c)
    (e : TypeId) (i : TypeInfo) (z : Value) (h1 : P.underlying t = some (.slice e)) (h2 : P.info? e = some i) (h3 : i.zero = some z)
    (kl kc : IntKind) (L C : Int) (n m : Nat) (hl : a.eval l = .int kl L) (hc : a.eval c = .int kc C) (hL : L = (n : Int)) (hC : C = (m : Int)) (hnm : n ≤ m) (b2 : i.bytes * m ≤ 281474976710656) (b3 : m ≤ 9223372036854775807)
    (hK : ∀ (w' : World) (cur : List Value), Hid (w'.heap[w.heap.size]? = some (.cells cur.toArray e (0, 0))) → Hid (cur = (madeCells z.cells (m * i.size)).toList) → Hid (Below w.heap.size w w') → wpList P ops Q rest (a.put o.dst (.slice (some ⟨w.heap.size, 0, none⟩) n m)) w') :
    wpList P ops Q (o :: rest) a w := by
  refine wpList_plain hg fun K hK' => ?_
  subst hL
  subst hC
  have hrun := run_make (P := P) w t e i z h1 h2 h3 kl kc n m (by omega) (by omega) (by rw [← Int.natCast_mul]; exact Int.ofNat_le.2 b2) (by omega)
  simp only [Int.toNat_natCast] at hrun
  unfold Oper.wp
  simp [execOp, hop, hl, hc, hrun, Result.andThen]
  refine hK' _ _ (hK _ _ ?_ (rfl : _ = _) ((Below.refl _ _).alloc (Nat.le_refl _) _))
  show (w.alloc _).heap[w.heap.size]? = _
  rw [heap_alloc_new]

theorem run_copy_zero {P : Program} (w : World) (dT sT ty elem : TypeId) (d a : Option Addr) (dLen dCap sLen sCap size : Nat) (hu : P.underlying dT = some (.slice elem)) (hs : (P.info? elem).map (·.size) = some size) (hn : Nat.min sLen dLen = 0) :
    (Builtin.copy_ #[dT, sT] ty #[.slice d dLen dCap, .slice a sLen sCap]).run P w = .ok (goInt (0 : Nat)) w := by
  cases hq : P.info? elem with
  | none => simp [hq] at hs
  | some i =>
    have hl : ∀ (x : Addr), (loadCells x 0).run P w = .ok #[] w := fun x => by simpa using run_loadCells_list (P := P) w x [] (by simp)
    cases d <;> cases a <;> simp [Builtin.copy_, run_underlying hu, Builtin.lenOf, Builtin.firstCells, sizeOf, typeInfo, hq, hn, storeCells, hl]

/-- A copy of a whole text into a row of the call's own. -/
theorem run_copyE (w : World) (a : Option Addr) (n c m g : Nat) (xs : List El) (cur : List Value) (hE : IsE w a n c xs) (hg : w.heap[g]? = some (.cells cur.toArray 69 (0, 0))) (hl : cur.length = m * 3) (hm : n ≤ m) (hm63 : m ≤ 9223372036854775807) :
    ∃ w', (∀ ty, (Builtin.copy_ #[22, 22] ty #[.slice (some ⟨g, 0, none⟩) n m, .slice a n c]).run Try.prog w = .ok (goInt n) w') ∧ RowE w' g n m xs ∧ Fr (· = g) w w' := by
  obtain ⟨h1, h2, h3, h4⟩ := hE
  by_cases h0 : n = 0
  · subst h0
    obtain rfl := List.eq_nil_of_length_eq_zero h1
    exact ⟨w, fun ty => run_copy_zero w _ _ ty 69 _ _ _ _ _ _ 3 Try.underlying22 (by obtain ⟨i0, hi, hz0, hz1, hz2⟩ := info_parts Try.infoE; rw [hi]; simp [hz1]) (Nat.min_self _), ⟨cur, hg, by simp [cE_nil], rfl, hm, hm63, hl⟩, Fr.refl _ _⟩
  · obtain ⟨b, off, rfl, hlt, hc⟩ := h4 (by omega)
    have hcl : (cE xs).length = n * 3 := by rw [cE_len, h1]
    refine ⟨_, fun ty => run_copy_k w 22 22 ty 69 3 g 0 n m ⟨b, off, none⟩ n c n cur 69 (cE xs) Try.underlying22 sizeE' hg (Nat.min_self _).symm hcl (fun j v hj => by rw [add_lit]; exact hc j v hj) (by rw [hcl, hl]; omega) (cE_one' _), ?_, Fr.setRow _ _ _ rfl⟩
    refine ⟨_, setRow_heap w g _ _ 69 _ hg, ?_, h1, hm, hm63, by rw [length_splice _ _ _ (by rw [hcl, hl]; omega), hl]⟩
    have := splice_take_end cur 0 (cE xs) (Nat.zero_le _)
    rw [Nat.zero_add, hcl] at this
    simpa using this

/-- A row of the call's own, from block base on. -/
def OwnE (w : World) (base : Nat) (v : Value) (xs : List El) : Prop := ∃ g, base ≤ g ∧ SE w (some g) v xs

theorem OwnE.form {w : World} {base : Nat} {v : Value} {xs : List El} (h : OwnE w base v xs) : ∃ g c, base ≤ g ∧ v = .slice (some ⟨g, 0, none⟩) xs.length c ∧ RowE w g xs.length c xs := by
  obtain ⟨g, hb, c, hv, hR⟩ := h
  exact ⟨g, c, hb, hv, hR⟩
theorem OwnE.below {w w' : World} {base : Nat} {v : Value} {xs : List El} (h : OwnE w base v xs) (hb : Below w.heap.size w w') : OwnE w' base v xs := by
  obtain ⟨g, h1, h2⟩ := h
  exact ⟨g, h1, h2.below hb⟩

set_option maxHeartbeats 1000000 in
theorem apply_bad (a : Option Addr) (n cc : Nat) (k p c l s e : Int) (w : World) (h0 : 0 ≤ c) (h1 : c ≤ 255) (hf : fitsP n ⟨k, p, c, l, s⟩ = e) (he : ¬ e = 0) :
    Calls Try.prog 19 #[.slice a n cc, .agg #[.int .i64 k, .int .i64 p, .int .u8 c, .int .i64 l, .int .i64 s]] w fun x w' => x = .returned (.tuple #[.slice none 0 0, .int .i64 e]) ∧ Below w.heap.size w w' := by
  have H0 := hd h0
  have H1 := hd h1
  have HF := hd hf
  have he' : (e != 0) = true := by simpa using he
  clear h0 h1 hf he
  go_enter Try.func19, Try.ntmps19
  go_wp2_with fail
  refine (fits_any _ _ _ _ _ _ _ H0.out H1.out).mono ?_
  rintro x w1 ⟨rfl, b1⟩
  rw [HF.out]
  have B1 := hd (out_below b1)
  clear b1
  go_wp2
  go_ret2
  exact ⟨rfl, B1.out⟩

set_option maxRecDepth 100000 in
set_option maxHeartbeats 2000000 in
theorem apply_good (a : Option Addr) (n cc : Nat) (k p c l s : Int) (xs : List El) (w : World) (hE : IsE w a n cc xs) (h0 : 0 ≤ c) (h1 : c ≤ 255) (hf : fitsP n ⟨k, p, c, l, s⟩ = 0) :
    Calls Try.prog 19 #[.slice a n cc, .agg #[.int .i64 k, .int .i64 p, .int .u8 c, .int .i64 l, .int .i64 s]] w fun x w' =>
      ∃ v, x = .returned (.tuple #[v, .int .i64 0]) ∧ OwnE w' w.heap.size v (applyP xs ⟨k, p, c, l, s⟩) ∧ Below w.heap.size w w' := by
  obtain ⟨i0, hi0, hz0, hz1, hz2⟩ := info_parts Try.infoE
  have hn : n ≤ 4096 := by have := (fitsP_zero hf).2.2.1; omega
  have hL := hd hE.1
  have HE := hd hE
  have H0 := hd h0
  have H1 := hd h1
  have HF := hd hf
  have hw : IntKind.i64.wrap ((n : Int) + 1) = (n : Int) + 1 := by rw [IntKind.wrap_i64]; omega
  clear h0 h1 hf hE
  go_enter Try.func19, Try.ntmps19
  go_wp2_with fail
  refine (fits_any _ _ _ _ _ _ _ H0.out H1.out).mono ?_
  rintro x w1 ⟨rfl, b1⟩
  rw [HF.out]
  have B1 := hd (out_below b1)
  have c0 := out_cell b1 0
  have c1 := out_cell b1 1
  have c2 := out_cell b1 2
  have c3 := out_cell b1 3
  have c4 := out_cell b1 4
  have lt1 := hd (show w.heap.size < w1.heap.size from Nat.lt_of_lt_of_le (by simp) b1.size)
  simp at c0 c1 c2 c3 c4
  clear b1
  go_wp2_with (at_make; refine wpList_make_k _ rfl _ _ 22 rfl 69 i0 _ Try.underlying22 hi0 hz0 _ _ _ _ n (n + 1) rfl rfl (by go_num) (by first | go_num | (rw [hw]; go_num)) (by omega) (by rw [hz2]; omega) (by omega) ?_; intro w2 cur hg2 hcur hb2)
  have hlen2 : Hid (cur.length = (n + 1) * 3) := by
    have e := hcur.out
    rw [hz1] at e
    rw [e, Array.length_toList, size_madeCells]
    exact (rfl : _ = _)
  have B2 := hd (B1.out.trans (hb2.out.mono B1.out.size))
  have E2 := hd (HE.out.below B2.out)
  have d0 := (hb2.out.cell (p := ⟨w.heap.size, 0, none⟩) lt1.out).trans c0
  have d1 := (hb2.out.cell (p := ⟨w.heap.size, 1, none⟩) lt1.out).trans c1
  have d2 := (hb2.out.cell (p := ⟨w.heap.size, 2, none⟩) lt1.out).trans c2
  have d3 := (hb2.out.cell (p := ⟨w.heap.size, 3, none⟩) lt1.out).trans c3
  have d4 := (hb2.out.cell (p := ⟨w.heap.size, 4, none⟩) lt1.out).trans c4
  have S1 := hd B1.out.size
  have lt2 := hd (Nat.lt_of_lt_of_le lt1.out hb2.out.size)
  generalize w1.heap.size = g at *
  clear hb2 hcur c0 c1 c2 c3 c4 B1 HE
  obtain ⟨w3, hcp, hr3⟩ := run_copyE w2 a n cc (n + 1) g xs cur E2.out hg2.out hlen2.out (by omega) (by omega)
  have hR3 := hd hr3
  clear hr3
  have S3 : Hid (SE w3 (some g) (.slice (some ⟨g, 0, none⟩) n (n + 1)) xs) := ⟨n + 1, by rw [hL.out], by rw [hL.out]; exact hR3.out.1⟩
  have hne : ¬ w.heap.size = g := by have := lt1.out; omega
  have e0 := (hR3.out.2.cell (p := ⟨w.heap.size, 0, none⟩) lt2.out hne).trans d0
  have e1 := (hR3.out.2.cell (p := ⟨w.heap.size, 1, none⟩) lt2.out hne).trans d1
  have e2 := (hR3.out.2.cell (p := ⟨w.heap.size, 2, none⟩) lt2.out hne).trans d2
  have e3 := (hR3.out.2.cell (p := ⟨w.heap.size, 3, none⟩) lt2.out hne).trans d3
  have e4 := (hR3.out.2.cell (p := ⟨w.heap.size, 4, none⟩) lt2.out hne).trans d4
  have B3 : Hid (Below w.heap.size w w3) := B2.out.trans (hR3.out.2.below B2.out.size (fun k h => by rw [h]; exact S1.out))
  clear hR3 d0 d1 d2 d3 d4 hg2 hlen2 E2 B2
  go_wp2_with (simp only [hcp])
  refine (change_any (some g) _ _ _ _ _ _ xs _ S3.out (by rw [hL.out]; exact HF.out)).mono ?_
  rintro x w4 ⟨v, rfl, hN⟩
  have R : Hid (OwnE w4 w.heap.size v (applyP xs ⟨k, p, c, l, s⟩) ∧ Below w.heap.size w w4) := by
    obtain ⟨β, h1, h2, h3⟩ := hN
    have hB : Below w.heap.size w w4 := B3.out.trans (h3.below B3.out.size (fun k h => by obtain rfl := Option.some.inj h; exact S1.out))
    rcases h2 with rfl | ⟨g', rfl, h4⟩
    · exact ⟨⟨g, S1.out, h1⟩, hB⟩
    · exact ⟨⟨g', Nat.le_trans B3.out.size h4, h1⟩, hB⟩
  clear hN S3 B3
  go_wp2
  go_ret2
  exact ⟨v, rfl, R.out⟩

end Go.Proofs.Ytlmgogonghafeaa
