/-
  Texts put together: Chg App Tx.
-/
import Derived.Test.YtlmgogonghafeabDel
import Derived.Test.YtlmgogonghafeabVb
import Derived.Laws.BytesString
/-! Chg -/
namespace Go.Proofs.Ytlmgogonghafeab
open Go.RowKit Go.Lib
set_option linter.unusedVariables false

/-- The text behind an operation that fits. -/
def applyP (xs : List El) (o : OpE) : List El :=
  if o.kind = 1 then xs.take o.pos.toNat ++ (o.ch, o.cl, o.sq) :: xs.drop o.pos.toNat
  else if o.kind = 2 then xs.take o.pos.toNat ++ xs.drop (o.pos.toNat + 1)
  else xs

theorem NowE.base {w w1 w2 : World} {β : Option Nat} {v : Value} {ys : List El} (hN : NowE w1 w2 β v ys) (hb : Below w.heap.size w w1) (hβ : ∀ g, β = some g → g < w.heap.size) : NowE w w2 β v ys := by
  obtain ⟨β', h1, h2, h3⟩ := hN
  refine ⟨β', h1, ?_, (Fr.of_below hb).trans h3⟩
  rcases h2 with h2 | ⟨g, h2, h4⟩
  · exact .inl h2
  · exact .inr ⟨g, h2, Nat.le_trans hb.size h4⟩

theorem applyP_len {xs : List El} {o : OpE} (hf : fitsP xs.length o = 0) : ((applyP xs o).length : Int) = if o.kind = 1 then (xs.length : Int) + 1 else if o.kind = 2 then (xs.length : Int) - 1 else (xs.length : Int) := by
  obtain ⟨hv, h0, h1, h2, h3⟩ := fitsP_zero hf
  unfold applyP
  rcases h2 with h2 | ⟨h2, h4, h5⟩ | ⟨h2, h4⟩ <;> simp [h2] <;> omega

theorem applyP_le {xs : List El} {o : OpE} (hf : fitsP xs.length o = 0) : (applyP xs o).length ≤ 4096 := by
  obtain ⟨hv, h0, h1, h2, h3⟩ := fitsP_zero hf
  have := applyP_len hf
  rcases h2 with h2 | ⟨h2, h4, h5⟩ | ⟨h2, h4⟩ <;> simp [h2] at this <;> omega

end Go.Proofs.Ytlmgogonghafeab

/-! App -/
namespace Go.Proofs.Ytlmgogonghafeab
open Go.RowKit Go.Lib
set_option linter.unusedVariables false

theorem wpList_make_k {P : Program} (w : World) {ops : Array Oper} {rest : List Oper} {o : Oper} {a : Act} {Q : Exit → Act → World → Prop}
    (hg : o.guard = none) (l c : Operand) (t : TypeId) (hop : o.op = Op.makeSlice t l c)
    (e : TypeId) (i : TypeInfo) (z : Value) (h1 : P.underlying t = some (.slice e)) (h2 : P.info? e = some i) (h3 : i.zero = some z)
    (kl kc : IntKind) (L C : Int) (n m : Nat) (hl : a.eval l = .int kl L) (hc : a.eval c = .int kc C) (hL : L = (n : Int)) (hC : C = (m : Int)) (hnm : n ≤ m) (b2 : i.bytes * m ≤ 281474976710656) (b3 : m ≤ 9223372036854775807)
    (hK : ∀ (w' : World) (cur : List Value), Hid (w'.heap[w.heap.size]? = some (.cells cur.toArray e (0, 0))) → Hid (cur = (madeCells z.cells (m * i.size)).toList) → Hid (Below w.heap.size w w') → wpList P ops Q rest (a.put o.dst (.slice (some ⟨w.heap.size, 0, none⟩) n m)) w') :
    wpList P ops Q (o :: rest) a w := by
  refine wpList_plain hg fun K hK' => ?_
  subst hL
  subst hC
  have hrun := run_make (P := P) w t e i z h1 h2 h3 kl kc n m (by omega) (by omega) (by rw [← Int.natCast_mul]; exact Int.ofNat_le.2 b2) (by omega)
  simp only [Int.toNat_natCast] at hrun
  unfold Oper.wp
  simp [execOp, hop, hl, hc, hrun, Result.andThen]
  refine hK' _ _ (hK _ _ ?_ (rfl : _ = _) ((Below.refl _ _).alloc (Nat.le_refl _) _))
  show (w.alloc _).heap[w.heap.size]? = _
  rw [heap_alloc_new]

theorem run_copy_zero {P : Program} (w : World) (dT sT ty elem : TypeId) (d a : Option Addr) (dLen dCap sLen sCap size : Nat) (hu : P.underlying dT = some (.slice elem)) (hs : (P.info? elem).map (·.size) = some size) (hn : Nat.min sLen dLen = 0) :
    (Builtin.copy_ #[dT, sT] ty #[.slice d dLen dCap, .slice a sLen sCap]).run P w = .ok (goInt (0 : Nat)) w := by
  cases hq : P.info? elem with
  | none => simp [hq] at hs
  | some i =>
    have hl : ∀ (x : Addr), (loadCells x 0).run P w = .ok #[] w := fun x => by simpa using run_loadCells_list (P := P) w x [] (by simp)
    cases d <;> cases a <;> simp [Builtin.copy_, run_underlying hu, Builtin.lenOf, Builtin.firstCells, sizeOf, typeInfo, hq, hn, storeCells, hl]

/-- A copy of a whole text into a row of the call's own. -/
theorem run_copyE (w : World) (a : Option Addr) (n c m g : Nat) (xs : List El) (cur : List Value) (hE : IsE w a n c xs) (hg : w.heap[g]? = some (.cells cur.toArray 25 (0, 0))) (hl : cur.length = m * 3) (hm : n ≤ m) (hm63 : m ≤ 9223372036854775807) :
    ∃ w', (∀ ty, (Builtin.copy_ #[22, 22] ty #[.slice (some ⟨g, 0, none⟩) n m, .slice a n c]).run Try.prog w = .ok (goInt n) w') ∧ RowE w' g n m xs ∧ Fr (· = g) w w' := by
  obtain ⟨h1, h2, h3, h4⟩ := hE
  by_cases h0 : n = 0
  · subst h0
    obtain rfl := List.eq_nil_of_length_eq_zero h1
    exact ⟨w, fun ty => run_copy_zero w _ _ ty 25 _ _ _ _ _ _ 3 Try.underlying22 (by obtain ⟨i0, hi, hz0, hz1, hz2⟩ := info_parts Try.infoE; rw [hi]; simp [hz1]) (Nat.min_self _), ⟨cur, hg, by simp [cE_nil], rfl, hm, hm63, hl⟩, Fr.refl _ _⟩
  · obtain ⟨b, off, rfl, hlt, hc⟩ := h4 (by omega)
    have hcl : (cE xs).length = n * 3 := by rw [cE_len, h1]
    refine ⟨_, fun ty => run_copy_k w 22 22 ty 25 3 g 0 n m ⟨b, off, none⟩ n c n cur 25 (cE xs) Try.underlying22 sizeE' hg (Nat.min_self _).symm hcl (fun j v hj => by rw [add_lit]; exact hc j v hj) (by rw [hcl, hl]; omega) (cE_one' _), ?_, Fr.setRow _ _ _ rfl⟩
    refine ⟨_, setRow_heap w g _ _ 25 _ hg, ?_, h1, hm, hm63, by rw [length_splice _ _ _ (by rw [hcl, hl]; omega), hl]⟩
    have := splice_take_end cur 0 (cE xs) (Nat.zero_le _)
    rw [Nat.zero_add, hcl] at this
    simpa using this

/-- A row of the call's own, from block base on. -/
def OwnE (w : World) (base : Nat) (v : Value) (xs : List El) : Prop := ∃ g, base ≤ g ∧ SE w (some g) v xs

theorem OwnE.form {w : World} {base : Nat} {v : Value} {xs : List El} (h : OwnE w base v xs) : ∃ g c, base ≤ g ∧ v = .slice (some ⟨g, 0, none⟩) xs.length c ∧ RowE w g xs.length c xs := by
  obtain ⟨g, hb, c, hv, hR⟩ := h
  exact ⟨g, c, hb, hv, hR⟩
theorem OwnE.below {w w' : World} {base : Nat} {v : Value} {xs : List El} (h : OwnE w base v xs) (hb : Below w.heap.size w w') : OwnE w' base v xs := by
  obtain ⟨g, h1, h2⟩ := h
  exact ⟨g, h1, h2.below hb⟩

end Go.Proofs.Ytlmgogonghafeab

/-! Tx -/
namespace Go.Proofs.Ytlmgogonghafeab
open Go.RowKit
set_option linter.unusedVariables false

def ints (xs : List Int) : List Value := xs.map (Value.int .u8)
theorem ints_len (xs : List Int) : (ints xs).length = xs.length := by simp [ints]

theorem fill_step (xs : List Int) (n k : Nat) (hl : xs.length = n) (hk : k < n) :
    (ints (xs.take k ++ List.replicate (n - k) 0)).set k (.int .u8 (xs.getD k 0)) = ints (xs.take (k + 1) ++ List.replicate (n - (k + 1)) 0) := by
  have e : List.replicate (n - k) (0 : Int) = 0 :: List.replicate (n - (k + 1)) 0 := by
    rw [show n - k = (n - (k + 1)) + 1 from by omega, List.replicate_succ]
  have t : xs.take (k + 1) = xs.take k ++ [xs.getD k 0] := by
    rw [List.take_succ_eq_append_getElem (by omega)]
    simp [List.getD, List.getElem?_eq_getElem (show k < xs.length by omega)]
  rw [e, t]
  simp only [ints, List.map_append, List.map_cons, List.append_assoc, List.cons_append, List.nil_append]
  rw [List.set_append_right _ _ (by simp; omega)]
  simp [Nat.min_eq_left (show k ≤ xs.length by omega)]

def bstr (ns : List Int) : ByteArray := ns.foldl (fun r n => r.push (UInt8.ofNat n.toNat)) ByteArray.empty

/-- The string of a row of bytes. -/
theorem run_strOf (w : World) (g n : Nat) (ns : List Int) (hl : ns.length = n) (hg : w.heap[g]? = some (.cells (ints ns).toArray 5 (0, 0))) :
    (convert 35 9 (.slice (some ⟨g, 0, none⟩) n n)).run Try.prog w = .ok (.string (bstr ns)) w := by
  rw [run_convert_bytes_string w 35 9 5 _ _ _ Try.underlying35 Try.underlying5 Try.underlying9]
  refine run_bytesToString w ⟨g, 0, none⟩ n n ns ?_
  have := run_loadCells_list (P := Try.prog) w ⟨g, 0, none⟩ (ints ns) (fun j v hj => by rw [add_lit, Nat.zero_add, cell_row hg, List.getElem?_toArray]; exact hj)
  rw [ints_len, hl] at this
  exact this

theorem Try.infoB : (Try.prog.info? 5).map (fun i => (i.zero, i.size, i.bytes)) = some (some (.int .u8 0), 1, 1) := by kernel_rfl

/-- What holds in the loops of Text. -/
def TRel (w wr : World) (g n : Nat) (cs : List Int) (k : Nat) : Prop :=
  wr.heap[g]? = some (.cells (ints (cs.take k ++ List.replicate (n - k) 0)).toArray 5 (0, 0)) ∧ Below w.heap.size w wr

theorem TRel.start {w w1 : World} {n : Nat} {cs : List Int} {cur : List Value} {i0 : TypeInfo} (hz1 : i0.size = 1) (hg : w1.heap[w.heap.size]? = some (.cells cur.toArray 5 (0, 0))) (hc : cur = (madeCells (Value.int .u8 0).cells (n * i0.size)).toList) (hb : Below w.heap.size w w1) :
    TRel w w1 w.heap.size n cs 0 := by
  refine ⟨?_, hb⟩
  rw [hg, hc, hz1, Nat.mul_one, show (Value.int .u8 0).cells = #[Value.int .u8 0] from rfl, toList_madeCells_one]
  simp [ints]

theorem TRel.cell {w wr : World} {g n : Nat} {cs : List Int} {k : Nat} (h : TRel w wr g n cs k) (hl : cs.length = n) (hk : k < n) : (∃ v, wr.cell? ⟨g, k, none⟩ = some v) ∧ wr.frozen? ⟨g, k, none⟩ = false := by
  have hlen : (ints (cs.take k ++ List.replicate (n - k) 0)).length = n := by rw [ints_len]; simp; omega
  refine ⟨?_, frozen_row h.1 k⟩
  rw [cell_row h.1, List.getElem?_toArray, List.getElem?_eq_getElem (by omega)]
  exact ⟨_, rfl⟩

theorem TRel.step {w wr wx : World} {g n : Nat} {cs : List Int} {k : Nat} (h : TRel w wr g n cs k) (hl : cs.length = n) (hk : k < n) (hx : Below wr.heap.size wr wx) (hg : w.heap.size ≤ g) :
    TRel w (wx.setCell ⟨g, k, none⟩ (.int .u8 (cs.getD k 0))) g n cs (k + 1) := by
  have h1 : wx.heap[g]? = some (.cells (ints (cs.take k ++ List.replicate (n - k) 0)).toArray 5 (0, 0)) := (hx.block g (block_lt h.1)).trans h.1
  refine ⟨?_, (h.2.trans (hx.mono h.2.size)).setCell (p := ⟨g, k, none⟩) hg _⟩
  have := set_row h1 k (.int .u8 (cs.getD k 0))
  rw [List.setIfInBounds_toArray, fill_step cs n k hl hk] at this
  exact this

theorem TRel.below {w wr wx : World} {g n : Nat} {cs : List Int} {k : Nat} (h : TRel w wr g n cs k) (hx : Below wr.heap.size wr wx) : TRel w wx g n cs k :=
  ⟨(hx.block g (block_lt h.1)).trans h.1, h.2.trans (hx.mono h.2.size)⟩

theorem TRel.done {w wr : World} {g n : Nat} {cs : List Int} (h : TRel w wr g n cs n) (hl : cs.length = n) : wr.heap[g]? = some (.cells (ints cs).toArray 5 (0, 0)) := by
  have := h.1
  rw [Nat.sub_self, List.take_of_length_le (by omega)] at this
  simpa using this

set_option maxRecDepth 100000 in
set_option maxHeartbeats 4000000 in
theorem text_any (a : Option Addr) (n c : Nat) (xs : List El) (w : World) (hE : IsE w a n c xs) (hn : n * 24 ≤ 140737488351232) :
    Calls Try.prog 6 #[.slice a n c] w fun e w' => e = .returned (.string (bstr (xs.map (·.1)))) ∧ Below w.heap.size w w' := by
  obtain ⟨i0, hi0, hz0, hz1, hz2⟩ := info_parts Try.infoB
  have HE := hd hE
  have hl : Hid ((xs.map (·.1)).length = n) := by rw [List.length_map]; exact hE.1
  have HL := hd hE.1
  clear hE
  go_enter Try.func6, Try.ntmps6
  go_wp2_with (at_make; refine wpList_make_k _ rfl _ _ 35 rfl 5 i0 _ Try.underlying35 hi0 hz0 _ _ _ _ n n rfl rfl rfl rfl (Nat.le_refl _) (by rw [hz2]; omega) (by omega) ?_; intro w1 cur hg1 hcur hb1)
  have R1 : Hid (TRel w w1 w.heap.size n (xs.map (·.1)) 0) := TRel.start hz1 hg1.out hcur.out hb1.out
  clear hg1 hcur hb1 hi0 hz0 hz1 hz2
  go_wp2
  go_loopw [11] (fun i wr => ∃ k : Nat, k ≤ n ∧ i = .int .i64 k ∧ Hid (TRel w wr w.heap.size n (xs.map (·.1)) k)) (fun i _ => n - (intOf i).toNat)
  case atStart => exact ⟨0, Nat.zero_le _, rfl, R1⟩
  case round =>
    obtain ⟨k, hk, rfl, hr⟩ := hrel
    clear R1
    by_cases hlt : k < n
    · have kx : k < xs.length := by have := HL.out; omega
      have HE2 := HE.out.below hr.out.2
      obtain ⟨b, off, rfl, hb⟩ := HE2.addr (by omega)
      obtain ⟨e0, e1, e2⟩ := HE2.at k hlt kx
      obtain ⟨⟨v0, f0⟩, f1⟩ := hr.out.cell hl.out hlt
      have g0 : (xs.map (·.1)).getD k 0 = xs[k].1 := by simp [List.getD, List.getElem?_eq_getElem kx]
      have ST := hd ((hr.out.step (wx := wr) hl.out hlt (Below.refl _ _) (Nat.le_refl _)).below ((Below.refl _ _).alloc (Nat.le_refl _) (.cells #[.int .u8 xs[k].1, .int .i64 xs[k].2.1, .int .i64 xs[k].2.2] 25)))
      rw [g0] at ST
      generalize xs[k] = X at *
      obtain ⟨x0, x1, x2⟩ := X
      have hlw : ¬ wr.heap.size = w.heap.size := by
        have := block_lt hr.out.1
        omega
      have hlw2 : w.heap.size < wr.heap.size := block_lt hr.out.1
      have i1 : (k : Int) < (n : Int) := by omega
      have HR := hd hr.out
      clear hr HE2 g0
      simp only [] at e0 e1 e2 ST
      go_wp2
      exact ⟨⟨k + 1, by omega, by go_num, ST⟩, by simp [intOf]; omega⟩
    · obtain rfl : k = n := by omega
      have hst := run_strOf wr w.heap.size k (xs.map (·.1)) hl.out (hr.out.done hl.out)
      have B := hd hr.out.2
      clear hr
      go_wp2_with (simp only [hst])
      go_ret
      exact ⟨rfl, B.out⟩

end Go.Proofs.Ytlmgogonghafeab
