/-
  slices.Concat of pieces; Text.
-/
import Derived.Test.YtlmgogonghafeabMR
import Derived.Lib.AppendZerosOnto
namespace Go.Proofs.Ytlmgogonghafeab
open Go.RowKit Go.Lib
set_option linter.unusedVariables false

set_option maxRecDepth 100000 in
/-- append of a slice, empty or not, onto nil or a row of one's own. -/
theorem run_appS {α : Type} {f : α → List Value} {k : Nat} (hz : Sz f k) (w : World) (t e : TypeId) (i : TypeInfo) (z : Value) (bytes : Nat) (ht : Try.prog.underlying t = some (.slice e)) (hi : Try.prog.info? e = some i) (hzo : i.zero = some z) (hsz : i.size = k) (hzs : z.cells.size = k) (hby : i.bytes = bytes)
    (β : Option Nat) (v : Value) (xs : List α) (hv : SF f k w e β v xs) (a : Option Addr) (m c : Nat) (ys : List α) (hl : ys.length = m) (hc : 0 < m → ∃ ad, a = some ad ∧ ∀ j u, (cl f ys)[j]? = some u → w.cell? (ad.add j) = some u) (hroom : roomy (xs.length + m) bytes) :
    ∃ v' w' β', (∀ ty, (Builtin.append_ #[t, t] ty #[v, .slice a m c]).run Try.prog w = .ok v' w') ∧ SF f k w' e β' v' (xs ++ ys) ∧ (β' = β ∨ ∃ g, β' = some g ∧ w.heap.size ≤ g) ∧ Fr (fun k => β = some k) w w' := by
  by_cases hm : 0 < m
  · obtain ⟨ad, rfl, hcc⟩ := hc hm
    obtain ⟨v', w', hr, g', h1, h2⟩ := run_pushF hz (P := Try.prog) w t 0 e i z bytes ht hi hzo hsz hzs hby β v xs hv ad m c ys hl hcc hm hroom.2 hroom.1
    refine ⟨v', w', some g', fun ty => hr, h1, ?_, ?_⟩
    · rcases h2 with ⟨e1, -⟩ | ⟨e1, -⟩
      · exact .inl e1.symm
      · exact .inr ⟨g', rfl, by omega⟩
    · rcases h2 with ⟨e1, hf⟩ | ⟨e1, hf⟩
      · exact hf.mono (fun k _ hk => by rw [e1, hk])
      · exact hf.mono (fun k _ hk => hk.elim)
  · obtain rfl : m = 0 := by omega
    obtain rfl : ys = [] := List.length_eq_zero_iff.1 hl
    have hlc : ∀ (x : Addr), (loadCells x 0).run Try.prog w = .ok #[] w := fun x => by simpa using run_loadCells_list (P := Try.prog) w x [] (by simp)
    obtain ⟨a', c', rfl, h1, h2⟩ := hv.form
    refine ⟨_, w, β, fun ty => ?_, by simpa using hv, .inl rfl, Fr.refl _ _⟩
    cases a <;> cases a' <;> simp [Builtin.append_, run_underlying ht, Builtin.lenOf, Builtin.firstCells, sizeOf, typeInfo, hi, storeCells, hlc, h1]

def ub1 (b : UInt8) : List Value := [ub b]
theorem sz_ub : Sz ub1 1 := fun x => ⟨rfl, fun v hv => by simp [ub1] at hv; subst hv; rfl⟩
theorem ub1_get (bs : By) (i : Nat) : (cl ub1 bs)[i]? = (bs[i]?).map ub := by
  by_cases h : i < bs.length
  · have := cl_get sz_ub bs i 0 h (by omega)
    simp only [Nat.mul_one, Nat.add_zero] at this
    rw [this, List.getElem?_eq_getElem h]
    rfl
  · rw [List.getElem?_eq_none (l := cl ub1 bs) (by rw [cl_len sz_ub]; omega), List.getElem?_eq_none (l := bs) (by omega)]
    rfl
/-- Bytes in memory of one's own. -/
def BtI (w wr : World) (v : Value) (bs : By) : Prop := ∃ β, SF ub1 1 wr 5 β v bs ∧ (∀ k, β = some k → w.heap.size ≤ k) ∧ Below w.heap.size w wr
theorem BtI.app {w wr : World} {v : Value} {bs : By} (h : BtI w wr v bs) {q : Pc} (hq : OkPc wr q) (hroom : bs.length + q.bs.length ≤ 100000000000) :
    ∃ v' w', (∀ ty, (Builtin.append_ #[35, 35] ty #[v, q.val]).run Try.prog wr = .ok v' w') ∧ BtI w w' v' (bs ++ q.bs) ∧ Fr (fun k => w.heap.size ≤ k) wr w' := by
  obtain ⟨β, h1, h2, h3⟩ := h
  obtain ⟨i0, hi0, hz0, hz1, hz2⟩ := info_parts Try.infoB
  obtain ⟨o1, o2, o3, o4⟩ := hq
  obtain ⟨v', w', β', hr, hS, hβ, hF⟩ := run_appS sz_ub wr 35 5 i0 _ 1 Try.underlying35 hi0 hz0 hz1 rfl hz2 β v bs h1 (some ⟨q.b, q.off, none⟩) q.bs.length q.cap q.bs rfl (fun hm => ⟨_, rfl, fun j u hj => by
    rw [ub1_get] at hj
    have hlt : j < q.bs.length := by
      by_cases h : j < q.bs.length
      · exact h
      · rw [List.getElem?_eq_none (by omega)] at hj; cases hj
    rw [List.getElem?_eq_getElem hlt] at hj
    rw [add_lit, o4 j hlt]
    exact hj⟩) (by unfold roomy; omega)
  have hF2 : Fr (fun k => w.heap.size ≤ k) wr w' := hF.mono (fun k _ hk => h2 k hk)
  refine ⟨v', w', hr, ⟨β', hS, fun k hk => ?_, h3.trans (hF2.below h3.size (fun k hk => hk))⟩, hF2⟩
  rcases hβ with e | ⟨g, e, hg⟩
  · rw [e] at hk; exact h2 k hk
  · rw [e] at hk; cases hk; have := h3.size; omega

set_option maxRecDepth 100000 in
set_option maxHeartbeats 4000000 in
theorem grow_any (L : Nat) (w : World) (hL : L ≤ 4000000000) : Calls Try.prog 51 #[.slice none 0 0, .int .i64 ((L : Nat) : Int)] w fun e w' => ∃ v, e = .returned v ∧ BtI w w' v [] := by
  by_cases h : L = 0
  · subst h
    go_enter Try.func51, Try.ntmps51
    go_wp2
    go_ret
    exact ⟨_, rfl, none, ⟨rfl, rfl⟩, fun k hk => (by cases hk), Below.refl _ _⟩
  · obtain ⟨i0, hi0, hz0, hz1, hz2⟩ := info_parts Try.infoB
    have hold : (Builtin.firstCells i0.size 0 (.slice none 0 0)).run Try.prog w.drew = .ok #[] w.drew := by
      simp [Builtin.firstCells]
    have h := fun ty => Lib.run_append_grow_zeros w 35 3 ty 5 i0 _ .i64 .i64 Try.underlying35 Try.underlying3 hi0 hz0 none 0 0 [] hold L (by omega) (by omega) (by omega) (by omega) (by rw [hz2]; omega) (growslice_fits (by omega) (by rw [hz2]; omega))
    simp only [Nat.zero_add] at h
    have hG1 := grownCap_ge w L 0 5
    have hG2 := grownCap_le_maxLen w L 0 5 (by unfold maxLen; omega)
    generalize grownCap w L 0 5 = G at *
    generalize hW : w.drew.alloc (.cells ((#[] : Array Value) ++ Builtin.zeroCells (Value.int .u8 0).cells L ++ Builtin.zeroCells (Value.int .u8 0).cells (G - L)) 5) = W at *
    have R : Hid (BtI w W (.slice (some ⟨w.heap.size, 0, none⟩) 0 G) []) := by
      have hh : W.heap[w.heap.size]? = some (.cells ((#[] : Array Value) ++ Builtin.zeroCells (Value.int .u8 0).cells L ++ Builtin.zeroCells (Value.int .u8 0).cells (G - L)) 5 (0, 0)) := by
        rw [← hW, show w.heap.size = w.drew.heap.size from rfl, heap_alloc_new]
      have hl : ((#[] : Array Value) ++ Builtin.zeroCells (Value.int .u8 0).cells L ++ Builtin.zeroCells (Value.int .u8 0).cells (G - L)).toList.length = G * 1 := by
        rw [Array.toList_append, Array.toList_append, List.length_append, List.length_append, Array.length_toList (xs := Builtin.zeroCells _ _), Array.length_toList (xs := Builtin.zeroCells _ _), size_zeroCells, size_zeroCells]
        simp [Value.cells]
        unfold maxLen at hG2
        omega
      refine ⟨some w.heap.size, ⟨G, rfl, ((#[] : Array Value) ++ Builtin.zeroCells (Value.int .u8 0).cells L ++ Builtin.zeroCells (Value.int .u8 0).cells (G - L)).toList, ?_, rfl, rfl, Nat.zero_le _, hG2, hl⟩, fun k hk => by cases hk; exact Nat.le_refl _, ?_⟩
      · rw [hh]
      · rw [← hW]
        exact (((Fr.drew (fun _ => False) w).trans (Fr.alloc _ _ _)).below (Nat.le_refl _) (fun k h => h.elim))
    have h0 : (0 : Int) < (L : Int) := by omega
    have h1 : ¬ (L : Int) < 0 := by omega
    clear hW hi0 hz0 hz1 hz2 hold hG1
    unfold maxLen at hG2
    have HG2 := hd hG2
    clear hG2
    go_enter Try.func51, Try.ntmps51
    go_wp2_with (at_builtin; refine wpList_append_k _ rfl _ _ 35 3 rfl _ _ rfl rfl (h _) ?_)
    go_ret
    exact ⟨_, rfl, R.out⟩

set_option maxRecDepth 100000 in
set_option maxHeartbeats 4000000 in
theorem concat_any (a : Option Addr) (n c : Nat) (ps : List Pc) (w : World) (hP : IsP w a n c ps) (hT : (txP ps).length ≤ 4000000000) :
    Calls Try.prog 24 #[.slice a n c] w fun e w' => ∃ v, e = .returned v ∧ BtI w w' v (txP ps) := by
  have HP := hd hP
  have HT := hd hT
  have HN := hd hP.len
  have hnc := hP.le
  have hc := hP.cap
  have hn63 : n ≤ 9223372036854775807 := by omega
  have HC := hd (And.intro hnc hc)
  clear hP hT hnc hc
  go_enter Try.func24, Try.ntmps24
  go_wp2
  go_loop [3, 11] (fun sz i => ∃ k : Nat, k ≤ n ∧ i = .int .i64 k ∧ sz = .int .i64 ((beg ps k : Nat) : Int)) (fun _ i => n - (intOf i).toNat)
  case atStart => exact ⟨0, Nat.zero_le _, rfl, rfl⟩
  case round =>
    obtain ⟨k, hk, rfl, rfl⟩ := hrel
    by_cases hlt : k < n
    · have hkp : k < ps.length := by rw [HN.out]; exact hlt
      obtain ⟨g, off, rfl, hg, hcell⟩ := HP.out.row (by omega)
      have ck := hcell k hkp
      have b1 := beg_succ hkp
      have b2 := beg_le (ps := ps) (j := k + 1) (by omega)
      have b3 := HT.out
      unfold Pc.val at ck
      generalize ps[k] = q at *
      obtain ⟨qb, qo, qc, qs⟩ := q
      simp only at ck b1
      have w1 : wrap64 ((beg ps k : Int) + (qs.length : Int)) = ((beg ps (k + 1) : Nat) : Int) := wrA b1 (by omega)
      have h0 : ¬ ((beg ps (k + 1) : Nat) : Int) < 0 := by omega
      have i1 : (k : Int) < (n : Int) := by omega
      have B1 := hd b1
      clear b1 b2 b3 hcell
      go_wp2
      exact ⟨⟨k + 1, by omega, by go_num, by rw [w1]⟩, by simp [intOf]; omega⟩
    · obtain rfl : k = n := by omega
      have e : beg ps k = (txP ps).length := by rw [← HN.out, beg_all]
      rw [e]
      have CG := hd (grow_any (txP ps).length w HT.out)
      clear e
      go_wp2_with (go_at_call 51; refine CG.out.mono ?_; rintro e w1 ⟨v, rfl, hB⟩)
      have B0 := hd hB
      clear hB CG hk hlt
      go_loopw [6, 27] (fun v i wr => ∃ j : Nat, j ≤ k ∧ i = .int .i64 j ∧ Hid (BtI w wr v (txP (ps.take j)))) (fun _ i _ => k - (intOf i).toNat)
      case atStart => exact ⟨0, Nat.zero_le _, rfl, B0⟩
      case round =>
        obtain ⟨j, hj, rfl, hS⟩ := hrel
        clear B0
        by_cases hlt : j < k
        · have hkp : j < ps.length := by rw [HN.out]; exact hlt
          have hbw := hS.out.choose_spec.2.2
          have HP2 := HP.out.below hbw
          obtain ⟨g, off, rfl, hg, hcell⟩ := HP2.row (by omega)
          have ck := hcell j hkp
          have oq := HP2.all ps[j] (List.getElem_mem hkp)
          have b1 := beg_succ hkp
          have b2 := beg_le (ps := ps) (j := j + 1) (by omega)
          have b3 := HT.out
          obtain ⟨v', w', hr, hB2, -⟩ := hS.out.app oq (by unfold beg at b1 b2; omega)
          have e := txP_succ hkp
          rw [← e] at hB2
          have B2 := hd hB2
          unfold Pc.val at ck hr
          generalize ps[j] = q at *
          obtain ⟨qb, qo, qc, qs⟩ := q
          simp only at ck hr
          have i1 : (j : Int) < (k : Int) := by omega
          clear hcell oq b1 b2 b3 hbw hB2 hS e HP2
          go_wp2_with (at_builtin; refine wpList_append_k _ rfl _ _ 35 35 rfl _ _ rfl rfl (hr _) ?_)
          exact ⟨⟨j + 1, by omega, by go_num, B2⟩, by simp [intOf]; omega⟩
        · obtain rfl : j = k := by omega
          have e : txP (ps.take j) = txP ps := by rw [← HN.out, List.take_length]
          have Z := hd hS.out
          rw [e] at Z
          clear hS
          go_wp2
          go_ret
          exact ⟨_, rfl, Z.out⟩

set_option maxRecDepth 100000 in
set_option maxHeartbeats 4000000 in
theorem text_str (w wr : World) (v : Value) (bs : By) (h : BtI w wr v bs) : (convert 35 9 v).run Try.prog wr = .ok (.string (bsA bs)) wr := by
  obtain ⟨β, h1, h2, h3⟩ := h
  cases β with
  | none =>
    obtain ⟨rfl, rfl⟩ := h1
    rw [run_convert_bytes_string wr 35 9 5 _ _ _ Try.underlying35 Try.underlying5 Try.underlying9]
    simp [Conv.bytesToString, bsA, Sem.run_pure]
    rfl
  | some g =>
    obtain ⟨cap, rfl, hR⟩ := h1
    refine run_str wr g 0 bs.length cap bs rfl (fun j hj => ?_)
    have := hR.cell sz_ub j 0 hj (by omega)
    rw [Nat.mul_one, Nat.add_zero] at this
    rw [Nat.zero_add, this]
    rfl

set_option maxRecDepth 100000 in
set_option maxHeartbeats 4000000 in
theorem itext_any (x : Nat) (T : By) (w : World) (hI : IX w x T) (hT : T.length ≤ 4000000000) :
    Calls Try.prog 10 #[.pointer (some ⟨x, 0, none⟩)] w fun e w' => e = .returned (.string (bsA T)) ∧ Below w.heap.size w w' := by
  obtain ⟨a, n, c, ps, c0, c1, hP, rfl⟩ := hI.cells
  have CC := hd (concat_any a n c ps w hP hT)
  clear c1 hP hI hT
  go_enter Try.func10, Try.ntmps10
  go_wp2_with (go_at_call 24; refine CC.out.mono ?_; rintro e w1 ⟨v, rfl, hB⟩; have hst := text_str _ _ _ _ hB; have HB := hd hB.choose_spec.2.2; clear hB)
  go_ret
  exact ⟨rfl, HB.out⟩
end Go.Proofs.Ytlmgogonghafeab
