/-
  Words, walked.
-/
import Derived.Test.YtlmgogonghafeabMW
namespace Go.Proofs.Ytlmgogonghafeab
open Go.RowKit Go.Lib Go.Maps Go.ChangeMaps Go.MapKept Go.WideMaps Go.Sort Go.Shelf
set_option linter.unusedVariables false

theorem fillV (cs : List Value) (z : Value) (n k : Nat) (hl : cs.length = n) (hk : k < n) :
    (cs.take k ++ List.replicate (n - k) z).set k (cs[k]'(by omega)) = cs.take (k + 1) ++ List.replicate (n - (k + 1)) z := by
  rw [List.set_append_right _ _ (by simp; omega), List.take_succ_eq_append_getElem (by omega), show n - k = (n - (k + 1)) + 1 by omega, List.replicate_succ, List.append_assoc]
  congr 1
  have : k - (cs.take k).length = 0 := by simp; omega
  rw [this]
  rfl
/-- A row that is filled with numbers, from the front. -/
def FlS (w : World) (g : Nat) (cs : List Nat) (k : Nat) (W : World) : Prop :=
  W.heap[g]? = some (.cells (((nI cs).map (Value.int .i64)).take k ++ List.replicate (cs.length - k) (Value.int .i64 0)).toArray 3 (0, 0)) ∧ Below w.heap.size w W ∧ w.heap.size ≤ g
theorem FlS.step {w W : World} {g : Nat} {cs : List Nat} {k : Nat} (h : FlS w g cs k W) (hk : k < cs.length) : FlS w g cs (k + 1) (W.setCell ⟨g, k, none⟩ (.int .i64 ((cs[k] : Nat) : Int))) := by
  obtain ⟨h1, h2, h3⟩ := h
  refine ⟨?_, h2.setCell (p := ⟨g, k, none⟩) h3 _, h3⟩
  have h4 := set_row h1 k (.int .i64 ((cs[k] : Nat) : Int))
  have h5 := fillV ((nI cs).map (Value.int .i64)) (.int .i64 0) cs.length k (by simp [nI]) hk
  have e : ((nI cs).map (Value.int .i64))[k]'(by simpa [nI] using hk) = .int .i64 ((cs[k] : Nat) : Int) := by simp [nI]
  rw [e] at h5
  rw [h4, List.setIfInBounds_toArray, h5]
theorem FlS.cell {w W : World} {g : Nat} {cs : List Nat} {k : Nat} (h : FlS w g cs k W) (hk : k < cs.length) : (∃ v, W.cell? ⟨g, k, none⟩ = some v) ∧ W.frozen? ⟨g, k, none⟩ = false := by
  refine ⟨?_, frozen_row h.1 k⟩
  rw [cell_row h.1, List.getElem?_toArray, List.getElem?_append_right (by simp; omega)]
  have : k - (((nI cs).map (Value.int .i64)).take k).length = 0 := by simp [nI]; omega
  rw [this, List.getElem?_replicate, if_pos (by omega)]
  exact ⟨_, rfl⟩
theorem FlS.done {w W : World} {g : Nat} {cs : List Nat} (h : FlS w g cs cs.length W) (hc : cs.length ≤ 9223372036854775807) : IsN w W (.slice (some ⟨g, 0, none⟩) cs.length cs.length) cs := by
  obtain ⟨h1, h2, h3⟩ := h
  have e : ((nI cs).map (Value.int .i64)).take cs.length ++ List.replicate (cs.length - cs.length) (Value.int .i64 0) = (nI cs).map (Value.int .i64) := by
    rw [List.take_of_length_le (by simp [nI])]
    simp
  rw [e] at h1
  have el : (nI cs).length = cs.length := by simp [nI]
  refine ⟨some g, ⟨cs.length, by rw [el], (nI cs).map (Value.int .i64), h1, ?_, rfl, by rw [el]; exact Nat.le_refl _, hc, by simp [nI]⟩, fun k hk => by cases hk; exact h3⟩
  rw [List.take_of_length_le (by simp)]
  have : ∀ l : List Int, l.map (Value.int .i64) = cl ei l := by
    intro l
    induction l with
    | nil => rfl
    | cons x l ih => rw [List.map_cons, cl_cons, ih]; rfl
  exact this _

theorem wdF_len (T : By) : ∀ cur : By, (wdF T cur).length ≤ T.length + (if cur = [] then 0 else 1) := by
  induction T with
  | nil => intro cur; rw [wdF]; split <;> simp [*]
  | cons c T ih =>
    intro cur
    rw [wdF]
    split
    · have := ih (cur ++ [c])
      rw [if_neg (by simp)] at this
      rw [List.length_cons]
      split <;> omega
    · split
      · rename_i h
        have := ih []
        rw [if_pos rfl] at this
        rw [List.length_cons]
        omega
      · have := ih []
        rw [if_pos rfl] at this
        rw [List.length_cons, List.length_cons]
        omega
theorem wd_bd (T : By) : (wdP T).length ≤ T.length ∧ ∀ k ∈ wdP T, k.length ≤ T.length := by
  refine ⟨by have := wdF_len T []; rw [if_pos rfl] at this; exact this, fun k hk => ?_⟩
  have h := wdF_flat T []
  have h1 : k.length ≤ (wdP T).flatten.length := (List.sublist_flatten_of_mem hk).length_le
  have h2 : (T.filter ltB).length ≤ T.length := List.length_filter_le _ _
  unfold wdP at h1
  rw [h, List.nil_append] at h1
  omega

set_option maxRecDepth 100000 in
set_option maxHeartbeats 8000000 in
theorem words_any (x : Nat) (T : By) (w : World) (hI : IX w x T) (hT : T.length ≤ 1000000) :
    Calls Try.prog 13 #[.pointer (some ⟨x, 0, none⟩)] w fun e w' => ∃ v1 v2 ks, e = .returned (.tuple #[v1, v2]) ∧ Wds (wdP T) ks ∧ StI w w' v1 (ks.map bsA) ∧ IsN w w' v2 (ks.map (fun k => (wdP T).count k)) ∧ Below w.heap.size w w' := by
  have HI := hd hI
  have HT := hd hT
  have M0 := hd (MW.made w)
  have CT := hd (itext_any x T (w.alloc (.map #[] 0)) (hI.below ((Below.refl _ _).alloc (Nat.le_refl _) _)) (by omega))
  have B0 : Hid (Below w.heap.size w (w.alloc (.map #[] 0))) := (Below.refl _ _).alloc (Nat.le_refl _) _
  have CF := hd (fun W => fields_any (bsA T) W (by rw [bsA_size]; omega))
  have HF := hd (fields_wd (bsA T))
  have HW := hd (wd_bd T)
  rw [bsA_list] at HF
  generalize goFieldsP noR (bsA T) = FL at *
  clear hI hT
  have hmm := @run_makeMap Try.prog
  go_enter Try.func13, Try.ntmps13
  go_upto_region 2 with (simp only [hmm])
  clear hmm
  generalize w.alloc (.map #[] 0) = w1 at *
  have hbw : w.heap.size < w1.heap.size := M0.out.lt
  go_wp2_with (first
    | (go_at_call 10; refine CT.out.mono ?_; rintro e w2 ⟨rfl, hb2⟩)
    | (go_at_call 30; refine (CF.out w2).mono ?_; rintro e w3 ⟨v, rfl, hS⟩; obtain ⟨av, cv, rfl, -⟩ := hS.cells))
  have B2 := hd (B0.out.trans (hb2.mono B0.out.size))
  have hb23 : Below w2.heap.size w2 w3 := hS.choose_spec.2.2
  have S3 : Hid (MW w3 w.heap.size [] ∧ Below w.heap.size w w3) := ⟨(M0.out.below hb2).below hb23, B2.out.trans (hb23.mono B2.out.size)⟩
  have HWW : Hid (w.heap.size < w2.heap.size) := by show _ < _; have := hb2.size; omega
  have HS := hd hS
  obtain ⟨N, hN⟩ : ∃ N, FL.length = N := ⟨_, rfl⟩
  have HN := hd hN
  rw [hN]
  have hN6 : N ≤ 1000000 := by
    have h1 := congrArg List.length HF.out
    rw [List.length_map, hN] at h1
    have := HW.out.1
    have := HT.out
    omega
  clear hS hb2 hb23 hN CT CF M0 B0
  go_loopw [16] (fun i wr => ∃ k : Nat, k ≤ N ∧ i = .int .i64 k ∧ Hid (MW wr w.heap.size ((FL.take k).map fun x => x.data.toList) ∧ Fr (fun j => j = w.heap.size) w3 wr)) (fun i _ => N - (intOf i).toNat)
  case atStart => exact ⟨0, Nat.zero_le _, rfl, S3.out.1, Fr.refl _ _⟩
  case round =>
    obtain ⟨k, hk, rfl, hS⟩ := hrel
    by_cases hlt : k < N
    · have hkF : k < FL.length := by rw [HN.out]; exact hlt
      obtain ⟨a0, c0, e0, hlc, hc63, hrow⟩ := HS.out.cells
      obtain ⟨g, rfl', hg2, hg3, hcell⟩ := hrow (by omega)
      obtain ⟨ea, -, -⟩ := Value.slice.inj e0
      subst ea
      subst rfl'
      have ck := (hS.out.2.cell (p := ⟨g, k, none⟩) hg3 (by show ¬ g = w.heap.size; have := HWW.out; omega)).trans (hcell k hkF)
      have hsz : FL[k].size ≤ 1000000 := by
        have h1 : FL[k].data.toList ∈ wdP T := by rw [← HF.out]; exact List.mem_map.2 ⟨_, List.getElem_mem hkF, rfl⟩
        have h2 := HW.out.2 _ h1
        have h3 : FL[k].data.toList.length = FL[k].size := by simp
        have := HT.out
        omega
      have hlk := hS.out.1.look FL[k] (by unfold maxLen; omega)
      have hcb : ((FL.take k).map fun x => x.data.toList).count FL[k].data.toList ≤ 1000000 := by
        refine Nat.le_trans (List.count_le_length) ?_
        simp
        omega
      obtain ⟨w', hup, hM, hF2⟩ := hS.out.1.add FL[k] (by unfold maxLen; omega) (by simp; omega)
      have e1 : (FL.take (k + 1)).map (fun x => x.data.toList) = (FL.take k).map (fun x => x.data.toList) ++ [FL[k].data.toList] := by
        rw [List.take_succ_eq_append_getElem hkF, List.map_append]
        rfl
      have Z : Hid (MW w' w.heap.size ((FL.take (k + 1)).map fun x => x.data.toList) ∧ Fr (fun j => j = w.heap.size) w3 w') := by
        rw [e1]
        exact ⟨hM, hS.out.2.trans hF2⟩
      generalize ((FL.take k).map fun x => x.data.toList).count FL[k].data.toList = ct at *
      generalize FL[k] = sk at *
      have i1 : (k : Int) < (N : Int) := by omega
      have hup2 : (Instr.mapUpdate 69 (.map (some w.heap.size)) (.string sk) (.int .i64 ((ct : Int) + 1))).run Try.prog wr = .ok () w' := by
        rw [← hup]
        push_cast
        rfl
      clear hS hrow hcell hM hF2 e1 hup e0 hlc hc63 hsz
      go_wp2
      exact ⟨⟨k + 1, by omega, by go_num, Z⟩, by simp [intOf]; omega⟩
    · obtain rfl : k = N := by omega
      have eF : (FL.take k).map (fun x => x.data.toList) = wdP T := by rw [← HN.out, List.take_length]; exact HF.out
      have S4 := hS.out
      rw [eF] at S4
      have hBw : Below w.heap.size w wr := S3.out.2.trans (S4.2.below S3.out.2.size (fun j hj => by rw [hj]; exact Nat.le_refl _))
      have HM := hd S4.1
      have HBw := hd hBw
      obtain ⟨D, nD, hown, hsz, hks⟩ := S4.1.keys
      have CK := hd (keys_any (some w.heap.size) wr)
      have CS := hd (sorted_keys w.heap.size nD D RV wr hown (by unfold maxLen; have := HW.out.1; have := HT.out; omega) (by have := HW.out.1; have := HT.out; omega))
      have HKS := hd hks
      clear hS S4 hBw hown hsz hks HS S3 HN HF eF hk hlt hN6
      go_upto_region 8 with (first
        | (go_at_call 33; refine CK.out.mono ?_; rintro e w4 ⟨rfl, rfl⟩)
        | (go_at_call 32; refine CS.out.mono ?_; rintro e w5 ⟨v1, ss, rfl, hss, hrow, -, hb5⟩))
      obtain ⟨hnd, hmem, hsl⟩ := HKS.out ss hss
      have HSL : Hid ((ss.mergeSort (fun x y => decide (x ≤ y))).length ≤ 1000000) := by
        show _ ≤ _
        rw [List.length_mergeSort ss]
        have := HW.out.1
        have := HT.out
        omega
      have WD := hd (Wds.of ss hnd hmem)
      have hlen : (ss.mergeSort (fun x y => decide (x ≤ y))).length = ss.length := List.length_mergeSort ss
      rw [← hlen] at hrow
      clear hlen hss hnd hmem hsl CK CS HKS
      generalize ss.mergeSort (fun x y => decide (x ≤ y)) = ks at *
      have b4 : Below wr.heap.size wr (wr.alloc (.cells #[.map (some w.heap.size)] 69)) := (Below.refl _ _).alloc (Nat.le_refl _) _
      have B5 := hd (HBw.out.trans ((b4.trans (hb5.mono b4.size)).mono HBw.out.size))
      have M5 := hd (HM.out.below (b4.trans (hb5.mono b4.size)))
      have S5 : Hid (StI w w5 v1 (ks.map bsA)) := by
        have e : ks.map encStr = (ks.map bsA).map Value.string := by rw [List.map_map]; rfl
        have el : ks.length = (ks.map bsA).length := by simp
        rw [e, el] at hrow
        obtain ⟨β, q1, q2⟩ := sf_of_owns hrow
        exact ⟨β, q1, fun g hg => by have h1 := q2 g hg; have h2 := b4.size; have h3 := HBw.out.size; omega, B5.out⟩
      clear hrow hb5 b4 HM HBw
      obtain ⟨a1, c1, rfl, hlc, hc63, hrow⟩ := S5.out.cells
      have eL : (ks.map bsA).length = ks.length := by simp
      have HRow : Hid (0 < ks.length → ∃ g, a1 = some ⟨g, 0, none⟩ ∧ g < w5.heap.size ∧ ∀ i (h : i < ks.length), w5.cell? ⟨g, i, none⟩ = some (.string (bsA ks[i]))) := by
        intro h0
        obtain ⟨g, q1, q2, q3, q4⟩ := hrow (by rw [eL]; exact h0)
        refine ⟨g, q1, q3, fun i hi => ?_⟩
        rw [q4 i (by rw [eL]; exact hi), List.getElem_map]
      rw [eL] at hlc
      rw [eL]
      clear hrow
      obtain ⟨L, hL⟩ : ∃ L, ks.length = L := ⟨_, rfl⟩
      rw [hL] at hlc HSL ⊢
      have HLL := hd hL
      have hL6 := HSL.out
      obtain ⟨i0, hi0, hz0, hz1, hz2⟩ := info_parts Try.infoI
      have HLC := hd (And.intro hlc hc63)
      clear hL eL hlc hc63
      go_upto_region 9 with (at_make; refine wpList_make_k _ rfl _ _ 36 rfl 3 i0 _ Try.underlying36 hi0 hz0 _ _ _ _ L L rfl rfl rfl rfl (Nat.le_refl _) (by rw [hz2]; omega) (by omega) ?_; intro w6 cur hg6 hcur hb6)
      have B6 := hd (B5.out.trans (hb6.out.mono B5.out.size))
      have F6 : Hid (FlS w5 w5.heap.size (ks.map fun k => (wdP T).count k) 0 w6) := by
        have h1 := hg6.out
        rw [hcur.out, hz1, Nat.mul_one, show (Value.int .i64 0).cells = #[Value.int .i64 0] from rfl, toList_madeCells_one] at h1
        refine ⟨?_, hb6.out, Nat.le_refl _⟩
        rw [h1]
        simp [HLL.out]
      have HCL : Hid ((ks.map fun k => (wdP T).count k).length = L) := by show _ = _; rw [List.length_map]; exact HLL.out
      clear hg6 hcur hb6 hi0 hz0 hz1 hz2
      go_upto_region 10 with fail
      go_loopw [33] (fun i wr => ∃ j : Nat, j ≤ L ∧ i = .int .i64 j ∧ Hid (FlS w5 w5.heap.size (ks.map fun k => (wdP T).count k) j wr)) (fun i _ => L - (intOf i).toNat)
      case atStart => exact ⟨0, Nat.zero_le _, rfl, F6⟩
      case round =>
        obtain ⟨j, hj, rfl, hS⟩ := hrel
        clear F6
        by_cases hlt : j < L
        · have hjk : j < ks.length := by rw [HLL.out]; exact hlt
          obtain ⟨g, rfl, hg, hcell⟩ := HRow.out (by omega)
          have hbw := hS.out.2.1
          have ck := (hbw.cell (p := ⟨g, j, none⟩) hg).trans (hcell j hjk)
          have hkl : (ks[j]).length ≤ 1000000 := by
            have h1 := (WD.out.mem ks[j]).1 (List.getElem_mem hjk)
            have h2 := HW.out.2 _ h1
            have := HT.out
            omega
          have hlk := (M5.out.below hbw).look (bsA ks[j]) (by rw [bsA_size]; unfold maxLen; omega)
          rw [bsA_list] at hlk
          obtain ⟨⟨v0, c0⟩, f0⟩ := hS.out.cell (by rw [HCL.out]; exact hlt)
          have ST := hd (hS.out.step (by rw [HCL.out]; exact hlt))
          rw [List.getElem_map] at ST
          generalize (wdP T).count ks[j] = ct at *
          generalize bsA ks[j] = sk at *
          have i1 : (j : Int) < (L : Int) := by omega
          clear hS hcell hbw hkl
          go_wp2
          exact ⟨⟨j + 1, by omega, by go_num, ST⟩, by simp [intOf]; omega⟩
        · obtain rfl : j = L := by omega
          have S6 := hS.out
          have hIN : IsN w wr (.slice (some ⟨w5.heap.size, 0, none⟩) j j) (ks.map fun k => (wdP T).count k) := by
            have h1 := S6
            rw [← HCL.out] at h1
            have h2 := h1.done (by rw [HCL.out]; omega)
            rw [HCL.out] at h2
            exact h2.mono B5.out.size
          have Z : Hid (Wds (wdP T) ks ∧ StI w wr (.slice a1 j c1) (ks.map bsA) ∧ IsN w wr (.slice (some ⟨w5.heap.size, 0, none⟩) j j) (ks.map fun k => (wdP T).count k) ∧ Below w.heap.size w wr) := ⟨WD.out, by have h := S5.out.below S6.2.1; rw [List.length_map, HLL.out] at h; exact h, hIN, B5.out.trans (S6.2.1.mono B5.out.size)⟩
          clear hS S6 hIN
          go_wp2
          go_ret2
          exact ⟨_, _, ks, rfl, Z.out⟩
end Go.Proofs.Ytlmgogonghafeab
