/-
  SearchNext.
-/
import Derived.Test.YtlmgogonghafeaaFn
namespace Go.Proofs.Ytlmgogonghafeaa
open Go.RowKit Go.Lib
set_option linter.unusedVariables false

/-- The first number of the list that is not below pos; -1: none. -/
def nxL (l : List Nat) (pos : Int) : Int := match l.filter (fun q => decide (pos ≤ ((q : Nat) : Int))) with | [] => -1 | q :: _ => ((q : Nat) : Int)
theorem nxP_nxL (T p : By) (pos : Int) : nxP T p pos = nxL (plc T p) pos := rfl
theorem nxL_cons (a : Nat) (r : List Nat) (pos : Int) : nxL (a :: r) pos = if pos ≤ ((a : Nat) : Int) then ((a : Nat) : Int) else nxL r pos := by
  unfold nxL
  by_cases h : pos ≤ ((a : Nat) : Int)
  · rw [if_pos h, List.filter_cons_of_pos (by simpa using h)]
  · rw [if_neg h, List.filter_cons_of_neg (by simpa using h)]
theorem plc_sorted (T p : By) : (plc T p).Pairwise (· < ·) := by
  unfold plc fnd
  exact List.Pairwise.filter _ (List.pairwise_lt_range' (s := 0) (n := T.length + 1 - p.length))
theorem plc_lt {T p : By} (hp : 1 ≤ p.length) : ∀ q ∈ plc T p, q < T.length := by
  intro q hq
  unfold plc at hq
  rcases fnd_mem.1 hq with ⟨h1, h2, h3⟩ | ⟨h1, h2⟩ <;> omega
/-- The place ahead of the k-th. -/
def prN (l : List Nat) (k : Nat) : Int := if k = 0 then -1 else ((l.getD (k - 1) 0 : Nat) : Int)
theorem prN_filter {l : List Nat} (hs : l.Pairwise (· < ·)) {k : Nat} (hk : k ≤ l.length) : l.filter (fun q => decide (prN l k + 1 ≤ ((q : Nat) : Int))) = l.drop k := by
  by_cases h0 : k = 0
  · subst h0
    rw [List.drop_zero]
    refine List.filter_eq_self.2 fun q _ => ?_
    simp [prN]
  · have e : prN l k = ((l[k - 1]'(by omega) : Nat) : Int) := by
      unfold prN
      rw [if_neg h0]
      simp [List.getD, show k - 1 < l.length by omega]
    rw [e]
    have hp := List.pairwise_iff_getElem.1 hs
    obtain ⟨m, hm⟩ : ∃ m, l[k - 1]'(by omega) = m := ⟨_, rfl⟩
    rw [hm]
    have h1 : (l.take k).filter (fun q => decide (((m : Nat) : Int) + 1 ≤ ((q : Nat) : Int))) = [] := by
      rw [List.filter_eq_nil_iff]
      intro q hq
      obtain ⟨i, hi, rfl⟩ := List.getElem_of_mem hq
      rw [List.length_take] at hi
      rw [List.getElem_take]
      simp only [decide_eq_true_eq]
      by_cases hik : i = k - 1
      · subst hik; omega
      · have := hp i (k - 1) (by omega) (by omega) (by omega)
        omega
    have h2 : (l.drop k).filter (fun q => decide (((m : Nat) : Int) + 1 ≤ ((q : Nat) : Int))) = l.drop k := by
      refine List.filter_eq_self.2 fun q hq => ?_
      obtain ⟨i, hi, rfl⟩ := List.getElem_of_mem hq
      rw [List.length_drop] at hi
      rw [List.getElem_drop]
      simp only [decide_eq_true_eq]
      have := hp (k - 1) (k + i) (by omega) (by omega) (by omega)
      omega
    have h3 : ∀ (P : Nat → Bool), l.filter P = (l.take k).filter P ++ (l.drop k).filter P := fun P => by rw [← List.filter_append, List.take_append_drop]
    rw [h3, h1, h2, List.nil_append]
theorem prN_bd {l : List Nat} {L k : Nat} (h : ∀ q ∈ l, q < 1500) (hL : l.length = L) (hk : k ≤ L) : -1 ≤ prN l k ∧ prN l k ≤ 1500 := by
  unfold prN
  split
  · omega
  · have hk1 : k - 1 < l.length := by omega
    have := h _ (List.getElem_mem hk1)
    simp only [List.getD, List.getElem?_eq_getElem hk1, Option.getD_some]
    omega
theorem nx_mid {l : List Nat} (hs : l.Pairwise (· < ·)) {k : Nat} (hk : k < l.length) : nxL l (prN l k + 1) = ((l[k] : Nat) : Int) := by
  unfold nxL
  rw [prN_filter hs (Nat.le_of_lt hk), List.drop_eq_getElem_cons hk]
theorem nx_end {l : List Nat} (hs : l.Pairwise (· < ·)) : nxL l (prN l l.length + 1) = -1 := by
  unfold nxL
  rw [prN_filter hs (Nat.le_refl _), List.drop_length]
theorem prN_succ {l : List Nat} {k : Nat} (hk : k < l.length) : prN l (k + 1) = ((l[k] : Nat) : Int) := by
  unfold prN
  rw [if_neg (by omega)]
  simp [List.getD, hk]

set_option maxRecDepth 100000 in
set_option maxHeartbeats 8000000 in
theorem next_law (t p : ByteArray) (pos : Int) (w : World) (ht : t.size ≤ 9223372036854775807) (hp : p.size ≤ 9223372036854775807) (hpos : pos ≤ 9223372036854775807) :
    Calls Try.prog 3 #[.string t, .string p, .int .i64 pos] w fun e w' => e = .returned (.bool true) ∧ Below w.heap.size w w' := by
  have CE := hd (elems_any t 1500 w (by omega) ht)
  have CNd := hd (fun W => needle_any p W hp)
  obtain ⟨PP, hPP⟩ : ∃ PP : ByteArray, bsA (ndP p.data.toList) = PP := ⟨_, rfl⟩
  have HPT : Hid (patB PP.data.toList = true) := by show _ = _; rw [← hPP, bsA_list]; exact patB_ndP _
  rw [hPP] at CNd
  obtain ⟨n, hn⟩ : ∃ n, min t.size 1500 = n := ⟨_, rfl⟩
  have HNn : Hid (n ≤ 1500 ∧ n ≤ t.size) := by constructor <;> omega
  rw [hn] at CE
  have HPos := hd hpos
  clear hPP hn ht hp hpos
  have hlen := hd (elS_len t.data.toList n)
  generalize elS t.data.toList n = xs at *
  go_enter Try.func3, Try.ntmps3
  go_upto_region 2 with (go_at_call 9; refine CE.out.mono ?_; rintro e w1 ⟨v, rfl, hT⟩)
  obtain ⟨a, c, rfl, hE, -⟩ := hT.isE
  have B1 := hd hT.choose_spec.2.2
  rw [hlen.out] at hE
  have CN := hd (new_any a n c xs w1 hE (by have := HNn.out; omega))
  have CT := hd (fun W hW => text_any a n c xs W (hE.below hW) (by have := HNn.out; omega))
  rw [hlen.out]
  have HTl : Hid ((tB xs).length = n) := by show _ = _; simp [tB, hlen.out]
  clear hE hT CE
  go_upto_region 5 with (go_at_call 10; refine CN.out.mono ?_; rintro e w2 ⟨x, rfl, hI, hx, hb2⟩)
  have PP64 : Hid (PP.size ≤ 64 ∧ 1 ≤ PP.size) := by
    obtain ⟨q1, q2, -⟩ := (patB_iff _).1 HPT.out
    have : PP.data.toList.length = PP.size := by simp
    show _ ∧ _
    omega
  have B2 := hd (B1.out.trans (hb2.mono B1.out.size))
  have CT2 := hd (fun W (hW : Below w2.heap.size w2 W) => CT.out W (hb2.trans (hW.mono hb2.size)))
  have HI := hd hI
  clear hI hx hb2 CT CN B1
  go_upto_region 6 with (go_at_call 11; refine (CNd.out _).mono ?_; rintro e w3 ⟨rfl, hb3⟩)
  have CF := hd (find_good x (tB xs) PP w3 (HI.out.below hb3) (by rw [HTl.out]; have := HNn.out; omega) HPT.out)
  have B3 := hd hb3
  clear hb3 CNd
  go_upto_region 7 with (go_at_call 12; refine CF.out.mono ?_; rintro e w4 ⟨vl, rfl, hN, hb4⟩)
  obtain ⟨al, cl, rfl, hL⟩ := hN.isL
  have B4 := hd (B3.out.trans (hb4.mono B3.out.size))
  have hb24 : Below w2.heap.size w2 w4 := B4.out
  have CT3 := CT2.out w4 hb24
  rw [bstr_tB] at CT3
  have CT4 := hd CT3
  have HLL := hd hL
  have CR := hd (fun W (hW : Below w4.heap.size w4 W) => right_any (bsA (tB xs)) PP al _ cl W (by rw [bsA_size, HTl.out]; have := HNn.out; omega) PP64.out.1 PP64.out.2 (hL.below hW))
  clear CT3 hL hN hb4 hb24 CF CT2
  have HSR := hd (plc_sorted (tB xs) PP.data.toList)
  have HLT : Hid (∀ q ∈ plc (tB xs) PP.data.toList, q < 1500) := fun q hq => by
    have h1 := plc_lt (T := tB xs) (p := PP.data.toList) (by obtain ⟨q1, q2, -⟩ := (patB_iff _).1 HPT.out; exact q1) q hq
    have := HTl.out
    have := HNn.out
    omega
  have CX := hd (fun (W : World) (hW : Below w2.heap.size w2 W) (ps : Int) (h : ps ≤ 9223372036854775807) => by
    have h2 := next_good x (tB xs) PP ps W (HI.out.below hW) (by rw [HTl.out]; have := HNn.out; omega) HPT.out h
    rw [nxP_nxL] at h2
    exact h2)
  have HL15 : Hid ((plc (tB xs) PP.data.toList).length ≤ 1500) := by
    have h1 := fnd_len (T := tB xs) (p := PP.data.toList) (s0 := 0) (t := (tB xs).length) (by obtain ⟨q1, q2, -⟩ := (patB_iff _).1 HPT.out; exact q1)
    have := HTl.out
    have := HNn.out
    show _ ≤ 1500
    unfold plc
    omega
  generalize plc (tB xs) PP.data.toList = l at *
  obtain ⟨L, hLn⟩ : ∃ L, l.length = L := ⟨_, rfl⟩
  rw [hLn] at CR HLL HL15 ⊢
  have HLn := hd hLn
  clear hLn HI HPT
  have hL15 := HL15.out
  go_upto_region 9 with (first
    | (go_at_call 14; refine CT4.out.mono ?_; rintro e w5 ⟨rfl, hb5⟩)
    | (go_at_call 13; refine (CR.out _ hb5).mono ?_; rintro e w6 ⟨rfl, rfl⟩))
  have B5 := hd hb5
  clear CR CT4 hb5
  go_upto_region 10 with fail
  go_wp2
  go_loopw [12, 13] (fun nv i wr => ∃ (k : Nat) (nn : Int), k ≤ L + 1 ∧ i = .int .i64 ((k : Nat) : Int) ∧ nv = .int .i64 nn ∧ Hid (Below w4.heap.size w4 wr ∧ (k ≤ L → nn = prN l k))) (fun _ i _ => L + 1 - (intOf i).toNat)
  case atStart => exact ⟨0, -1, by omega, rfl, rfl, B5.out, fun _ => rfl⟩
  case round =>
    obtain ⟨k, nn, hk, rfl, rfl, hS⟩ := hrel
    clear B5
    by_cases hlt : k ≤ L
    · have hnn := hS.out.2 hlt
      have hbd : -1 ≤ nn ∧ nn ≤ 1500 := by
        rw [hnn]
        exact prN_bd HLT.out HLn.out hlt
      obtain ⟨hb1, hb2⟩ := hbd
      have C := hd (CX.out wr (B4.out.trans (hS.out.1.mono B4.out.size)) (nn + 1) (by omega))
      have BW := hd hS.out.1
      by_cases hkl : k < L
      · have hk2 : k < l.length := by rw [HLn.out]; exact hkl
        have e := nx_mid HSR.out hk2
        rw [← hnn] at e
        rw [e] at C
        have HPR := hd (prN_succ hk2)
        obtain ⟨b, off, rfl, hb, hcell⟩ := (HLL.out.2.2.2 (by omega))
        clear hnn hS
        go_upto_region 16 with (go_at_call 15; refine C.out.mono ?_; rintro e w6 ⟨rfl, hb6⟩)
        have B6 := hd (BW.out.trans (hb6.mono BW.out.size))
        have ck : w6.cell? ⟨b, off + k, none⟩ = some (.int .i64 ((l[k] : Nat) : Int)) := (B6.out.cell (p := ⟨b, off + k, none⟩) hb).trans (hcell k hk2)
        generalize l[k] = q at *
        clear hcell C hb6 e
        go_wp2
        exact ⟨⟨k + 1, _, by omega, by go_num, rfl, B6.out, fun _ => HPR.out.symm⟩, by simp [intOf]; omega⟩
      · obtain rfl : k = L := by omega
        have e : nxL l (nn + 1) = -1 := by
          rw [hnn, ← HLn.out]
          exact nx_end HSR.out
        rw [e] at C
        clear hnn hS e
        go_upto_region 15 with (go_at_call 15; refine C.out.mono ?_; rintro e w6 ⟨rfl, hb6⟩)
        have B6 := hd (BW.out.trans (hb6.mono BW.out.size))
        clear hb6 C
        go_wp2
        exact ⟨⟨k + 1, _, by omega, by go_num, rfl, B6.out, fun h => by omega⟩, by simp [intOf]⟩
    · obtain rfl : k = L + 1 := by omega
      have B6 := hd hS.out.1
      clear hS
      go_upto_region 22 with fail
      go_loopw [17, 18] (fun wv i wr => ∃ (k : Nat) (iv : Int), k ≤ L ∧ i = .int .i64 iv ∧ iv = (k : Int) - 1 ∧ wv = .int .i64 (nxL (l.drop k) pos) ∧ Hid (Below w4.heap.size w4 wr)) (fun _ i _ => (intOf i + 1).toNat)
      case atStart =>
        refine ⟨L, (L : Int) - 1, Nat.le_refl _, rfl, rfl, ?_, B6.out⟩
        rw [List.drop_of_length_le (by rw [HLn.out]; exact Nat.le_refl _)]
        rfl
      case round =>
        obtain ⟨k, iv, hk, rfl, hiv, rfl, hS⟩ := hrel
        clear B6
        cases k with
        | zero =>
          obtain rfl : iv = -1 := by omega
          clear hiv
          rw [List.drop_zero]
          have C := hd (CX.out wr (B4.out.trans (hS.out.mono B4.out.size)) pos HPos.out)
          have BB := hd (B2.out.trans ((B4.out.trans (hS.out.mono B4.out.size)).mono B2.out.size))
          clear hS
          generalize nxL l pos = q at *
          go_wp2_with (go_at_call 15; refine C.out.mono ?_; rintro e w6 ⟨rfl, hb6⟩)
          go_ret
          exact ⟨rfl, BB.out.trans (hb6.mono BB.out.size)⟩
        | succ j =>
          obtain rfl : iv = (j : Int) := by omega
          have hj : j < l.length := by rw [HLn.out]; omega
          obtain ⟨b, off, rfl, hb, hcell⟩ := (HLL.out.2.2.2 (by omega))
          have ck : wr.cell? ⟨b, off + j, none⟩ = some (.int .i64 ((l[j] : Nat) : Int)) := (hS.out.cell (p := ⟨b, off + j, none⟩) hb).trans (hcell j hj)
          have E := hd (nxL_cons l[j] (l.drop (j + 1)) pos)
          rw [← List.drop_eq_getElem_cons hj] at E
          generalize nxL (l.drop (j + 1)) pos = Q at *
          obtain ⟨Q2, hQ2⟩ : ∃ Q2, Hid (nxL (l.drop j) pos = Q2) := ⟨_, rfl⟩
          rw [hQ2.out] at E
          have hj0 : (0 : Int) ≤ (j : Int) := by omega
          have hjL : (j : Int) < (L : Int) := by omega
          clear hcell hiv
          generalize l[j] = q at *
          have B6 := hd hS.out
          clear hS
          by_cases hq : pos ≤ (q : Int)
          · have E2 : Hid (Q2 = (q : Int)) := by show _ = _; rw [E.out, if_pos hq]
            clear E
            go_wp2
            exact ⟨⟨j, (j : Int) - 1, by omega, rfl, rfl, by rw [hQ2.out, E2.out], B6.out⟩, by simp [intOf]⟩
          · have E2 : Hid (Q2 = Q) := by show _ = _; rw [E.out, if_neg hq]
            clear E
            go_wp2
            exact ⟨⟨j, (j : Int) - 1, by omega, rfl, rfl, by rw [hQ2.out, E2.out], B6.out⟩, by simp [intOf]⟩
end Go.Proofs.Ytlmgogonghafeaa
