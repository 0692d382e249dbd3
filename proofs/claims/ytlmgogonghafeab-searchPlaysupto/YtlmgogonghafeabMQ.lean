/-
  Texts put together: Qe Qf Qg Qh.
-/
import Derived.Test.YtlmgogonghafeabMF
import Derived.Test.YtlmgogonghafeabQc
import Derived.Sort.Walk0
import Derived.Laws.StructEq
/-! Qe -/
namespace Go.Proofs.Ytlmgogonghafeab
open Go.RowKit Go.Lib
set_option linter.unusedVariables false

theorem pushes_strW (w : World) (β : Option Nat) (v : Value) (xs : List ByteArray) (x : ByteArray) (hS : SF eSt 1 w 9 β v xs) (hroom : xs.length ≤ 10000000) :
    ∃ v' w', (∀ ty, (Builtin.append_ #[42, 42] ty #[v, .slice (some ⟨w.heap.size, 0, none⟩) 1 1]).run Try.prog (w.alloc (.cells (eSt x).toArray 9)) = .ok v' w') ∧ NowF eSt 1 (w.alloc (.cells (eSt x).toArray 9)) w' 9 β v' (xs ++ [x]) := by
  obtain ⟨i0, hi0, hz0, hz1, hz2⟩ := info_parts (show (Try.prog.info? 9).map (fun i => (i.zero, i.size, i.bytes)) = some (some (.string ByteArray.empty), 1, 16) by kernel_rfl)
  have hz := heap_alloc_new w (.cells (eSt x).toArray 9)
  obtain ⟨v', w', hr, hN⟩ := run_pushF szE (P := Try.prog) (w.alloc (.cells (eSt x).toArray 9)) 42 0 9 i0 _ 16 Try.underlying42 hi0 hz0 hz1 rfl hz2 β v xs (hS.fr (Fr.alloc (fun _ => False) _ _) (fun _ _ h => h)) ⟨w.heap.size, 0, none⟩ 1 1 [x] rfl (fun j u hj => by
    rw [add_lit, Nat.zero_add, cell_row hz]
    rw [cl_one] at hj
    simpa using hj) (by omega) (by omega) (by omega)
  exact ⟨v', w', fun ty => hr, hN⟩
theorem pushes_intW (w : World) (β : Option Nat) (v : Value) (xs : List Int) (x : Int) (hS : SF ei 1 w 3 β v xs) (hroom : xs.length ≤ 10000000) :
    ∃ v' w', (∀ ty, (Builtin.append_ #[36, 36] ty #[v, .slice (some ⟨w.heap.size, 0, none⟩) 1 1]).run Try.prog (w.alloc (.cells (ei x).toArray 3)) = .ok v' w') ∧ NowF ei 1 (w.alloc (.cells (ei x).toArray 3)) w' 3 β v' (xs ++ [x]) :=
  push_int (w.alloc (.cells (ei x).toArray 3)) β v xs (hS.fr (Fr.alloc (fun _ => False) _ _) (fun _ _ h => h)) w.heap.size x (heap_alloc_new _ _) (by omega)

/-- Two lists of one's own: strings and numbers. -/
def PtI (w wr : World) (v1 v2 : Value) (ks : List By) (cs : List Nat) : Prop :=
  ∃ β1 β2, SF eSt 1 wr 9 β1 v1 (ks.map bsA) ∧ SF ei 1 wr 3 β2 v2 (nI cs) ∧ (∀ g, β1 = some g → w.heap.size ≤ g) ∧ (∀ g, β2 = some g → w.heap.size ≤ g) ∧ Below w.heap.size w wr
section
variable {w wr wx : World} {v1 v2 : Value} {ks : List By} {cs : List Nat}
theorem PtI.nil (w : World) : PtI w w (.slice none 0 0) (.slice none 0 0) [] [] := ⟨none, none, ⟨rfl, rfl⟩, ⟨rfl, rfl⟩, fun g h => (by cases h), fun g h => (by cases h), Below.refl _ _⟩
theorem PtI.below (h : PtI w wr v1 v2 ks cs) (hb : Below wr.heap.size wr wx) : PtI w wx v1 v2 ks cs := by
  obtain ⟨β1, β2, h1, h2, h3, h4, h5⟩ := h
  exact ⟨β1, β2, h1.fr (S := fun _ => False) (Fr.of_below hb) (fun _ _ h => h), h2.fr (S := fun _ => False) (Fr.of_below hb) (fun _ _ h => h), h3, h4, h5.trans (hb.mono h5.size)⟩
theorem PtI.pushW (h : PtI w wr v1 v2 ks cs) (k : By) (hl : ks.length ≤ 10000000) :
    ∃ v' w', (∀ ty, (Builtin.append_ #[42, 42] ty #[v1, .slice (some ⟨wr.heap.size, 0, none⟩) 1 1]).run Try.prog (wr.alloc (.cells #[.string (bsA k)] 9)) = .ok v' w') ∧ PtI w w' v' v2 (ks ++ [k]) cs := by
  obtain ⟨β1, β2, h1, h2, h3, h4, h5⟩ := h
  have F0 : Fr (fun _ => False) wr (wr.alloc (.cells #[.string (bsA k)] 9)) := Fr.alloc _ _ _
  have hB : Below w.heap.size w (wr.alloc (.cells #[.string (bsA k)] 9)) := h5.alloc h5.size _
  obtain ⟨v', w', hr, g, hS, hN⟩ := pushes_strW wr β1 v1 (ks.map bsA) (bsA k) h1 (by rw [List.length_map]; exact hl)
  have ha := h1.apart h2 (by decide)
  refine ⟨v', w', hr, some g, β2, by rw [List.map_append]; exact hS, ?_, fun q hq => ?_, h4, ?_⟩
  · rcases hN with ⟨e, hF⟩ | ⟨e, hF⟩
    · exact (h2.fr F0 (fun _ _ h => h)).fr hF (fun q hq e2 => by subst e2; exact ha _ e hq)
    · exact (h2.fr F0 (fun _ _ h => h)).fr hF (fun _ _ h => h)
  · cases hq
    rcases hN with ⟨e, -⟩ | ⟨e, -⟩
    · exact h3 _ e
    · rw [e]; exact hB.size
  · rcases hN with ⟨e, hf⟩ | ⟨e, hf⟩
    · exact hB.trans (hf.below hB.size (fun q hq => by rw [hq]; exact h3 g e))
    · exact hB.trans (hf.below hB.size (fun q hq => hq.elim))
theorem PtI.pushC (h : PtI w wr v1 v2 ks cs) (m : Nat) (hl : cs.length ≤ 10000000) :
    ∃ v' w', (∀ ty, (Builtin.append_ #[36, 36] ty #[v2, .slice (some ⟨wr.heap.size, 0, none⟩) 1 1]).run Try.prog (wr.alloc (.cells #[.int .i64 ((m : Nat) : Int)] 3)) = .ok v' w') ∧ PtI w w' v1 v' ks (cs ++ [m]) := by
  obtain ⟨β1, β2, h1, h2, h3, h4, h5⟩ := h
  have F0 : Fr (fun _ => False) wr (wr.alloc (.cells #[.int .i64 ((m : Nat) : Int)] 3)) := Fr.alloc _ _ _
  have hB : Below w.heap.size w (wr.alloc (.cells #[.int .i64 ((m : Nat) : Int)] 3)) := h5.alloc h5.size _
  obtain ⟨v', w', hr, g, hS, hN⟩ := pushes_intW wr β2 v2 (nI cs) (m : Int) h2 (by simpa [nI] using hl)
  have ha := h2.apart h1 (by decide)
  refine ⟨v', w', hr, β1, some g, ?_, by simpa [nI] using hS, h3, fun q hq => ?_, ?_⟩
  · rcases hN with ⟨e, hF⟩ | ⟨e, hF⟩
    · exact (h1.fr F0 (fun _ _ h => h)).fr hF (fun q hq e2 => by subst e2; exact ha _ e hq)
    · exact (h1.fr F0 (fun _ _ h => h)).fr hF (fun _ _ h => h)
  · cases hq
    rcases hN with ⟨e, -⟩ | ⟨e, -⟩
    · exact h4 _ e
    · rw [e]; exact hB.size
  · rcases hN with ⟨e, hf⟩ | ⟨e, hf⟩
    · exact hB.trans (hf.below hB.size (fun q hq => by rw [hq]; exact h4 g e))
    · exact hB.trans (hf.below hB.size (fun q hq => hq.elim))
theorem PtI.st (h : PtI w wr v1 v2 ks cs) : StI w wr v1 (ks.map bsA) := by
  obtain ⟨β1, β2, h1, h2, h3, h4, h5⟩ := h
  exact ⟨β1, h1, h3, h5⟩
theorem PtI.nm (h : PtI w wr v1 v2 ks cs) : NmI w wr v2 cs := by
  obtain ⟨β1, β2, h1, h2, h3, h4, h5⟩ := h
  exact ⟨β2, h2, h4, h5⟩
end

/-- How the model holds strings against one another. -/
theorem gtr_bs (x y : By) : (!(Op.bytesLess (bsA y).toList (bsA x).toList || (bsA y).toList == (bsA x).toList)) = decide (x < y) := by
  rw [bytesLess_eq, toL, toL, bsA_list, bsA_list]
  rcases by_tri x y with h | h | h
  · have h1 := by_as h
    have h2 : ¬ y = x := fun e => by_ne h e.symm
    simp [h, h1, h2]
  · subst h
    simp [List.lt_irrefl]
  · have h1 := by_as h
    simp [h, h1]
theorem eql_bs (x y : By) : ((bsA y).toList == (bsA x).toList) = decide (y = x) := by
  rw [toL, toL, bsA_list, bsA_list]
  by_cases h : y = x <;> simp [h]
end Go.Proofs.Ytlmgogonghafeab

/-! Qf -/
namespace Go.Proofs.Ytlmgogonghafeab
open Go.RowKit Go.Lib
set_option linter.unusedVariables false

theorem less_bs (x y : By) : Op.bytesLess (bsA y).toList (bsA x).toList = decide (y < x) := by
  rw [bytesLess_eq, toL, toL, bsA_list, bsA_list]
theorem putS_len (x : By) : ∀ (L : List (By × Nat)) (s : Bool × List (By × Nat)), (L.foldl (putS x) s).2.length ≤ s.2.length + 2 * L.length
  | [], s => by simp
  | p :: L, s => by
    rw [List.foldl_cons]
    have h := putS_len x L (putS x s p)
    have : (putS x s p).2.length ≤ s.2.length + 2 := by
      unfold putS
      simp only []
      rw [List.length_append, List.length_append]
      split <;> simp
    rw [List.length_cons]
    omega

/-- The loop's state: what was put so far. -/
def PuI (w wr : World) (v1 v2 : Value) (d : Bool) (s : Bool × List (By × Nat)) : Prop := PtI w wr v1 v2 (s.2.map (·.1)) (s.2.map (·.2)) ∧ d = s.1

set_option maxRecDepth 100000 in
set_option maxHeartbeats 16000000 in
theorem rput_any (a a2 : Option Addr) (n c c2 : Nat) (L : List (By × Nat)) (x : By) (w : World) (hW : IsW w a n c (L.map (fun p => bsA p.1))) (hC : IsL w a2 n c2 (L.map (·.2))) (hn : n ≤ 400001) (hcs : ∀ p ∈ L, p.2 ≤ 1000000) :
    Calls Try.prog 62 #[.slice a n c, .slice a2 n c2, .string (bsA x)] w fun e w' => ∃ v1 v2, e = .returned (.tuple #[v1, v2]) ∧ PtI w w' v1 v2 ((putR x L).map (·.1)) ((putR x L).map (·.2)) := by
  have HLn : Hid (L.length = n) := by show _ = _; have := hW.1; rw [List.length_map] at this; exact this
  have HW := hd hW.2.2.2
  have HC := hd hC.2.2.2
  have HCS := hd hcs
  have I0 : Hid (PuI w w (.slice none 0 0) (.slice none 0 0) false ((L.take 0).foldl (putS x) (false, []))) := ⟨PtI.nil w, rfl⟩
  have HLS := hd (fun k => putS_len x (L.take k) (false, []))
  clear hW hC hcs
  go_enter Try.func62, Try.ntmps62
  go_wp2
  go_loopw [8, 9, 10, 11] (fun v1 v2 dv iv wr => ∃ (k : Nat) (d : Bool), iv = .int .i64 k ∧ k ≤ n ∧ dv = .bool d ∧ Hid (PuI w wr v1 v2 d ((L.take k).foldl (putS x) (false, [])))) (fun _ _ _ iv _ => n - (intOf iv).toNat)
  case atStart => exact ⟨0, false, rfl, Nat.zero_le _, rfl, I0⟩
  case round =>
    obtain ⟨k, d, rfl, hk, rfl, hS⟩ := hrel
    clear I0
    have hlen := HLS.out k
    rw [List.length_take] at hlen
    simp only [List.length_nil, Nat.zero_add] at hlen
    by_cases hlt : k < n
    · have hkl : k < L.length := by rw [HLn.out]; exact hlt
      have hB : Below w.heap.size w wr := hS.out.1.st.choose_spec.2.2
      obtain ⟨b, off, rfl, hb, hcw⟩ := HW.out (by omega)
      obtain ⟨b2, off2, rfl, hb2, hcc⟩ := HC.out (by omega)
      have e1 := hcw k (by rw [List.length_map]; exact hkl)
      have e2 := hcc k (by rw [List.length_map]; exact hkl)
      rw [List.getElem_map] at e1 e2
      have HE1 : Hid (∀ W, Below w.heap.size w W → W.cell? ⟨b, off + k, none⟩ = some (.string (bsA L[k].1))) := fun W hW => by rw [hW.cell (p := ⟨b, off + k, none⟩) hb]; exact e1
      have HE2 : Hid (∀ W, Below w.heap.size w W → W.cell? ⟨b2, off2 + k, none⟩ = some (.int .i64 ((L[k].2 : Nat) : Int))) := fun W hW => by rw [hW.cell (p := ⟨b2, off2 + k, none⟩) hb2]; exact e2
      have hm := HCS.out _ (List.getElem_mem hkl)
      have HT : Hid ((L.take (k + 1)).foldl (putS x) (false, []) = putS x ((L.take k).foldl (putS x) (false, [])) L[k]) := by
        show _ = _
        rw [List.take_succ_eq_append_getElem hkl, List.foldl_append]
        rfl
      have hless := less_bs x L[k].1
      have heql := eql_bs x L[k].1
      clear hcw hcc e1 e2
      generalize L[k] = P at *
      obtain ⟨yw, m⟩ := P
      simp only at HE1 HE2 hm hless heql
      generalize (L.take k).foldl (putS x) (false, []) = S at *
      obtain ⟨sd, so⟩ := S
      obtain ⟨hP, hd2⟩ := hS.out
      simp only at hd2 hP hlen
      subst hd2
      have hol : so.length ≤ 900000 := by omega
      have i1 : (k : Int) < (n : Int) := by omega
      have c1 := HE1.out wr hB
      have c2 := HE2.out wr hB
      clear hS hB
      have hwm : IntKind.i64.wrap ((m : Int) + 1) = (m : Int) + 1 := by rw [IntKind.wrap_i64]; omega
      have PW := hd (fun W v1 v2 ks cs (h : PtI w W v1 v2 ks cs) k (hl : ks.length ≤ 10000000) => h.pushW k hl)
      have PC := hd (fun W v1 v2 ks cs (h : PtI w W v1 v2 ks cs) k (hl : cs.length ≤ 10000000) => h.pushC k hl)
      have hl1 : (so.map (·.1)).length ≤ 900000 := by rw [List.length_map]; exact hol
      have hl2 : (so.map (·.2)).length ≤ 900000 := by rw [List.length_map]; exact hol
      by_cases hlt2 : d = false ∧ x < yw
      · obtain ⟨rfl, hxy⟩ := hlt2
        have hne : ¬ yw = x := fun e => by_ne hxy e.symm
        have hb1 : Op.bytesLess (bsA yw).toList (bsA x).toList = false := by rw [hless]; simpa using by_as hxy
        have hb2 : ((bsA yw).toList == (bsA x).toList) = false := by rw [heql]; simpa using hne
        have HZ : Hid (putS x (false, so) (yw, m) = (true, so ++ [(x, 1)] ++ [(yw, m)])) := by
          show _ = _
          unfold putS
          simp [hxy, hne]
        rw [HZ.out] at HT
        obtain ⟨va, wa, ra, pa⟩ := PW.out _ _ _ _ _ hP x (by omega)
        obtain ⟨vb, wb, rb, pb⟩ := PC.out _ _ _ _ _ pa 1 (by omega)
        obtain ⟨vc, wc, rc, p3⟩ := PW.out _ _ _ _ _ pb yw (by rw [List.length_append]; simp; omega)
        obtain ⟨vd, wd, rd, p4⟩ := PC.out _ _ _ _ _ p3 m (by rw [List.length_append]; simp; omega)
        have B1 := hd pb.st.choose_spec.2.2
        have B2 := hd p3.st.choose_spec.2.2
        have Z : Hid (PuI w wd vc vd true ((L.take (k + 1)).foldl (putS x) (false, []))) := by
          rw [HT.out]
          refine ⟨?_, rfl⟩
          simp only [List.map_append, List.map_cons, List.map_nil]
          exact p4
        have c3 := HE1.out wb B1.out
        have c4 := HE2.out wb B1.out
        clear pa pb p3 p4 hP PW PC hl1 hl2 hless heql hxy hne
        generalize bsA yw = Y at *
        generalize bsA x = X at *
        go_wp2_with (first
          | (at_builtin; refine wpList_append_k _ rfl _ _ 42 42 rfl _ _ rfl rfl (ra _) ?_)
          | (at_builtin; refine wpList_append_k _ rfl _ _ 36 36 rfl _ _ rfl rfl (rb _) ?_)
          | (at_builtin; refine wpList_append_k _ rfl _ _ 42 42 rfl _ _ rfl rfl (rc _) ?_)
          | (at_builtin; refine wpList_append_k _ rfl _ _ 36 36 rfl _ _ rfl rfl (rd _) ?_))
        exact ⟨⟨k + 1, true, by go_num, by omega, rfl, Z⟩, by simp only [intOf]; omega⟩
      · by_cases hyx : yw = x
        · subst hyx
          have hb1 : Op.bytesLess (bsA yw).toList (bsA yw).toList = false := by rw [hless]; simp [List.lt_irrefl]
          have hb2 : ((bsA yw).toList == (bsA yw).toList) = true := by rw [heql]; simp
          have HZ : Hid (putS yw (d, so) (yw, m) = (true, so ++ [(yw, m + 1)])) := by
            show _ = _
            unfold putS
            simp [List.lt_irrefl]
          rw [HZ.out] at HT
          obtain ⟨va, wa, ra, pa⟩ := PW.out _ _ _ _ _ hP yw (by omega)
          obtain ⟨vb, wb, rb, pb⟩ := PC.out _ _ _ _ _ pa (m + 1) (by omega)
          have Z : Hid (PuI w wb va vb true ((L.take (k + 1)).foldl (putS yw) (false, []))) := by
            rw [HT.out]
            refine ⟨?_, rfl⟩
            simp only [List.map_append, List.map_cons, List.map_nil]
            exact pb
          have hm1 : (((m + 1 : Nat)) : Int) = (m : Int) + 1 := by omega
          rw [hm1] at rb
          clear pa pb hP PW PC hl1 hl2 hless heql hlt2 hm1
          generalize bsA yw = Y at *
          cases d with
          | false =>
            go_wp2_with (first
              | (at_builtin; refine wpList_append_k _ rfl _ _ 42 42 rfl _ _ rfl rfl (ra _) ?_)
              | (at_builtin; refine wpList_append_k _ rfl _ _ 36 36 rfl _ _ rfl rfl (rb _) ?_))
            exact ⟨⟨k + 1, true, by go_num, by omega, rfl, Z⟩, by simp only [intOf]; omega⟩
          | true =>
            go_wp2_with (first
              | (at_builtin; refine wpList_append_k _ rfl _ _ 42 42 rfl _ _ rfl rfl (ra _) ?_)
              | (at_builtin; refine wpList_append_k _ rfl _ _ 36 36 rfl _ _ rfl rfl (rb _) ?_))
            exact ⟨⟨k + 1, true, by go_num, by omega, rfl, Z⟩, by simp only [intOf]; omega⟩
        · have hb2 : ((bsA yw).toList == (bsA x).toList) = false := by rw [heql]; simpa using hyx
          have HZ : Hid (putS x (d, so) (yw, m) = (d, so ++ [(yw, m)])) := by
            show _ = _
            unfold putS
            cases d with
            | false =>
              have h1 : ¬ x < yw := fun h => hlt2 ⟨rfl, h⟩
              simp [h1, hyx]
            | true => simp [hyx]
          rw [HZ.out] at HT
          obtain ⟨va, wa, ra, pa⟩ := PW.out _ _ _ _ _ hP yw (by omega)
          obtain ⟨vb, wb, rb, pb⟩ := PC.out _ _ _ _ _ pa m (by omega)
          have Z : Hid (PuI w wb va vb d ((L.take (k + 1)).foldl (putS x) (false, []))) := by
            rw [HT.out]
            refine ⟨?_, rfl⟩
            simp only [List.map_append, List.map_cons, List.map_nil]
            exact pb
          have hb1 : d = false → Op.bytesLess (bsA yw).toList (bsA x).toList = true := by
            intro h
            rw [hless]
            rcases by_tri x yw with h1 | h1 | h1
            · exact absurd ⟨h, h1⟩ hlt2
            · exact absurd h1.symm hyx
            · simpa using h1
          clear pa pb hP PW PC hl1 hl2 hless heql hlt2 hyx
          generalize bsA yw = Y at *
          generalize bsA x = X at *
          cases d with
          | false =>
            have hb3 := hb1 rfl
            clear hb1
            go_wp2_with (first
              | (at_builtin; refine wpList_append_k _ rfl _ _ 42 42 rfl _ _ rfl rfl (ra _) ?_)
              | (at_builtin; refine wpList_append_k _ rfl _ _ 36 36 rfl _ _ rfl rfl (rb _) ?_))
            exact ⟨⟨k + 1, false, by go_num, by omega, rfl, Z⟩, by simp only [intOf]; omega⟩
          | true =>
            clear hb1
            go_wp2_with (first
              | (at_builtin; refine wpList_append_k _ rfl _ _ 42 42 rfl _ _ rfl rfl (ra _) ?_)
              | (at_builtin; refine wpList_append_k _ rfl _ _ 36 36 rfl _ _ rfl rfl (rb _) ?_))
            exact ⟨⟨k + 1, true, by go_num, by omega, rfl, Z⟩, by simp only [intOf]; omega⟩
    · obtain rfl : n = k := by omega
      have hS2 := hS.out
      rw [List.take_of_length_le (by rw [HLn.out]; exact Nat.le_refl _)] at hS2
      obtain ⟨hP, hd2⟩ := hS2
      subst hd2
      rw [List.take_of_length_le (by rw [HLn.out]; exact Nat.le_refl _)] at hlen
      cases hdd : (L.foldl (putS x) (false, [])).1 with
      | true =>
        have HR : Hid (putR x L = (L.foldl (putS x) (false, [])).2) := by show _ = _; unfold putR; rw [if_pos hdd]
        have Z : Hid (PtI w wr u8 u9 ((putR x L).map (·.1)) ((putR x L).map (·.2))) := by rw [HR.out]; exact hP
        clear hS hP hlen
        go_wp2
        go_ret2
        exact ⟨_, _, rfl, Z.out⟩
      | false =>
        have HR : Hid (putR x L = (L.foldl (putS x) (false, [])).2 ++ [(x, 1)]) := by show _ = _; unfold putR; rw [if_neg (by rw [hdd]; simp)]
        obtain ⟨va, wa, ra, pa⟩ := hP.pushW x (by rw [List.length_map]; omega)
        obtain ⟨vb, wb, rb, pb⟩ := pa.pushC 1 (by rw [List.length_map]; omega)
        have Z : Hid (PtI w wb va vb ((putR x L).map (·.1)) ((putR x L).map (·.2))) := by
          rw [HR.out, List.map_append, List.map_append]
          exact pb
        clear hS hP hlen pa pb
        go_wp2_with (first
          | (at_builtin; refine wpList_append_k _ rfl _ _ 42 42 rfl _ _ rfl rfl (ra _) ?_)
          | (at_builtin; refine wpList_append_k _ rfl _ _ 36 36 rfl _ _ rfl rfl (rb _) ?_))
        go_ret2
        exact ⟨_, _, rfl, Z.out⟩
end Go.Proofs.Ytlmgogonghafeab

/-! Qg -/
namespace Go.Proofs.Ytlmgogonghafeab
open Go.RowKit Go.Lib
set_option linter.unusedVariables false

theorem PtI.mono {w wr wx : World} {v1 v2 : Value} {ks : List By} {cs : List Nat} (h : PtI wr wx v1 v2 ks cs) (hb : Below w.heap.size w wr) : PtI w wx v1 v2 ks cs := by
  obtain ⟨β1, β2, h1, h2, h3, h4, h5⟩ := h
  exact ⟨β1, β2, h1, h2, fun g hg => Nat.le_trans hb.size (h3 g hg), fun g hg => Nat.le_trans hb.size (h4 g hg), hb.trans (h5.mono hb.size)⟩
set_option maxRecDepth 100000 in
set_option maxHeartbeats 4000000 in
theorem rletter_any (r : Nat) (w : World) : Calls Try.prog 61 #[.int .u8 (r : Int)] w fun e w' => e = .returned (.bool (ltN r)) ∧ w' = w := by
  have G : ∀ (P : Prop), (ltN r = true → 97 ≤ r → r ≤ 122 → P) → (ltN r = true → r < 97 → 65 ≤ r → r ≤ 90 → P) → (ltN r = false → 122 < r → P) → (ltN r = false → r < 97 → 90 < r → P) → (ltN r = false → r < 97 → r < 65 → P) → P := by
    intro P h1 h2 h3 h4 h5
    unfold ltN at *
    by_cases c1 : 97 ≤ r
    · by_cases c2 : r ≤ 122
      · exact h1 (by simp; omega) c1 c2
      · exact h3 (by simp; omega) (by omega)
    · by_cases c3 : 65 ≤ r
      · by_cases c4 : r ≤ 90
        · exact h2 (by simp; omega) (by omega) c3 c4
        · exact h4 (by simp; omega) (by omega) (by omega)
      · exact h5 (by simp; omega) (by omega) (by omega)
  refine G _ ?_ ?_ ?_ ?_ ?_
  · intro e c1 c2
    rw [e]
    have a1 : (97 : Int) ≤ (r : Int) := by omega
    have a2 : (r : Int) ≤ 122 := by omega
    clear G
    go_enter Try.func61, Try.ntmps61
    go_wp2
    go_ret
    exact ⟨rfl, rfl⟩
  · intro e c1 c2 c3
    rw [e]
    have a1 : ¬ (97 : Int) ≤ (r : Int) := by omega
    have a2 : (65 : Int) ≤ (r : Int) := by omega
    have a3 : (r : Int) ≤ 90 := by omega
    clear G
    go_enter Try.func61, Try.ntmps61
    go_wp2
    go_ret
    exact ⟨rfl, rfl⟩
  · intro e c1
    rw [e]
    have a1 : (97 : Int) ≤ (r : Int) := by omega
    have a2 : ¬ (r : Int) ≤ 122 := by omega
    have a3 : (65 : Int) ≤ (r : Int) := by omega
    have a4 : ¬ (r : Int) ≤ 90 := by omega
    clear G
    go_enter Try.func61, Try.ntmps61
    go_wp2
    go_ret
    exact ⟨rfl, rfl⟩
  · intro e c1 c2
    rw [e]
    have a1 : ¬ (97 : Int) ≤ (r : Int) := by omega
    have a3 : (65 : Int) ≤ (r : Int) := by omega
    have a4 : ¬ (r : Int) ≤ 90 := by omega
    clear G
    go_enter Try.func61, Try.ntmps61
    go_wp2
    go_ret
    exact ⟨rfl, rfl⟩
  · intro e c1 c2
    rw [e]
    have a1 : ¬ (97 : Int) ≤ (r : Int) := by omega
    have a3 : ¬ (65 : Int) ≤ (r : Int) := by omega
    clear G
    go_enter Try.func61, Try.ntmps61
    go_wp2
    go_ret
    exact ⟨rfl, rfl⟩
theorem SW.len {ws : List By} {L : List (By × Nat)} (h : SW ws L) : L.length ≤ ws.length := by
  have := nodup_le (rise_nodup h.sort) (fun x hx => (h.mem x).1 hx)
  rwa [List.length_map] at this
/-- The loop's state. -/
def WoI (w wr : World) (T : By) (v1 v2 : Value) (cur : By) (k : Nat) : Prop :=
  ∃ L, SW (((T ++ [32]).take k).foldl wdS ([], [])).2 L ∧ (((T ++ [32]).take k).foldl wdS ([], [])).1 = cur ∧ PtI w wr v1 v2 (L.map (·.1)) (L.map (·.2))

set_option maxRecDepth 100000 in
set_option maxHeartbeats 16000000 in
theorem rwords_any (y : Nat) (O : Nat → Prop) (xs : List El) (w : World) (hI : RI w O y xs) (hn : xs.length ≤ 400000) :
    Calls Try.prog 43 #[.pointer (some ⟨y, 0, none⟩)] w fun e w' => ∃ v1 v2 L, e = .returned (.tuple #[v1, v2]) ∧ SW (wdP (tB xs)) L ∧ PtI w w' v1 v2 (L.map (·.1)) (L.map (·.2)) := by
  have CT := hd (ritext_any y O xs w hI hn)
  have HTl : Hid ((tB xs).length ≤ 400000) := by show _ ≤ _; simp [tB]; exact hn
  generalize tB xs = T at *
  obtain ⟨SS, hSS⟩ : ∃ SS, bsA T ++ (⟨#[32]⟩ : ByteArray) = SS := ⟨_, rfl⟩
  have HSd : Hid (SS.data.toList = T ++ [32]) := by show _ = _; rw [← hSS, ByteArray.data_append, Array.toList_append, bsA_list]
  have hSz : SS.size = T.length + 1 := by
    have a1 : SS.data.toList.length = SS.size := by simp
    rw [HSd.out, List.length_append] at a1
    exact a1.symm
  have HSz := hd hSz
  have hcc : ¬ 9223372036854775807 < (bsA T).size + 1 := by rw [bsA_size]; have := HTl.out; omega
  clear hI hn
  go_enter Try.func43, Try.ntmps43
  go_upto_region 4 with (go_at_call 19; refine CT.out.mono ?_; rintro e w1 ⟨rfl, hb⟩)
  have B1 := hd hb
  have I0 : Hid (WoI w1 w1 T (.slice none 0 0) (.slice none 0 0) [] 0) := ⟨[], SW.nil, rfl, PtI.nil w1⟩
  clear hb CT
  clear hSS hcc hSz
  obtain ⟨N, hNs⟩ : ∃ N, SS.size = N := ⟨_, rfl⟩
  rw [hNs] at HSz
  have HNs := hd hNs
  go_wp2
  go_loopw [4, 5, 7, 8] (fun v1 v2 sv iv wr => ∃ (k : Nat) (cur : By), iv = .int .i64 k ∧ k ≤ N ∧ sv = .string (bsA cur) ∧ Hid (WoI w1 wr T v1 v2 cur k)) (fun _ _ _ iv _ => N - (intOf iv).toNat)
  case atStart => exact ⟨0, [], rfl, Nat.zero_le _, rfl, I0⟩
  case round =>
    obtain ⟨k, cur, rfl, hk, rfl, hS⟩ := hrel
    clear I0
    by_cases hlt : k < N
    · have hks : k < SS.size := by rw [hNs]; exact hlt
      have hkl : k < (T ++ [32]).length := by rw [List.length_append, List.length_singleton]; have := HSz.out; omega
      obtain ⟨L, hL, hcur, hP⟩ := hS.out
      have hB : Below w1.heap.size w1 wr := hP.st.choose_spec.2.2
      have hstep := wdS_take hkl ([], [])
      have hlen := wdS_len ((T ++ [32]).take k) ([], [])
      rw [List.length_take] at hlen
      simp only [List.length_nil, Nat.zero_add] at hlen
      have hgk : (T ++ [32])[k] = SS[k]'hks := by
        have h1 := gets SS k hks
        rw [← h1]
        simp only [HSd.out]
      rw [hgk] at hstep
      obtain ⟨C, hC⟩ : ∃ C : Nat, (SS[k]'hks).toNat = C := ⟨_, rfl⟩
      have hltB : ltB (SS[k]'hks) = ltN C := by unfold ltB; rw [hC]
      have CL := hd (rletter_any C wr)
      have i1 : (k : Int) < (N : Int) := by omega
      have hEX : SS.extract k (k + 1) = bsA [SS[k]'hks] := by
        apply ByteArray.ext
        apply Array.ext'
        rw [ByteArray.data_extract, Array.toList_extract, List.extract_eq_take_drop, bsA_list, HSd.out]
        rw [List.drop_eq_getElem_cons hkl, show k + 1 - k = 1 by omega, List.take_succ_cons, List.take_zero, hgk]
      have hN9 : N ≤ 400001 := by have := HSz.out; have := HTl.out; omega
      have hcl : cur.length ≤ 400001 := by rw [← hcur]; omega
      generalize hst : ((T ++ [32]).take k).foldl wdS ([], []) = S at *
      obtain ⟨s1, s2⟩ := S
      simp only at hL hcur hlen
      subst hcur
      clear hgk hst hS
      obtain ⟨bb, hbb⟩ : ∃ bb, ltN C = bb := ⟨_, rfl⟩
      rw [hbb] at CL hltB
      cases bb with
      | true =>
        have Z : Hid (WoI w1 wr T u4 u5 (s1 ++ [SS[k]'hks]) (k + 1)) := by
          refine ⟨L, ?_, ?_, hP⟩
          · rw [hstep]; unfold wdS; rw [if_pos hltB]; exact hL
          · rw [hstep]; unfold wdS; rw [if_pos hltB]
        have hcat : bsA s1 ++ bsA [SS[k]'hks] = bsA (s1 ++ [SS[k]'hks]) := by
          apply ByteArray.ext
          apply Array.ext'
          rw [ByteArray.data_append, Array.toList_append, bsA_list, bsA_list, bsA_list]
        have hz1 : (bsA s1).size ≤ 400001 := by rw [bsA_size]; exact hcl
        have hz2 : (bsA [SS[k]'hks]).size = 1 := by rw [bsA_size]; rfl
        have hw1 : IntKind.i64.wrap ((k : Int) + 1) = (k : Int) + 1 := by rw [IntKind.wrap_i64]; omega
        obtain ⟨NW, hNW⟩ : ∃ NW, bsA (s1 ++ [SS[k]'hks]) = NW := ⟨_, rfl⟩
        rw [hNW] at hcat
        have HNw := hd hNW
        clear hNW
        generalize bsA [SS[k]'hks] = OB at *
        generalize bsA s1 = CU at *
        clear hL hP hB hstep hlen hltB hbb
        go_wp2_with (go_at_call 61; refine CL.out.mono ?_; rintro e w2 ⟨rfl, rfl⟩)
        exact ⟨⟨k + 1, _, by go_num, by omega, by rw [HNw.out], Z⟩, by simp only [intOf]; omega⟩
      | false =>
        by_cases hs1 : s1 = []
        · subst hs1
          have hz1 : (bsA []).toList.isEmpty = true := by rw [toL, bsA_list]; rfl
          have Z : Hid (WoI w1 wr T u4 u5 [] (k + 1)) := by
            refine ⟨L, ?_, ?_, hP⟩
            · rw [hstep]; unfold wdS; rw [if_neg (by rw [hltB]; simp), if_pos rfl]; exact hL
            · rw [hstep]; unfold wdS; rw [if_neg (by rw [hltB]; simp), if_pos rfl]
          clear hL hP hB hstep hlen hltB hbb hEX
          go_wp2_with (go_at_call 61; refine CL.out.mono ?_; rintro e w2 ⟨rfl, rfl⟩)
          exact ⟨⟨k + 1, [], by go_num, by omega, rfl, Z⟩, by simp only [intOf]; omega⟩
        · have hz1 : (bsA s1).toList.isEmpty = false := by
            rw [toL, bsA_list]
            cases h : s1 with
            | nil => exact absurd h hs1
            | cons x l => rfl
          obtain ⟨βw, aw, cw, hv1, -, -, hW⟩ := hP.st.ll
          obtain ⟨a2, c2, hv2, hL2⟩ := hP.nm.isN.isL
          rw [List.length_map, List.length_map] at hv1 hW
          rw [List.length_map] at hv2 hL2
          rw [List.map_map] at hW
          subst hv1 hv2
          have hll := hL.len
          have CPt := hd (rput_any aw a2 L.length cw c2 L s1 wr hW hL2 (by omega) (fun p hp => by
            have h1 := hL.cnt p hp
            have h2 := List.count_le_length (a := p.1) (l := s2)
            omega))
          have HZ : Hid (∀ w3 v1 v2, PtI wr w3 v1 v2 ((putR s1 L).map (·.1)) ((putR s1 L).map (·.2)) → WoI w1 w3 T v1 v2 [] (k + 1)) := by
            intro w3 v1 v2 h
            refine ⟨putR s1 L, ?_, ?_, h.mono hB⟩
            · rw [hstep]; unfold wdS; rw [if_neg (by rw [hltB]; simp), if_neg hs1]; exact hL.put s1
            · rw [hstep]; unfold wdS; rw [if_neg (by rw [hltB]; simp), if_neg hs1]
          clear hL hP hB hstep hlen hltB hbb hEX hW hL2 hs1
          go_wp2_with (first
            | (go_at_call 61; refine CL.out.mono ?_; rintro e w2 ⟨rfl, rfl⟩)
            | (go_at_call 62; refine CPt.out.mono ?_; rintro e w3 ⟨v1, v2, rfl, hP3⟩))
          exact ⟨⟨k + 1, [], by go_num, by omega, rfl, HZ.out _ _ _ hP3⟩, by simp only [intOf]; omega⟩
    · obtain rfl : N = k := by omega
      obtain ⟨L, hL, hcur, hP⟩ := hS.out
      have hall := wdS_all T [] []
      rw [List.take_of_length_le (by rw [List.length_append, List.length_singleton]; have := HSz.out; omega)] at hL
      rw [hall, List.nil_append] at hL
      have Z : Hid (SW (wdP T) L ∧ PtI w wr u4 u5 (L.map (·.1)) (L.map (·.2))) := ⟨hL, hP.mono B1.out⟩
      clear hS hL hcur hP hall
      go_wp2
      go_ret2
      exact ⟨_, _, L, rfl, Z.out⟩
end Go.Proofs.Ytlmgogonghafeab

/-! Qh -/
namespace Go.Proofs.Ytlmgogonghafeab
open Go.RowKit Go.Lib
set_option linter.unusedVariables false

set_option maxRecDepth 100000 in
set_option maxHeartbeats 8000000 in
theorem lines_true (β1 β2 : Option Nat) (v1 v2 : Value) (os : List OpE) (w : World) (h1 : SF opc 5 w 32 β1 v1 os) (h2 : SF opc 5 w 32 β2 v2 os) :
    Calls Try.prog 42 #[v1, v2] w fun e w' => e = .returned (.bool true) ∧ ∃ m, w' = w.drewN m := by
  obtain ⟨a, c, rfl, hc1, hc2⟩ := h1.form
  obtain ⟨b, d, rfl, hd1, hd2⟩ := h2.form
  have H1 := hd ((show SF opc 5 w 32 β1 (SV.val ⟨a, os.length, c⟩) os from h1).hl sz_opc)
  have H2 := hd ((show SF opc 5 w 32 β2 (SV.val ⟨b, os.length, d⟩) os from h2).hl sz_opc)
  obtain ⟨n, hn⟩ : ∃ n, os.length = n := ⟨_, rfl⟩
  have HN := hd hn
  have G1 : Hid (∀ k, k < n → ∃ g, a = some ⟨g, 0, none⟩ ∧ ∀ (h : k < os.length) q, q < 5 → w.cell? ⟨g, k * 5 + q, none⟩ = (opc os[k])[q]?) := by
    intro k hk
    obtain ⟨g, -, e2, -, hC⟩ := H1.out.2.2.2 (by show 0 < os.length; omega)
    exact ⟨g, e2, fun h q hq => hC k h q hq⟩
  have G2 : Hid (∀ k, k < n → ∃ g, b = some ⟨g, 0, none⟩ ∧ ∀ (h : k < os.length) q, q < 5 → w.cell? ⟨g, k * 5 + q, none⟩ = (opc os[k])[q]?) := by
    intro k hk
    obtain ⟨g, -, e2, -, hC⟩ := H2.out.2.2.2 (by show 0 < os.length; omega)
    exact ⟨g, e2, fun h q hq => hC k h q hq⟩
  rw [hn] at hc1 hd1 ⊢
  clear h1 h2 H1 H2 hn
  go_enter Try.func42, Try.ntmps42
  go_wp2
  go_loopw [5] (fun i wr => ∃ k m : Nat, k ≤ n ∧ i = .int .i64 k ∧ wr = w.drewN m) (fun i _ => n - (intOf i).toNat)
  case atStart => exact ⟨0, 0, Nat.zero_le _, rfl, rfl⟩
  case round =>
    obtain ⟨k, m, hk, rfl, rfl⟩ := hrel
    by_cases hlt : k < n
    · have kx : k < os.length := by rw [HN.out]; exact hlt
      obtain ⟨g1, rfl, x0⟩ := G1.out k hlt
      obtain ⟨g2, rfl, y0⟩ := G2.out k hlt
      have a0 := x0 kx 0 (by omega)
      have a1 := x0 kx 1 (by omega)
      have a2 := x0 kx 2 (by omega)
      have a3 := x0 kx 3 (by omega)
      have a4 := x0 kx 4 (by omega)
      have b0 := y0 kx 0 (by omega)
      have b1 := y0 kx 1 (by omega)
      have b2 := y0 kx 2 (by omega)
      have b3 := y0 kx 3 (by omega)
      have b4 := y0 kx 4 (by omega)
      have i1 : (k : Int) < (n : Int) := by omega
      clear x0 y0
      generalize os[k] = o at *
      obtain ⟨ok, op, oc, ol, oq⟩ := o
      simp only [opc, List.getElem?_cons_zero, List.getElem?_cons_succ, Nat.add_zero] at a0 a1 a2 a3 a4 b0 b1 b2 b3 b4
      go_wp2
      go_big_quiet (fail)
      go_wp2
      go_roundw
      case rel => exact ⟨k + 1, _, by omega, by go_num, rfl⟩
      case measure => simp only [intOf]; omega
    · obtain rfl : k = n := by omega
      go_wp2
      go_ret
      exact ⟨rfl, _, rfl⟩
theorem lines_below (β1 β2 : Option Nat) (v1 v2 : Value) (os : List OpE) (w : World) (h1 : SF opc 5 w 32 β1 v1 os) (h2 : SF opc 5 w 32 β2 v2 os) :
    Calls Try.prog 42 #[v1, v2] w fun e w' => e = .returned (.bool true) ∧ Below w.heap.size w w' :=
  (lines_true β1 β2 v1 v2 os w h1 h2).mono fun e w' ⟨h1, m, h2⟩ => ⟨h1, by rw [h2]; exact below_drewN (Below.refl _ _) m⟩
end Go.Proofs.Ytlmgogonghafeab
