/-
  Texts put together: Rt Ly Fn.
-/
import Derived.Test.YtlmgogonghafeabMB
import Derived.Test.YtlmgogonghafeabSe
/-! Rt -/
namespace Go.Proofs.Ytlmgogonghafeab
open Go.RowKit Go.Lib
set_option linter.unusedVariables false

/-- The slice value at a, of n numbers and capacity c, holds the list l in w. -/
def IsL (w : World) (a : Option Addr) (n c : Nat) (l : List Nat) : Prop :=
  l.length = n ∧ n ≤ c ∧ c ≤ 9223372036854775807 ∧ (0 < n → ∃ b off, a = some ⟨b, off, none⟩ ∧ b < w.heap.size ∧ ∀ k (h : k < l.length), w.cell? ⟨b, off + k, none⟩ = some (.int .i64 ((l[k] : Nat) : Int)))
theorem IsL.below {w w' : World} {a : Option Addr} {n c : Nat} {l : List Nat} (h : IsL w a n c l) (hb : Below w.heap.size w w') : IsL w' a n c l := by
  obtain ⟨h1, h2, h3, h4⟩ := h
  refine ⟨h1, h2, h3, fun hn => ?_⟩
  obtain ⟨b, off, e, hlt, hc⟩ := h4 hn
  exact ⟨b, off, e, Nat.lt_of_lt_of_le hlt hb.size, fun k hk => by rw [hb.cell (p := ⟨b, off + k, none⟩) hlt]; exact hc k hk⟩
theorem IsN.isL {w W : World} {v : Value} {l : List Nat} (h : IsN w W v l) : ∃ a c, v = .slice a l.length c ∧ IsL W a l.length c l := by
  obtain ⟨β, h1, h2⟩ := h
  obtain ⟨a, c, hv, hlc, hc⟩ := h1.form
  have el : (nI l).length = l.length := by simp [nI]
  rw [el] at hv hlc
  refine ⟨a, c, hv, rfl, hlc, hc, fun hn => ?_⟩
  cases β with
  | none =>
    obtain ⟨-, h⟩ := h1
    rw [h] at el
    simp at el
    omega
  | some g =>
    have hlt := h1.lt g rfl
    obtain ⟨cap, hv2, hR⟩ := h1
    rw [hv] at hv2
    obtain ⟨rfl, -, -⟩ := Value.slice.inj hv2
    refine ⟨g, 0, rfl, hlt, fun k hk => ?_⟩
    have := hR.cell szI k 0 (by rw [el]; exact hk) (by omega)
    simp [ei, nI] at this
    simpa using this

theorem toL (s : ByteArray) : s.toList = s.data.toList := ByteArray.toList_eq s
theorem ext_list (T : ByteArray) (i j : Nat) : (T.extract i j).toList = (T.data.toList.drop i).take (j - i) := by
  rw [toL, ByteArray.data_extract, Array.toList_extract, List.extract_eq_take_drop]
theorem st_ext {T p : By} {q : Nat} (h : q + p.length ≤ T.length) : stB T p q = ((T.drop q).take (q + p.length - q) == p) := by
  rw [Bool.eq_iff_iff, stB_iff, beq_iff_eq, show q + p.length - q = p.length by omega, List.prefix_iff_eq_take]
  exact eq_comm
theorem st_out {T p : By} {q : Nat} (h : ¬ q + p.length ≤ T.length) (hp : 1 ≤ p.length) : stB T p q = false := by
  rw [Bool.eq_false_iff]
  intro e
  rw [stB_iff] at e
  have := e.length_le
  rw [List.length_drop] at this
  omega

/-- The places ahead of i. -/
def plB (T p : By) (i : Nat) : List Nat := (List.range i).filter (stB T p)
theorem plB_succ (T p : By) (i : Nat) : plB T p (i + 1) = plB T p i ++ (if stB T p i = true then [i] else []) := by
  unfold plB
  rw [List.range_succ, List.filter_append]
  congr 1
  by_cases h : stB T p i = true
  · rw [if_pos h, List.filter_cons_of_pos h, List.filter_nil]
  · rw [if_neg h, List.filter_cons_of_neg h, List.filter_nil]
theorem plB_all {T p : By} (hp : 1 ≤ p.length) : plB T p T.length = plc T p := by
  unfold plB plc fnd
  by_cases h : p.length ≤ T.length + 1
  · have e : T.length = (T.length + 1 - p.length) + (p.length - 1) := by omega
    rw [List.range_eq_range']
    have e2 : List.range' 0 T.length = List.range' 0 (T.length + 1 - p.length) ++ List.range' (0 + (T.length + 1 - p.length)) (p.length - 1) := by
      rw [List.range'_append_1]
      congr 1
    rw [e2, List.filter_append]
    have h1 : (List.range' (0 + (T.length + 1 - p.length)) (p.length - 1)).filter (stB T p) = [] := by
      rw [List.filter_eq_nil_iff]
      intro q hq
      rw [List.mem_range'_1] at hq
      rw [st_out (by omega) hp]
      simp
    rw [h1, List.append_nil]
  · have e : T.length + 1 - p.length = 0 := by omega
    rw [e]
    simp only [List.range'_zero, List.filter_nil]
    rw [List.filter_eq_nil_iff]
    intro q hq
    rw [List.mem_range] at hq
    rw [st_out (by omega) hp]
    simp
theorem plB_pre (T p : By) (i : Nat) : ∀ d, plB T p i <+: plB T p (i + d)
  | 0 => List.prefix_refl _
  | d + 1 => (plB_pre T p i d).trans ⟨_, (plB_succ T p (i + d)).symm⟩
/-- The next place. -/
theorem plB_next {T p : By} {i : Nat} (hp : 1 ≤ p.length) (hi : i < T.length) (h : stB T p i = true) : ∃ hk : (plB T p i).length < (plc T p).length, (plc T p)[(plB T p i).length] = i := by
  have h1 := plB_pre T p (i + 1) (T.length - (i + 1))
  rw [show i + 1 + (T.length - (i + 1)) = T.length by omega, plB_all hp, plB_succ, if_pos h] at h1
  obtain ⟨r, hr⟩ := h1
  have e : (plc T p)[(plB T p i).length]? = some i := by
    rw [← hr, List.append_assoc, List.getElem?_append_right (Nat.le_refl _), Nat.sub_self]
    rfl
  obtain ⟨hk, hv⟩ := List.getElem?_eq_some_iff.1 e
  exact ⟨hk, hv⟩

end Go.Proofs.Ytlmgogonghafeab

/-! Ly -/
namespace Go.Proofs.Ytlmgogonghafeab
open Go.RowKit Go.Lib
set_option linter.unusedVariables false

/-- The characters of a text. -/
def tB (xs : List El) : By := xs.map fun x => UInt8.ofNat x.1.toNat
theorem bstr_tB (xs : List El) : bstr (xs.map (·.1)) = bsA (tB xs) := by
  have h : ∀ (l : List Int) (r : ByteArray), l.foldl (fun r n => r.push (UInt8.ofNat n.toNat)) r = ⟨r.data ++ (l.map fun n => UInt8.ofNat n.toNat).toArray⟩ := by
    intro l
    induction l with
    | nil => intro r; cases r; simp
    | cons b l ih =>
      intro r
      rw [List.foldl_cons, ih]
      congr 1
      apply Array.toList_inj.1
      simp [ByteArray.push]
  unfold bstr bsA tB
  rw [h]
  congr 1
  simp [ByteArray.empty, ByteArray.emptyWithCapacity]
  rfl
theorem tB_elS (b : By) (n : Nat) (h : n ≤ b.length) : tB (elS b n) = b.take n := by
  apply List.ext_getElem?
  intro i
  unfold tB elS
  rw [List.map_map]
  by_cases hi : i < n
  · rw [List.getElem?_map, List.getElem?_range hi, List.getElem?_take, if_pos hi]
    simp only [Option.map_some, Function.comp, eS, Int.toNat_natCast, UInt8.ofNat_toNat]
    rw [List.getElem?_eq_getElem (by omega)]
    simp [List.getD, show i < b.length by omega]
  · rw [List.getElem?_eq_none (by simp; omega), List.getElem?_eq_none (by simp; omega)]

def pcv (q : Pc) : List Value := [q.val]
theorem szP : Sz pcv 1 := fun x => ⟨rfl, fun v hv => by simp [pcv] at hv; subst hv; rfl⟩
theorem Try.infoBs : (Try.prog.info? 35).map (fun i => (i.zero, i.size, i.bytes)) = some (some (.slice none 0 0), 1, 24) := by kernel_rfl
theorem push_pc (w : World) (β : Option Nat) (v : Value) (xs : List Pc) (hv : SF pcv 1 w 35 β v xs) (b : Nat) (q : Pc) (hb : w.heap[b]? = some (.cells #[q.val] 35 (0, 0))) (hn : xs.length ≤ 5000000000000) :
    ∃ v' w', (∀ ty, (Builtin.append_ #[57, 57] ty #[v, .slice (some ⟨b, 0, none⟩) 1 1]).run Try.prog w = .ok v' w') ∧ NowF pcv 1 w w' 35 β v' (xs ++ [q]) := by
  obtain ⟨i0, hi0, hz0, hz1, hz2⟩ := info_parts Try.infoBs
  obtain ⟨v', w', hr, hN⟩ := run_pushF szP (P := Try.prog) w 57 0 35 i0 _ 24 Try.underlying57 hi0 hz0 hz1 rfl hz2 β v xs hv ⟨b, 0, none⟩ 1 1 [q] rfl (fun j u hj => by
    rw [cl_one] at hj
    rw [add_lit, cell_row hb, Nat.zero_add, List.getElem?_toArray]
    exact hj) (by omega) (by omega) (by omega)
  exact ⟨v', w', fun ty => hr, hN⟩

/-- The pieces that lay makes, of a row at block g. -/
def pcG (g : Nat) (b : By) (j : Nat) : Pc := ⟨g, 128 * j, ((b.drop (128 * j)).take 128).length, (b.drop (128 * j)).take 128⟩
def pcsG (g : Nat) (b : By) (k : Nat) : List Pc := (List.range k).map (pcG g b)
theorem pcsG_succ (g : Nat) (b : By) (k : Nat) : pcsG g b (k + 1) = pcsG g b k ++ [pcG g b k] := by simp [pcsG, List.range_succ]
theorem pcsG_len (g : Nat) (b : By) (k : Nat) : (pcsG g b k).length = k := by simp [pcsG]
theorem pcsG_tx (g : Nat) (b : By) (k : Nat) : txP (pcsG g b k) = b.take (128 * k) := by
  induction k with
  | zero => simp [pcsG, txP]
  | succ k ih =>
    rw [pcsG_succ, txP_app, ih, txP_one]
    show b.take (128 * k) ++ (b.drop (128 * k)).take 128 = _
    rw [show 128 * (k + 1) = 128 * k + 128 by omega, List.take_add]

/-- Within the loop of lay. -/
def LyS (w : World) (g : Nat) (b : By) (z k : Nat) (v : Value) (W : World) : Prop :=
  ∃ β, SF pcv 1 W 35 β v (pcsG g b k) ∧ (∀ h, β = some h → w.heap.size ≤ h ∧ h ≠ g) ∧ BRow W g b z ∧ Below w.heap.size w W ∧ w.heap.size ≤ g
theorem LyS.push {w W : World} {g z k : Nat} {b : By} {v : Value} (h : LyS w g b z k v W) (hk : k ≤ 5000000000000) :
    ∃ v' w', (∀ ty, (Builtin.append_ #[57, 57] ty #[v, .slice (some ⟨W.heap.size, 0, none⟩) 1 1]).run Try.prog (W.alloc (.cells #[(pcG g b k).val] 35)) = .ok v' w') ∧ LyS w g b z (k + 1) v' w' := by
  obtain ⟨β, h1, h2, h3, h4, h5⟩ := h
  have hA : Fr (fun _ => False) W (W.alloc (.cells #[(pcG g b k).val] 35)) := Fr.alloc _ _ _
  obtain ⟨v', w', hr, hN⟩ := push_pc _ β v _ (h1.fr hA (fun _ _ h => h)) W.heap.size (pcG g b k) (heap_alloc_new W _) (by rw [pcsG_len]; exact hk)
  refine ⟨v', w', hr, ?_⟩
  rw [← pcsG_succ] at hN
  obtain ⟨g', hS, hF⟩ := hN
  have hsz : (W.alloc (.cells #[(pcG g b k).val] 35)).heap.size = W.heap.size + 1 := by simp
  have hg := h3.lt
  rcases hF with ⟨e, hf⟩ | ⟨e, hf⟩
  · have hF2 : Fr (· = g') W w' := (hA.mono (fun _ _ h => h.elim)).trans hf
    exact ⟨some g', hS, fun h hh => by cases hh; exact h2 g' e, h3.fr hF2 (fun e2 => (h2 g' e).2 e2.symm), h4.trans (hF2.below h4.size (fun k hk => by rw [hk]; exact (h2 g' e).1)), h5⟩
  · have hF2 : Fr (fun _ => False) W w' := hA.trans hf
    rw [hsz] at e
    have := h4.size
    exact ⟨some g', hS, fun h hh => by cases hh; exact ⟨by omega, by omega⟩, h3.fr hF2 (fun h => h), h4.trans (hF2.below h4.size (fun k hk => hk.elim)), h5⟩
theorem LyS.isP {w W : World} {g z k : Nat} {b : By} {v : Value} (h : LyS w g b z k v W) (hb : b.length ≤ 9000000000000000000) (hk : 128 * k ≤ b.length + 127) : ∃ a c, v = .slice a k c ∧ IsP W a k c (pcsG g b k) := by
  obtain ⟨β, h1, h2, h3, h4, h5⟩ := h
  obtain ⟨a, c, hv, hlc, hc⟩ := h1.form
  rw [pcsG_len] at hv hlc
  refine ⟨a, c, hv, pcsG_len g b k, hlc, hc, fun hn => ?_, fun q hq => ?_⟩
  · cases β with
    | none =>
      obtain ⟨-, h⟩ := h1
      have := pcsG_len g b k
      rw [h] at this
      simp at this
      omega
    | some g2 =>
      have hlt := h1.lt g2 rfl
      obtain ⟨cap, hv2, hR⟩ := h1
      rw [hv] at hv2
      obtain ⟨rfl, -, -⟩ := Value.slice.inj hv2
      refine ⟨g2, 0, rfl, hlt, fun i hi => ?_⟩
      have := hR.cell szP i 0 hi (by omega)
      rw [Nat.mul_one, Nat.add_zero] at this
      rw [Nat.zero_add, this]
      rfl
  · obtain ⟨j, hj, rfl⟩ := List.mem_map.1 hq
    refine ⟨h3.lt, Nat.le_refl _, ?_, fun i hi => ?_⟩
    · show ((b.drop (128 * j)).take 128).length ≤ _
      simp
      omega
    · show W.cell? ⟨g, 128 * j + i, none⟩ = some (ub ((b.drop (128 * j)).take 128)[i])
      have hi' : i < ((b.drop (128 * j)).take 128).length := hi
      simp at hi'
      rw [h3.cell (128 * j + i) (by omega)]
      congr 2
      exact (by simp : b[128 * j + i]'(by omega) = ((b.drop (128 * j)).take 128)[i]'(by simp; omega))

set_option maxRecDepth 100000 in
set_option maxHeartbeats 4000000 in
theorem lay_any (a : Option Addr) (n c : Nat) (xs : List El) (w : World) (hE : IsE w a n c xs) (hn : n * 24 ≤ 140737488351232) :
    Calls Try.prog 20 #[.slice a n c] w fun e w' => ∃ a' k c' ps, e = .returned (.slice a' k c') ∧ IsP w' a' k c' ps ∧ txP ps = tB xs ∧ Below w.heap.size w w' := by
  have CT := hd (text_any a n c xs w hE hn)
  have HL : Hid ((bsA (tB xs)).size = n ∧ (tB xs).length = n) := by
    have := hE.1
    rw [bsA_size]
    simp [tB, this, Hid]
  rw [bstr_tB] at CT
  have HN := hd hn
  clear hE hn
  go_enter Try.func20, Try.ntmps20
  go_wp2_with (go_at_call 6; refine CT.out.mono ?_; rintro e w1 ⟨rfl, hb1⟩)
  have hb1' := hd hb1
  have hcv := Go.Lib.run_convert_string_bytes (P := Try.prog) w1 9 35 5 (bsA (tB xs)) Try.underlying9 Try.underlying35 Try.underlying5
  have hg1 : (bsA (tB xs)).size ≤ grownCap w1 (bsA (tB xs)).size 0 5 := grownCap_ge w1 _ 0 5
  have hg2 : grownCap w1 (bsA (tB xs)).size 0 5 ≤ 9223372036854775807 := grownCap_le_maxLen w1 _ 0 5 (by unfold maxLen; have := HL.out.1; have := HN.out; omega)
  have R0 := bytes_row w1 (bsA (tB xs))
  have B0 := bytes_below w1 (bsA (tB xs))
  rw [bsA_list] at R0
  have hs := HL.out.1
  rw [hs] at hcv hg1 hg2 R0
  clear hs
  generalize grownCap w1 n 0 5 = G at *
  generalize bytesWorld w1 5 (bsA (tB xs)) = w2 at *
  have S0 : Hid (LyS w w1.heap.size (tB xs) (G - n) 0 (.slice none 0 0) w2) := ⟨none, ⟨rfl, rfl⟩, fun h hh => (by cases hh), R0, hb1.trans (B0.mono hb1.size), hb1.size⟩
  clear R0 B0 hb1 CT
  go_wp2_with (simp only [hcv])
  generalize w1.heap.size = g at *
  have hn63 : n ≤ 5864062014634 := by have := HN.out; omega
  have HG1 := hd hg1
  clear hcv hg1 hb1'
  go_loopw [3, 5] (fun v f wr => ∃ k F : Nat, 128 * k = F ∧ F ≤ n + 127 ∧ f = .int .i64 ((F : Nat) : Int) ∧ Hid (LyS w g (tB xs) (G - n) k v wr)) (fun _ f _ => n + 127 - (intOf f).toNat)
  case atStart => exact ⟨0, 0, rfl, by omega, rfl, S0⟩
  case round =>
    obtain ⟨k, F, hF, hFn, rfl, hS⟩ := hrel
    clear S0
    by_cases hlt : F < n
    · obtain ⟨t, ht⟩ : ∃ t, t = min (F + 128) n := ⟨_, rfl⟩
      obtain ⟨v', w', hrun, hS2⟩ := hS.out.push (by omega)
      have ev : (pcG g (tB xs) k).val = .slice (some ⟨g, F, none⟩) (t - F) (t - F) := by
        unfold pcG Pc.val
        have e : (((tB xs).drop (128 * k)).take 128).length = t - F := by
          rw [List.length_take, List.length_drop, HL.out.2]
          omega
        rw [hF] at e
        simp only [hF, e]
      rw [ev] at hrun
      have HS2 := hd hS2
      have HF := hd hF
      have h1 : F < t := by omega
      have h2 : t ≤ n := by omega
      have hne : ¬ F = t := by omega
      have h3 : t ≤ G := by have := HG1.out; omega
      have h4 : ((if (F : Int) + 128 ≤ (n : Int) then (F : Int) + 128 else (n : Int))) = (t : Int) := by split <;> omega
      clear ev hS hS2 hF
      by_cases hc : F + 128 ≤ n
      · have ht2 : t = F + 128 := by omega
        subst ht2
        have hc2 : (F : Int) + 128 ≤ (n : Int) := by omega
        rw [show F + 128 - F = 128 by omega] at hrun
        clear h4 ht
        go_wp2_with (at_builtin; refine wpList_append_k _ rfl _ _ 57 57 rfl _ _ rfl rfl (hrun _) ?_)
        exact ⟨⟨k + 1, F + 128, by have := HF.out; omega, by omega, by go_num, HS2⟩, by simp [intOf]; omega⟩
      · have ht2 : t = n := by omega
        subst ht2
        have hc2 : ¬ (F : Int) + 128 ≤ (t : Int) := by omega
        clear h4 ht
        go_wp2_with (at_builtin; refine wpList_append_k _ rfl _ _ 57 57 rfl _ _ rfl rfl (hrun _) ?_)
        exact ⟨⟨k + 1, F + 128, by have := HF.out; omega, by omega, by go_num, HS2⟩, by simp [intOf]; omega⟩
    · obtain ⟨a', c', hv, hP⟩ := hS.out.isP (by rw [HL.out.2]; omega) (by rw [HL.out.2]; omega)
      subst hv
      have Z : Hid (IsP wr a' k c' (pcsG g (tB xs) k) ∧ txP (pcsG g (tB xs) k) = tB xs ∧ Below w.heap.size w wr) := by
        obtain ⟨β, q1, q2, q3, q4, q5⟩ := hS.out
        exact ⟨hP, by rw [pcsG_tx, hF, List.take_of_length_le (by rw [HL.out.2]; omega)], q4⟩
      clear hS hP
      go_wp2
      go_ret
      exact ⟨_, _, _, _, rfl, Z.out⟩

/-- An index at block x: it holds the text T. -/
def IX (w : World) (x : Nat) (T : By) : Prop :=
  ∃ a n c ps, w.heap[x]? = some (.cells #[.slice a n c, .int .i64 ((T.length : Nat) : Int)] 60 (0, 0)) ∧ IsP w a n c ps ∧ txP ps = T
theorem IX.below {w w' : World} {x : Nat} {T : By} (h : IX w x T) (hb : Below w.heap.size w w') : IX w' x T := by
  obtain ⟨a, n, c, ps, h1, h2, h3⟩ := h
  exact ⟨a, n, c, ps, (hb.block x (block_lt h1)).trans h1, h2.below hb, h3⟩

set_option maxRecDepth 100000 in
set_option maxHeartbeats 4000000 in
theorem new_any (a : Option Addr) (n c : Nat) (xs : List El) (w : World) (hE : IsE w a n c xs) (hn : n * 24 ≤ 140737488351232) :
    Calls Try.prog 7 #[.slice a n c] w fun e w' => ∃ x, e = .returned (.pointer (some ⟨x, 0, none⟩)) ∧ IX w' x (tB xs) ∧ w.heap.size ≤ x ∧ Below w.heap.size w w' := by
  have CL := hd (lay_any a n c xs w hE hn)
  have HL : Hid ((tB xs).length = n) := by
    have := hE.1
    simp [tB, this, Hid]
  clear hE hn
  go_enter Try.func7, Try.ntmps7
  go_wp2_with (go_at_call 20; refine CL.out.mono ?_; rintro e w1 ⟨a', k, c', ps, rfl, hP, hT, hb⟩)
  have Z : Hid (IX (w1.alloc (.cells #[.slice a' k c', .int .i64 ((n : Nat) : Int)] 60)) w1.heap.size (tB xs) ∧ Below w.heap.size w (w1.alloc (.cells #[.slice a' k c', .int .i64 ((n : Nat) : Int)] 60))) := by
    have b1 : Below w1.heap.size w1 (w1.alloc (.cells #[.slice a' k c', .int .i64 ((n : Nat) : Int)] 60)) := (Below.refl _ _).alloc (Nat.le_refl _) _
    refine ⟨⟨a', k, c', ps, ?_, hP.below b1, hT⟩, hb.trans (b1.mono hb.size)⟩
    rw [HL.out]
    exact heap_alloc_new _ _
  have hsz := hd hb.size
  clear hP hT hb CL
  go_wp2
  go_ret
  exact ⟨_, rfl, Z.out.1, hsz.out, Z.out.2⟩
end Go.Proofs.Ytlmgogonghafeab

/-! Fn -/
namespace Go.Proofs.Ytlmgogonghafeab
open Go.RowKit Go.Lib
set_option linter.unusedVariables false

def okC (c : UInt8) : Bool := decide (32 ≤ c.toNat ∧ c.toNat ≤ 126)
/-- May these bytes be put into a text? -/
def fillB (b : By) : Bool := b.all okC && decide (b.length ≤ 64)
def patB (b : By) : Bool := decide (b ≠ []) && fillB b
theorem patB_iff (b : By) : patB b = true ↔ 1 ≤ b.length ∧ b.length ≤ 64 ∧ ∀ c ∈ b, 32 ≤ c.toNat ∧ c.toNat ≤ 126 := by
  unfold patB fillB okC
  simp only [Bool.and_eq_true, decide_eq_true_eq, List.all_eq_true]
  constructor
  · rintro ⟨h1, h2, h3⟩
    exact ⟨by have := List.length_pos_iff.2 h1; omega, h3, h2⟩
  · rintro ⟨h1, h2, h3⟩
    exact ⟨fun e => by rw [e] at h1; simp at h1, h3, h2⟩
theorem fillB_iff (b : By) : fillB b = true ↔ b.length ≤ 64 ∧ ∀ c ∈ b, 32 ≤ c.toNat ∧ c.toNat ≤ 126 := by
  unfold fillB okC
  simp only [Bool.and_eq_true, decide_eq_true_eq, List.all_eq_true]
  exact ⟨fun h => ⟨h.2, h.1⟩, fun h => ⟨h.2, h.1⟩⟩
theorem patB_ndP (b : By) : patB (ndP b) = true := (patB_iff _).2 ⟨(ndP_len b).1, (ndP_len b).2, ndP_chars b⟩

theorem gets (s : ByteArray) (k : Nat) (h : k < s.size) : s.data.toList[k]'(by simpa using h) = s[k]'h := by
  simp
  rfl

/-- Within the loop: the iterator stands at place k. -/
def FiS (w : World) (s : ByteArray) (k : Nat) (W : World) : Prop := W.heap[w.heap.size]? = some (.stringIter s k) ∧ Below w.heap.size w W

set_option maxRecDepth 100000 in
set_option maxHeartbeats 4000000 in
theorem filling_any (s : ByteArray) (w : World) (hs : s.size ≤ 9223372036854775807) : Calls Try.prog 27 #[.string s] w fun e w' => e = .returned (.bool (fillB s.data.toList)) ∧ Below w.heap.size w w' := by
  have HS := hd hs
  have HL : Hid (s.data.toList.length = s.size) := by show _ = _; simp
  clear hs
  have S0 : Hid (FiS w s 0 (w.iter s 0)) := ⟨heap_alloc_new w _, (Below.refl _ _).alloc (Nat.le_refl _) _⟩
  go_enter Try.func27, Try.ntmps27
  go_wp2
  generalize w.iter s 0 = w0 at *
  go_loopw [] (fun wr => ∃ k : Nat, k ≤ s.size ∧ Hid (FiS w s k wr ∧ ∀ c ∈ s.data.toList.take k, okC c = true)) (fun wr => s.size - wr.iterPos w.heap.size)
  case atStart => exact ⟨0, Nat.zero_le _, S0.out, by simp⟩
  case round =>
    obtain ⟨k, hk, hS⟩ := hrel
    clear S0
    have IP : Hid (wr.iterPos w.heap.size = k) := by show _ = _; simp [World.iterPos, hS.out.1.1]
    by_cases hlt : k < s.size
    · have hkl : k < s.data.toList.length := by rw [HL.out]; exact hlt
      have hg := gets s k hlt
      by_cases ha : (s[k]'hlt).toNat < 128
      · have hnx := fun ty => run_next_ascii_at (P := Try.prog) wr w.heap.size s k ty hS.out.1.1 hlt ha
        have B2 : Hid (Below w.heap.size w (wr.iterAt w.heap.size s (k + 1))) := below_iterAt hS.out.1.2 (Nat.le_refl _) s (k + 1)
        obtain ⟨C, hC⟩ : ∃ C : Nat, (s[k]'hlt).toNat = C := ⟨_, rfl⟩
        by_cases hok : 32 ≤ C ∧ C ≤ 126
        · have Z : Hid (FiS w s (k + 1) (wr.iterAt w.heap.size s (k + 1)) ∧ ∀ c ∈ s.data.toList.take (k + 1), okC c = true) := by
            refine ⟨⟨iterAt_heap wr w.heap.size s k (k + 1) hS.out.1.1, B2.out⟩, fun c hc => ?_⟩
            rw [List.take_succ_eq_append_getElem hkl, List.mem_append] at hc
            rcases hc with hc | hc
            · exact hS.out.2 c hc
            · rw [List.mem_singleton] at hc
              rw [hc, hg]
              unfold okC
              rw [hC]
              simpa using hok
          have IP2 : Hid ((wr.iterAt w.heap.size s (k + 1)).iterPos w.heap.size = k + 1) := by show _ = _; simp [World.iterPos, Z.out.1.1]
          have h1 : ¬ (C : Int) < 32 := by omega
          have h2 : ¬ (126 : Int) < (C : Int) := by omega
          rw [hC] at hnx
          clear hS B2 hg hC hok
          generalize wr.iterAt w.heap.size s (k + 1) = w2 at *
          go_wp2
          exact ⟨⟨k + 1, by omega, Z⟩, by rw [IP.out, IP2.out]; omega⟩
        · have hbad : Hid (fillB s.data.toList = false) := by
            show _ = _
            rw [Bool.eq_false_iff]
            intro h
            have := ((fillB_iff _).1 h).2 _ (List.getElem_mem hkl)
            rw [hg, hC] at this
            exact hok this
          rw [hC] at hnx
          by_cases h1 : C < 32
          · have h1' : (C : Int) < 32 := by omega
            clear hS hg hC hok
            generalize wr.iterAt w.heap.size s (k + 1) = w2 at *
            go_wp2
            go_ret
            exact ⟨by rw [hbad.out]; rfl, B2.out⟩
          · have h1' : ¬ (C : Int) < 32 := by omega
            have h2 : (126 : Int) < (C : Int) := by omega
            clear hS hg hC hok
            generalize wr.iterAt w.heap.size s (k + 1) = w2 at *
            go_wp2
            go_ret
            exact ⟨by rw [hbad.out]; rfl, B2.out⟩
      · have hnx := fun ty => run_next_any_at (P := Try.prog) wr w.heap.size s k ty hS.out.1.1 hlt
        have hdh := decode_high s k hlt (by omega)
        obtain ⟨R, hR⟩ : ∃ R : Nat, (Utf8.decode s k).1 = R := ⟨_, rfl⟩
        have B2 : Hid (Below w.heap.size w (wr.iterAt w.heap.size s (k + (Utf8.decode s k).2))) := below_iterAt hS.out.1.2 (Nat.le_refl _) s _
        generalize wr.iterAt w.heap.size s (k + (Utf8.decode s k).2) = w2 at *
        rw [hR] at hnx hdh
        have hbad : Hid (fillB s.data.toList = false) := by
          show _ = _
          rw [Bool.eq_false_iff]
          intro h
          have := ((fillB_iff _).1 h).2 _ (List.getElem_mem hkl)
          rw [hg] at this
          omega
        have h1 : ¬ (R : Int) < 32 := by omega
        have h2 : (126 : Int) < (R : Int) := by omega
        clear hS hg hdh hR
        go_wp2
        go_ret
        exact ⟨by rw [hbad.out]; rfl, B2.out⟩
    · obtain rfl : k = s.size := by omega
      have hnx := fun ty => run_next_end_at (P := Try.prog) wr w.heap.size s s.size ty hS.out.1.1 (by omega)
      have B := hd hS.out.1.2
      have hf : Hid (fillB s.data.toList = decide (s.size ≤ 64)) := by
        show _ = _
        have h := hS.out.2
        rw [List.take_of_length_le (by rw [HL.out]; omega)] at h
        unfold fillB
        rw [List.all_eq_true.2 h, HL.out]
        rfl
      clear hS IP
      by_cases h6 : s.size ≤ 64
      · have h6' : (s.size : Int) ≤ 64 := by omega
        have e : Hid (fillB s.data.toList = true) := by show _ = _; rw [hf.out]; simpa using h6
        clear hf h6
        go_wp2
        go_ret
        exact ⟨by rw [e.out]; rfl, B.out⟩
      · have h6' : ¬ (s.size : Int) ≤ 64 := by omega
        have e : Hid (fillB s.data.toList = false) := by show _ = _; rw [hf.out]; simpa using h6
        clear hf h6
        go_wp2
        go_ret
        exact ⟨by rw [e.out]; rfl, B.out⟩

set_option maxRecDepth 100000 in
set_option maxHeartbeats 4000000 in
theorem pattern_any (s : ByteArray) (w : World) (hs : s.size ≤ 9223372036854775807) : Calls Try.prog 25 #[.string s] w fun e w' => e = .returned (.bool (patB s.data.toList)) ∧ Below w.heap.size w w' := by
  have CF := hd (filling_any s w hs)
  have HT := hd (toL s)
  by_cases h : s.toList = []
  · have e : Hid (patB s.data.toList = false) := by
      show _ = _
      rw [← HT.out, h]
      rfl
    go_enter Try.func25, Try.ntmps25
    go_wp2
    go_ret
    exact ⟨by rw [e.out]; rfl, Below.refl _ _⟩
  · have e : Hid (patB s.data.toList = fillB s.data.toList) := by
      show _ = _
      unfold patB
      rw [← HT.out]
      simp [h]
    have h2 : s.toList.isEmpty = false := by cases hq : s.toList with
      | nil => exact absurd hq h
      | cons a b => rfl
    go_enter Try.func25, Try.ntmps25
    go_wp2_with (go_at_call 27; refine CF.out.mono ?_; rintro e w1 ⟨rfl, hb⟩)
    go_ret
    exact ⟨by rw [e.out]; rfl, hb⟩

/-- What an index at block x is asked with. -/
theorem IX.cells {w : World} {x : Nat} {T : By} (h : IX w x T) : ∃ a n c ps, w.cell? ⟨x, 0, none⟩ = some (.slice a n c) ∧ w.cell? ⟨x, 1, none⟩ = some (.int .i64 ((T.length : Nat) : Int)) ∧ IsP w a n c ps ∧ txP ps = T := by
  obtain ⟨a, n, c, ps, h1, h2, h3⟩ := h
  have c0 := cell_row h1 0
  have c1 := cell_row h1 1
  simp at c0 c1
  exact ⟨a, n, c, ps, c0, c1, h2, h3⟩
theorem IX.len {w : World} {x : Nat} {T : By} (h : IX w x T) : x < w.heap.size := by
  obtain ⟨a, n, c, ps, h1, h2, h3⟩ := h
  exact block_lt h1

theorem below_drew (w : World) : Below w.heap.size w w.drew := ⟨rfl, rfl, rfl, Nat.le_refl _, fun _ _ => rfl⟩
theorem IsN.mono {w w1 W : World} {v : Value} {l : List Nat} (h : IsN w1 W v l) (hle : w.heap.size ≤ w1.heap.size) : IsN w W v l := by
  obtain ⟨β, h1, h2⟩ := h
  exact ⟨β, h1, fun g hg => Nat.le_trans hle (h2 g hg)⟩

set_option maxRecDepth 100000 in
set_option maxHeartbeats 4000000 in
theorem find_bad (x : Nat) (s : ByteArray) (w : World) (hs : s.size ≤ 9223372036854775807) (hp : patB s.data.toList = false) :
    Calls Try.prog 11 #[.pointer (some ⟨x, 0, none⟩), .string s] w fun e w' => e = .returned (.tuple #[.slice none 0 0, .int .i64 240]) ∧ Below w.heap.size w w' := by
  have CF := pattern_any s w hs
  rw [hp] at CF
  have CF := hd CF
  clear hp
  go_enter Try.func11, Try.ntmps11
  go_wp2_with (go_at_call 25; refine CF.out.mono ?_; rintro e w1 ⟨rfl, hb⟩)
  go_ret2
  exact ⟨rfl, hb⟩
set_option maxRecDepth 100000 in
set_option maxHeartbeats 4000000 in
theorem find_good (x : Nat) (T : By) (s : ByteArray) (w : World) (hI : IX w x T) (hT : T.length ≤ 4000000000) (hp : patB s.data.toList = true) :
    Calls Try.prog 11 #[.pointer (some ⟨x, 0, none⟩), .string s] w fun e w' => ∃ v, e = .returned (.tuple #[v, .int .i64 0]) ∧ IsN w w' v (plc T s.data.toList) ∧ Below w.heap.size w w' := by
  obtain ⟨p1, p64, pc⟩ := (patB_iff _).1 hp
  have CF := pattern_any s w (by have : s.data.toList.length = s.size := by simp
                                 omega)
  rw [hp] at CF
  have CF := hd CF
  have HI := hd hI
  have HT := hd hT
  have P1 := hd p1
  have P64 := hd p64
  have PC := hd pc
  clear hp hI p1 p64 pc hT
  go_enter Try.func11, Try.ntmps11
  go_wp2_with (go_at_call 25; refine CF.out.mono ?_; rintro e w1 ⟨rfl, hb⟩)
  obtain ⟨a, n, c, ps, c0, c1, hP, hTx⟩ := (HI.out.below hb).cells
  have HB := hd hb
  have HPL := hd (fun W (hW : Below w1.heap.size w1 W) => places_any a n c ps s 0 T.length W (hP.below hW) (by rw [hTx]; exact HT.out) (by omega) (by have := HT.out; omega) (by
    rw [hTx]
    rcases Nat.eq_zero_or_pos T.length with h | h
    · exact .inr (List.length_eq_zero_iff.1 h)
    · exact .inl h) (by have := P64.out; simpa using this) (by have := P1.out; simpa using this) (fun k h => by
      have := (PC.out _ (List.getElem_mem (show k < s.data.toList.length by simpa using h))).2
      rw [gets s k h] at this
      omega))
  have e : Hid ((fnd (txP ps) s.data.toList (0 : Int).toNat ((txP ps).length - (0 : Int).toNat)).take T.length = plc T s.data.toList) := by
    show _ = _
    rw [hTx]
    exact List.take_of_length_le (fnd_len P1.out)
  clear hP hTx hb
  go_region_with (go_at_call 26; refine (HPL.out _ (below_drew _)).mono ?_; rintro e2 w2 ⟨v, rfl, hN, hb2⟩)
  all_goals
    go_wp2
    go_ret2
    rw [e.out] at hN
    exact ⟨_, rfl, hN.mono HB.out.size, HB.out.trans (((below_drew _).trans hb2).mono HB.out.size)⟩

set_option maxRecDepth 100000 in
set_option maxHeartbeats 4000000 in
theorem next_bad (x : Nat) (s : ByteArray) (pos : Int) (w : World) (hs : s.size ≤ 9223372036854775807) (hp : patB s.data.toList = false) :
    Calls Try.prog 39 #[.pointer (some ⟨x, 0, none⟩), .string s, .int .i64 pos] w fun e w' => e = .returned (.tuple #[.int .i64 0, .int .i64 240]) ∧ Below w.heap.size w w' := by
  have CF := pattern_any s w hs
  rw [hp] at CF
  have CF := hd CF
  clear hp
  go_enter Try.func39, Try.ntmps39
  go_wp2_with (go_at_call 25; refine CF.out.mono ?_; rintro e w1 ⟨rfl, hb⟩)
  go_ret2
  exact ⟨rfl, hb⟩

/-- The first place from pos on; -1: none. -/
def nxP (T p : By) (pos : Int) : Int := match (plc T p).filter (fun q => decide (pos ≤ ((q : Nat) : Int))) with | [] => -1 | q :: _ => ((q : Nat) : Int)
theorem fnd_pos {T p : By} (hp : 1 ≤ p.length) (pos : Int) : fnd T p pos.toNat (T.length - pos.toNat) = (plc T p).filter (fun q => decide (pos ≤ ((q : Nat) : Int))) := by
  by_cases h : pos.toNat ≤ T.length
  · rw [fnd_from hp h]
    refine List.filter_congr fun q _ => ?_
    rw [decide_eq_decide]
    omega
  · have e : T.length - pos.toNat = 0 := by omega
    rw [e, fnd_zero hp]
    symm
    rw [List.filter_eq_nil_iff]
    intro q hq
    unfold plc at hq
    rcases fnd_mem.1 hq with ⟨h1, h2, h3⟩ | ⟨h1, h2⟩
    · simp
      omega
    · omega
theorem nxP_nil {T p : By} {pos : Int} (h : (plc T p).filter (fun q => decide (pos ≤ ((q : Nat) : Int))) = []) : nxP T p pos = -1 := by unfold nxP; rw [h]
theorem nxP_cons {T p : By} {pos : Int} {q : Nat} {r : List Nat} (h : (plc T p).filter (fun q => decide (pos ≤ ((q : Nat) : Int))) = q :: r) : nxP T p pos = ((q : Nat) : Int) := by unfold nxP; rw [h]

set_option maxRecDepth 100000 in
set_option maxHeartbeats 4000000 in
theorem next_good (x : Nat) (T : By) (s : ByteArray) (pos : Int) (w : World) (hI : IX w x T) (hT : T.length ≤ 4000000000) (hp : patB s.data.toList = true) (hpos : pos ≤ 9223372036854775807) :
    Calls Try.prog 39 #[.pointer (some ⟨x, 0, none⟩), .string s, .int .i64 pos] w fun e w' => e = .returned (.tuple #[.int .i64 (nxP T s.data.toList pos), .int .i64 0]) ∧ Below w.heap.size w w' := by
  obtain ⟨p1, p64, pc⟩ := (patB_iff _).1 hp
  have CF := pattern_any s w (by have : s.data.toList.length = s.size := by simp
                                 omega)
  rw [hp] at CF
  have CF := hd CF
  have HI := hd hI
  have HT := hd hT
  have P1 := hd p1
  have P64 := hd p64
  have PC := hd pc
  have HPos := hd hpos
  clear hp hI p1 p64 pc hT hpos
  go_enter Try.func39, Try.ntmps39
  go_upto_region 3 with (go_at_call 25; refine CF.out.mono ?_; rintro e w1 ⟨rfl, hb⟩)
  obtain ⟨a, n, c, ps, c0, c1, hP, hTx⟩ := (HI.out.below hb).cells
  have HB := hd hb
  have HPL := hd (places_any a n c ps s pos 1 w1 hP (by rw [hTx]; exact HT.out) HPos.out (by omega) (.inl (Nat.le_refl _)) (by have := P64.out; simpa using this) (by have := P1.out; simpa using this) (fun k h => by
      have := (PC.out _ (List.getElem_mem (show k < s.data.toList.length by simpa using h))).2
      rw [gets s k h] at this
      omega))
  have e : Hid ((fnd (txP ps) s.data.toList pos.toNat ((txP ps).length - pos.toNat)).take 1 = ((plc T s.data.toList).filter (fun q => decide (pos ≤ ((q : Nat) : Int)))).take 1) := by
    show _ = _
    rw [hTx, fnd_pos P1.out]
  clear hP hTx hb c1
  go_upto_region 4 with (go_at_call 26; refine HPL.out.mono ?_; rintro e2 w2 ⟨v, rfl, hN, hb2⟩)
  rw [e.out] at hN
  obtain ⟨a', c', rfl, -, hnc, hc63, hrow⟩ := hN.isL
  have B2 := hd (HB.out.trans (hb2.mono HB.out.size))
  clear HPL c0 hb2 hN e CF
  cases hf : (plc T s.data.toList).filter (fun q => decide (pos ≤ ((q : Nat) : Int))) with
  | nil =>
    rw [hf] at hnc hrow
    have E := hd (nxP_nil hf)
    clear hf hrow
    simp only [List.take_nil, List.length_nil] at *
    go_wp2
    go_ret2
    exact ⟨by rw [E.out]; rfl, B2.out⟩
  | cons q r =>
    rw [hf] at hnc hrow
    have E := hd (nxP_cons hf)
    clear hf
    simp only [List.take_succ_cons, List.take_zero, List.length_cons, List.length_nil, Nat.zero_add] at *
    obtain ⟨b, off, rfl, hb, hcell⟩ := hrow (by omega)
    have ck := hcell 0 (by omega)
    simp only [Nat.add_zero, List.getElem_cons_zero] at ck
    clear hcell hrow
    go_wp2
    go_ret2
    exact ⟨by rw [E.out]; rfl, B2.out⟩
end Go.Proofs.Ytlmgogonghafeab
