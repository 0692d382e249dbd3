/-
  lay, New.
-/
import Derived.Test.YtlmgogonghafeabRt
namespace Go.Proofs.Ytlmgogonghafeab
open Go.RowKit Go.Lib
set_option linter.unusedVariables false

/-- The characters of a text. -/
def tB (xs : List El) : By := xs.map fun x => UInt8.ofNat x.1.toNat
theorem bstr_tB (xs : List El) : bstr (xs.map (·.1)) = bsA (tB xs) := by
  have h : ∀ (l : List Int) (r : ByteArray), l.foldl (fun r n => r.push (UInt8.ofNat n.toNat)) r = ⟨r.data ++ (l.map fun n => UInt8.ofNat n.toNat).toArray⟩ := by
    intro l
    induction l with
    | nil => intro r; cases r; simp
    | cons b l ih =>
      intro r
      rw [List.foldl_cons, ih]
      congr 1
      apply Array.toList_inj.1
      simp [ByteArray.push]
  unfold bstr bsA tB
  rw [h]
  congr 1
  simp [ByteArray.empty, ByteArray.emptyWithCapacity]
  rfl
theorem tB_elS (b : By) (n : Nat) (h : n ≤ b.length) : tB (elS b n) = b.take n := by
  apply List.ext_getElem?
  intro i
  unfold tB elS
  rw [List.map_map]
  by_cases hi : i < n
  · rw [List.getElem?_map, List.getElem?_range hi, List.getElem?_take, if_pos hi]
    simp only [Option.map_some, Function.comp, eS, Int.toNat_natCast, UInt8.ofNat_toNat]
    rw [List.getElem?_eq_getElem (by omega)]
    simp [List.getD, show i < b.length by omega]
  · rw [List.getElem?_eq_none (by simp; omega), List.getElem?_eq_none (by simp; omega)]

def pcv (q : Pc) : List Value := [q.val]
theorem szP : Sz pcv 1 := fun x => ⟨rfl, fun v hv => by simp [pcv] at hv; subst hv; rfl⟩
theorem Try.infoBs : (Try.prog.info? 35).map (fun i => (i.zero, i.size, i.bytes)) = some (some (.slice none 0 0), 1, 24) := by kernel_rfl
theorem push_pc (w : World) (β : Option Nat) (v : Value) (xs : List Pc) (hv : SF pcv 1 w 35 β v xs) (b : Nat) (q : Pc) (hb : w.heap[b]? = some (.cells #[q.val] 35 (0, 0))) (hn : xs.length ≤ 5000000000000) :
    ∃ v' w', (∀ ty, (Builtin.append_ #[57, 57] ty #[v, .slice (some ⟨b, 0, none⟩) 1 1]).run Try.prog w = .ok v' w') ∧ NowF pcv 1 w w' 35 β v' (xs ++ [q]) := by
  obtain ⟨i0, hi0, hz0, hz1, hz2⟩ := info_parts Try.infoBs
  obtain ⟨v', w', hr, hN⟩ := run_pushF szP (P := Try.prog) w 57 0 35 i0 _ 24 Try.underlying57 hi0 hz0 hz1 rfl hz2 β v xs hv ⟨b, 0, none⟩ 1 1 [q] rfl (fun j u hj => by
    rw [cl_one] at hj
    rw [add_lit, cell_row hb, Nat.zero_add, List.getElem?_toArray]
    exact hj) (by omega) (by omega) (by omega)
  exact ⟨v', w', fun ty => hr, hN⟩

/-- The pieces that lay makes, of a row at block g. -/
def pcG (g : Nat) (b : By) (j : Nat) : Pc := ⟨g, 128 * j, ((b.drop (128 * j)).take 128).length, (b.drop (128 * j)).take 128⟩
def pcsG (g : Nat) (b : By) (k : Nat) : List Pc := (List.range k).map (pcG g b)
theorem pcsG_succ (g : Nat) (b : By) (k : Nat) : pcsG g b (k + 1) = pcsG g b k ++ [pcG g b k] := by simp [pcsG, List.range_succ]
theorem pcsG_len (g : Nat) (b : By) (k : Nat) : (pcsG g b k).length = k := by simp [pcsG]
theorem pcsG_tx (g : Nat) (b : By) (k : Nat) : txP (pcsG g b k) = b.take (128 * k) := by
  induction k with
  | zero => simp [pcsG, txP]
  | succ k ih =>
    rw [pcsG_succ, txP_app, ih, txP_one]
    show b.take (128 * k) ++ (b.drop (128 * k)).take 128 = _
    rw [show 128 * (k + 1) = 128 * k + 128 by omega, List.take_add]

/-- Within the loop of lay. -/
def LyS (w : World) (g : Nat) (b : By) (z k : Nat) (v : Value) (W : World) : Prop :=
  ∃ β, SF pcv 1 W 35 β v (pcsG g b k) ∧ (∀ h, β = some h → w.heap.size ≤ h ∧ h ≠ g) ∧ BRow W g b z ∧ Below w.heap.size w W ∧ w.heap.size ≤ g
theorem LyS.push {w W : World} {g z k : Nat} {b : By} {v : Value} (h : LyS w g b z k v W) (hk : k ≤ 5000000000000) :
    ∃ v' w', (∀ ty, (Builtin.append_ #[57, 57] ty #[v, .slice (some ⟨W.heap.size, 0, none⟩) 1 1]).run Try.prog (W.alloc (.cells #[(pcG g b k).val] 35)) = .ok v' w') ∧ LyS w g b z (k + 1) v' w' := by
  obtain ⟨β, h1, h2, h3, h4, h5⟩ := h
  have hA : Fr (fun _ => False) W (W.alloc (.cells #[(pcG g b k).val] 35)) := Fr.alloc _ _ _
  obtain ⟨v', w', hr, hN⟩ := push_pc _ β v _ (h1.fr hA (fun _ _ h => h)) W.heap.size (pcG g b k) (heap_alloc_new W _) (by rw [pcsG_len]; exact hk)
  refine ⟨v', w', hr, ?_⟩
  rw [← pcsG_succ] at hN
  obtain ⟨g', hS, hF⟩ := hN
  have hsz : (W.alloc (.cells #[(pcG g b k).val] 35)).heap.size = W.heap.size + 1 := by simp
  have hg := h3.lt
  rcases hF with ⟨e, hf⟩ | ⟨e, hf⟩
  · have hF2 : Fr (· = g') W w' := (hA.mono (fun _ _ h => h.elim)).trans hf
    exact ⟨some g', hS, fun h hh => by cases hh; exact h2 g' e, h3.fr hF2 (fun e2 => (h2 g' e).2 e2.symm), h4.trans (hF2.below h4.size (fun k hk => by rw [hk]; exact (h2 g' e).1)), h5⟩
  · have hF2 : Fr (fun _ => False) W w' := hA.trans hf
    rw [hsz] at e
    have := h4.size
    exact ⟨some g', hS, fun h hh => by cases hh; exact ⟨by omega, by omega⟩, h3.fr hF2 (fun h => h), h4.trans (hF2.below h4.size (fun k hk => hk.elim)), h5⟩
theorem LyS.isP {w W : World} {g z k : Nat} {b : By} {v : Value} (h : LyS w g b z k v W) (hb : b.length ≤ 9000000000000000000) (hk : 128 * k ≤ b.length + 127) : ∃ a c, v = .slice a k c ∧ IsP W a k c (pcsG g b k) := by
  obtain ⟨β, h1, h2, h3, h4, h5⟩ := h
  obtain ⟨a, c, hv, hlc, hc⟩ := h1.form
  rw [pcsG_len] at hv hlc
  refine ⟨a, c, hv, pcsG_len g b k, hlc, hc, fun hn => ?_, fun q hq => ?_⟩
  · cases β with
    | none =>
      obtain ⟨-, h⟩ := h1
      have := pcsG_len g b k
      rw [h] at this
      simp at this
      omega
    | some g2 =>
      have hlt := h1.lt g2 rfl
      obtain ⟨cap, hv2, hR⟩ := h1
      rw [hv] at hv2
      obtain ⟨rfl, -, -⟩ := Value.slice.inj hv2
      refine ⟨g2, 0, rfl, hlt, fun i hi => ?_⟩
      have := hR.cell szP i 0 hi (by omega)
      rw [Nat.mul_one, Nat.add_zero] at this
      rw [Nat.zero_add, this]
      rfl
  · obtain ⟨j, hj, rfl⟩ := List.mem_map.1 hq
    refine ⟨h3.lt, Nat.le_refl _, ?_, fun i hi => ?_⟩
    · show ((b.drop (128 * j)).take 128).length ≤ _
      simp
      omega
    · show W.cell? ⟨g, 128 * j + i, none⟩ = some (ub ((b.drop (128 * j)).take 128)[i])
      have hi' : i < ((b.drop (128 * j)).take 128).length := hi
      simp at hi'
      rw [h3.cell (128 * j + i) (by omega)]
      congr 2
      exact (by simp : b[128 * j + i]'(by omega) = ((b.drop (128 * j)).take 128)[i]'(by simp; omega))

set_option maxRecDepth 100000 in
set_option maxHeartbeats 4000000 in
theorem lay_any (a : Option Addr) (n c : Nat) (xs : List El) (w : World) (hE : IsE w a n c xs) (hn : n * 24 ≤ 140737488351232) :
    Calls Try.prog 20 #[.slice a n c] w fun e w' => ∃ a' k c' ps, e = .returned (.slice a' k c') ∧ IsP w' a' k c' ps ∧ txP ps = tB xs ∧ Below w.heap.size w w' := by
  have CT := hd (text_any a n c xs w hE hn)
  have HL : Hid ((bsA (tB xs)).size = n ∧ (tB xs).length = n) := by
    have := hE.1
    rw [bsA_size]
    simp [tB, this, Hid]
  rw [bstr_tB] at CT
  have HN := hd hn
  clear hE hn
  go_enter Try.func20, Try.ntmps20
  go_wp2_with (go_at_call 6; refine CT.out.mono ?_; rintro e w1 ⟨rfl, hb1⟩)
  have hb1' := hd hb1
  have hcv := Go.Lib.run_convert_string_bytes (P := Try.prog) w1 9 35 5 (bsA (tB xs)) Try.underlying9 Try.underlying35 Try.underlying5
  have hg1 : (bsA (tB xs)).size ≤ grownCap w1 (bsA (tB xs)).size 0 5 := grownCap_ge w1 _ 0 5
  have hg2 : grownCap w1 (bsA (tB xs)).size 0 5 ≤ 9223372036854775807 := grownCap_le_maxLen w1 _ 0 5 (by unfold maxLen; have := HL.out.1; have := HN.out; omega)
  have R0 := bytes_row w1 (bsA (tB xs))
  have B0 := bytes_below w1 (bsA (tB xs))
  rw [bsA_list] at R0
  have hs := HL.out.1
  rw [hs] at hcv hg1 hg2 R0
  clear hs
  generalize grownCap w1 n 0 5 = G at *
  generalize bytesWorld w1 5 (bsA (tB xs)) = w2 at *
  have S0 : Hid (LyS w w1.heap.size (tB xs) (G - n) 0 (.slice none 0 0) w2) := ⟨none, ⟨rfl, rfl⟩, fun h hh => (by cases hh), R0, hb1.trans (B0.mono hb1.size), hb1.size⟩
  clear R0 B0 hb1 CT
  go_wp2_with (simp only [hcv])
  generalize w1.heap.size = g at *
  have hn63 : n ≤ 5864062014634 := by have := HN.out; omega
  have HG1 := hd hg1
  clear hcv hg1 hb1'
  go_loopw [3, 5] (fun v f wr => ∃ k F : Nat, 128 * k = F ∧ F ≤ n + 127 ∧ f = .int .i64 ((F : Nat) : Int) ∧ Hid (LyS w g (tB xs) (G - n) k v wr)) (fun _ f _ => n + 127 - (intOf f).toNat)
  case atStart => exact ⟨0, 0, rfl, by omega, rfl, S0⟩
  case round =>
    obtain ⟨k, F, hF, hFn, rfl, hS⟩ := hrel
    clear S0
    by_cases hlt : F < n
    · obtain ⟨t, ht⟩ : ∃ t, t = min (F + 128) n := ⟨_, rfl⟩
      obtain ⟨v', w', hrun, hS2⟩ := hS.out.push (by omega)
      have ev : (pcG g (tB xs) k).val = .slice (some ⟨g, F, none⟩) (t - F) (t - F) := by
        unfold pcG Pc.val
        have e : (((tB xs).drop (128 * k)).take 128).length = t - F := by
          rw [List.length_take, List.length_drop, HL.out.2]
          omega
        rw [hF] at e
        simp only [hF, e]
      rw [ev] at hrun
      have HS2 := hd hS2
      have HF := hd hF
      have h1 : F < t := by omega
      have h2 : t ≤ n := by omega
      have hne : ¬ F = t := by omega
      have h3 : t ≤ G := by have := HG1.out; omega
      have h4 : ((if (F : Int) + 128 ≤ (n : Int) then (F : Int) + 128 else (n : Int))) = (t : Int) := by split <;> omega
      clear ev hS hS2 hF
      by_cases hc : F + 128 ≤ n
      · have ht2 : t = F + 128 := by omega
        subst ht2
        have hc2 : (F : Int) + 128 ≤ (n : Int) := by omega
        rw [show F + 128 - F = 128 by omega] at hrun
        clear h4 ht
        go_wp2_with (at_builtin; refine wpList_append_k _ rfl _ _ 57 57 rfl _ _ rfl rfl (hrun _) ?_)
        exact ⟨⟨k + 1, F + 128, by have := HF.out; omega, by omega, by go_num, HS2⟩, by simp [intOf]; omega⟩
      · have ht2 : t = n := by omega
        subst ht2
        have hc2 : ¬ (F : Int) + 128 ≤ (t : Int) := by omega
        clear h4 ht
        go_wp2_with (at_builtin; refine wpList_append_k _ rfl _ _ 57 57 rfl _ _ rfl rfl (hrun _) ?_)
        exact ⟨⟨k + 1, F + 128, by have := HF.out; omega, by omega, by go_num, HS2⟩, by simp [intOf]; omega⟩
    · obtain ⟨a', c', hv, hP⟩ := hS.out.isP (by rw [HL.out.2]; omega) (by rw [HL.out.2]; omega)
      subst hv
      have Z : Hid (IsP wr a' k c' (pcsG g (tB xs) k) ∧ txP (pcsG g (tB xs) k) = tB xs ∧ Below w.heap.size w wr) := by
        obtain ⟨β, q1, q2, q3, q4, q5⟩ := hS.out
        exact ⟨hP, by rw [pcsG_tx, hF, List.take_of_length_le (by rw [HL.out.2]; omega)], q4⟩
      clear hS hP
      go_wp2
      go_ret
      exact ⟨_, _, _, _, rfl, Z.out⟩

/-- An index at block x: it holds the text T. -/
def IX (w : World) (x : Nat) (T : By) : Prop :=
  ∃ a n c ps, w.heap[x]? = some (.cells #[.slice a n c, .int .i64 ((T.length : Nat) : Int)] 60 (0, 0)) ∧ IsP w a n c ps ∧ txP ps = T
theorem IX.below {w w' : World} {x : Nat} {T : By} (h : IX w x T) (hb : Below w.heap.size w w') : IX w' x T := by
  obtain ⟨a, n, c, ps, h1, h2, h3⟩ := h
  exact ⟨a, n, c, ps, (hb.block x (block_lt h1)).trans h1, h2.below hb, h3⟩

set_option maxRecDepth 100000 in
set_option maxHeartbeats 4000000 in
theorem new_any (a : Option Addr) (n c : Nat) (xs : List El) (w : World) (hE : IsE w a n c xs) (hn : n * 24 ≤ 140737488351232) :
    Calls Try.prog 7 #[.slice a n c] w fun e w' => ∃ x, e = .returned (.pointer (some ⟨x, 0, none⟩)) ∧ IX w' x (tB xs) ∧ w.heap.size ≤ x ∧ Below w.heap.size w w' := by
  have CL := hd (lay_any a n c xs w hE hn)
  have HL : Hid ((tB xs).length = n) := by
    have := hE.1
    simp [tB, this, Hid]
  clear hE hn
  go_enter Try.func7, Try.ntmps7
  go_wp2_with (go_at_call 20; refine CL.out.mono ?_; rintro e w1 ⟨a', k, c', ps, rfl, hP, hT, hb⟩)
  have Z : Hid (IX (w1.alloc (.cells #[.slice a' k c', .int .i64 ((n : Nat) : Int)] 60)) w1.heap.size (tB xs) ∧ Below w.heap.size w (w1.alloc (.cells #[.slice a' k c', .int .i64 ((n : Nat) : Int)] 60))) := by
    have b1 : Below w1.heap.size w1 (w1.alloc (.cells #[.slice a' k c', .int .i64 ((n : Nat) : Int)] 60)) := (Below.refl _ _).alloc (Nat.le_refl _) _
    refine ⟨⟨a', k, c', ps, ?_, hP.below b1, hT⟩, hb.trans (b1.mono hb.size)⟩
    rw [HL.out]
    exact heap_alloc_new _ _
  have hsz := hd hb.size
  clear hP hT hb CL
  go_wp2
  go_ret
  exact ⟨_, rfl, Z.out.1, hsz.out, Z.out.2⟩
end Go.Proofs.Ytlmgogonghafeab
