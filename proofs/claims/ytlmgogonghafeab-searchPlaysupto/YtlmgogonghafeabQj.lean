/-
  The law's step: an operation; and what is no call.
-/
import Derived.Test.YtlmgogonghafeabQi
import Derived.Test.YtlmgogonghafeabHj
namespace Go.Proofs.Ytlmgogonghafeab
open Go.RowKit Go.Lib
set_option linter.unusedVariables false

theorem fits_ch {n : Int} {k p c l s : Int} (h : fitsP n ⟨k, p, c, l, s⟩ = 0) (hk : k = 1) : 32 ≤ c ∧ c ≤ 126 := by
  have hv := (fitsP_zero h).1
  subst hk
  have hh : holdP 1 c = true := by
    cases hq : holdP 1 c with
    | true => rfl
    | false =>
      exfalso
      revert hv
      unfold validP
      simp only [hq, if_true]
      split
      · decide
      · split <;> decide
  unfold holdP inR at hh
  simpa using hh
theorem chs_apply {xs : List El} {k p c l s : Int} (hc : Chs xs) (hf : fitsP (xs.length : Int) ⟨k, p, c, l, s⟩ = 0) : Chs (applyP xs ⟨k, p, c, l, s⟩) ∧ (applyP xs ⟨k, p, c, l, s⟩).length ≤ xs.length + 1 := by
  unfold applyP
  simp only []
  split
  · rename_i h1
    obtain ⟨q1, q2⟩ := fits_ch hf h1
    refine ⟨fun x hx => ?_, ?_⟩
    · rcases List.mem_append.1 hx with hx | hx
      · exact hc x (List.mem_of_mem_take hx)
      · rcases List.mem_cons.1 hx with rfl | hx
        · exact ⟨by show 0 ≤ c; omega, by show c < 256; omega⟩
        · exact hc x (List.mem_of_mem_drop hx)
    · rw [List.length_append, List.length_cons, List.length_take, List.length_drop]
      omega
  · split
    · refine ⟨fun x hx => ?_, ?_⟩
      · rcases List.mem_append.1 hx with hx | hx
        · exact hc x (List.mem_of_mem_take hx)
        · exact hc x (List.mem_of_mem_drop hx)
      · rw [List.length_append, List.length_take, List.length_drop]
        omega
    · exact ⟨hc, by omega⟩

set_option maxRecDepth 100000 in
set_option maxHeartbeats 8000000 in
theorem step_apply (x y : Nat) (D : Nat → Prop) (xs : List El) (wh : Bool) (ok op oc ol oq : Int) (s b : ByteArray) (nn cl : Int) (w : World) (h : PS w D x y xs) (hc : Chs xs) (hn : xs.length ≤ 399000) (h0 : 0 ≤ oc) (h1 : oc ≤ 255) :
    Calls Try.prog 18 #[.pointer (some ⟨x, 0, none⟩), .pointer (some ⟨y, 0, none⟩), lopV 1 wh ok op oc ol oq s b nn cl] w fun e w' => StR w w' D x y xs e := by
  have HT : Hid ((tB xs).length = xs.length) := by show _ = _; simp [tB]
  have B0 := hd ((Below.refl w.heap.size w).alloc (Nat.le_refl _) (.cells #[.int .i64 1, .bool wh, .int .i64 ok, .int .i64 op, .int .u8 oc, .int .i64 ol, .int .i64 oq, .string s, .string b, .int .i64 nn, .int .i64 cl] 53))
  by_cases hf : fitsP (xs.length : Int) ⟨ok, op, oc, ol, oq⟩ = 0
  · obtain ⟨Ox, Oy, hI, hR, k1, k2, k3, k4⟩ := h
    have CX := hd (iapply_good x Ox (tB xs) ok op oc ol oq _ (hI.below B0.out) h0 h1 (by rw [HT.out]; exact hf))
    have CY := hd (fun W (hW : RI W Oy y xs) => riapply_good y Oy xs ok op oc ol oq W hW hf)
    have hR0 := hd (hR.below B0.out)
    have HK := hd (And.intro k1 (And.intro k2 (And.intro k3 k4)))
    have HC := hd (chs_apply hc hf)
    have HTA := hd (tB_apply xs ⟨ok, op, oc, ol, oq⟩)
    generalize applyP xs ⟨ok, op, oc, ol, oq⟩ = ys at *
    generalize apT (tB xs) ⟨ok, op, oc, ol, oq⟩ = T' at *
    clear hI hR k1 k2 k3 k4 hc hn hf
    unfold lopV
    go_enter Try.func18, Try.ntmps18
    go_upto_region 4 with (go_at_call 8; refine CX.out.mono ?_; rintro e w1 ⟨rfl, hA⟩)
    obtain ⟨hI1, hF1⟩ := hA
    have hbs := B0.out.size
    obtain ⟨q1, q2, q3, q4⟩ := HK.out
    have hsz1 := hF1.size
    have hwlt : w.heap.size < (w.alloc (.cells #[.int .i64 1, .bool wh, .int .i64 ok, .int .i64 op, .int .u8 oc, .int .i64 ol, .int .i64 oq, .string s, .string b, .int .i64 nn, .int .i64 cl] 53)).heap.size := by simp
    have hbox : ¬ (Ox w.heap.size) := fun h => by have := q4 _ (q1 _ h); omega
    have hR1 := hR0.out.fr hF1 (fun k hk h => q3 k h.1 hk)
    have cell := fun i v (hv : (#[.int .i64 1, .bool wh, .int .i64 ok, .int .i64 op, .int .u8 oc, .int .i64 ol, .int .i64 oq, .string s, .string b, .int .i64 nn, .int .i64 cl] : Array Value)[i]? = some v) =>
      (hF1.cell (p := ⟨w.heap.size, i, none⟩) hwlt (fun h => hbox h.1)).trans ((cell_row (heap_alloc_new w _) i).trans hv)
    have c2 := cell 2 _ rfl
    have c3 := cell 3 _ rfl
    have c4 := cell 4 _ rfl
    have c5 := cell 5 _ rfl
    have c6 := cell 6 _ rfl
    have HF1 := hd hF1
    have HI1 := hd hI1
    have CY1 := hd (CY.out w1 hR1)
    have HS1 := hd hsz1
    clear hI1 hF1 hR1 cell CY hR0 CX hsz1 hwlt hbox q1 q2 q3 q4
    go_wp2_with (go_at_call 37; refine CY1.out.mono ?_; rintro e w2 ⟨rfl, hR2, hF2⟩)
    have Z : StR w w2 D x y xs (.returned (.bool true)) := by
      obtain ⟨q1, q2, q3, q4⟩ := HK.out
      have s1 := HS1.out
      have s2 := hF2.size
      have hO : ∀ k, (Ox k ∨ ((w.alloc (.cells #[.int .i64 1, .bool wh, .int .i64 ok, .int .i64 op, .int .u8 oc, .int .i64 ol, .int .i64 oq, .string s, .string b, .int .i64 nn, .int .i64 cl] 53)).heap.size ≤ k ∧ k < w1.heap.size)) → ¬ Oy k := by
        intro k hk hy
        have h1 := q4 k (q2 k hy)
        rcases hk with hk | hk
        · exact q3 k hk hy
        · omega
      refine ⟨rfl, ys, ⟨_, _, (show IM w2 _ x (tB ys) from by rw [HTA.out]; exact HI1.out.fr hF2 hO), hR2, ?_, ?_, ?_, ?_⟩, HC.out.1, HC.out.2, ?_⟩
      · intro k hk
        rcases hk with hk | hk
        · exact .inl (q1 k hk)
        · exact .inr ⟨by omega, by omega⟩
      · intro k hk
        rcases hk with hk | hk
        · exact .inl (q2 k hk)
        · exact .inr ⟨by omega, by omega⟩
      · intro k hk hy
        rcases hy with hy | hy
        · exact hO k hk hy
        · rcases hk with hk | hk
          · have := q4 k (q1 k hk)
            omega
          · omega
      · intro k hk
        rcases hk with hk | hk
        · have := q4 k hk
          omega
        · exact hk.2
      · exact (Fr.of_below (S := D) B0.out).trans ((HF1.out.mono (fun k _ h => q1 k h.1)).trans (hF2.mono (fun k _ h => q2 k h)))
    clear hR2 hF2
    go_ret
    exact Z
  · have CX := hd (iapply_bad x (tB xs) ok op oc ol oq _ (h.ix.below B0.out) h0 h1 (by rw [HT.out]; exact hf))
    obtain ⟨O, hI⟩ := h.ri
    have CY := hd (fun W (hW : Below w.heap.size w W) => riapply_bad y O xs ok op oc ol oq W (hI.below hW) hf)
    have HS := hd (fun w' => StR.stay (w' := w') h hc)
    clear h hc hn hI hf
    unfold lopV
    go_enter Try.func18, Try.ntmps18
    go_wp2_with (first
      | (go_at_call 8; refine CX.out.mono ?_; rintro e w1 ⟨rfl, hb1⟩; have z2 := box_cell hb1 2 _ rfl; have z3 := box_cell hb1 3 _ rfl; have z4 := box_cell hb1 4 _ rfl; have z5 := box_cell hb1 5 _ rfl; have z6 := box_cell hb1 6 _ rfl; have B1 := hd (B0.out.trans (hb1.mono B0.out.size)))
      | (go_at_call 37; refine (CY.out _ B1.out).mono ?_; rintro e w2 ⟨rfl, hb2⟩; have B2 := hd (B1.out.trans (hb2.mono B1.out.size))))
    go_ret
    exact HS.out _ B2.out

set_option maxRecDepth 100000 in
set_option maxHeartbeats 8000000 in
theorem step_other (kd : Int) (x y : Nat) (D : Nat → Prop) (xs : List El) (wh : Bool) (ok op oc ol oq : Int) (s b : ByteArray) (nn cl : Int) (w : World) (h : PS w D x y xs) (hc : Chs xs) (h1 : kd ≠ 1) (h2 : kd ≠ 2) (h3 : kd ≠ 3) (h4 : kd ≠ 4) (h5 : kd ≠ 5) (h6 : kd ≠ 6) :
    Calls Try.prog 18 #[.pointer (some ⟨x, 0, none⟩), .pointer (some ⟨y, 0, none⟩), lopV kd wh ok op oc ol oq s b nn cl] w fun e w' => StR w w' D x y xs e := by
  have B0 := hd ((Below.refl w.heap.size w).alloc (Nat.le_refl _) (.cells #[.int .i64 kd, .bool wh, .int .i64 ok, .int .i64 op, .int .u8 oc, .int .i64 ol, .int .i64 oq, .string s, .string b, .int .i64 nn, .int .i64 cl] 53))
  have HS := hd (fun w' => StR.stay (w' := w') h hc)
  have e1 : (kd == 1) = false := by simpa using h1
  have e2 : (kd == 2) = false := by simpa using h2
  have e3 : (kd == 3) = false := by simpa using h3
  have e4 : (kd == 4) = false := by simpa using h4
  have e5 : (kd == 5) = false := by simpa using h5
  have e6 : (kd == 6) = false := by simpa using h6
  clear h hc h1 h2 h3 h4 h5 h6
  unfold lopV
  go_enter Try.func18, Try.ntmps18
  go_wp2
  go_ret
  exact HS.out _ B0.out

theorem step_any (kd : Int) (x y : Nat) (D : Nat → Prop) (xs : List El) (wh : Bool) (ok op oc ol oq : Int) (s b : ByteArray) (nn cl : Int) (w : World) (h : PS w D x y xs) (hc : Chs xs) (hn : xs.length ≤ 399000) (h0 : 0 ≤ oc) (h1 : oc ≤ 255) (hs : s.size ≤ 9223372036854775807) (hb : b.size ≤ 9223372036854775807) (hnn : nn ≤ 9223372036854775807) :
    Calls Try.prog 18 #[.pointer (some ⟨x, 0, none⟩), .pointer (some ⟨y, 0, none⟩), lopV kd wh ok op oc ol oq s b nn cl] w fun e w' => StR w w' D x y xs e := by
  by_cases k1 : kd = 1
  · subst k1; exact step_apply x y D xs wh ok op oc ol oq s b nn cl w h hc hn h0 h1
  by_cases k2 : kd = 2
  · subst k2; exact step_text x y D xs wh ok op oc ol oq s b nn cl w h hc hn
  by_cases k3 : kd = 3
  · subst k3; exact step_find x y D xs wh ok op oc ol oq s b nn cl w h hc hn hs
  by_cases k4 : kd = 4
  · subst k4; exact step_next x y D xs wh ok op oc ol oq s b nn cl w h hc hn hs hnn
  by_cases k5 : kd = 5
  · subst k5; exact step_swap x y D xs wh ok op oc ol oq s b nn cl w h hc hn hs hb hnn
  by_cases k6 : kd = 6
  · subst k6; exact step_words x y D xs wh ok op oc ol oq s b nn cl w h hc hn
  · exact step_other kd x y D xs wh ok op oc ol oq s b nn cl w h hc k1 k2 k3 k4 k5 k6
end Go.Proofs.Ytlmgogonghafeab
