/-
  The law's step: the program's index beside the document's.
-/
import Derived.Test.YtlmgogonghafeabMQ
import Derived.Test.YtlmgogonghafeabIp
import Derived.Test.YtlmgogonghafeabMV
import Derived.Test.YtlmgogonghafeabMF
import Derived.Test.YtlmgogonghafeabML
namespace Go.Proofs.Ytlmgogonghafeab
open Go.RowKit Go.Lib
set_option linter.unusedVariables false

/-- Both indexes, of one text; their blocks are among D. -/
def PS (w : World) (D : Nat → Prop) (x y : Nat) (xs : List El) : Prop :=
  ∃ Ox Oy, IM w Ox x (tB xs) ∧ RI w Oy y xs ∧ (∀ k, Ox k → D k) ∧ (∀ k, Oy k → D k) ∧ (∀ k, Ox k → ¬ Oy k) ∧ (∀ k, D k → k < w.heap.size)
def grw (D : Nat → Prop) (w w' : World) (k : Nat) : Prop := D k ∨ (w.heap.size ≤ k ∧ k < w'.heap.size)
theorem PS.fr {w w' : World} {D Q : Nat → Prop} {x y : Nat} {xs : List El} (h : PS w D x y xs) (hF : Fr Q w w') (hQ : ∀ k, D k → ¬ Q k) : PS w' D x y xs := by
  obtain ⟨Ox, Oy, h1, h2, h3, h4, h5, h6⟩ := h
  exact ⟨Ox, Oy, h1.fr hF (fun k hk => hQ k (h3 k hk)), h2.fr hF (fun k hk => hQ k (h4 k hk)), h3, h4, h5, fun k hk => Nat.lt_of_lt_of_le (h6 k hk) hF.size⟩
theorem PS.below {w w' : World} {D : Nat → Prop} {x y : Nat} {xs : List El} (h : PS w D x y xs) (hb : Below w.heap.size w w') : PS w' D x y xs := h.fr (Q := fun _ => False) (Fr.of_below hb) (fun _ _ h => h)
theorem PS.more {w w0 : World} {D : Nat → Prop} {x y : Nat} {xs : List El} (h : PS w D x y xs) : PS w (grw D w0 w) x y xs := by
  obtain ⟨Ox, Oy, h1, h2, h3, h4, h5, h6⟩ := h
  exact ⟨Ox, Oy, h1, h2, fun k hk => .inl (h3 k hk), fun k hk => .inl (h4 k hk), h5, fun k hk => by
    rcases hk with hk | hk
    · exact h6 k hk
    · exact hk.2⟩
theorem PS.ix {w : World} {D : Nat → Prop} {x y : Nat} {xs : List El} (h : PS w D x y xs) : IX w x (tB xs) := by
  obtain ⟨Ox, Oy, h1, h2, h3, h4, h5, h6⟩ := h
  exact h1.ix
theorem PS.ri {w : World} {D : Nat → Prop} {x y : Nat} {xs : List El} (h : PS w D x y xs) : ∃ O, RI w O y xs := by
  obtain ⟨Ox, Oy, h1, h2, h3, h4, h5, h6⟩ := h
  exact ⟨Oy, h2⟩
/-- What a step leaves. -/
def StR (w w' : World) (D : Nat → Prop) (x y : Nat) (xs : List El) (e : Ending) : Prop :=
  e = .returned (.bool true) ∧ ∃ xs', PS w' (grw D w w') x y xs' ∧ Chs xs' ∧ xs'.length ≤ xs.length + 1 ∧ Fr D w w'
theorem StR.stay {w w' : World} {D : Nat → Prop} {x y : Nat} {xs : List El} (h : PS w D x y xs) (hc : Chs xs) (hb : Below w.heap.size w w') : StR w w' D x y xs (.returned (.bool true)) :=
  ⟨rfl, xs, (h.below hb).more, hc, Nat.le_succ _, Fr.of_below hb⟩
theorem IsL.nil (w : World) : IsL w none 0 0 [] := ⟨rfl, Nat.le_refl _, by omega, fun h => by omega⟩

section
variable {kd cl nn : Int} {wh : Bool} {ok op oc ol oq : Int} {s b : ByteArray}
/-- The call's record, as it comes in. -/
def lopV (kd : Int) (wh : Bool) (ok op oc ol oq : Int) (s b : ByteArray) (nn cl : Int) : Value := .agg #[.int .i64 kd, .bool wh, .int .i64 ok, .int .i64 op, .int .u8 oc, .int .i64 ol, .int .i64 oq, .string s, .string b, .int .i64 nn, .int .i64 cl]
end

theorem box_cell {w W : World} {cs : Array Value} {t : TypeId} (h : Below (w.alloc (.cells cs t)).heap.size (w.alloc (.cells cs t)) W) (i : Nat) (v : Value) (hv : cs[i]? = some v) : W.cell? ⟨w.heap.size, i, none⟩ = some v := by
  rw [h.cell (p := ⟨w.heap.size, i, none⟩) (by simp), cell_row (heap_alloc_new w _)]
  exact hv

set_option maxRecDepth 100000 in
set_option maxHeartbeats 8000000 in
theorem step_text (x y : Nat) (D : Nat → Prop) (xs : List El) (wh : Bool) (ok op oc ol oq : Int) (s b : ByteArray) (nn cl : Int) (w : World) (h : PS w D x y xs) (hc : Chs xs) (hn : xs.length ≤ 399000) :
    Calls Try.prog 18 #[.pointer (some ⟨x, 0, none⟩), .pointer (some ⟨y, 0, none⟩), lopV 2 wh ok op oc ol oq s b nn cl] w fun e w' => StR w w' D x y xs e := by
  have HT : Hid ((tB xs).length = xs.length) := by show _ = _; simp [tB]
  have CX := hd (fun W (hW : Below w.heap.size w W) => itext_any x (tB xs) W (h.ix.below hW) (by rw [HT.out]; omega))
  obtain ⟨O, hI⟩ := h.ri
  have CY := hd (fun W (hW : Below w.heap.size w W) => ritext_any y O xs W (hI.below hW) (by omega))
  have HS := hd (fun w' => StR.stay (w' := w') h hc)
  have B0 := hd ((Below.refl w.heap.size w).alloc (Nat.le_refl _) (.cells #[.int .i64 2, .bool wh, .int .i64 ok, .int .i64 op, .int .u8 oc, .int .i64 ol, .int .i64 oq, .string s, .string b, .int .i64 nn, .int .i64 cl] 53))
  clear h hc hn hI
  generalize bsA (tB xs) = TT at *
  unfold lopV
  go_enter Try.func18, Try.ntmps18
  go_wp2_with (first
    | (go_at_call 10; refine (CX.out _ B0.out).mono ?_; rintro e w1 ⟨rfl, hb1⟩; have B1 := hd (B0.out.trans (hb1.mono B0.out.size)))
    | (go_at_call 19; refine (CY.out _ B1.out).mono ?_; rintro e w2 ⟨rfl, hb2⟩; have B2 := hd (B1.out.trans (hb2.mono B1.out.size))))
  go_ret
  exact HS.out _ B2.out

set_option maxRecDepth 100000 in
set_option maxHeartbeats 8000000 in
theorem step_find (x y : Nat) (D : Nat → Prop) (xs : List El) (wh : Bool) (ok op oc ol oq : Int) (s b : ByteArray) (nn cl : Int) (w : World) (h : PS w D x y xs) (hc : Chs xs) (hn : xs.length ≤ 399000) (hs : s.size ≤ 9223372036854775807) :
    Calls Try.prog 18 #[.pointer (some ⟨x, 0, none⟩), .pointer (some ⟨y, 0, none⟩), lopV 3 wh ok op oc ol oq s b nn cl] w fun e w' => StR w w' D x y xs e := by
  have HT : Hid ((tB xs).length = xs.length) := by show _ = _; simp [tB]
  obtain ⟨O, hI⟩ := h.ri
  have HS := hd (fun w' => StR.stay (w' := w') h hc)
  have B0 := hd ((Below.refl w.heap.size w).alloc (Nat.le_refl _) (.cells #[.int .i64 3, .bool wh, .int .i64 ok, .int .i64 op, .int .u8 oc, .int .i64 ol, .int .i64 oq, .string s, .string b, .int .i64 nn, .int .i64 cl] 53))
  cases hp : patB s.data.toList with
  | false =>
    have CX := hd (fun W => find_bad x s W hs hp)
    have CY := hd (fun W => rfind_bad y s W hs hp)
    have CI := hd (fun W => ints_below none none 0 0 0 [] W (IsL.nil W) (IsL.nil W))
    clear h hc hn hI hp
    unfold lopV
    go_enter Try.func18, Try.ntmps18
    go_wp2_with (first
      | (go_at_call 11; refine (CX.out _).mono ?_; rintro e w1 ⟨rfl, hb1⟩; have z7 := box_cell hb1 7 _ rfl; have z8 := box_cell hb1 8 _ rfl; have z9 := box_cell hb1 9 _ rfl; have z10 := box_cell hb1 10 _ rfl; have B1 := hd (B0.out.trans (hb1.mono B0.out.size)))
      | (go_at_call 38; refine (CY.out _).mono ?_; rintro e w2 ⟨rfl, rfl⟩)
      | (go_at_call 14; refine (CI.out _).mono ?_; rintro e w3 ⟨rfl, hb3⟩; have B3 := hd (B1.out.trans (hb3.mono B1.out.size))))
    go_ret
    exact HS.out _ B3.out
  | true =>
    have CX := hd (fun W (hW : Below w.heap.size w W) => find_good x (tB xs) s W (h.ix.below hW) (by rw [HT.out]; omega) hp)
    have CY := hd (fun W (hW : Below w.heap.size w W) => rfind_good y O xs s W (hI.below hW) hc (by omega) hp)
    clear h hc hn hI hp
    generalize plc (tB xs) s.data.toList = L at *
    obtain ⟨n, hn⟩ : ∃ n, L.length = n := ⟨_, rfl⟩
    have HN := hd hn
    clear hn
    unfold lopV
    go_enter Try.func18, Try.ntmps18
    go_upto_region 9 with (go_at_call 11; refine (CX.out _ B0.out).mono ?_; rintro e w1 ⟨v1, rfl, hN1, hb1⟩; have z7 := box_cell hb1 7 _ rfl; have z8 := box_cell hb1 8 _ rfl; have z9 := box_cell hb1 9 _ rfl; have z10 := box_cell hb1 10 _ rfl)
    obtain ⟨a1, c1, rfl, hL1⟩ := hN1.isL
    have B1 := hd (B0.out.trans (hb1.mono B0.out.size))
    rw [HN.out] at hL1 ⊢
    have IL := hd hL1
    clear hN1 hL1 hb1 CX
    go_upto_region 10 with (go_at_call 38; refine (CY.out _ B1.out).mono ?_; rintro e w2 ⟨v2, rfl, hN2⟩)
    obtain ⟨a2, c2, rfl, hL2⟩ := hN2.isN.isL
    have hb2 : Below w1.heap.size w1 w2 := hN2.choose_spec.2.2
    have B2 := hd (B1.out.trans (hb2.mono B1.out.size))
    rw [HN.out] at hL2 ⊢
    have CI := hd (ints_below a1 a2 n c1 c2 L w2 (IL.out.below hb2) hL2)
    clear hN2 hL2 hb2 CY IL
    go_wp2_with (go_at_call 14; refine CI.out.mono ?_; rintro e w3 ⟨rfl, hb3⟩; have B3 := hd (B2.out.trans (hb3.mono B2.out.size)))
    go_ret
    exact HS.out _ B3.out

set_option maxRecDepth 100000 in
set_option maxHeartbeats 8000000 in
theorem step_next (x y : Nat) (D : Nat → Prop) (xs : List El) (wh : Bool) (ok op oc ol oq : Int) (s b : ByteArray) (nn cl : Int) (w : World) (h : PS w D x y xs) (hc : Chs xs) (hn : xs.length ≤ 399000) (hs : s.size ≤ 9223372036854775807) (hnn : nn ≤ 9223372036854775807) :
    Calls Try.prog 18 #[.pointer (some ⟨x, 0, none⟩), .pointer (some ⟨y, 0, none⟩), lopV 4 wh ok op oc ol oq s b nn cl] w fun e w' => StR w w' D x y xs e := by
  have HT : Hid ((tB xs).length = xs.length) := by show _ = _; simp [tB]
  obtain ⟨O, hI⟩ := h.ri
  have HS := hd (fun w' => StR.stay (w' := w') h hc)
  have B0 := hd ((Below.refl w.heap.size w).alloc (Nat.le_refl _) (.cells #[.int .i64 4, .bool wh, .int .i64 ok, .int .i64 op, .int .u8 oc, .int .i64 ol, .int .i64 oq, .string s, .string b, .int .i64 nn, .int .i64 cl] 53))
  cases hp : patB s.data.toList with
  | false =>
    have CX := hd (fun W => next_bad x s nn W hs hp)
    have CY := hd (fun W => rnext_bad y s nn W hs hp)
    clear h hc hn hI hp
    unfold lopV
    go_enter Try.func18, Try.ntmps18
    go_wp2_with (first
      | (go_at_call 39; refine (CX.out _).mono ?_; rintro e w1 ⟨rfl, hb1⟩; have z7 := box_cell hb1 7 _ rfl; have z8 := box_cell hb1 8 _ rfl; have z9 := box_cell hb1 9 _ rfl; have z10 := box_cell hb1 10 _ rfl; have B1 := hd (B0.out.trans (hb1.mono B0.out.size)))
      | (go_at_call 40; refine (CY.out _).mono ?_; rintro e w2 ⟨rfl, rfl⟩))
    go_ret
    exact HS.out _ B1.out
  | true =>
    have CX := hd (fun W (hW : Below w.heap.size w W) => next_good x (tB xs) s nn W (h.ix.below hW) (by rw [HT.out]; omega) hp hnn)
    have CY := hd (fun W (hW : Below w.heap.size w W) => rnext_good y O xs s nn W (hI.below hW) hc (by omega) hp)
    clear h hc hn hI hp
    generalize nxP (tB xs) s.data.toList nn = L at *
    unfold lopV
    go_enter Try.func18, Try.ntmps18
    go_wp2_with (first
      | (go_at_call 39; refine (CX.out _ B0.out).mono ?_; rintro e w1 ⟨rfl, hb1⟩; have z7 := box_cell hb1 7 _ rfl; have z8 := box_cell hb1 8 _ rfl; have z9 := box_cell hb1 9 _ rfl; have z10 := box_cell hb1 10 _ rfl; have B1 := hd (B0.out.trans (hb1.mono B0.out.size)))
      | (go_at_call 40; refine (CY.out _ B1.out).mono ?_; rintro e w2 ⟨rfl, hb2⟩; have B2 := hd (B1.out.trans (hb2.mono B1.out.size))))
    go_ret
    exact HS.out _ B2.out

set_option maxRecDepth 100000 in
set_option maxHeartbeats 8000000 in
theorem step_swap (x y : Nat) (D : Nat → Prop) (xs : List El) (wh : Bool) (ok op oc ol oq : Int) (s b : ByteArray) (nn cl : Int) (w : World) (h : PS w D x y xs) (hc : Chs xs) (hn : xs.length ≤ 399000) (hs : s.size ≤ 9223372036854775807) (hb : b.size ≤ 9223372036854775807) (hnn : nn ≤ 9223372036854775807) :
    Calls Try.prog 18 #[.pointer (some ⟨x, 0, none⟩), .pointer (some ⟨y, 0, none⟩), lopV 5 wh ok op oc ol oq s b nn cl] w fun e w' => StR w w' D x y xs e := by
  have HT : Hid ((tB xs).length = xs.length) := by show _ = _; simp [tB]
  obtain ⟨O, hI⟩ := h.ri
  have HS := hd (fun w' => StR.stay (w' := w') h hc)
  have B0 := hd ((Below.refl w.heap.size w).alloc (Nat.le_refl _) (.cells #[.int .i64 5, .bool wh, .int .i64 ok, .int .i64 op, .int .u8 oc, .int .i64 ol, .int .i64 oq, .string s, .string b, .int .i64 nn, .int .i64 cl] 53))
  cases hp : (patB s.data.toList && fillB b.data.toList) with
  | false =>
    have CX := hd (fun W => swap_bad x s b cl nn W hs hb hp)
    have CY := hd (fun W (hW : Below w.heap.size w W) => rswap_bad y O xs s b cl nn W (hI.below hW) hc (by omega) hs hb hp)
    have CI := hd (fun W => lines_below none none (.slice none 0 0) (.slice none 0 0) [] W ⟨rfl, rfl⟩ ⟨rfl, rfl⟩)
    clear h hc hn hI hp
    unfold lopV
    go_enter Try.func18, Try.ntmps18
    go_wp2_with (first
      | (go_at_call 12; refine (CX.out _).mono ?_; rintro e w1 ⟨rfl, hb1⟩; have z7 := box_cell hb1 7 _ rfl; have z8 := box_cell hb1 8 _ rfl; have z9 := box_cell hb1 9 _ rfl; have z10 := box_cell hb1 10 _ rfl; have B1 := hd (B0.out.trans (hb1.mono B0.out.size)))
      | (go_at_call 41; refine (CY.out _ B1.out).mono ?_; rintro e w2 ⟨rfl, hb2⟩; have B2 := hd (B1.out.trans (hb2.mono B1.out.size)))
      | (go_at_call 42; refine (CI.out _).mono ?_; rintro e w3 ⟨rfl, hb3⟩; have B3 := hd (B2.out.trans (hb3.mono B2.out.size))))
    go_ret
    exact HS.out _ B3.out
  | true =>
    rw [Bool.and_eq_true] at hp
    have CX := hd (fun W (hW : Below w.heap.size w W) => (swap_good x (tB xs) s b cl nn W (h.ix.below hW) (by rw [HT.out]; omega) hp.1 hp.2 hnn).mono fun e w' h => h.ll)
    have CY := hd (fun W (hW : Below w.heap.size w W) => rswap_good y O xs s b cl nn W (hI.below hW) hc (by omega) hp.1 hp.2)
    clear h hc hn hI hp
    generalize swL (tB xs) s.data.toList b.data.toList cl nn = L at *
    generalize swE (tB xs) s.data.toList b.data.toList cl nn = E at *
    unfold lopV
    go_enter Try.func18, Try.ntmps18
    go_upto_region 17 with (go_at_call 12; refine (CX.out _ B0.out).mono ?_; rintro e w1 ⟨β1, a1, c1, rfl, hS1, -, hb1⟩; have z7 := box_cell hb1 7 _ rfl; have z8 := box_cell hb1 8 _ rfl; have z9 := box_cell hb1 9 _ rfl; have z10 := box_cell hb1 10 _ rfl)
    have B1 := hd (B0.out.trans (hb1.mono B0.out.size))
    have HS1 := hd hS1
    clear hS1 hb1 CX
    go_upto_region 18 with (go_at_call 41; refine (CY.out _ B1.out).mono ?_; rintro e w2 ⟨β2, v2, rfl, hS2, -, hb2⟩)
    have B2 := hd (B1.out.trans (hb2.mono B1.out.size))
    have CI := hd (lines_below β1 β2 _ v2 L w2 (HS1.out.fr (S := fun _ => False) (Fr.of_below hb2) (fun _ _ h => h)) hS2)
    clear hS2 hb2 CY HS1
    go_wp2_with (go_at_call 42; refine CI.out.mono ?_; rintro e w3 ⟨rfl, hb3⟩; have B3 := hd (B2.out.trans (hb3.mono B2.out.size)))
    go_ret
    exact HS.out _ B3.out

set_option maxRecDepth 100000 in
set_option maxHeartbeats 8000000 in
theorem step_words (x y : Nat) (D : Nat → Prop) (xs : List El) (wh : Bool) (ok op oc ol oq : Int) (s b : ByteArray) (nn cl : Int) (w : World) (h : PS w D x y xs) (hc : Chs xs) (hn : xs.length ≤ 399000) :
    Calls Try.prog 18 #[.pointer (some ⟨x, 0, none⟩), .pointer (some ⟨y, 0, none⟩), lopV 6 wh ok op oc ol oq s b nn cl] w fun e w' => StR w w' D x y xs e := by
  have HT : Hid ((tB xs).length = xs.length) := by show _ = _; simp [tB]
  obtain ⟨O, hI⟩ := h.ri
  have HS := hd (fun w' => StR.stay (w' := w') h hc)
  have B0 := hd ((Below.refl w.heap.size w).alloc (Nat.le_refl _) (.cells #[.int .i64 6, .bool wh, .int .i64 ok, .int .i64 op, .int .u8 oc, .int .i64 ol, .int .i64 oq, .string s, .string b, .int .i64 nn, .int .i64 cl] 53))
  have CX := hd (fun W (hW : Below w.heap.size w W) => words_any x (tB xs) W (h.ix.below hW) (by rw [HT.out]; omega))
  have CY := hd (fun W (hW : Below w.heap.size w W) => rwords_any y O xs W (hI.below hW) (by omega))
  clear h hc hn hI
  generalize tB xs = T at *
  unfold lopV
  go_enter Try.func18, Try.ntmps18
  go_upto_region 21 with (go_at_call 13; refine (CX.out _ B0.out).mono ?_; rintro e w1 ⟨v1, v2, ks, rfl, hWd, hSt, hN, hb1⟩)
  have B1 := hd (B0.out.trans (hb1.mono B0.out.size))
  obtain ⟨β1, a1, c1, rfl, -, -, hL1⟩ := hSt.ll
  obtain ⟨a2, c2, rfl, hL2⟩ := hN.isL
  rw [List.length_map] at hL1 hL2
  simp only [List.length_map]
  have HL1 := hd hL1
  have HL2 := hd hL2
  have WD := hd hWd
  clear hL1 hL2 hSt hN hb1 CX hWd
  go_upto_region 22 with (go_at_call 43; refine (CY.out _ B1.out).mono ?_; rintro e w2 ⟨v3, v4, L, rfl, hSW, hP⟩)
  obtain ⟨q1, q2⟩ := hSW.wds
  obtain rfl : ks = L.map (·.1) := wds_one WD.out q1
  have hb2 : Below w1.heap.size w1 w2 := hP.st.choose_spec.2.2
  have B2 := hd (B1.out.trans (hb2.mono B1.out.size))
  obtain ⟨β3, a3, c3, rfl, -, -, hL3⟩ := hP.st.ll
  obtain ⟨a4, c4, rfl, hL4⟩ := hP.nm.isN.isL
  rw [q2, List.length_map] at hL4
  rw [List.length_map] at hL3
  simp only [List.length_map] at hL3 hL4 HL1 HL2 ⊢
  have C1 := hd (words_below a1 a3 _ c1 c3 _ w2 (IsW.below HL1.out hb2) hL3)
  have C2 := hd (fun W (hW : Below w2.heap.size w2 W) => ints_below a2 a4 _ c2 c4 _ W ((HL2.out.below hb2).below hW) (hL4.below hW))
  clear hSW hP q1 q2 hL3 hL4 hb2 CY HL1 HL2 WD
  go_wp2_with (first
    | (go_at_call 15; refine C1.out.mono ?_; rintro e w3 ⟨rfl, hb3⟩; have B3 := hd (B2.out.trans (hb3.mono B2.out.size)))
    | (go_at_call 14; refine (C2.out _ hb3).mono ?_; rintro e w4 ⟨rfl, hb4⟩; have B4 := hd (B3.out.trans (hb4.mono B3.out.size))))
  go_ret
  exact HS.out _ B4.out
end Go.Proofs.Ytlmgogonghafeab
