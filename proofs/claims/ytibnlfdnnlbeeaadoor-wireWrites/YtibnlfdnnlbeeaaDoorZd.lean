/-
  The answer of the document: EncodeItem.
-/
import Derived.Test.YtibnlfdnnlbeeaaDoorZw
import Derived.Test.YtibnlfdnnlbeeaaDoorRh
namespace Go.Proofs.YtibnlfdnnlbeeaaDoor
open Go.RowKit
set_option linter.unusedVariables false

theorem among_is {nm base len : Nat} (h : KL nm base len) (f : Nat) (hf : f < 14) : decide (base ≤ f ∧ f < base + len) = hasP nm f := by
  rw [Bool.eq_iff_iff]
  constructor
  · intro hd
    have hd := of_decide_eq_true hd
    have := h.has (f - base) (by omega)
    rwa [show base + (f - base) = f by omega] at this
  · intro hp
    exact decide_eq_true (h.only f hf hp)

theorem wrP_pos (M : Nat → Int) (base k : Nat) (h : 0 < k) : 0 < (wrP M base k).length := by
  obtain ⟨j, rfl⟩ : ∃ j, k = j + 1 := ⟨k - 1, by omega⟩
  rw [wrP_succ, List.length_append]
  have : 0 < (fldB M (base + j)).length := by
    unfold fldB
    split <;> simp
  omega

/-- The seven numbers of the order. -/
def IsO (w : World) (ob : Nat) : Prop := w.heap[ob]? = some (.cells #[.int .i64 1, .int .i64 8, .int .i64 9, .int .i64 10, .int .i64 11, .int .i64 12, .int .i64 13] 3 (0, 0))
theorem IsO.at {w : World} {ob : Nat} (h : IsO w ob) (i : Nat) (hi : i < 7) : w.cell? ⟨ob, i, none⟩ = some (.int .i64 (ordP i : Nat)) := by
  rw [cell_row h]
  have : i = 0 ∨ i = 1 ∨ i = 2 ∨ i = 3 ∨ i = 4 ∨ i = 5 ∨ i = 6 := by omega
  rcases this with rfl | rfl | rfl | rfl | rfl | rfl | rfl <;> rfl

set_option maxRecDepth 100000 in
set_option maxHeartbeats 8000000 in
theorem rencode_any (x : It) (w : World) (hc : OkI x) : Calls Tryd.prog 11 #[x.val] w (ROut w x) := by
  suffices h : ∀ Q : Ending → World → Prop, (∀ e w', ROut w x e w' → Q e w') → Calls Tryd.prog 11 #[.agg #[.int .i64 x.kind, .int .i64 x.epoch, .int .i64 x.tag, .int .i64 x.ok, .int .i64 x.pos, .int .u8 x.ch, .int .i64 x.cl, .int .i64 x.sq]] w Q from h _ (fun _ _ h => h)
  intro Q hQ
  have HQ := hd hQ
  have bz : Below w.heap.size w (w.alloc (.cells #[.int .i64 x.kind, .int .i64 x.epoch, .int .i64 x.tag, .int .i64 x.ok, .int .i64 x.pos, .int .u8 x.ch, .int .i64 x.cl, .int .i64 x.sq] 26)) := (Below.refl _ _).alloc (Nat.le_refl _) _
  have hx : XB (w.alloc (.cells #[.int .i64 x.kind, .int .i64 x.epoch, .int .i64 x.tag, .int .i64 x.ok, .int .i64 x.pos, .int .u8 x.ch, .int .i64 x.cl, .int .i64 x.sq] 26)) w.heap.size x := heap_alloc_new _ _
  have BZ := hd bz
  have HX := hd hx
  have CA := hd (asMsg_any x)
  have hv : x.val = .agg #[.int .i64 x.kind, .int .i64 x.epoch, .int .i64 x.tag, .int .i64 x.ok, .int .i64 x.pos, .int .u8 x.ch, .int .i64 x.cl, .int .i64 x.sq] := rfl
  rw [hv] at CA
  clear hQ bz hx hv
  rcases nm_or x.kind with hn | hn
  · have CF := hd (fields_none x.kind · hn)
    have HN := hd hn
    clear hn
    go_enter Tryd.func11, Tryd.ntmps11
    go_wp2_with fail
    generalize w.alloc (.cells #[.int .i64 x.kind, .int .i64 x.epoch, .int .i64 x.tag, .int .i64 x.ok, .int .i64 x.pos, .int .u8 x.ch, .int .i64 x.cl, .int .i64 x.sq] 26) = w0 at *
    refine (CF.out _).mono ?_
    rintro e w1 ⟨rfl, hw1⟩
    subst hw1
    go_wp2
    refine bodyPost_ret (v := .tuple #[.slice none 0 0, .int .i64 61, .int .i64 0]) (by simp [results, Tryd.results11, go_sem]) rfl ?_
    exact HQ.out _ _ ⟨BZ.out, .inl ⟨HN.out, rfl⟩⟩
  · have hne : nmP x.kind ≠ 0 := by omega
    have CF := hd (fields_some x.kind · hne)
    have HN := hd hn
    have HE := hd hne
    clear hn hne
    go_enter Tryd.func11, Tryd.ntmps11
    go_wp2_with fail
    generalize w.alloc (.cells #[.int .i64 x.kind, .int .i64 x.epoch, .int .i64 x.tag, .int .i64 x.ok, .int .i64 x.pos, .int .u8 x.ch, .int .i64 x.cl, .int .i64 x.sq] 26) = w0 at *
    refine (CF.out _).mono ?_
    rintro e w1 ⟨lb, base, len, hK, rfl, hL, b1⟩
    have hl0 : len ≠ 0 := by rcases hK with ⟨-, -, rfl⟩ | ⟨-, -, rfl⟩ <;> omega
    have hl1 : ¬ (len : Int) = 0 := by omega
    have h14 : base + len ≤ 14 := by rcases hK with ⟨-, rfl, rfl⟩ | ⟨-, rfl, rfl⟩ <;> omega
    have HK := hd hK
    have L1 := hd hL
    have X1 := hd (HX.out.below b1)
    have B1 := hd (BZ.out.trans (b1.mono BZ.out.size))
    have lx := block_lt X1.out
    obtain ⟨c0, c1, c2, c3, c4, c5, c6, c7⟩ := X1.out.at
    clear hK hL b1 CF hl0
    go_upto_region 4 with fail
    go_wp2_with fail
    refine (CA.out _).mono ?_
    rintro e w2 ⟨rfl, b2⟩
    clear CA c0 c1 c2 c3 c4 c5 c6 c7
    obtain ⟨w3, hw3⟩ : ∃ u, u = w2.alloc (.cells #[.int .i64 ((MI x) 0), .int .i64 ((MI x) 1), .int .i64 ((MI x) 2), .int .i64 ((MI x) 3), .int .i64 ((MI x) 4), .int .i64 ((MI x) 5), .int .i64 ((MI x) 6), .int .i64 ((MI x) 7), .int .i64 ((MI x) 8), .int .i64 ((MI x) 9), .int .i64 ((MI x) 10), .int .u8 ((MI x) 11), .int .i64 ((MI x) 12), .int .i64 ((MI x) 13)] 63) := ⟨_, rfl⟩
    obtain ⟨w4, hw4⟩ : ∃ u, u = w3.alloc (.cells #[.int .i64 1, .int .i64 8, .int .i64 9, .int .i64 10, .int .i64 11, .int .i64 12, .int .i64 13] 3) := ⟨_, rfl⟩
    have b3 : Below w2.heap.size w2 w3 := by rw [hw3]; exact (Below.refl _ _).alloc (Nat.le_refl _) _
    have b4 : Below w3.heap.size w3 w4 := by rw [hw4]; exact (Below.refl _ _).alloc (Nat.le_refl _) _
    have hm3 : MB w3 w2.heap.size (MI x) := by rw [hw3]; exact heap_alloc_new _ _
    have ho4 : IsO w4 (w2.heap.size + 1) := by
      rw [hw4, show w2.heap.size + 1 = w3.heap.size by rw [hw3, World.size_alloc]]
      exact heap_alloc_new _ _
    have M4 := hd (hm3.below b4)
    have O4 := hd ho4
    have X4 := hd (((X1.out.below b2).below b3).below b4)
    have L4 := hd (((L1.out.below b2).below b3).below b4)
    have b24 := b2.trans ((b3.trans (b4.mono b3.size)).mono b2.size)
    have B4 := hd (B1.out.trans (b24.mono B1.out.size))
    have HW := hd (And.intro hw3 hw4)
    clear b2 b3 b4 b24 hm3 ho4 L1 X1 B1 hw3 hw4 lx
    go_upto_region 6 with fail
    rw [← HW.out.1, ← HW.out.2]
    have S0 : Hid (RokTo x 0) := fun i hi => absurd hi (Nat.not_lt_zero _)
    have hmb : w2.heap.size < w4.heap.size := block_lt M4.out
    have hob : w2.heap.size + 1 < w4.heap.size := block_lt O4.out
    have hxb : w.heap.size < w4.heap.size := block_lt X4.out
    have h11 : 0 ≤ MI x 11 ∧ MI x 11 ≤ 255 := hc
    have hM0 : MI x 0 = 5 := rfl
    have HM0 := hd (And.intro h11 hM0)
    clear HW hM0 h11 BZ HX
    obtain ⟨M, hM⟩ : ∃ M, MI x = M := ⟨_, rfl⟩
    rw [hM] at M4 HM0
    have HM := hd hM
    clear hM
    generalize w2.heap.size = mb at *
    clear w2 w3
    go_wp2_with fail
    go_loopw [8] (fun i wr => ∃ k : Nat, k ≤ 7 ∧ i = .int .i64 k ∧ Hid (Below w4.heap.size w4 wr) ∧ Hid (RokTo x k)) (fun i _ => 7 - (intOf i).toNat)
    case atStart => exact ⟨0, Nat.zero_le _, rfl, Below.refl _ _, S0⟩
    case round =>
      obtain ⟨k, hk, rfl, hb, hr⟩ := hrel
      clear S0
      have MW := hd (M4.out.below hb.out)
      have LW := hd (L4.out.below hb.out)
      have lm := block_lt MW.out
      obtain ⟨c0, c1, c2, c3, c4, c5, c6, c7, c8, c9, c10, c11, c12, c13⟩ := MW.out.at
      by_cases hlt : k < 7
      · have i1 : (k : Int) < 7 := by omega
        have i0 : (0 : Int) ≤ k := by omega
        have co := (hb.out.cell (p := ⟨mb + 1, k, none⟩) hob).trans (O4.out.at k hlt)
        obtain ⟨n1, n2, n3, n4⟩ := ordP_num k hlt
        obtain ⟨f, hf⟩ : ∃ f, ordP k = f := ⟨_, rfl⟩
        have RK : Hid (refOk (nmP x.kind) M f = true → RokTo x (k + 1)) := hd (fun h i hi => by
          rcases Nat.lt_or_ge i k with h1 | h1
          · exact hr.out i h1
          · obtain rfl : i = k := by omega
            rw [hf, HM.out]
            exact h)
        have BAD : Hid (refOk (nmP x.kind) M f = false → ∀ w', Below w4.heap.size w4 w' → Q (.returned (.tuple #[.slice none 0 0, .int .i64 63, .int .i64 ((k : Int) + 1)])) w') := hd (fun h w' bw => by
          refine HQ.out _ _ ⟨B4.out.trans (bw.mono B4.out.size), .inr (.inr ⟨HE.out, ordP k, n4, rok_upto x k hlt HN.out hr.out, n2, ?_, by rw [n1]⟩)⟩
          rw [allows_ref x _ k hlt HN.out, hf, HM.out]
          exact h)
        have C1 := hd (among_any base len lb f · (h14 := h14))
        have AM := hd (among_is HK.out f (by rw [← hf]; exact n4))
        rw [hf] at co n3 n4
        have C2 := hd (holds_any M f · n3 n4 HM0.out.2 HM0.out.1)
        have C3 := hd (get_any M f · n3 n4 HM0.out.1)
        clear n1 n2 hf hr
        rw [AM.out] at C1
        clear AM
        cases hp : hasP (nmP x.kind) f with
        | true =>
          rw [hp] at C1
          have EQ : refOk (nmP x.kind) M f = holdsP M f := by simp [refOk, hp]
          rw [EQ] at RK BAD
          clear EQ hp C3
          go_upto_region 11 with (go_at_call 27; refine (C1.out _ LW.out).mono ?_; rintro e u1 ⟨rfl, hu1⟩; subst hu1)
          clear C1
          go_wp2_with fail
          refine (C2.out _).mono ?_
          rintro e u2 ⟨rfl, b2⟩
          have B2 := hd (hb.out.trans (b2.mono hb.out.size))
          clear b2 c0 c1 c2 c3 c4 c5 c6 c7 c8 c9 c10 c11 c12 c13 C2 hb MW LW lm co
          cases hh : holdsP M f with
          | true =>
            have R2 := hd (RK.out hh)
            clear hh RK BAD
            go_wp2
            exact ⟨⟨k + 1, by omega, by go_num, B2, R2⟩, by simp [intOf]; omega⟩
          | false =>
            have Z := hd (BAD.out hh _ B2.out)
            clear hh RK BAD
            go_wp2
            refine bodyPost_ret (v := .tuple #[.slice none 0 0, .int .i64 63, .int .i64 ((k : Int) + 1)]) (by simp [results, Tryd.results11, go_sem]) rfl ?_
            exact Z.out
        | false =>
          rw [hp] at C1
          have EQ : refOk (nmP x.kind) M f = (M f == 0) := by simp [refOk, hp]
          rw [EQ] at RK BAD
          clear EQ hp C2
          go_upto_region 13 with (go_at_call 27; refine (C1.out _ LW.out).mono ?_; rintro e u1 ⟨rfl, hu1⟩; subst hu1)
          clear C1
          go_wp2_with fail
          refine (C3.out _).mono ?_
          rintro e u2 ⟨rfl, b2⟩
          have B2 := hd (hb.out.trans (b2.mono hb.out.size))
          clear b2 c0 c1 c2 c3 c4 c5 c6 c7 c8 c9 c10 c11 c12 c13 C3 hb MW LW lm co
          by_cases hh : M f = 0
          · have R2 := hd (RK.out (by simp [hh]))
            clear RK BAD
            go_wp2
            exact ⟨⟨k + 1, by omega, by go_num, B2, R2⟩, by simp [intOf]; omega⟩
          · have Z := hd (BAD.out (by simp [hh]) _ B2.out)
            clear RK BAD
            go_wp2
            refine bodyPost_ret (v := .tuple #[.slice none 0 0, .int .i64 63, .int .i64 ((k : Int) + 1)]) (by simp [results, Tryd.results11, go_sem]) rfl ?_
            exact Z.out
      · obtain rfl : k = 7 := by omega
        have i1 : ¬ ((7 : Nat) : Int) < 7 := by omega
        have OK := hd (rok_all x HN.out hr.out)
        clear hr
        go_upto_region 15 with fail
        have X5 := hd (X4.out.below hb.out)
        have hn0 : 0 < (wrP M base len).length := wrP_pos M base len (by omega)
        have hn1 : (wrP M base len).length ≤ 4096 := Nat.le_trans (wrP_len M base len) (by omega)
        have HWR : Hid (∀ u, Below w4.heap.size wr.drew u → Calls Tryd.prog 30 #[.agg #[.int .i64 (M 0), .int .i64 (M 1), .int .i64 (M 2), .int .i64 (M 3), .int .i64 (M 4), .int .i64 (M 5), .int .i64 (M 6), .int .i64 (M 7), .int .i64 (M 8), .int .i64 (M 9), .int .i64 (M 10), .int .u8 (M 11), .int .i64 (M 12), .int .i64 (M 13)], .slice (some ⟨lb, 0, none⟩) len len] u fun e u' => ∃ v, e = .returned v ∧ OwnB u' u.heap.size v (wrP M base len).length (wrP M base len) ∧ Below u.heap.size u u') := hd (fun u bu => by
          refine written_any M (nmP x.kind) base len lb u HK.out (L4.out.below (hb.out.drew.trans bu)) (fun i hi => ?_) HM0.out.1
          rw [← HM.out]
          exact fld_rng x _ base len HK.out OK.out i hi)
        have cx := hd X5.out.at.1
        refine enc_region15 _ wr w4.heap.size w.heap.size mb lb len (wrP M base len).length x.kind M (wrP M base len) rfl rfl rfl (by simp) hb.out.size hxb hmb cx.out MW.out hn0 hn1 HWR.out ?_
        intro u v v44 v45 v46 v47 v48 v49 v50 own bu
        have Z : Hid (ROut w x (.returned (.tuple #[v, .int .i64 0, .int .i64 (-1)])) u) := hd (by
          have hb' := hb.out.drew.trans bu
          refine ⟨B4.out.trans (hb'.mono B4.out.size), .inr (.inl ⟨HE.out, OK.out, v, rfl, ?_⟩)⟩
          have e := bytes_wr x _ base len HK.out rfl
          rw [HM.out] at e
          rw [← e]
          have := own.mono B4.out.size
          rw [show ((x.kind % 256) :: wrP M base len).length = 1 + (wrP M base len).length by simp; omega]
          exact this)
        clear own bu cx HWR OK hb MW LW lm X5 c0 c1 c2 c3 c4 c5 c6 c7 c8 c9 c10 c11 c12 c13
        rename_i K0 hK0
        refine hK0 _ _ ?_
        simp only [puts, List.foldl_cons, List.foldl_nil, Act.put, List.setIfInBounds_toArray, List.set_cons_succ, List.set_cons_zero]
        clear hK0
        go_wp2
        refine bodyPost_ret (v := .tuple #[v, .int .i64 0, .int .i64 (-1)]) (by simp [results, Tryd.results11, go_sem]) rfl ?_
        exact HQ.out _ _ Z.out

end Go.Proofs.YtibnlfdnnlbeeaaDoor
