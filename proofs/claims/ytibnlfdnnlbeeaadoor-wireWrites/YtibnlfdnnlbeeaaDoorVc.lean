/-
  wire.write, of items.
-/
import Derived.Test.YtibnlfdnnlbeeaaDoorVs
import Derived.Deep.RegionWith
namespace Go.Proofs.YtibnlfdnnlbeeaaDoor
open Go.RowKit
set_option linter.unusedVariables false

def numAt (k : Nat) : Nat := ((List.range k).filter (hasP 16130)).length
def okTo (nm : Nat) (V : Nat → Int) (k : Nat) : Prop := ∀ f, f < k → hasP 16130 f = true → allowsP nm V f = true
def fldB (V : Nat → Int) (f : Nat) : List Int := if hasP 1512 f then [V f / 256 % 256, V f % 256] else [V f % 256]
def bytesAt (nm : Nat) (V : Nat → Int) (k : Nat) : List Int := (V 0 % 256) :: (List.range k).flatMap fun f => if hasP nm f then fldB V f else []

theorem numAt_succ (k : Nat) : numAt (k + 1) = numAt k + (if hasP 16130 k then 1 else 0) := by
  unfold numAt
  rw [List.range_succ, List.filter_append, List.length_append]
  cases h : hasP 16130 k <;> simp [List.filter, h]
theorem numAt_le (k : Nat) : numAt k ≤ k := by
  unfold numAt
  exact Nat.le_trans (List.length_filter_le _ _) (by simp)
theorem okTo_zero (nm : Nat) (V : Nat → Int) : okTo nm V 0 := fun f h => by omega
theorem okTo_succ {nm : Nat} {V : Nat → Int} {k : Nat} (h : okTo nm V k) (hk : hasP 16130 k = true → allowsP nm V k = true) : okTo nm V (k + 1) := fun f hf ha => by
  rcases Nat.lt_or_ge f k with h1 | h1
  · exact h f h1 ha
  · obtain rfl : f = k := by omega
    exact hk ha
theorem bytesAt_zero (nm : Nat) (V : Nat → Int) : bytesAt nm V 0 = [V 0 % 256] := rfl
theorem bytesAt_succ (nm : Nat) (V : Nat → Int) (k : Nat) : bytesAt nm V (k + 1) = bytesAt nm V k ++ (if hasP nm k then fldB V k else []) := by
  simp [bytesAt, List.range_succ]
theorem bytesAt_len (nm : Nat) (V : Nat → Int) (k : Nat) : (bytesAt nm V k).length ≤ 1 + 2 * k := by
  induction k with
  | zero => simp [bytesAt]
  | succ k ih =>
    rw [bytesAt_succ, List.length_append]
    have : (if hasP nm k then fldB V k else []).length ≤ 2 := by
      unfold fldB
      split <;> (try split) <;> simp
    omega
theorem has_sub (nm k : Nat) (hs : nm = 2 ∨ nm = 16128) (hk : k < 14) (h : hasP nm k = true) : hasP 16130 k = true := by
  have : k = 0 ∨ k = 1 ∨ k = 2 ∨ k = 3 ∨ k = 4 ∨ k = 5 ∨ k = 6 ∨ k = 7 ∨ k = 8 ∨ k = 9 ∨ k = 10 ∨ k = 11 ∨ k = 12 ∨ k = 13 := by omega
  rcases hs with rfl | rfl <;> rcases this with rfl | rfl | rfl | rfl | rfl | rfl | rfl | rfl | rfl | rfl | rfl | rfl | rfl | rfl <;> first | rfl | exact absurd h (by decide)
/-- What is allowed in a field fits two bytes. -/
theorem allows_rng (nm k : Nat) (V : Nat → Int) (hk : k < 14) (h : allowsP nm V k = true) : 0 ≤ V k ∧ V k ≤ 65535 := by
  unfold allowsP at h
  split at h
  · have := eq_of_beq h; omega
  · have h := of_decide_eq_true h
    have : k = 0 ∨ k = 1 ∨ k = 2 ∨ k = 3 ∨ k = 4 ∨ k = 5 ∨ k = 6 ∨ k = 7 ∨ k = 8 ∨ k = 9 ∨ k = 10 ∨ k = 11 ∨ k = 12 ∨ k = 13 := by omega
    rcases this with rfl | rfl | rfl | rfl | rfl | rfl | rfl | rfl | rfl | rfl | rfl | rfl | rfl | rfl <;> simp [lo, hi] at h <;> omega

/-- What holds in the loop of write. -/
structure WS (w wr : World) (vb lb g nm : Nat) (V : Nat → Int) (xs : List Int) : Prop where
  v : VB wr vb V
  l : LB wr lb nm
  lim : Lims wr
  wri : WR wr g xs
  bel : Below w.heap.size w wr
  gg : w.heap.size ≤ g
  nv : vb ≠ g
  nl : lb ≠ g
  ng : 1 ≠ g
theorem WS.but {w wr w' : World} {vb lb g nm : Nat} {V : Nat → Int} {xs ys : List Int} (h : WS w wr vb lb g nm V xs) (hb : But g wr w') (hw : WR w' g ys) : WS w w' vb lb g nm V ys :=
  ⟨(hb.block vb (block_lt h.v) h.nv).trans h.v, (hb.block lb (block_lt h.l) h.nl).trans h.l, h.lim.but hb h.ng, hw, h.bel.trans (hb.below h.bel.size h.gg), h.gg, h.nv, h.nl, h.ng⟩
theorem WS.below {w wr w' : World} {vb lb g nm : Nat} {V : Nat → Int} {xs : List Int} (h : WS w wr vb lb g nm V xs) (hb : Below wr.heap.size wr w') : WS w w' vb lb g nm V xs :=
  ⟨(hb.block vb (block_lt h.v)).trans h.v, (hb.block lb (block_lt h.l)).trans h.l, h.lim.below hb h.lim.lt, h.wri.below hb, h.bel.trans (hb.mono h.bel.size), h.gg, h.nv, h.nl, h.ng⟩

set_option maxRecDepth 100000 in
set_option maxHeartbeats 4000000 in
theorem write_any (V : Nat → Int) (nm : Nat) (w : World) (hs : nm = 2 ∨ nm = 16128) (hV0 : 0 ≤ V 0 ∧ V 0 ≤ 65535) (hnm : nmP (V 0) = nm) (hL : Lims w) :
    Calls Tryd.prog 20 #[.agg #[.int .i64 (V 0), .int .i64 (V 1), .int .i64 (V 2), .int .i64 (V 3), .int .i64 (V 4), .int .i64 (V 5), .int .i64 (V 6), .int .i64 (V 7), .int .i64 (V 8), .int .i64 (V 9), .int .i64 (V 10), .int .i64 (V 11), .int .i64 (V 12), .int .i64 (V 13)], .int .u16 16130, .func (Fn.func 22) #[] #[]] w fun e w' => Below w.heap.size w w' ∧
      ((okTo nm V 14 ∧ ∃ v, e = .returned (.tuple #[v, .nilIface]) ∧ OwnB w' w.heap.size v (bytesAt nm V 14).length (bytesAt nm V 14)) ∨
       (∃ k, k < 14 ∧ okTo nm V k ∧ hasP 16130 k = true ∧ allowsP nm V k = false ∧ ∃ v, e = .returned (.tuple #[.slice none 0 0, v]) ∧ IsF w' v ((numAt k : Int) + 1) 63)) := by
  have bz : Below w.heap.size w (w.alloc (.cells #[.int .i64 (V 0), .int .i64 (V 1), .int .i64 (V 2), .int .i64 (V 3), .int .i64 (V 4), .int .i64 (V 5), .int .i64 (V 6), .int .i64 (V 7), .int .i64 (V 8), .int .i64 (V 9), .int .i64 (V 10), .int .i64 (V 11), .int .i64 (V 12), .int .i64 (V 13)] 52)) := (Below.refl _ _).alloc (Nat.le_refl _) _
  have hv : VB (w.alloc (.cells #[.int .i64 (V 0), .int .i64 (V 1), .int .i64 (V 2), .int .i64 (V 3), .int .i64 (V 4), .int .i64 (V 5), .int .i64 (V 6), .int .i64 (V 7), .int .i64 (V 8), .int .i64 (V 9), .int .i64 (V 10), .int .i64 (V 11), .int .i64 (V 12), .int .i64 (V 13)] 52)) w.heap.size V := heap_alloc_new _ _
  have hv0 := hv.at 0 (by omega)
  have HL := hd (hL.below bz hL.lt)
  have BZ := hd bz
  have HV := hd hv
  have hnz : ¬ (nm : Int) = 0 := by omega
  clear bz hv hL
  go_enter Tryd.func20, Tryd.ntmps20
  go_wp2_with fail
  generalize w.alloc (.cells #[.int .i64 (V 0), .int .i64 (V 1), .int .i64 (V 2), .int .i64 (V 3), .int .i64 (V 4), .int .i64 (V 5), .int .i64 (V 6), .int .i64 (V 7), .int .i64 (V 8), .int .i64 (V 9), .int .i64 (V 10), .int .i64 (V 11), .int .i64 (V 12), .int .i64 (V 13)] 52) = w0 at *
  refine (layout_any (V 0) _).mono ?_
  rintro e w1 ⟨rfl, b1⟩
  rw [hnm]
  have W1 : Hid (∃ g, WS w ((w1.alloc (.cells #[.int .u16 nm, .bool false] 79)).alloc (.cells #[.slice none 0 0] 83)) w.heap.size w1.heap.size g nm V [] ∧ g = w1.heap.size + 1) := by
    have b2 : Below w1.heap.size w1 ((w1.alloc (.cells #[.int .u16 nm, .bool false] 79)).alloc (.cells #[.slice none 0 0] 83)) := ((Below.refl _ _).alloc (Nat.le_refl _) _).alloc (by simp) _
    have hz : w0.heap.size ≤ w1.heap.size := b1.size
    have hw0 := block_lt HV.out
    have hlm := HL.out.lt
    have hl0 : LB (w1.alloc (.cells #[.int .u16 nm, .bool false] 79)) w1.heap.size nm := heap_alloc_new _ _
    have hwn := WR.new (w1.alloc (.cells #[.int .u16 nm, .bool false] 79))
    rw [World.size_alloc] at hwn
    refine ⟨_, ⟨((b1.trans (b2.mono hz)).block _ hw0).trans HV.out, (heap_alloc_old _ _ (by simp)).trans hl0, HL.out.below (b1.trans (b2.mono hz)) hlm, hwn, BZ.out.trans ((b1.trans (b2.mono hz)).mono BZ.out.size), ?_, ?_, ?_, ?_⟩, rfl⟩
    · have := BZ.out.size; omega
    · omega
    · omega
    · omega
  obtain ⟨g, hW, rfl⟩ := W1.out
  have HW := hd hW
  clear W1 hW BZ HV HL b1
  have hv1 := HW.out.v.at 0 (by omega)
  go_wp2_with fail
  generalize hw2 : (w1.alloc (.cells #[.int .u16 nm, .bool false] 79)).alloc (.cells #[.slice none 0 0] 83) = w2 at *
  obtain ⟨lb, hlb⟩ : ∃ lb, w1.heap.size = lb := ⟨_, rfl⟩
  rw [hlb] at HW
  rw [hlb]
  clear hw2 hlb hv0
  refine (put8_any (lb + 1) (V 0) [] _ HW.out.wri hV0 (by simp)).mono ?_
  rintro e w3 ⟨rfl, hw, hb⟩
  have S0 : Hid (WS w w3 w.heap.size lb (lb + 1) nm V (bytesAt nm V 0) ∧ okTo nm V 0) := ⟨HW.out.but hb hw, okTo_zero nm V⟩
  clear hw hb HW hv1
  go_wp2_with fail
  obtain ⟨N, hN⟩ : ∃ N : Nat, N = 14 := ⟨_, rfl⟩
  go_loopw [10, 26] (fun x i wr => ∃ k : Nat, k ≤ 14 ∧ i = .int .i64 k ∧ x = .int .i64 (numAt k) ∧ Hid (WS w wr w.heap.size lb (lb + 1) nm V (bytesAt nm V k) ∧ okTo nm V k)) (fun _ i _ => 14 - (intOf i).toNat)
  case atStart => exact ⟨0, Nat.zero_le _, rfl, rfl, S0⟩
  case round =>
    obtain ⟨k, hk, rfl, rfl, hr⟩ := hrel
    clear S0
    by_cases hlt : k < 14
    · have i1 : (k : Int) < 14 := by omega
      have n1 : (numAt k : Int) ≤ 14 := by have := numAt_le k; omega
      go_wp2_with fail
      refine (has_any 16130 k _ (by omega) hlt).mono ?_
      rintro e w4 ⟨rfl, hw4⟩
      subst hw4
      obtain ⟨b1, hb1⟩ : ∃ b, hasP 16130 k = b := ⟨_, rfl⟩
      have H1 := hd hb1
      rw [hb1]
      clear hb1
      cases b1 with
      | false =>
        have hnf : hasP nm k = false := by
          cases h : hasP nm k
          · rfl
          · exact absurd (has_sub nm k hs hlt h) (by rw [H1.out]; decide)
        have Z : Hid (WS w w4 w.heap.size lb (lb + 1) nm V (bytesAt nm V (k + 1)) ∧ okTo nm V (k + 1)) := by
          refine ⟨?_, okTo_succ hr.out.2 (fun h => absurd h (by rw [H1.out]; decide))⟩
          rw [bytesAt_succ, hnf]
          simpa using hr.out.1
        have E1 : Hid (numAt (k + 1) = numAt k) := hd <| by
          have := numAt_succ k
          rw [H1.out] at this
          simpa using this
        clear hr hnf
        go_wp2
        exact ⟨⟨k + 1, by omega, by go_num, by rw [E1.out], Z⟩, by simp [intOf]; omega⟩
      | true =>
        have E1 : Hid (numAt (k + 1) = numAt k + 1) := hd <| by
          have := numAt_succ k
          rw [H1.out] at this
          simpa using this
        obtain ⟨l0, l1⟩ := hr.out.1.l.at
        have c0 := hr.out.1.v.at 0 (by omega)
        have c1 := hr.out.1.v.at 1 (by omega)
        have c2 := hr.out.1.v.at 2 (by omega)
        have c3 := hr.out.1.v.at 3 (by omega)
        have c4 := hr.out.1.v.at 4 (by omega)
        have c5 := hr.out.1.v.at 5 (by omega)
        have c6 := hr.out.1.v.at 6 (by omega)
        have c7 := hr.out.1.v.at 7 (by omega)
        have c8 := hr.out.1.v.at 8 (by omega)
        have c9 := hr.out.1.v.at 9 (by omega)
        have c10 := hr.out.1.v.at 10 (by omega)
        have c11 := hr.out.1.v.at 11 (by omega)
        have c12 := hr.out.1.v.at 12 (by omega)
        have c13 := hr.out.1.v.at 13 (by omega)
        go_wp2_with fail
        refine (allows_any nm k V _ hs hlt hr.out.1.lim).mono ?_
        rintro e w5 ⟨rfl, b5⟩
        have S5 := hd (hr.out.1.below b5)
        have O5 := hd hr.out.2
        clear hr l0 l1 c0 c1 c2 c3 c4 c5 c6 c7 c8 c9 c10 c11 c12 c13
        obtain ⟨r, hr'⟩ : ∃ r, allowsP nm V k = r := ⟨_, rfl⟩
        have HR := hd hr'
        rw [hr']
        clear hr' b5
        cases r with
        | false =>
          go_wp2_with fail
          refine (wrap_any _ 63 _).mono ?_
          rintro e w6 ⟨v, rfl, hF, b6⟩
          have R : Hid (Below w.heap.size w w6 ∧ IsF w6 v ((numAt k : Int) + 1) 63) := ⟨S5.out.bel.trans (b6.mono S5.out.bel.size), hF⟩
          clear hF b6
          go_wp2
          refine bodyPost_ret (v := .tuple #[.slice none 0 0, v]) (by simp [results, Tryd.results20, go_sem]) rfl ?_
          exact ⟨R.out.1, .inr ⟨k, hlt, O5.out, H1.out, HR.out, v, rfl, R.out.2⟩⟩
        | true =>
          obtain ⟨l0, l1⟩ := S5.out.l.at
          go_wp2_with fail
          refine (has_any nm k _ (by omega) hlt).mono ?_
          rintro e w6 ⟨rfl, hw6⟩
          subst hw6
          obtain ⟨b2, hb2⟩ : ∃ b, hasP nm k = b := ⟨_, rfl⟩
          have H2 := hd hb2
          rw [hb2]
          clear hb2 l0 l1
          have OK : Hid (okTo nm V (k + 1)) := okTo_succ O5.out (fun _ => HR.out)
          cases b2 with
          | false =>
            have Z : Hid (WS w w6 w.heap.size lb (lb + 1) nm V (bytesAt nm V (k + 1)) ∧ okTo nm V (k + 1)) := by
              refine ⟨?_, OK.out⟩
              rw [bytesAt_succ, H2.out]
              simpa using S5.out
            go_wp2
            exact ⟨⟨k + 1, by omega, by go_num, by rw [E1.out]; simp, Z⟩, by simp [intOf]; omega⟩
          | true =>
            have cv := S5.out.v.at k hlt
            obtain ⟨b3, hb3⟩ : ∃ b, hasP 1512 k = b := ⟨_, rfl⟩
            have H3 := hd hb3
            clear hb3
            cases b3 with
            | true =>
              have PT : Hid (∀ U, Calls Tryd.prog 38 #[.pointer (some ⟨lb + 1, 0, none⟩), .int .i64 k] U fun e w' => e = .returned (.func (Fn.func 55) #[.pointer (some ⟨lb + 1, 0, none⟩)] #[]) ∧ w' = U) := fun U => by
                have := putter_any (lb + 1) k U hlt
                rw [H3.out] at this
                simpa using this
              have PP : Hid (∀ U, Below w6.heap.size w6 U → Calls Tryd.prog 55 #[.pointer (some ⟨lb + 1, 0, none⟩), .int .i64 (V k)] U fun e w' => e = .returned (.tuple #[]) ∧ Hid (WS w w' w.heap.size lb (lb + 1) nm V (bytesAt nm V (k + 1)))) := fun U hU => by
                refine (put16_any (lb + 1) (V k) (bytesAt nm V k) U (S5.out.below hU).wri (allows_rng nm k V hlt HR.out) (by have := bytesAt_len nm V k; omega)).mono ?_
                rintro e w' ⟨rfl, hw, hb⟩
                refine ⟨rfl, ?_⟩
                rw [bytesAt_succ, H2.out]
                have := (S5.out.below hU).but hb hw
                exact hd (by simpa [fldB, H3.out] using this)
              clear S5
              go_wp2_with fail
              go_region_with (first | (go_at_call 38; refine (PT.out _).mono ?_; rintro e u1 ⟨rfl, hu⟩; subst hu) | (go_at_call 55; refine (PP.out _ ?_).mono ?_; (first | exact Below.refl _ _ | exact (Below.refl _ _).drew | exact below_drewN (Below.refl _ _) _); rintro e u2 ⟨rfl, HZ⟩))
              all_goals
                have Z : Hid (WS w u2 w.heap.size lb (lb + 1) nm V (bytesAt nm V (k + 1)) ∧ okTo nm V (k + 1)) := ⟨HZ.out, OK.out⟩
                go_wp2
                exact ⟨⟨k + 1, by omega, by go_num, by rw [E1.out]; simp, Z⟩, by simp [intOf]; omega⟩
            | false =>
              have PT : Hid (∀ U, Calls Tryd.prog 38 #[.pointer (some ⟨lb + 1, 0, none⟩), .int .i64 k] U fun e w' => e = .returned (.func (Fn.func 35) #[.pointer (some ⟨lb + 1, 0, none⟩)] #[]) ∧ w' = U) := fun U => by
                have := putter_any (lb + 1) k U hlt
                rw [H3.out] at this
                simpa using this
              have PP : Hid (∀ U, Below w6.heap.size w6 U → Calls Tryd.prog 35 #[.pointer (some ⟨lb + 1, 0, none⟩), .int .i64 (V k)] U fun e w' => e = .returned (.tuple #[]) ∧ Hid (WS w w' w.heap.size lb (lb + 1) nm V (bytesAt nm V (k + 1)))) := fun U hU => by
                refine (put8_any (lb + 1) (V k) (bytesAt nm V k) U (S5.out.below hU).wri (allows_rng nm k V hlt HR.out) (by have := bytesAt_len nm V k; omega)).mono ?_
                rintro e w' ⟨rfl, hw, hb⟩
                refine ⟨rfl, ?_⟩
                rw [bytesAt_succ, H2.out]
                have := (S5.out.below hU).but hb hw
                exact hd (by simpa [fldB, H3.out] using this)
              clear S5
              go_wp2_with fail
              go_region_with (first | (go_at_call 38; refine (PT.out _).mono ?_; rintro e u1 ⟨rfl, hu⟩; subst hu) | (go_at_call 35; refine (PP.out _ ?_).mono ?_; (first | exact Below.refl _ _ | exact (Below.refl _ _).drew | exact below_drewN (Below.refl _ _) _); rintro e u2 ⟨rfl, HZ⟩))
              all_goals
                have Z : Hid (WS w u2 w.heap.size lb (lb + 1) nm V (bytesAt nm V (k + 1)) ∧ okTo nm V (k + 1)) := ⟨HZ.out, OK.out⟩
                go_wp2
                exact ⟨⟨k + 1, by omega, by go_num, by rw [E1.out]; simp, Z⟩, by simp [intOf]; omega⟩
    · obtain rfl : k = 14 := by omega
      obtain ⟨a, c, h1, h2⟩ := hr.out.1.wri
      have c0 : wr.cell? ⟨lb + 1, 0, none⟩ = some (.slice a (bytesAt nm V 14).length c) := by rw [cell_row h1]; rfl
      have R : Hid (Below w.heap.size w wr ∧ okTo nm V 14 ∧ OwnB wr w.heap.size (.slice a (bytesAt nm V 14).length c) (bytesAt nm V 14).length (bytesAt nm V 14)) := ⟨hr.out.1.bel, hr.out.2, h2.mono (by have := hr.out.1.gg; omega)⟩
      obtain ⟨L, hLL⟩ : ∃ L, (bytesAt nm V 14).length = L := ⟨_, rfl⟩
      have HLL := hd hLL
      rw [hLL] at c0 R
      clear h1 h2 hr hLL
      go_wp2
      refine bodyPost_ret (v := .tuple #[.slice a L c, .nilIface]) (by simp [results, Tryd.results20, go_sem]) rfl ?_
      exact ⟨R.out.1, .inl ⟨R.out.2.1, _, rfl, by rw [HLL.out]; exact R.out.2.2⟩⟩

end Go.Proofs.YtibnlfdnnlbeeaaDoor
