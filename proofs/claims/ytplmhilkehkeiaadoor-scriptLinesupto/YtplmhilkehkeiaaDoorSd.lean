/-
  Bytes in signs: the program's list of them.
-/
import Derived.Test.YtplmhilkehkeiaaDoorSc
namespace Go.Proofs.YtplmhilkehkeiaaDoor
open Go.RowKit
set_option linter.unusedVariables false

theorem pairs_at {s t : Bs} (h : pairs s = some t) : ∀ k (hk : k < t.length), ∃ a b, s[2 * k]? = some a ∧ s[2 * k + 1]? = some b ∧ 0 ≤ hexI a ∧ 0 ≤ hexI b ∧ t[k] = (16 * hexI a + hexI b).toNat.toUInt8 := by
  induction s using pairs.induct generalizing t with
  | case1 => cases h; intro k hk; simp at hk
  | case2 => cases h
  | case3 a b r hx => rw [pairs, if_pos hx] at h; cases h
  | case4 a b r hx ih =>
    rw [pairs, if_neg hx] at h
    cases hp : pairs r with
    | none => rw [hp] at h; cases h
    | some u =>
      rw [hp] at h
      simp only [Option.map_some, Option.some.injEq] at h
      subst h
      intro k hk
      cases k with
      | zero => exact ⟨a, b, rfl, rfl, by omega, by omega, rfl⟩
      | succ k =>
        obtain ⟨a', b', h1, h2, h3⟩ := ih hp k (by simpa using hk)
        refine ⟨a', b', ?_, ?_, by simpa using h3⟩
        · rw [show 2 * (k + 1) = 2 * k + 1 + 1 by omega]; simpa using h1
        · rw [show 2 * (k + 1) + 1 = 2 * k + 1 + 1 + 1 by omega]; simpa using h2

/-- Bytes as numbers. -/
def bI (t : Bs) : List Int := t.map (fun b => (b.toNat : Int))
theorem bI_len (t : Bs) : (bI t).length = t.length := by simp [bI]

theorem two_signs (x y : Int) (hx : 0 ≤ x) (hx' : x ≤ 15) (hy : 0 ≤ y) (hy' : y ≤ 15) : ((16 * x + y).toNat.toUInt8.toNat : Int) = 16 * x + y := by
  have : (16 * x + y).toNat < 256 := by omega
  simp [Nat.mod_eq_of_lt this]
  omega

theorem or_signs (x y : Int) (hx : 0 ≤ x) (hx' : x ≤ 15) (hy : 0 ≤ y) (hy' : y ≤ 15) : bits .or .i64 (wrap64 (x * 16)) y % 256 = 16 * x + y := by
  have h : ∀ n m : Fin 16, bits .or .i64 (wrap64 ((n.val : Int) * 16)) (m.val : Int) % 256 = 16 * (n.val : Int) + m.val := by decide +kernel
  have := h ⟨x.toNat, by omega⟩ ⟨y.toNat, by omega⟩
  simp only [Int.toNat_of_nonneg hx, Int.toNat_of_nonneg hy] at this
  exact this

set_option maxRecDepth 100000 in
set_option maxHeartbeats 4000000 in
theorem hexBytes_any (s : ByteArray) (t : Bs) (w : World) (hz : s.size ≤ 2000000) (ht : hexP (tl s) = some t) :
    Calls Tryd.prog 46 #[.string s] w fun e w' => ∃ v, e = .returned v ∧ NL bc 1 5 w' w.heap.size v (bI t) ∧ Below w.heap.size w w' := by
  have hl := tl_size s
  by_cases h45 : tl s = [45]
  · have hv : t = [] := by unfold hexP at ht; rw [if_pos h45] at ht; cases ht; rfl
    subst hv
    have i1 : (s.toList == [45]) = true := by rw [toL, h45]; rfl
    clear ht hl h45
    go_enter Tryd.func46, Tryd.ntmps46
    go_wp2
    go_ret
    exact ⟨_, rfl, NL.nil _ _, Below.refl _ _⟩
  · have i1 : (s.toList == [45]) = false := by rw [toL]; simpa using h45
    have hp : pairs (tl s) = some t := by
      unfold hexP at ht
      rw [if_neg h45] at ht
      split at ht
      · cases ht
      · exact ht
    have hlen := pairs_len hp
    have HP := hd (pairs_at hp)
    obtain ⟨m, hm⟩ : ∃ m, t.length = m := ⟨_, rfl⟩
    have HM := hd hm
    have HS := hd (show s.size = 2 * m by omega)
    have HZ := hd hz
    clear ht hl h45 hp hlen hm hz
    go_enter Tryd.func46, Tryd.ntmps46
    go_wp2
    clear i1
    go_loopw [3, 4] (fun v b wr => ∃ k p : Nat, k ≤ m ∧ b = .int .i64 p ∧ Hid (p = 2 * k) ∧ Hid (NL bc 1 5 wr w.heap.size v (bI (t.take k)) ∧ Below w.heap.size w wr)) (fun _ b _ => 2 * m - (intOf b).toNat)
    case atStart => exact ⟨0, 0, Nat.zero_le _, rfl, rfl, NL.nil _ _, Below.refl _ _⟩
    case round =>
      obtain ⟨k, p, hk, rfl, HK, HD⟩ := hrel
      by_cases hlt : k < m
      · obtain ⟨a, b, ha, hb, ha0, hb0, hab⟩ := HP.out k (by have := HM.out; omega)
        rw [← HK.out] at ha hb
        have j0 : p < s.size := by have := HS.out; have := HK.out; omega
        have j1 : p + 1 < s.size := by have := HS.out; have := HK.out; omega
        have ea : s[p] = a := by have := at_tl s p j0; rw [ha] at this; simpa using this.symm
        have eb : s[p + 1] = b := by have := at_tl s (p + 1) j1; rw [hb] at this; simpa using this.symm
        have i1 : (p : Int) < (s.size : Int) := by omega
        have i2 : (p : Int) + 1 < (s.size : Int) := by omega
        have ew' : IntKind.i64.wrap ((p : Int) + 1) = (p : Int) + 1 := by have := HZ.out; rw [IntKind.wrap_i64]; omega
        have HSA := hd (fun w => sign_any a w)
        have HSB := hd (fun w => sign_any b w)
        have HA := hd (And.intro ha0 (hexI_bd a).2)
        have HB := hd (And.intro hb0 (hexI_bd b).2)
        have HAB := hd hab
        clear ha hb ha0 hb0 hab
        go_wp2_with fail
        go_quiet (first | (go_at_call 62; exact Calls.quiet_of_same (HSA.out _)) | (go_at_call 62; exact Calls.quiet_of_same (HSB.out _)))
        have hy : bits .or .i64 (wrap64 (hexI a * 16)) (hexI b) % 256 = 16 * hexI a + hexI b := or_signs _ _ HA.out.1 HA.out.2 HB.out.1 HB.out.2
        obtain ⟨v', w', hap, h1, h2⟩ := grow_byte (w0 := w) (u := wr.drewN nq) (16 * hexI a + hexI b) (HD.out.1.fr (Fr.drewN (fun _ => False) wr nq) (fun _ _ _ h => h)) (below_drewN HD.out.2 nq) (Nat.le_refl _) (by rw [bI_len]; have := HS.out; have := HZ.out; have := HM.out; simp; omega)
        have hap' : ∀ ty, (Builtin.append_ #[22, 22] ty #[u3, .slice (some ⟨wr.heap.size, 0, none⟩) 1 1]).run Tryd.prog ((wr.drewN nq).alloc (.cells #[.int .u8 (16 * hexI a + hexI b)] 5)) = .ok v' w' := hap
        have et : bI (t.take (k + 1)) = bI (t.take k) ++ [16 * hexI a + hexI b] := by
          rw [List.take_succ_eq_append_getElem (by have := HM.out; omega), HAB.out]
          simp only [bI, List.map_append, List.map_cons, List.map_nil]
          rw [two_signs _ _ HA.out.1 HA.out.2 HB.out.1 HB.out.2]
        rw [← et] at h1
        have Z := hd (And.intro h1 h2)
        have e3 : wrap64 ((p : Int) + 2) = ((p + 2 : Nat) : Int) := by have := HZ.out; rw [wrap64]; omega
        clear hap h1 h2 et
        go_wp2_with (at_builtin; refine wpList_append_k _ rfl _ _ 22 22 rfl _ _ rfl rfl (hap' _) ?_)
        refine ⟨⟨k + 1, p + 2, by omega, by rw [e3], hd (by have := HK.out; omega), Z⟩, ?_⟩
        rw [e3]
        have := HS.out
        simp [intOf]
        omega
      · have i1 : ¬ (p : Int) < (s.size : Int) := by have := HS.out; have := HK.out; omega
        go_wp2
        go_ret
        have h := HD.out
        rw [List.take_of_length_le (by have := HM.out; omega)] at h
        exact ⟨_, rfl, h⟩

end Go.Proofs.YtplmhilkehkeiaaDoor
