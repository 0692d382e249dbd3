/-
  Ack.
-/
import Derived.Test.YtpjnhjijipcjkaaAf
namespace Go.Proofs.Ytpjnhjijipcjkaa
open Go.RowKit Go.Lib
set_option linter.unusedVariables false

theorem BoxAt.now {w w' : World} {x : Nat} {p : St} {S : Nat → Prop} (h : BoxAt w x p S) (hb : Below w.heap.size w w') : Now w w' x p S := ⟨S, h.below hb, fun k hk => .inl hk, Fr.of_below hb⟩

set_option maxRecDepth 100000 in
set_option maxHeartbeats 4000000 in
theorem ack_far (x g c d q s n W : Nat) (L : List Int) (S : Nat → Prop) (w : World) (hK : BK w x ⟨W, q, s, L⟩ (.slice (some ⟨g, 0, none⟩) L.length c) (some g)) (hSx : S x) (hSg : S g) (hS : ∀ k, S k → k < w.heap.size)
    (hn : q < n) (hs : n ≤ s) : Calls Try.prog 19 #[.pointer (some ⟨x, 0, none⟩), .int .i64 n] w fun e w' => e = .returned (.int .i64 0) ∧ Now w w' x ⟨W, n, s, L.drop (n - q)⟩ S := by
  have hok := hK.ok
  have b2 := hok.few
  have b3 := hok.le
  have b4 := hok.sl
  simp only at b2 b3 b4
  have c1 := cell_row hK.box 1
  have c2 := cell_row hK.box 2
  have c3 := cell_row hK.box 3
  have f1 := frozen_row hK.box 1
  have f3 := frozen_row hK.box 3
  simp at c1 c2 c3
  have hgx : g ≠ x := fun h => hK.x_ne (by rw [h])
  obtain ⟨m, hm⟩ : ∃ m, L.length = m := ⟨_, rfl⟩
  have hR : RowF ei 1 w g L.length c 3 L := by
    obtain ⟨cap, h1, h2⟩ := hK.row
    injection h1 with h1 h3 h4
    subst h4
    exact h2
  have hmc : m ≤ c ∧ c ≤ 9223372036854775807 := by
    obtain ⟨cur, -, -, -, h1, h2, -⟩ := hR
    exact ⟨by omega, h2⟩
  have PT : Hid (∀ U, Fr (fun _ => False) w U → Calls Try.prog 39 #[.slice (some ⟨g, 0, none⟩) m c, .int .i64 0, .int .i64 ((n : Int) - q)] U fun e w' => e = .returned (.slice (some ⟨g, 0, none⟩) (m - (n - q)) c) ∧ RowF ei 1 w' g (m - (n - q)) c 3 (L.drop (n - q)) ∧ Fr (· = g) w w') := by
    intro U hU
    rw [show ((n : Int) - q) = ((n - q : Nat) : Int) by omega]
    refine (delete_row g m c (n - q) L U (by omega) (by omega) (by omega) hmc.2 hmc.1 (hd (by rw [← hm]; exact hR.fr hU (fun h => h)))).mono ?_
    rintro e w' ⟨rfl, h1, h2⟩
    exact ⟨rfl, h1, (hU.mono (fun _ _ h => h.elim)).trans h2⟩
  have ZZ : Hid (∀ w3, RowF ei 1 w3 g (m - (n - q)) c 3 (L.drop (n - q)) → Fr (· = g) w w3 → w3.heap[x]? = some (.cells #[.int .i64 W, .int .i64 q, .int .i64 s, .slice (some ⟨g, 0, none⟩) m c] 79 (0, 0)) ∧
      ∀ u, Below w3.heap.size ((w3.setCell ⟨x, 3, none⟩ (.slice (some ⟨g, 0, none⟩) (m - (n - q)) c)).setCell ⟨x, 1, none⟩ (.int .i64 n)) u → Now w u x ⟨W, n, s, L.drop (n - q)⟩ S) := by
    intro w3 h1 h2
    have hbx := h2.keeps hK.box (fun h => hgx h.symm)
    simp only at hbx
    rw [hm] at hbx
    refine ⟨hbx, fun u hu => ?_⟩
    have h3 := set_row (set_row hbx 3 (.slice (some ⟨g, 0, none⟩) (m - (n - q)) c)) 1 (.int .i64 n)
    have F2 : Fr (· = x) w3 ((w3.setCell ⟨x, 3, none⟩ (.slice (some ⟨g, 0, none⟩) (m - (n - q)) c)).setCell ⟨x, 1, none⟩ (.int .i64 n)) := Fr.trans (S := (· = x)) (Fr.setCell _ _ _ rfl) (Fr.setCell _ _ _ rfl)
    have hsz := F2.size
    have hsz2 := h2.size
    have hR3 := h1.fr F2 hgx
    have K3 : BK ((w3.setCell ⟨x, 3, none⟩ (.slice (some ⟨g, 0, none⟩) (m - (n - q)) c)).setCell ⟨x, 1, none⟩ (.int .i64 n)) x ⟨W, n, s, L.drop (n - q)⟩ (.slice (some ⟨g, 0, none⟩) (m - (n - q)) c) (some g) := by
      refine ⟨by simpa using h3, ⟨c, ?_, ?_⟩, ⟨hok.w1, hok.w2, hs, ?_, ?_⟩⟩
      · simp [hm]
      · simpa [hm] using hR3
      · simp [hm]; omega
      · simp [hm]; omega
    have B3 : BoxAt ((w3.setCell ⟨x, 3, none⟩ (.slice (some ⟨g, 0, none⟩) (m - (n - q)) c)).setCell ⟨x, 1, none⟩ (.int .i64 n)) x ⟨W, n, s, L.drop (n - q)⟩ (fun k => k = x ∨ k = g) := by
      refine ⟨_, some g, K3, .inl rfl, fun k hk => by injection hk with hk; exact .inr hk.symm, ?_⟩
      rintro k (rfl | rfl)
      · exact block_lt h3
      · exact hR3.lt
    have F3 : Fr S w ((w3.setCell ⟨x, 3, none⟩ (.slice (some ⟨g, 0, none⟩) (m - (n - q)) c)).setCell ⟨x, 1, none⟩ (.int .i64 n)) := (h2.mono (fun k _ hk => by rw [hk]; exact hSg)).next F2 (fun k _ hk => by rw [hk]; exact hSx)
    have hu3 : Below ((w3.setCell ⟨x, 3, none⟩ (.slice (some ⟨g, 0, none⟩) (m - (n - q)) c)).setCell ⟨x, 1, none⟩ (.int .i64 n)).heap.size ((w3.setCell ⟨x, 3, none⟩ (.slice (some ⟨g, 0, none⟩) (m - (n - q)) c)).setCell ⟨x, 1, none⟩ (.int .i64 n)) u := by
      simpa using hu
    refine ⟨_, B3.below hu3, ?_, F3.trans (Fr.of_below hu3)⟩
    rintro k (rfl | rfl)
    · exact .inl hSx
    · exact .inl hSg
  have i1 : ¬ (n : Int) < 0 := by omega
  have i2 : ¬ (s : Int) < (n : Int) := by omega
  have i3 : (q : Int) < (n : Int) := by omega
  have hw : IntKind.i64.wrap ((n : Int) - q) = (n : Int) - q := by rw [IntKind.wrap_i64]; omega
  rw [hm] at c3
  clear hK hSx hSg hS hok hR hmc hm
  go_enter Try.func19, Try.ntmps19
  go_wp2_with fail
  go_region_law (first | (go_simp; go_at_call 39; refine (PT.out _ (by repeat (first | exact Fr.refl _ _ | refine Fr.trans ?_ (Fr.drew _ _) | refine Fr.trans ?_ (Fr.drewN _ _ _)))).mono ?_; rintro ex w3 ⟨rfl, h1, h2⟩; have Z1 := ZZ.out _ h1 h2; have k3 := cell_row Z1.1 3; have k1 := cell_row Z1.1 1; simp at k3 k1; have j1 := frozen_row Z1.1 1; have j3 := frozen_row Z1.1 3; have Z2 := hd Z1.2; clear h1 h2 Z1))
  all_goals
    go_wp2
    go_ret
    refine ⟨rfl, Z2.out _ ?_⟩
    repeat (first | exact Below.refl _ _ | refine Below.drew ?_ | refine below_drewN ?_ _)

theorem ack_any (x : Nat) (p : St) (n : Int) (S : Nat → Prop) (w : World) (h : BoxAt w x p S) :
    Calls Try.prog 19 #[.pointer (some ⟨x, 0, none⟩), .int .i64 n] w fun e w' => e = .returned (.int .i64 (ackE p n)) ∧ Now w w' x (ackS p n) S := by
  have H := hd h
  obtain ⟨v, β, hK, hSx, hSβ, hS⟩ := h
  have c1 := cell_row hK.box 1
  have c2 := cell_row hK.box 2
  simp at c1 c2
  have hok := hK.ok
  by_cases h1 : n < 0
  · have e1 : Hid (ackE p n = 82 ∧ ackS p n = p) := ⟨by rw [ackE, if_pos (.inl h1)], by rw [ackS, if_neg (by omega)]⟩
    clear hK hSx hSβ hS hok
    go_enter Try.func19, Try.ntmps19
    go_wp2
    go_ret
    rw [e1.out.1, e1.out.2]
    exact ⟨rfl, H.out.now (Below.refl _ _)⟩
  by_cases h2 : (p.s : Int) < n
  · have e1 : Hid (ackE p n = 82 ∧ ackS p n = p) := ⟨by rw [ackE, if_pos (.inr h2)], by rw [ackS, if_neg (by omega)]⟩
    clear hK hSx hSβ hS hok
    go_enter Try.func19, Try.ntmps19
    go_wp2
    go_ret
    rw [e1.out.1, e1.out.2]
    exact ⟨rfl, H.out.now (Below.refl _ _)⟩
  have e0 : ackE p n = 0 := by rw [ackE, if_neg (by omega)]
  rw [e0]
  by_cases h3 : (p.a : Int) < n
  · obtain ⟨m, rfl⟩ : ∃ m : Nat, n = m := ⟨n.toNat, by omega⟩
    rw [ackS, if_pos (by omega), Int.toNat_natCast]
    have := hok.sl
    have := hok.few
    obtain ⟨g, rfl⟩ : ∃ g, β = some g := by
      cases β with
      | none =>
        have hl : p.L.length = 0 := by rw [hK.row.2]; rfl
        omega
      | some g => exact ⟨g, rfl⟩
    obtain ⟨c, rfl, -⟩ := hK.row
    exact ack_far x g c 0 p.a p.s m p.W p.L S w hK hSx (hSβ g rfl) hS (by omega) (by omega)
  · have e1 : Hid (ackS p n = p) := by show _ = _; rw [ackS, if_neg (by omega)]
    clear hK hSx hSβ hS hok e0
    go_enter Try.func19, Try.ntmps19
    go_wp2
    go_ret
    rw [e1.out]
    exact ⟨rfl, H.out.now (Below.refl _ _)⟩

end Go.Proofs.Ytpjnhjijipcjkaa
