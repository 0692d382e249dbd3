/-
  Due.
-/
import Derived.Test.YtpjnhjijipcjkaaAd
import Derived.Deep.RegionHeld3
import Derived.Deep.DeepCutAuto
namespace Go.Proofs.Ytpjnhjijipcjkaa
open Go.RowKit
set_option linter.unusedVariables false

theorem now_sent {w u : World} {x : Nat} {p : St} {v : Value} {β : Option Nat} {S : Nat → Prop} {s : Nat} (h : BK u x p v β) (hB : Below w.heap.size w u) (hSx : S x) (hSβ : ∀ g, β = some g → S g) (hS : ∀ k, S k → k < w.heap.size)
    (hok : St.ok { p with s := s }) : BK (u.setCell ⟨x, 2, none⟩ (.int .i64 s)) x { p with s := s } v β ∧ Fr S w (u.setCell ⟨x, 2, none⟩ (.int .i64 s)) := by
  have hF : Fr (· = x) u (u.setCell ⟨x, 2, none⟩ (.int .i64 s)) := Fr.setCell _ _ _ rfl
  refine ⟨⟨?_, h.row.fr hF (fun g hg he => h.x_ne (by rw [hg, he])), hok⟩, (Fr.of_below hB).next hF (fun k _ hk => by rw [hk]; exact hSx)⟩
  have := set_row h.box 2 (.int .i64 s)
  simpa using this

set_option maxRecDepth 100000 in
set_option maxHeartbeats 4000000 in
theorem due_any (x : Nat) (p : St) (S : Nat → Prop) (w : World) (h : BoxAt w x p S) :
    Calls Try.prog 13 #[.pointer (some ⟨x, 0, none⟩)] w fun e w' => ∃ u, e = .returned u ∧ IL w' w.heap.size u (dueL p) ∧ BoxAt w' x (dueS p) S ∧ Fr S w w' := by
  obtain ⟨v, β, hK, hSx, hSβ, hS⟩ := h
  obtain ⟨a, c, rfl, -⟩ := hK.row.form
  have c0 := cell_row hK.box 0
  have c1 := cell_row hK.box 1
  have c2 := cell_row hK.box 2
  have c3 := cell_row hK.box 3
  have f2 := frozen_row hK.box 2
  simp at c0 c1 c2 c3
  have HK := hd hK
  have HX := hd (And.intro hSx (And.intro hSβ hS))
  have hok := hK.ok
  obtain ⟨W, hW⟩ : ∃ n, p.W = n := ⟨_, rfl⟩
  obtain ⟨n, hn⟩ : ∃ n, p.L.length = n := ⟨_, rfl⟩
  obtain ⟨q, hq⟩ : ∃ n, p.a = n := ⟨_, rfl⟩
  obtain ⟨s, hs⟩ : ∃ n, p.s = n := ⟨_, rfl⟩
  have b1 := hok.w2
  have b2 := hok.few
  have b3 := hok.le
  have b4 := hok.sl
  rw [hW] at c0 b1
  rw [hn] at c3 b2 b4
  rw [hq] at c1 b2 b3 b4
  rw [hs] at c2 b3 b4
  have HP := hd (And.intro hW (And.intro hn (And.intro hq hs)))
  obtain ⟨k, hk⟩ : ∃ n, dueN p = n := ⟨_, rfl⟩
  obtain ⟨t, ht⟩ : ∃ n, (dueS p).s = n := ⟨_, rfl⟩
  have e1 : ((n : Int) < W ∧ k = n) ∨ (¬ (n : Int) < W ∧ k = W) := by
    have : k = min W n := by rw [← hk, dueN, hW, hn]
    omega
  have e2 : ((s : Int) < (q : Int) + k ∧ (t : Int) = (q : Int) + k) ∨ (¬ (s : Int) < (q : Int) + k ∧ (t : Int) = s) := by
    have e : (dueS p).s = max s (q + k) := by simp [dueS, hk, hs, hq]
    omega
  have hk4 : k ≤ n := by rw [← hk, dueN, hn]; omega
  have Z : Hid (∀ u, Below w.heap.size (w.setCell ⟨x, 2, none⟩ (.int .i64 t)) u → BK u x (dueS p) (.slice a p.L.length c) β ∧ Fr S w u) := by
    intro u hu
    have := now_sent (s := t) (S := S) hK (Below.refl _ _) hSx hSβ hS (by rw [← ht]; exact dueS_ok hok)
    rw [show ({ p with s := t } : St) = dueS p by rw [← ht]; rfl] at this
    have hu' : Below (w.setCell ⟨x, 2, none⟩ (.int .i64 t)).heap.size (w.setCell ⟨x, 2, none⟩ (.int .i64 t)) u := by simpa using hu
    exact ⟨this.1.below hu', this.2.trans (Fr.of_below hu')⟩
  have HT := hd (And.intro hk ht)
  clear hK hSx hSβ hS hok hW hn hq hs hk ht
  have R : Hid (∀ wc, BK wc x (dueS p) (.slice a p.L.length c) β → Calls Try.prog 35 #[.pointer (some ⟨x, 0, none⟩), .int .i64 k] wc fun e w' => ∃ u, e = .returned u ∧ IL w' wc.heap.size u (dueL p) ∧ Below wc.heap.size wc w') := by
    intro wc hc
    have := first_bk x (dueS p) _ β k wc hc (by have := HP.out.2.1; simp [dueS]; omega)
    rw [← HT.out.1] at this ⊢
    exact this
  have F : Hid (∀ wc w' u, BK wc x (dueS p) (.slice a p.L.length c) β → Fr S w wc → IL w' wc.heap.size u (dueL p) → Below wc.heap.size wc w' → IL w' w.heap.size u (dueL p) ∧ BoxAt w' x (dueS p) S ∧ Fr S w w') := by
    intro wc w' u h1 h2 h3 h4
    exact ⟨h3.mono h2.size, ⟨_, β, h1.below h4, HX.out.1, HX.out.2.1, fun k hk => Nat.lt_of_lt_of_le (HX.out.2.2 k hk) (Nat.le_trans h2.size h4.size)⟩, h2.trans (Fr.of_below h4)⟩
  have hw : IntKind.i64.wrap ((q : Int) + k) = (q : Int) + k := by rw [IntKind.wrap_i64]; omega
  clear HK HX HP HT b1 b3
  rcases e1 with ⟨e1, rfl⟩ | ⟨e1, rfl⟩ <;> rcases e2 with ⟨e2, e3⟩ | ⟨e2, e3⟩
  all_goals
    rw [e3] at Z
    clear e3
    go_enter Try.func13, Try.ntmps13
    go_wp2_with fail
    go_region
    go_upto_region 2 with fail
    go_cut [3] (fun x3 wx => x3 = .int .i64 k ∧ Hid (BK wx x (dueS p) (.slice a p.L.length c) β ∧ Fr S w wx))
    case first =>
      go_region_law fail
      all_goals
        go_wp2_with fail
        go_meet
        refine ⟨rfl, Z.out _ ?_⟩
        repeat (first | exact Below.refl _ _ | refine Below.drew ?_ | refine below_drewN ?_ _)
    case rest =>
      obtain ⟨rfl, HC⟩ := hcut
      clear Z
      go_wp2_with fail
      refine (R.out _ HC.out.1).mono ?_
      rintro e w' ⟨u, rfl, h1, h2⟩
      have Y := hd (F.out _ _ _ HC.out.1 HC.out.2 h1 h2)
      clear h1 h2
      go_wp2
      go_ret
      exact ⟨_, rfl, Y.out⟩

end Go.Proofs.Ytpjnhjijipcjkaa
