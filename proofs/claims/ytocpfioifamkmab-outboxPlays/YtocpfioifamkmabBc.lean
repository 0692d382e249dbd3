/-
  The document outbox: Due, Push.
-/
import Derived.Test.YtocpfioifamkmabBb
namespace Go.Proofs.Ytocpfioifamkmab
open Go.RowKit
set_option linter.unusedVariables false

theorem RK.setS {w : World} {y : Nat} {p : St} {put : List Int} {v : Value} {β : Option Nat} (h : RK w y p put v β) (t : Int) (ht : ((dueS p).s : Int) = t) : RK (w.setCell ⟨y, 3, none⟩ (.int .i64 t)) y (dueS p) put v β := by
  have hF : Fr (· = y) w (w.setCell ⟨y, 3, none⟩ (.int .i64 t)) := Fr.setCell _ _ _ rfl
  refine ⟨?_, h.row.fr hF (fun g hg he => h.y_ne (by rw [hg, he])), dueS_ok h.ok, h.lk⟩
  have := set_row h.box 3 (.int .i64 t)
  rw [ht]
  show _ = some (Obj.cells #[.int .i64 p.W, v, .int .i64 p.a, .int .i64 t] 59 (0, 0))
  simpa using this
theorem RK.sameS {w : World} {y : Nat} {p : St} {put : List Int} {v : Value} {β : Option Nat} (h : RK w y p put v β) (ht : (dueS p).s = p.s) : RK w y (dueS p) put v β := by
  have : dueS p = p := by
    have h2 : (dueS p).s = p.s := ht
    unfold dueS at h2 ⊢
    simp only at h2
    rw [h2]
  rw [this]
  exact h

set_option maxRecDepth 100000 in
set_option maxHeartbeats 4000000 in
theorem rdue_any (y : Nat) (p : St) (S : Nat → Prop) (w : World) (h : RAt w y p S) : Calls Try.prog 24 #[.pointer (some ⟨y, 0, none⟩)] w fun e w' => ∃ u, e = .returned u ∧ RL w' w.heap.size u (dueL p) ∧ RNow w w' y (dueS p) S := by
  obtain ⟨put, v, β, h, hSy, hSβ, hS⟩ := h
  obtain ⟨a, c, rfl, -⟩ := h.row.form
  have hll := h.lk.len
  have hok := h.ok
  have b1 := hok.w2
  have b2 := hok.few
  have b3 := hok.le
  have b4 := hok.sl
  obtain ⟨m, hm⟩ : ∃ m, put.length = m := ⟨_, rfl⟩
  obtain ⟨q, hq⟩ : ∃ q, p.a = q := ⟨_, rfl⟩
  obtain ⟨s, hs⟩ : ∃ s, p.s = s := ⟨_, rfl⟩
  obtain ⟨W, hW⟩ : ∃ W, p.W = W := ⟨_, rfl⟩
  obtain ⟨d, hdd⟩ : ∃ d, dueN p = d := ⟨_, rfl⟩
  have c0 := cell_row h.box 0
  have c1 := cell_row h.box 1
  have c2 := cell_row h.box 2
  have c3 := cell_row h.box 3
  have f3 := frozen_row h.box 3
  simp at c0 c1 c2 c3
  have e0 : dueN p = min p.W p.L.length := rfl
  have et : (dueS p).s = max s (q + d) := by simp [dueS, hs, hq, hdd]
  rw [hm] at c1 hll
  rw [hq] at c2 hll b2 b3 b4
  rw [hs] at c3 b3 b4
  rw [hW] at c0 b1 e0
  rw [hdd] at e0
  have hqd : q + d ≤ m ∧ m ≤ 4096 := by omega
  have C : Hid (∀ U U' (l : Int), RK U y (dueS p) put (.slice a put.length c) β → Fr S w U → Below U.heap.size U U' → l = (q : Int) + d → Calls Try.prog 31 #[.pointer (some ⟨y, 0, none⟩), .int .i64 ((q : Int) + 1), .int .i64 l] U' fun e w' => ∃ u, e = .returned u ∧ RL w' w.heap.size u (dueL p) ∧ RNow w w' y (dueS p) S) := by
    intro U U' l hU hF hB hl
    have hU' := hU.below hB
    have hU2 := hB.size
    have hF2 : Fr S w U' := hF.trans (Fr.of_below hB)
    have := span_rk y (dueS p) put _ β q d U' hU' hq (by have : (dueS p).L = p.L := rfl; rw [this]; omega)
    rw [← hl] at this
    refine this.mono ?_
    rintro e w' ⟨u, rfl, h1, h2⟩
    have e1 : items (dueS p).a ((dueS p).L.take d) = dueL p := by unfold dueL; rw [hdd]; rfl
    rw [e1] at h1
    have hF3 : Fr S w w' := hF2.trans (Fr.of_below h2)
    have hsz := hF3.size
    refine ⟨u, rfl, h1.mono hF2.size, S, ⟨put, _, β, hU'.below h2, hSy, hSβ, fun k hk => Nat.lt_of_lt_of_le (hS k hk) hsz⟩, fun k hk => .inl hk, hF3⟩
  have w1 : IntKind.i64.wrap ((q : Int) + 1) = (q : Int) + 1 := by rw [IntKind.wrap_i64]; omega
  have w2 : IntKind.i64.wrap ((q : Int) + W) = (q : Int) + W := by rw [IntKind.wrap_i64]; omega
  have HK := hd h
  have HY := hd hSy
  have HM := hd hm
  have cases1 : ((m : Int) < (q : Int) + W ∧ (m : Int) = (q : Int) + d) ∨ (¬ (m : Int) < (q : Int) + W ∧ (q : Int) + W = (q : Int) + d) := by omega
  have cases2 : ((s : Int) < (q : Int) + d ∧ ((dueS p).s : Int) = (q : Int) + d) ∨ (¬ (s : Int) < (q : Int) + d ∧ (dueS p).s = p.s) := by omega
  clear h hSy hSβ hS hll hok b1 b2 b3 b4 hm hq hs hW hdd e0 et
  rcases cases1 with ⟨g1, g2⟩ | ⟨g1, g2⟩ <;> rcases cases2 with ⟨g3, g4⟩ | ⟨g3, g4⟩
  all_goals
    rw [← g2] at g3
    have G2 := hd g2
    have G4 := hd g4
    clear g2 g4 hqd
    go_enter Try.func24, Try.ntmps24
    go_wp2_with fail
    go_region
    go_wp2_with fail
    first
      | (refine (C.out _ _ _ (HK.out.setS _ (G4.out.trans G2.out.symm)) (Fr.setCell _ _ _ HY.out) ?_ G2.out).mono ?_)
      | (refine (C.out _ _ _ (HK.out.sameS G4.out) (Fr.refl _ _) ?_ G2.out).mono ?_)
    · repeat (first | exact Below.refl _ _ | refine Below.drew ?_ | refine below_drewN ?_ _)
    rintro e w' ⟨u, rfl, h1, h2⟩
    have R := hd (And.intro h1 h2)
    clear h1 h2
    go_wp2
    go_ret
    exact ⟨_, rfl, R.out⟩

theorem rnow_left {w u w' : World} {x : Nat} {p : St} {put : List Int} {v v' : Value} {β : Option Nat} {S : Nat → Prop} {L : List Int} {L' : List Int} (h : RK u x p put v β) (hB : Below w.heap.size w u) (hSx : S x) (hSβ : ∀ g, β = some g → S g)
    (hN : NowF ei 1 u w' 3 β v' L) (hok : St.ok { p with L := L' }) (hlk : Rk { p with L := L' } L) : RNow w (w'.setCell ⟨x, 1, none⟩ v') x { p with L := L' } S := by
  obtain ⟨g', h1, h2, h3⟩ := hN.out
  have hxu : x < u.heap.size := block_lt h.box
  have hxg : g' ≠ x := by
    rintro rfl
    rcases h2 with h2 | h2
    · exact h.y_ne h2
    · omega
  have hx := h3.keeps h.box (fun hb => h.y_ne hb)
  have hF : Fr (· = x) w' (w'.setCell ⟨x, 1, none⟩ v') := Fr.setCell _ _ _ rfl
  have hsz := h3.size
  have hsz2 := hB.size
  have hsz3 := hF.size
  refine ⟨fun k => k = x ∨ k = g', ⟨L, v', some g', ⟨?_, h1.fr hF (fun g hg => by injection hg with hg; omega), hok, hlk⟩, .inl rfl, fun g hg => by injection hg with hg; exact .inr hg.symm, ?_⟩, ?_, ?_⟩
  · have := set_row hx 1 v'
    simpa using this
  · rintro k (rfl | rfl)
    · omega
    · have := h1.lt _ rfl; omega
  · rintro k (rfl | rfl)
    · exact .inl hSx
    · rcases h2 with h2 | h2
      · exact .inl (hSβ _ h2)
      · exact .inr (by omega)
  · exact (Fr.of_below hB).next ((h3.mono (S' := S) (fun k _ hk => hSβ k hk)).next hF (fun k _ hk => by rw [hk]; exact hSx)) (fun k _ hk => hk)

set_option maxRecDepth 100000 in
set_option maxHeartbeats 2000000 in
theorem rpush_any (x : Nat) (p : St) (y : Int) (S : Nat → Prop) (w : World) (h : RAt w x p S) :
    Calls Try.prog 10 #[.pointer (some ⟨x, 0, none⟩), .int .i64 y] w fun e w' => e = .returned (.tuple #[.int .i64 (pushN p), .int .i64 (pushE p)]) ∧ RNow w w' x (pushS p y) S := by
  have H := hd h
  obtain ⟨put, v, β, hK, hSx, hSβ, hS⟩ := h
  obtain ⟨a, c, rfl, -⟩ := hK.row.form
  have HK := hd hK
  have HX := hd (And.intro hSx (And.intro hSβ hS))
  have hok := hK.ok
  have hf := hok.few
  obtain ⟨m, hm⟩ : ∃ m, put.length = m := ⟨_, rfl⟩
  have hlast : p.last = m := by rw [hK.lk.1, hm]
  have c1 := cell_row hK.box 1
  simp at c1
  rw [hm] at c1
  have hm4 : m ≤ 4096 := by unfold St.last at hlast; omega
  have HM := hd (And.intro hm hlast)
  have HO := hd hok
  clear hSx hSβ hS hok hf
  by_cases hl : 4096 ≤ m
  · have hl' : (4096 : Int) ≤ (m : Int) := by omega
    have hl2 : Hid (4096 ≤ p.last) := by show _ ≤ _; omega
    clear hK hm hlast
    go_enter Try.func10, Try.ntmps10
    go_wp2
    refine bodyPost_ret (v := .tuple #[.int .i64 0, .int .i64 81]) (by simp [results, Try.results10, go_sem]) rfl ?_
    refine ⟨by rw [pushN, pushE, if_pos hl2.out, if_pos hl2.out], ?_⟩
    rw [pushS, if_pos hl2.out]
    exact H.out.now (Below.refl _ _)
  · have hl' : ¬ (4096 : Int) ≤ (m : Int) := by omega
    have hl2 : ¬ 4096 ≤ p.last := by omega
    obtain ⟨v', w', hr, hN⟩ := push_int (w.alloc (.cells #[.int .i64 y] 3)) β _ put (SF.fr (S := fun _ => False) hK.row (Fr.alloc _ _ _) (fun _ _ h => h)) w.heap.size y (heap_alloc_new w _) (by omega)
    obtain ⟨a', c', rfl⟩ : ∃ a' c', v' = .slice a' (m + 1) c' := by
      obtain ⟨g', h1, -⟩ := hN
      obtain ⟨a', c', h, -⟩ := h1.form
      exact ⟨a', c', by rw [h]; simp [hm]⟩
    have K2 := hK.below ((Below.refl _ _).alloc (Nat.le_refl _) (.cells #[.int .i64 y] 3))
    have hx3 : w'.heap[x]? = some (.cells #[.int .i64 p.W, .slice a put.length c, .int .i64 p.a, .int .i64 p.s] 59 (0, 0)) := by
      obtain ⟨g', -, -, h3⟩ := hN.out
      exact h3.keeps K2.box (fun hb => K2.y_ne hb)
    have d3 := cell_row hx3 1
    simp at d3
    have f3 := frozen_row hx3 1
    have Z := rnow_left (S := S) K2 ((Below.refl _ _).alloc (Nat.le_refl _) _) HX.out.1 HX.out.2.1 hN (L' := p.L ++ [y]) (by
      have := pushS_ok HO.out y
      rwa [pushS, if_neg hl2] at this) (by
      have := hK.lk.push HO.out y hl2
      rwa [pushS, if_neg hl2] at this)
    have HZ := hd Z
    have HL2 := hd hl2
    rw [hm] at hr
    clear Z K2 hx3 hN hK hm hlast hl2
    go_enter Try.func10, Try.ntmps10
    go_wp2_with (at_builtin; refine wpList_append_k _ rfl _ _ 55 55 rfl _ _ rfl rfl (hr _) ?_)
    refine bodyPost_ret (v := .tuple #[.int .i64 (m + 1), .int .i64 0]) (by simp [results, Try.results10, go_sem]) rfl ?_
    refine ⟨by rw [pushN, pushE, if_neg HL2.out, if_neg HL2.out, HM.out.2], ?_⟩
    rw [pushS, if_neg HL2.out]
    exact HZ.out

end Go.Proofs.Ytocpfioifamkmab
