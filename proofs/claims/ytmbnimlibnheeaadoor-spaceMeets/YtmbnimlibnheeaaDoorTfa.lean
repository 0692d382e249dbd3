/-
  makes.
-/
import Derived.Test.YtmbnimlibnheeaaDoorTc
import Derived.Deep.DeepCutAuto
import Derived.Deep.RegionHeld3
namespace Go.Proofs.YtmbnimlibnheeaaDoor
open Go.RowKit Go.Lib
set_option linter.unusedVariables false

set_option maxHeartbeats 1000000 in
theorem into_any (x : Int) (M : Nat) (w : World) (h0 : 0 < M) (h1 : M ≤ 1000000000000000) :
    Calls Tryd.prog 38 #[.int .i64 x, .int .i64 M] w fun e w' => ∃ p : Nat, e = .returned (.int .i64 p) ∧ p < M ∧ w' = w := by
  have b1 : x.tmod M < M := Int.tmod_lt_of_pos _ (by omega)
  have b2 : -(M : Int) < x.tmod M := by
    have := Int.lt_tmod_of_pos x (b := (M : Int)) (by omega)
    omega
  have hM : ¬ ((M : Int) = 0) := by omega
  obtain ⟨r, hr⟩ : ∃ r, r = x.tmod M := ⟨_, rfl⟩
  rw [← hr] at b1 b2
  have ht : x.tmod (M : Int) = r := hr.symm
  clear hr
  by_cases hn : r < 0
  · obtain ⟨p, hp⟩ : ∃ p : Nat, r + (M : Int) = (p : Int) := ⟨(r + (M : Int)).toNat, by omega⟩
    have R : Hid (p < M) := by
      show _ < _
      omega
    go_enter Tryd.func38, Tryd.ntmps38
    go_wp2
    go_ret
    exact ⟨p, by first | rfl | (simp; omega), R.out, rfl⟩
  · obtain ⟨p, hp⟩ : ∃ p : Nat, r = (p : Int) := ⟨r.toNat, by omega⟩
    have R : Hid (p < M) := by
      show _ < _
      omega
    go_enter Tryd.func38, Tryd.ntmps38
    go_wp2
    go_ret
    exact ⟨p, by first | rfl | (simp; omega), R.out, rfl⟩

theorem cellsA5 {w : World} {g : Nat} {a b c d e : Value} {t : TypeId} (h : w.heap[g]? = some (.cells #[a, b, c, d, e] t (0, 0))) :
    (w.cell? ⟨g, 0, none⟩ = some a ∧ w.cell? ⟨g, 1, none⟩ = some b ∧ w.cell? ⟨g, 2, none⟩ = some c ∧ w.cell? ⟨g, 3, none⟩ = some d ∧ w.cell? ⟨g, 4, none⟩ = some e) := by
  simp [World.cell?, h]

/-- What is gone has one more. -/
theorem SC.gone {T : Nat → Prop} {w u : World} {x z : Nat} {d : List El} {p : Sp} {made took base : Int} {W : List Pc} {vt : Value} {aw : Option Addr} {nw cw : Nat} {vg : Value} {βt βg : Option Nat} {G : List El} (h : SC T w x z d p made took base W vt aw nw cw vg βt βg G) (hu : Below w.heap.size w u) {b : Nat} {el : El} (hb : u.heap[b]? = some (.cells (elc el).toArray 86 (0, 0))) (hG : G.length ≤ 4000) :
    ∃ a n c w', (∀ ty, (Builtin.append_ #[55, 55] ty #[vg, .slice (some ⟨b, 0, none⟩) 1 1]).run Tryd.prog u = .ok (.slice a n c) w') ∧ (x < w'.heap.size ∧ w'.cell? ⟨x, 6, none⟩ = some vg ∧ w'.frozen? ⟨x, 6, none⟩ = false) ∧
      ∃ g, SC (TB T w.heap.size w'.heap.size) (w'.setCell ⟨x, 6, none⟩ (.slice a n c)) x z d p made took base W vt aw nw cw (.slice a n c) βt (some g) (G ++ [el]) ∧ u.heap.size ≤ w'.heap.size ∧ (T g ∨ u.heap.size ≤ g) ∧ Fr (fun j => T j) w (w'.setCell ⟨x, 6, none⟩ (.slice a n c)) := by
  have KU := h.below hu
  obtain ⟨v', w', hr, hN⟩ := run_pushE u βg vg G KU.gn b el hb (by omega)
  obtain ⟨β', n1, n2, n3⟩ := hN
  obtain ⟨a, c, rfl, -, -⟩ := n1.form
  obtain ⟨g, rfl⟩ : ∃ g, β' = some g := by
    cases β' with
    | none => obtain ⟨-, h⟩ := n1; simp at h
    | some g => exact ⟨g, rfl⟩
  have hsz := n3.size
  have hus := hu.size
  have gl : g < w'.heap.size := (n1.tg rfl).lt
  have hg : T g ∨ u.heap.size ≤ g := by
    rcases n2 with n2 | ⟨g', n2, hg⟩
    · exact .inl (h.gt g n2.symm)
    · injection n2 with n2
      subst n2
      exact .inr hg
  have hgT : TB T w.heap.size w'.heap.size g := hg.imp (fun h => h) (fun h => ⟨by omega, gl⟩)
  have hgt : βt ≠ some g := by
    intro he
    rcases n2 with n2 | ⟨g', n2, hg⟩
    · exact h.ne g n2.symm he
    · injection n2 with n2
      subst n2
      have := (h.te.tg he).lt
      omega
  have hnx : βg ≠ some x := fun he => (KU.gn.tg he).ne KU.tg (by decide) rfl
  have c1 := n3.keeps KU.box (fun he => hnx he)
  have hx : w'.cell? ⟨x, 6, none⟩ = some vg := by rw [cell_row c1]; rfl
  have hF : Fr (· = x) w' (w'.setCell ⟨x, 6, none⟩ (.slice a (G ++ [el]).length c)) := Fr.setCell _ _ _ rfl
  have tg' : Tg w' x 58 := ⟨_, c1⟩
  refine ⟨a, _, c, w', hr, ⟨block_lt c1, hx, frozen_row c1 6⟩, g, ⟨?_, .inl h.tx, ?_, fun k hk => .inl (h.tt k hk), ?_, ?_, h.wn, n1.fr hF (fun k hk => (n1.tg hk).ne tg' (by decide)), fun k hk => by injection hk with hk; subst hk; exact hgT, fun k hk he => hgt (by rw [he, hk])⟩, hsz, hg, ?_⟩
  · have := set_row c1 6 (.slice a (G ++ [el]).length c)
    simpa using this
  · have t1 := KU.te.fr n3 (fun k hk he => h.ne k he hk)
    exact t1.fr hF (fun k hk => (t1.tg hk).ne tg' (by decide))
  · have s1 := KU.sp.fr n3 (fun k hk he => hk.not (KU.gn.tg he) (by decide) (by decide) (by decide) rfl)
    exact (s1.fr hF (fun k hk => hk.not tg' (by decide) (by decide) (by decide))).mono (fun k hk => .inl hk)
  · have w1 := KU.wy.fr n3 (fun k _ hk he => hk.ne (KU.gn.tg he) (by decide) rfl)
    exact (w1.fr hF (fun k _ hk => hk.ne tg' (by decide))).mono (fun k hk => .inl hk)
  · exact ((Fr.of_below hu).next n3 (fun k _ hk => h.gt k hk)).next hF (fun k _ hk => by rw [hk]; exact h.tx)

theorem Way.cut {T : Nat → Prop} {w : World} {a : Option Addr} {n c : Nat} {W : List Pc} (h : Way T w a n c W) : Way (fun k => T k ∧ k < w.heap.size) w a n c W := by
  obtain ⟨h1, h2, h3, h4⟩ := h
  refine ⟨h1, h2, h3, h4.imp (fun h => h) ?_⟩
  rintro ⟨g, k, cur, rfl, ht, hg, r⟩
  exact ⟨g, k, cur, rfl, ⟨ht, block_lt hg⟩, hg, r⟩
/-- One more is under way. -/
theorem SC.send {T : Nat → Prop} {w u : World} {x z : Nat} {d : List El} {p : Sp} {made took base : Int} {W : List Pc} {vt : Value} {aw : Option Addr} {nw cw : Nat} {vg : Value} {βt βg : Option Nat} {G : List El} (h : SC T w x z d p made took base W vt aw nw cw vg βt βg G) (hu : Below w.heap.size w u) {b : Nat} {pc : Pc} (hb : u.heap[b]? = some (.cells (pcl pc).toArray 88 (0, 0))) (hn : nw ≤ 10000) :
    ∃ a c w', (∀ ty, (Builtin.append_ #[56, 56] ty #[.slice aw nw cw, .slice (some ⟨b, 0, none⟩) 1 1]).run Tryd.prog u = .ok (.slice a (nw + 1) c) w') ∧ (x < w'.heap.size ∧ w'.cell? ⟨x, 4, none⟩ = some (.slice aw nw cw) ∧ w'.frozen? ⟨x, 4, none⟩ = false) ∧
      SC (TB T w.heap.size w'.heap.size) (w'.setCell ⟨x, 4, none⟩ (.slice a (nw + 1) c)) x z d p made took base (W ++ [pc]) vt a (nw + 1) c vg βt βg G ∧ u.heap.size ≤ w'.heap.size ∧ Fr (fun j => T j) w (w'.setCell ⟨x, 4, none⟩ (.slice a (nw + 1) c)) := by
  have KU := h.below hu
  obtain ⟨a, c, w', hr, ha, hW, hF⟩ := Way.push KU.wy KU.wn hn hb
  have hsz := hF.size
  have hus := hu.size
  have nt : ∀ k t, Tg u k t → t ≠ 88 → ¬ (T k ∧ Tg u k 88) := fun k t hk ht hh => hk.ne hh.2 ht rfl
  have K1 : SC T u x z d p made took base W vt aw nw cw vg βt βg G := KU
  have c1 := hF.keeps KU.box (nt _ _ KU.tg (by decide))
  have hW' : Way (TB T w.heap.size w'.heap.size) w' a (nw + 1) c (W ++ [pc]) := hW.cut.mono (fun k hk => hk.1.imp (fun h => h) (fun h => ⟨by omega, hk.2⟩))
  have tg' : Tg w' x 58 := ⟨_, c1⟩
  have hS : Fr (· = x) w' (w'.setCell ⟨x, 4, none⟩ (.slice a (nw + 1) c)) := Fr.setCell _ _ _ rfl
  have t1 := KU.te.fr hF (fun k hk => nt _ _ (KU.te.tg hk) (by decide))
  have g1 := KU.gn.fr hF (fun k hk => nt _ _ (KU.gn.tg hk) (by decide))
  have s1 := KU.sp.fr hF (fun k hk hh => hk.not hh.2 (by decide) (by decide) (by decide) rfl)
  refine ⟨a, c, w', hr, ⟨block_lt c1, by rw [cell_row c1]; rfl, frozen_row c1 4⟩, ⟨?_, .inl h.tx, t1.fr hS (fun k hk => (t1.tg hk).ne tg' (by decide)), fun k hk => .inl (h.tt k hk), (s1.fr hS (fun k hk => hk.not tg' (by decide) (by decide) (by decide))).mono (fun k hk => .inl hk), hW'.fr hS (fun k _ hk => hk.ne tg' (by decide)), fun he => absurd he ha, g1.fr hS (fun k hk => (g1.tg hk).ne tg' (by decide)), fun k hk => .inl (h.gt k hk), h.ne⟩, hsz, ((Fr.of_below hu).next hF (fun k _ hk => hk.1)).next hS (fun k _ hk => by rw [hk]; exact h.tx)⟩
  have := set_row c1 4 (.slice a (nw + 1) c)
  simpa using this

/-- What makes has made, ahead of Apply. -/
def MK (T : Nat → Prop) (w wx : World) (x z : Nat) (s : Sd) (base : Int) (vt : Value) (aw : Option Addr) (nw cw : Nat) (βt : Option Nat) (bo m n : Nat) : Prop :=
  ∃ o T' vg βg G, FitO n o ∧ VO o ∧ SC T' wx x z s.d ⟨s.f, s.q, s.made⟩ s.made s.took base s.way vt aw nw cw vg βt βg G ∧ G.length ≤ m + 1 ∧ (∀ k, T k → T' k) ∧ (∀ k, T' k → (T k ∨ w.heap.size ≤ k) ∧ k < wx.heap.size ∧ k ≠ bo) ∧ wx.heap[bo]? = some (.cells (opc o).toArray 29 (0, 0)) ∧ Fr T w wx

/-- Where only the operation's own block has changed. -/
theorem MK.of {T : Nat → Prop} {B : Nat} {w wa wx : World} {x z : Nat} {s : Sd} {base : Int} {vt : Value} {aw : Option Addr} {nw cw : Nat} {vg : Value} {βt βg : Option Nat} {G : List El} {bo m n : Nat} {o : OpE} (hf : FitO n o) (hv : VO o) (K : SC T wa x z s.d ⟨s.f, s.q, s.made⟩ s.made s.took base s.way vt aw nw cw vg βt βg G) (hG : G.length ≤ m) (ho : ∀ k, T k → B ≤ k ∧ k < w.heap.size) (hbo : w.heap.size < bo) (bw : Below w.heap.size w wa) (hF : Fr (· = bo) wa wx) (hX : wx.heap[bo]? = some (.cells (opc o).toArray 29 (0, 0))) : MK T w wx x z s base vt aw nw cw βt bo m n := by
  have hz := hF.size
  have hw := bw.size
  refine ⟨o, T, vg, βg, G, hf, hv, K.fr hF (fun j hj he => by have := (ho j hj).2; omega), by omega, fun k hk => hk, fun k hk => ⟨.inl hk, by have := (ho k hk).2; omega, by have := (ho k hk).2; omega⟩, hX, (Fr.of_below bw).next hF (fun j hj he => by omega)⟩

end Go.Proofs.YtmbnimlibnheeaaDoor
