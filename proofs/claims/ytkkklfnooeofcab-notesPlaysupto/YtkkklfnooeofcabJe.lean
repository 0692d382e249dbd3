/-
  The document's board: one note turned; Shut.
-/
import Derived.Test.YtkkklfnooeofcabJd
import Derived.Test.YtkkklfnooeofcabMRa
namespace Go.Proofs.Ytkkklfnooeofcab
open Go.RowKit Go.Lib
set_option linter.unusedVariables false

section
variable {α : Type} {f : α → List Value} {k : Nat} {e : TypeId}
theorem cl_setk (hz : Sz f k) : ∀ (xs : List α) (i j : Nat) (u : Value) (x : α) (hi : i < xs.length), j < k → f x = (f xs[i]).set j u → (cl f xs).set (i * k + j) u = cl f (xs.set i x)
  | y :: ys, 0, j, u, x, hi, hj, hx => by
    rw [Nat.zero_mul, Nat.zero_add, cl_cons, List.set_cons_zero, cl_cons, List.set_append_left _ _ (by rw [(hz y).1]; exact hj), hx]
    rfl
  | y :: ys, i + 1, j, u, x, hi, hj, hx => by
    have h1 : (i + 1) * k + j = k + (i * k + j) := by rw [Nat.add_mul]; omega
    rw [h1, cl_cons, List.set_cons_succ, cl_cons, List.set_append_right _ _ (by rw [(hz y).1]; omega), (hz y).1, Nat.add_sub_cancel_left, cl_setk hz ys i j u x (by simpa using hi) hj (by simpa using hx)]
/-- One cell of an element is stored. -/
theorem SF.setk {w : World} {g : Nat} {v : Value} {xs : List α} (h : SF f k w e (some g) v xs) (hz : Sz f k) (i j : Nat) (u : Value) (x : α) (hi : i < xs.length) (hj : j < k) (hx : f x = (f xs[i]).set j u) : SF f k (w.setCell ⟨g, i * k + j, none⟩ u) e (some g) v (xs.set i x) := by
  obtain ⟨cap, hv, cur, hh, ht, hl, hc1, hc2, hcs⟩ := h
  refine ⟨cap, by rw [List.length_set]; exact hv, cur.set (i * k + j) u, ?_, ?_, rfl, by rw [List.length_set]; exact hc1, hc2, by rw [List.length_set]; exact hcs⟩
  · rw [set_row hh _ u, List.setIfInBounds_toArray]
  · rw [List.length_set, List.take_set, ht, cl_setk hz xs i j u x hi hj hx]
theorem SF.frozen {w : World} {g : Nat} {v : Value} {xs : List α} (h : SF f k w e (some g) v xs) (i : Nat) : w.frozen? ⟨g, i, none⟩ = false := by
  obtain ⟨cur, hh⟩ := h.blk
  exact frozen_row hh i
theorem SF.cell {w : World} {g : Nat} {v : Value} {xs : List α} (h : SF f k w e (some g) v xs) (hz : Sz f k) (i j : Nat) (hi : i < xs.length) (hj : j < k) : w.cell? ⟨g, i * k + j, none⟩ = (f xs[i])[j]? := by
  obtain ⟨cap, hv, hR⟩ := h
  exact hR.cell hz i j hi hj
end


theorem split_r {A B : List Nt} {n : Nt} {ps : List RN} (e : A ++ n :: B = ps.map RN.n) : ∃ A' B' p, ps = A' ++ p :: B' ∧ A'.map RN.n = A ∧ p.n = n ∧ B'.map RN.n = B := by
  obtain ⟨A', C, rfl, h1, h2⟩ := List.map_eq_append_iff.1 e.symm
  obtain ⟨p, B', rfl, h3, h4⟩ := List.map_eq_cons_iff.1 h2
  exact ⟨A', B', p, rfl, h1, h3, h4⟩
theorem set_mid {α : Type} (A B : List α) (p q : α) : (A ++ p :: B).set A.length q = A ++ q :: B := by
  rw [List.set_append_right _ _ (Nat.le_refl _), Nat.sub_self, List.set_cons_zero]
theorem get_mid {α : Type} (A B : List α) (p : α) (h : A.length < (A ++ p :: B).length) : (A ++ p :: B)[A.length] = p := by
  rw [List.getElem_append_right (Nat.le_refl _)]
  simp

/-- One note turned: its cells in the row of notes, and the row of its answers. -/
theorem RBK.turn {w u : World} {O : Nat → Prop} {r g b : Nat} {v : Value} {A B : List RN} {p q : RN} (h : RBK w O r g (some b) v (A ++ p :: B)) (hF : Fr (fun k => k = b ∨ p.ρ = some k) w u) (hrow : SF rnc 6 u 93 (some b) v (A ++ q :: B)) (hq : RK u q) (hid : q.n.id = p.n.id) (hε : q.ε = p.ε) (hρ : ∀ k, q.ρ = some k → p.ρ = some k ∨ w.heap.size ≤ k) :
    NowR w u O r g ((A ++ q :: B).map RN.n) := by
  have hp := h.rk p (by simp)
  have hpo := h.on p (by simp)
  obtain ⟨cb, hb⟩ := h.row.blk
  have hR : ∀ k, p.ρ = some k → ∃ cur, w.heap[k]? = some (.cells cur 90 (0, 0)) := fun k hk => by
    have := hp.sd
    rw [hk] at this
    exact this.blk
  have hnS : ∀ k cs t, w.heap[k]? = some (.cells cs t (0, 0)) → t ≠ 93 → t ≠ 90 → ¬ (k = b ∨ p.ρ = some k) := by
    rintro k cs t hk h1 h2 (e | e)
    · exact ty_ne hk hb h1 e
    · obtain ⟨cur, hc⟩ := hR k e
      exact ty_ne hk hc h2 rfl
  obtain ⟨d1, d2, d3⟩ := List.pairwise_append.1 h.dis
  obtain ⟨d4, d5⟩ := List.pairwise_cons.1 d2
  obtain ⟨i1, i2, i3⟩ := List.pairwise_append.1 h.ids
  obtain ⟨i4, i5⟩ := List.pairwise_cons.1 i2
  have dA : ∀ x ∈ A, ∀ k, x.ρ = some k → p.ρ ≠ some k := fun x hx => d3 x hx p (by simp)
  have mem : ∀ x, x ∈ A ++ q :: B → x = q ∨ (x ∈ A ++ p :: B ∧ ∀ k, x.ρ = some k → p.ρ ≠ some k) := by
    intro x hx
    simp only [List.mem_append, List.mem_cons] at hx
    rcases hx with hx | hx | hx
    · exact .inr ⟨by simp [hx], dA x hx⟩
    · exact .inl hx
    · exact .inr ⟨by simp [hx], fun k hk e => d4 x hx k e hk⟩
  have hqn : ∀ x ∈ A ++ p :: B, (∀ k, x.ρ = some k → p.ρ ≠ some k) → ∀ k, x.ρ = some k → q.ρ ≠ some k := by
    intro x hx hn k hk e
    rcases hρ k e with e2 | e2
    · exact hn k hk e2
    · have := h.old k ((h.on x hx).2 k hk)
      omega
  refine ⟨fun k => O k ∨ q.ρ = some k, ⟨some b, v, A ++ q :: B, rfl, ?_, hrow, ?_, ?_, .inl h.orr, fun k hk => .inl (h.ob k hk), ?_, ?_, ?_, ?_, h.le⟩, ?_, ?_⟩
  · exact hF.keeps h.box (hnS _ _ _ h.box (by decide) (by decide))
  · intro x hx
    rcases mem x hx with e | ⟨hx, hn⟩
    · subst e; exact hq
    · have hk := h.rk x hx
      refine hk.fr hF (fun k e => ?_) (fun k e => ?_)
      · have := hk.el
        rw [e] at this
        obtain ⟨cur, hc⟩ := this.blk
        exact hnS _ _ _ hc (by decide) (by decide)
      · rintro (e2 | e2)
        · have := hk.sd
          rw [e] at this
          obtain ⟨cur, hc⟩ := this.blk
          exact ty_ne hc hb (by decide) e2
        · exact hn k e e2
  · refine List.pairwise_append.2 ⟨d1, List.pairwise_cons.2 ⟨fun x hx k hk e => ?_, d5⟩, fun x hx y hy => ?_⟩
    · exact hqn x (by simp [hx]) (fun k hk e => d4 x hx k e hk) k e hk
    · rcases List.mem_cons.1 hy with e | hy
      · subst e
        exact hqn x (by simp [hx]) (dA x hx)
      · exact d3 x hx y (by simp [hy])
  · intro x hx
    rcases mem x hx with e | ⟨hx, hn⟩
    · subst e
      exact ⟨fun k hk => .inl (hpo.1 k (by rw [← hε]; exact hk)), fun k hk => .inr hk⟩
    · exact ⟨fun k hk => .inl ((h.on x hx).1 k hk), fun k hk => .inl ((h.on x hx).2 k hk)⟩
  · rintro k (hk | hk)
    · exact Nat.lt_of_lt_of_le (h.old k hk) hF.size
    · have := hq.sd
      rw [hk] at this
      obtain ⟨cur, hc⟩ := this.blk
      exact block_lt hc
  · refine List.pairwise_append.2 ⟨i1, List.pairwise_cons.2 ⟨fun x hx => by rw [hid]; exact i4 x hx, i5⟩, fun x hx y hy => ?_⟩
    rcases List.mem_cons.1 hy with e | hy
    · subst e
      rw [hid]
      exact i3 x hx p (by simp)
    · exact i3 x hx y (by simp [hy])
  · intro x hx
    rcases mem x hx with e | ⟨hx, -⟩
    · subst e
      rw [hid]
      exact h.bd p (by simp)
    · exact h.bd x hx
  · rintro k (hk | hk)
    · exact .inl hk
    · rcases hρ k hk with e | e
      · exact .inl (hpo.2 k e)
      · exact .inr e
  · refine hF.mono (fun k _ hk => ?_)
    rcases hk with e | e
    · subst e; exact h.ob _ rfl
    · exact hpo.2 k e

set_option maxRecDepth 100000 in
set_option maxHeartbeats 1000000 in
theorem rshut_none (O : Nat → Prop) (r g : Nat) (Ns : List Nt) (k : Int) (w : World) (h : RBD w O r g Ns) (hn : ∀ n ∈ Ns, (n.id : Int) ≠ k) :
    Calls Try.prog 35 #[.pointer (some ⟨r, 0, none⟩), .int .i64 k] w fun e w' => e = .returned (.int .i64 232) ∧ w' = w := by
  have CF := hd (rfind_none O r g Ns k w h hn)
  clear h hn
  go_enter Try.func35, Try.ntmps35
  go_upto_region 2 with (go_at_call 39; refine CF.out.mono ?_; rintro e w1 ⟨rfl, rfl⟩)
  go_wp2
  go_ret
  exact ⟨rfl, rfl⟩

set_option maxRecDepth 100000 in
set_option maxHeartbeats 1000000 in
theorem rshut_bad (O : Nat → Prop) (r g : Nat) (A B : List Nt) (n : Nt) (w : World) (h : RBD w O r g (A ++ n :: B)) (hn : n.sh = true) :
    Calls Try.prog 35 #[.pointer (some ⟨r, 0, none⟩), .int .i64 (n.id : Int)] w fun e w' => e = .returned (.int .i64 233) ∧ w' = w := by
  have CF := hd (rfind_hit O r g A B n w h)
  obtain ⟨β, v, ps, e, hK⟩ := h
  obtain ⟨A', B', p, rfl, rfl, rfl, rfl⟩ := split_r e
  obtain ⟨a, c, hv, c0, -, hc1, hc2, hr⟩ := hK.len
  have hle := hK.lele
  have hal : A'.length < (A' ++ p :: B').length := by simp
  obtain ⟨b, c', hb, hv', hcell⟩ := hK.at A'.length hal
  rw [get_mid] at hcell
  rw [hv'] at hv
  injection hv with v1 v2 v3
  subst v1
  have d4 := hcell 4 (.bool p.n.sh) (by omega) rfl
  rw [hn] at d4
  obtain ⟨N, hN⟩ : ∃ N, (A' ++ p :: B').length = N := ⟨_, rfl⟩
  rw [List.length_map] at CF
  rw [hN] at c0 hal hc1 hle
  obtain ⟨m, hm⟩ : ∃ m, A'.length = m := ⟨_, rfl⟩
  rw [hm] at CF d4 hal
  have j1 : (m : Int) < (N : Int) := by omega
  have j2 : ¬ (m : Int) < 0 := by omega
  generalize p.n.id = id at *
  clear hcell hK e hN hm hb hv' v3
  go_enter Try.func35, Try.ntmps35
  go_upto_region 2 with (go_at_call 39; refine CF.out.mono ?_; rintro e w1 ⟨rfl, rfl⟩)
  go_wp2
  go_ret
  exact ⟨rfl, rfl⟩

set_option maxRecDepth 100000 in
set_option maxHeartbeats 1000000 in
theorem rshut_good (O : Nat → Prop) (r g : Nat) (A B : List Nt) (n : Nt) (w : World) (h : RBD w O r g (A ++ n :: B)) (hn : n.sh = false) :
    Calls Try.prog 35 #[.pointer (some ⟨r, 0, none⟩), .int .i64 (n.id : Int)] w fun e w' => e = .returned (.int .i64 0) ∧ NowR w w' O r g (A ++ { n with sh := true } :: B) := by
  have CF := hd (rfind_hit O r g A B n w h)
  obtain ⟨β, v, ps, e, hK⟩ := h
  obtain ⟨A', B', p, rfl, rfl, rfl, rfl⟩ := split_r e
  obtain ⟨a, c, hv, c0, -, hc1, hc2, hr⟩ := hK.len
  have hle := hK.lele
  have hal : A'.length < (A' ++ p :: B').length := by simp
  obtain ⟨b, c', hb, hv', hcell⟩ := hK.at A'.length hal
  rw [get_mid] at hcell
  subst hb
  have z4 := hK.row.frozen (A'.length * 6 + 4)
  have Z : Hid (NowR w (w.setCell ⟨b, A'.length * 6 + 4, none⟩ (.bool true)) O r g (A'.map RN.n ++ { p.n with sh := true } :: B'.map RN.n)) := by
    have hF : Fr (· = b) w (w.setCell ⟨b, A'.length * 6 + 4, none⟩ (.bool true)) := Fr.setCell w ⟨b, A'.length * 6 + 4, none⟩ _ rfl
    have hp := hK.rk p (by simp)
    obtain ⟨cb, hcb⟩ := hK.row.blk
    have hq : RK (w.setCell ⟨b, A'.length * 6 + 4, none⟩ (.bool true)) { p with n := { p.n with sh := true } } := by
      refine (RK.fr hp hF (fun k hk e => ?_) (fun k hk e => ?_) |> fun h => ⟨h.el, h.sd, h.wf⟩)
      · have hs := hp.el
        rw [hk] at hs
        obtain ⟨cur, hc⟩ := hs.blk
        exact ty_ne hc hcb (by decide) e
      · have hs := hp.sd
        rw [hk] at hs
        obtain ⟨cur, hc⟩ := hs.blk
        exact ty_ne hc hcb (by decide) e
    have hrow := hK.row.setk sz_rnc A'.length 4 (.bool true) { p with n := { p.n with sh := true } } hal (by omega) (by rw [get_mid]; rfl)
    rw [set_mid] at hrow
    have := hK.turn (hF.mono (fun k _ hk => .inl hk)) hrow hq rfl rfl (fun k hk => .inl hk)
    rw [List.map_append, List.map_cons] at this
    exact this
  rw [hv'] at hv
  injection hv with v1 v2 v3
  subst v1
  have d4 := hcell 4 (.bool p.n.sh) (by omega) rfl
  rw [hn] at d4
  obtain ⟨N, hN⟩ : ∃ N, (A' ++ p :: B').length = N := ⟨_, rfl⟩
  rw [List.length_map] at CF
  rw [hN] at c0 hal hc1 hle
  have j1 : (A'.length : Int) < (N : Int) := by omega
  have j2 : ¬ (A'.length : Int) < 0 := by omega
  clear hcell hK e hN hv' v3
  generalize A'.length = m at *
  go_enter Try.func35, Try.ntmps35
  go_upto_region 2 with (go_at_call 39; refine CF.out.mono ?_; rintro e w1 ⟨rfl, rfl⟩)
  go_wp2
  go_ret
  exact ⟨rfl, Z.out⟩
end Go.Proofs.Ytkkklfnooeofcab
