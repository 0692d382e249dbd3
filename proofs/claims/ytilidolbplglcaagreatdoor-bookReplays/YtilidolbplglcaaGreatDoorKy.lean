/-
  Of the law: Shelf: the regions whose order is drawn (by wip/tools/gen/bkshelf.py).
-/
import Derived.Test.YtilidolbplglcaaGreatDoorMKw
namespace Go.Proofs.YtilidolbplglcaaGreatDoor
open Go.RowKit Go.Shelf
set_option linter.unusedVariables false

/-- What has come up: every slot has its value; the world is that behind the effects that have come up. -/
structure JW (ops : Array Oper) (σ : Nat → Nat) (N : Nat) (V : Nat → Value) (a0 : Act) (es : Nat → Nat) (m : Nat) (Ws : Nat → World) (L : Nat → Prop) (a : Act) (u : World) : Prop where
  fe : Fe a0 a ((List.range N).map σ)
  e : ∀ j, j < N → L j → a.eval (.tmp (σ j)) = V j
  dc : Dc ops L
  st : ∀ s, s ≤ m → (∀ t, t < s → L (es t)) → (∀ t, s ≤ t → t < m → ¬ L (es t)) → u = Ws s
section
variable {ops : Array Oper} {σ : Nat → Nat} {N : Nat} {V : Nat → Value} {a0 : Act} {es : Nat → Nat} {m : Nat} {Ws : Nat → World} {L L' : Nat → Prop} {a : Act} {u : World} {i : Nat} {o : Oper}
theorem JW.down (h : JW ops σ N V a0 es m Ws L a u) (hch : ∀ s, s + 1 < m → anc ops 40 (es (s + 1)) (es s) = true) : ∀ s t, t ≤ s → s < m → L (es s) → L (es t)
  | 0, t, ht, hs, hl => by obtain rfl : t = 0 := by omega
                           exact hl
  | s + 1, t, ht, hs, hl => by
    by_cases e : t = s + 1
    · subst e; exact hl
    · exact h.down hch s t (by omega) (by omega) (anc_spec h.dc _ _ _ (hch s hs) hl)
theorem JW.at (h : JW ops σ N V a0 es m Ws L a u) (hch : ∀ s, s + 1 < m → anc ops 40 (es (s + 1)) (es s) = true) : ∃ s, s ≤ m ∧ u = Ws s ∧ (∀ t, t < s → L (es t)) ∧ ∀ t, s ≤ t → t < m → ¬ L (es t) := by
  have key : ∀ n, n ≤ m → ∃ s, s ≤ n ∧ (∀ t, t < s → L (es t)) ∧ ∀ t, s ≤ t → t < n → ¬ L (es t) := by
    intro n
    induction n with
    | zero => intro _; exact ⟨0, Nat.le_refl _, fun t ht => by omega, fun t _ ht => by omega⟩
    | succ n ih =>
      intro hn
      obtain ⟨s, h1, h2, h3⟩ := ih (by omega)
      by_cases hl : L (es n)
      · refine ⟨n + 1, Nat.le_refl _, fun t ht => h.down hch n t (by omega) (by omega) hl, fun t h4 h5 => by omega⟩
      · refine ⟨s, by omega, h2, fun t h4 h5 => ?_⟩
        by_cases e : t = n
        · subst e; exact hl
        · exact h3 t h4 (by omega)
  obtain ⟨s, h1, h2, h3⟩ := key m (Nat.le_refl _)
  exact ⟨s, h1, h.st s h1 h2 h3, h2, h3⟩
theorem JW.next (h : JW ops σ N V a0 es m Ws L a u) (ho : ops[i]? = some o) (hall : ∀ e ∈ o.after, Region.binds .any e = true → L e.on) (hi : i < N) (hq : ∀ t, t < m → es t ≠ i) (hinj : ∀ i j, i < N → j < N → σ i = σ j → i = j) (hz : ∀ j, j < N → σ j < a0.tmps.size) (hu : ∀ j, L' j ↔ (j = i ∨ L j)) : JW ops σ N V a0 es m Ws L' (a.put (some (σ i)) (V i)) u := by
  have le : ∀ t, t < m → (L' (es t) ↔ L (es t)) := fun t ht => by rw [hu]; exact ⟨fun h => h.resolve_left (hq t ht), .inr⟩
  refine ⟨h.fe.put (List.mem_map.2 ⟨i, List.mem_range.2 hi, rfl⟩) _, fun j hj hl => ?_, h.dc.next ho hall hu, fun s hs h1 h2 => h.st s hs (fun t ht => (le t (by omega)).1 (h1 t ht)) (fun t h3 h4 hl => h2 t h3 h4 ((le t h4).2 hl))⟩
  by_cases e : j = i
  · subst e
    exact ev_eq _ _ (by rw [h.fe.sz]; exact hz j hj)
  · exact (ev_ne _ _ (fun he => e (hinj j i hj hi he))).trans (h.e j hj (((hu j).1 hl).resolve_left e))
/-- The world ahead of an effect. -/
theorem JW.now (h : JW ops σ N V a0 es m Ws L a u) (hch : ∀ s, s + 1 < m → anc ops 40 (es (s + 1)) (es s) = true) (s : Nat) (hs : s < m) (hp : ∀ t, t + 1 = s → L (es t)) (hno : ¬ L (es s)) : u = Ws s :=
  h.st s (by omega) (fun t ht => by
    cases s with
    | zero => omega
    | succ s => exact h.down hch s t (by omega) (by omega) (hp s rfl)) (fun t h1 h2 hl => hno (h.down hch t s h1 h2 hl))
theorem JW.eff {a' : Act} (h : JW ops σ N V a0 es m Ws L a u) (hch : ∀ s, s + 1 < m → anc ops 40 (es (s + 1)) (es s) = true) (s : Nat) (hs : s < m) (ho : ops[es s]? = some o) (hall : ∀ e ∈ o.after, Region.binds .any e = true → L e.on) (hno : ¬ L (es s)) (hie : ∀ t t', t < m → t' < m → es t = es t' → t = t') (hu : ∀ j, L' j ↔ (j = es s ∨ L j)) (hfe : Fe a0 a' ((List.range N).map σ)) (he : ∀ j, j < N → L' j → a'.eval (.tmp (σ j)) = V j) : JW ops σ N V a0 es m Ws L' a' (Ws (s + 1)) := by
  refine ⟨hfe, he, h.dc.next ho hall hu, fun s' hs' h1 h2 => ?_⟩
  have l1 : L' (es s) := (hu _).2 (.inl rfl)
  by_cases e1 : s' ≤ s
  · exact absurd l1 (h2 s e1 hs)
  · by_cases e2 : s' = s + 1
    · rw [e2]
    · exfalso
      have h3 := h1 (s + 1) (by omega)
      rcases (hu _).1 h3 with h4 | h4
      · have := hie _ _ (by omega) hs h4; omega
      · exact hno (h.down hch (s + 1) s (by omega) (by omega) h4)
theorem JW.effV (h : JW ops σ N V a0 es m Ws L a u) (hch : ∀ s, s + 1 < m → anc ops 40 (es (s + 1)) (es s) = true) (s : Nat) (hs : s < m) (hN : es s < N) (ho : ops[es s]? = some o) (hall : ∀ e ∈ o.after, Region.binds .any e = true → L e.on) (hno : ¬ L (es s)) (hie : ∀ t t', t < m → t' < m → es t = es t' → t = t') (hinj : ∀ i j, i < N → j < N → σ i = σ j → i = j) (hz : ∀ j, j < N → σ j < a0.tmps.size) (hu : ∀ j, L' j ↔ (j = es s ∨ L j)) : JW ops σ N V a0 es m Ws L' (a.put (some (σ (es s))) (V (es s))) (Ws (s + 1)) := by
  refine h.eff hch s hs ho hall hno hie hu (h.fe.put (List.mem_map.2 ⟨es s, List.mem_range.2 hN, rfl⟩) _) (fun j hj hl => ?_)
  by_cases e : j = es s
  · subst e
    exact ev_eq _ _ (by rw [h.fe.sz]; exact hz _ hj)
  · exact (ev_ne _ _ (fun he => e (hinj j _ hj hN he))).trans (h.e j hj (((hu j).1 hl).resolve_left e))
theorem JW.effN (h : JW ops σ N V a0 es m Ws L a u) (hch : ∀ s, s + 1 < m → anc ops 40 (es (s + 1)) (es s) = true) (s : Nat) (hs : s < m) (hN : es s = N) (ho : ops[es s]? = some o) (hall : ∀ e ∈ o.after, Region.binds .any e = true → L e.on) (hno : ¬ L (es s)) (hie : ∀ t t', t < m → t' < m → es t = es t' → t = t') (hu : ∀ j, L' j ↔ (j = es s ∨ L j)) : JW ops σ N V a0 es m Ws L' a (Ws (s + 1)) :=
  h.eff hch s hs ho hall hno hie hu h.fe (fun j hj hl => h.e j hj (((hu j).1 hl).resolve_left (by omega)))
theorem JW.done (h : JW ops σ N V a0 es m Ws L a u) (hz : ∀ j, j < N → σ j < a0.tmps.size) (hall : ∀ t, t < m → L (es t)) : (∃ V' : Nat → Value, a = puts a0 ((List.range N).map fun j => (σ j, V' j))) ∧ u = Ws m := by
  refine ⟨⟨fun j => a.eval (.tmp (σ j)), ?_⟩, h.st m (Nat.le_refl _) hall (fun t h1 h2 => by omega)⟩
  refine Fe.puts _ a0 a (by rw [List.map_map]; exact h.fe) (fun p hp => ?_)
  obtain ⟨j, hj, rfl⟩ := List.mem_map.1 hp
  exact ⟨hz j (List.mem_range.1 hj), rfl⟩
end

noncomputable def opsE8 : Array Oper := (Tryz.f9.body.bind (opsAt 8)).getD #[]
theorem opsE8_size : opsE8.size = 13 := by kernel_rfl
theorem opsE8_earlier : Earlier opsE8 := by
  have h : (List.range 13).all (fun i => ((opsE8[i]?).map (fun o => o.after.all (fun e => !Region.binds .any e || decide (e.on < i)))).getD true) = true := by kernel_rfl
  intro i o ho e he hb
  have hi : i < 13 := by
    have := (Array.getElem?_eq_some_iff.1 ho).1
    rwa [opsE8_size] at this
  have h1 := List.all_eq_true.1 h i (List.mem_range.2 hi)
  rw [ho] at h1
  simp only [Option.map_some, Option.getD_some, Array.all_eq_true'] at h1
  have h2 := h1 e he
  rw [hb] at h2
  simpa using h2
def slshE8 (j : Nat) : Nat := ([46, 47, 48, 49, 50, 51, 52, 53, 54, 55, 56, 57] : List Nat).getD j 0
def VshE8 (w : World) (sx : Nat) (v vW vc vn : Value) (W2 W4 : World) (j : Nat) : Value := [.pointer (some ⟨sx, 0, none⟩), .pointer (some ⟨sx, 0, none⟩), .pointer (some ⟨sx, 0, none⟩), .pointer (some ⟨sx, 1, none⟩), vW, .slice (some ⟨w.heap.size, 0, none⟩) 0 0, v, vc, .slice (some ⟨W2.heap.size, 0, none⟩) 1 1, vn, .pointer (some ⟨sx, 0, none⟩), .pointer (some ⟨sx, 1, none⟩)].getD j (.bool false)
def WshE8 (w : World) (sx : Nat) (v vW vc vn : Value) (W2 W4 : World) (s : Nat) : World := [w.drew, (w.drew.alloc (.cells #[] 48)), W2, (W2.alloc (.cells #[vc] 22)), W4, W4.setCell ⟨sx, 1, none⟩ vn].getD s w
def EshE8 (t : Nat) : Nat := ([5, 7, 8, 9, 12] : List Nat).getD t 0

set_option maxRecDepth 100000 in
set_option maxHeartbeats 4000000 in
theorem shE8 (a0 : Act) (w : World) {Q : Exit → Act → World → Prop} (sx : Nat) (v vW vc vn : Value) (W2 W4 : World) (h0 : a0.eval (.tmp 0) = .pointer (some ⟨sx, 0, none⟩)) (h1 : a0.eval (.tmp 1) = v) (hzz : 57 < a0.tmps.size)
    (hvc : ∃ a n c, vc = .slice a n c) (hvn : ∃ a n c, vn = .slice a n c)
    (hG : ∀ s, s ≤ 4 → (WshE8 w sx v vW vc vn W2 W4 s).cell? ⟨sx, 1, none⟩ = some vW ∧ (WshE8 w sx v vW vc vn W2 W4 s).frozen? ⟨sx, 1, none⟩ = false)
    (hA1 : ∀ ty, (Builtin.append_ #[22, 22] ty #[.slice (some ⟨w.heap.size, 0, none⟩) 0 0, v]).run Tryz.prog (w.drew.alloc (.cells #[] 48)) = .ok vc W2)
    (hA2 : ∀ ty, (Builtin.append_ #[35, 35] ty #[vW, .slice (some ⟨W2.heap.size, 0, none⟩) 1 1]).run Tryz.prog (W2.alloc (.cells #[vc] 22)) = .ok vn W4)
    (hK : ∀ (V' : Nat → Value), Q .normal (puts a0 ((List.range 12).map fun j => (slshE8 j, V' j))) (W4.setCell ⟨sx, 1, none⟩ vn)) :
    (Code.region 8 opsE8 true).wp Tryz.prog Q a0 w := by
  have inj : ∀ i j, i < 12 → j < 12 → slshE8 i = slshE8 j → i = j := by
    have h : (List.range 12).all (fun i => (List.range 12).all (fun j => decide (slshE8 i = slshE8 j → i = j))) = true := by kernel_rfl
    intro i j hi hj he
    have h1 := List.all_eq_true.1 h i (List.mem_range.2 hi)
    have h2 := List.all_eq_true.1 h1 j (List.mem_range.2 hj)
    exact (of_decide_eq_true h2) he
  have hz : ∀ j, j < 12 → slshE8 j < a0.tmps.size := by
    have h : (List.range 12).all (fun i => decide (slshE8 i ≤ 57)) = true := by kernel_rfl
    intro j hj
    have := of_decide_eq_true (List.all_eq_true.1 h j (List.mem_range.2 hj))
    omega
  have hie : ∀ t t', t < 5 → t' < 5 → EshE8 t = EshE8 t' → t = t' := by
    have h : (List.range 5).all (fun i => (List.range 5).all (fun j => decide (EshE8 i = EshE8 j → i = j))) = true := by kernel_rfl
    intro i j hi hj he
    exact (of_decide_eq_true (List.all_eq_true.1 (List.all_eq_true.1 h i (List.mem_range.2 hi)) j (List.mem_range.2 hj))) he
  have hch : ∀ s, s + 1 < 5 → anc opsE8 40 (EshE8 (s + 1)) (EshE8 s) = true := by
    have h : (List.range 4).all (fun s => anc opsE8 40 (EshE8 (s + 1)) (EshE8 s)) = true := by kernel_rfl
    intro s hs
    exact List.all_eq_true.1 h s (List.mem_range.2 (by omega))
  have hqq : ∀ i, (List.range 5).all (fun t => decide (EshE8 t ≠ i)) = true → ∀ t, t < 5 → EshE8 t ≠ i := fun i h t ht => of_decide_eq_true (List.all_eq_true.1 h t (List.mem_range.2 ht))
  refine wp_region_inv (by kernel_rfl) opsE8_earlier (fun L a u => JW opsE8 slshE8 12 (VshE8 w sx v vW vc vn W2 W4) a0 EshE8 5 (WshE8 w sx v vW vc vn W2 W4) L a u) ?_ ?_ ?_
  · rintro L L' a' u i o h ho hno hall hu
    clear hK
    have q0 := (h.fe.ev (j := 0) (by decide)).trans h0
    have q1 := (h.fe.ev (j := 1) (by decide)).trans h1
    have E := h.e
    have hi : i < 13 := by
      have := (Array.getElem?_eq_some_iff.1 ho).1
      rwa [opsE8_size] at this
    match i, hi with
    | 0, _ =>
      refine og_move (g := none) ho (.tmp 0) (d := some 46) (by kernel_rfl) trivial q0 ?_
      exact h.next (i := 0) ho hall (by decide) (hqq 0 (by kernel_rfl)) inj hz hu
    | 1, _ =>
      refine og_move (g := none) ho (.tmp 0) (d := some 47) (by kernel_rfl) trivial q0 ?_
      exact h.next (i := 1) ho hall (by decide) (hqq 1 (by kernel_rfl)) inj hz hu
    | 2, _ =>
      refine og_nil (g := none) ho (.tmp 47) (d := some 48) (by kernel_rfl) trivial (show a'.eval (.tmp 47) = .pointer (some ⟨sx, 0, none⟩) from E 1 (by decide) (dep ho hall 1 (by kernel_rfl))) ?_
      exact h.next (i := 2) ho hall (by decide) (hqq 2 (by kernel_rfl)) inj hz hu
    | 3, _ =>
      obtain ⟨h1, h2, h3⟩ := flds (d := some 49) (p := Op.fieldAddr 38 (.tmp 48) 1) (g := none) ho (by kernel_rfl)
      have g0 := (show a'.eval (.tmp 48) = .pointer (some ⟨sx, 0, none⟩) from E 2 (by decide) (dep ho hall 2 (by kernel_rfl)))
      refine og_plain ho h3 trivial ?_
      unfold Oper.wp
      simp only [execOp, h2, g0]
      go_simp
      exact h.next (i := 3) ho hall (by decide) (hqq 3 (by kernel_rfl)) inj hz hu
    | 4, _ =>
      obtain ⟨h1, h2, h3⟩ := flds (d := some 50) (p := Op.load 35 (.tmp 49)) (g := none) ho (by kernel_rfl)
      have g0 := (show a'.eval (.tmp 49) = .pointer (some ⟨sx, 1, none⟩) from E 3 (by decide) (dep ho hall 3 (by kernel_rfl)))
      obtain ⟨s, hs, hus, hl, -⟩ := h.at hch
      have hs4 : s ≤ 4 := by
        rcases Nat.lt_or_ge s 5 with h5 | h5
        · omega
        · exact absurd (anc_spec h.dc 40 12 4 (by kernel_rfl) (hl 4 (by omega))) hno
      have c0 := (hG s hs4).1
      rw [← hus] at c0
      clear hus
      refine og_plain ho h3 trivial ?_
      unfold Oper.wp
      simp only [execOp, h2, g0]
      go_simp
      exact h.next (i := 4) ho hall (by decide) (hqq 4 (by kernel_rfl)) inj hz hu
    | 5, _ =>
      obtain ⟨h1, h2, h3⟩ := flds (d := some 51) (p := Op.buildSlice 22 0 #[]) (g := none) ho (by kernel_rfl)
      obtain rfl := h.now hch 0 (by decide) (fun t ht => by omega) hno
      refine og_plain ho h3 trivial ?_
      unfold Oper.wp
      simp only [execOp, h2]
      simp only [WshE8, List.getD_cons_zero]
      go_simp
      exact h.effV hch 0 (by decide) (by decide) ho hall hno hie inj hz hu
    | 6, _ =>
      refine og_move (g := none) ho (.tmp 1) (d := some 52) (by kernel_rfl) trivial q1 ?_
      exact h.next (i := 6) ho hall (by decide) (hqq 6 (by kernel_rfl)) inj hz hu
    | 7, _ =>
      obtain rfl := h.now hch 1 (by decide) (fun t ht => by (have e5 : t = 0 := by omega); subst e5; exact dep ho hall 5 (by kernel_rfl)) hno
      refine og_app (g := none) ho (.tmp 51) (.tmp 52) 22 (d := some 53) (by kernel_rfl) trivial (show a'.eval (.tmp 51) = .slice (some ⟨w.heap.size, 0, none⟩) 0 0 from E 5 (by decide) (dep ho hall 5 (by kernel_rfl))) (show a'.eval (.tmp 52) = v from E 6 (by decide) (dep ho hall 6 (by kernel_rfl))) hA1 ?_
      exact h.effV hch 1 (by decide) (by decide) ho hall hno hie inj hz hu
    | 8, _ =>
      obtain ⟨h1, h2, h3⟩ := flds (d := some 54) (p := Op.buildSlice 35 1 #[(0, .tmp 53)]) (g := none) ho (by kernel_rfl)
      have g0 := (show a'.eval (.tmp 53) = vc from E 7 (by decide) (dep ho hall 7 (by kernel_rfl)))
      obtain ⟨ca, cn, cc, rfl⟩ := hvc
      have t0 : a'.tmps[53]?.getD undef = .slice ca cn cc := by simpa [Act.eval] using g0
      obtain rfl := h.now hch 2 (by decide) (fun t ht => by (have e5 : t = 1 := by omega); subst e5; exact dep ho hall 7 (by kernel_rfl)) hno
      refine og_plain ho h3 trivial ?_
      unfold Oper.wp
      simp only [execOp, h2]
      go_simp
      exact h.effV hch 2 (by decide) (by decide) ho hall hno hie inj hz hu
    | 9, _ =>
      obtain rfl := h.now hch 3 (by decide) (fun t ht => by (have e5 : t = 2 := by omega); subst e5; exact dep ho hall 8 (by kernel_rfl)) hno
      refine og_app (g := none) ho (.tmp 50) (.tmp 54) 35 (d := some 55) (by kernel_rfl) trivial (show a'.eval (.tmp 50) = vW from E 4 (by decide) (dep ho hall 4 (by kernel_rfl))) (show a'.eval (.tmp 54) = .slice (some ⟨W2.heap.size, 0, none⟩) 1 1 from E 8 (by decide) (dep ho hall 8 (by kernel_rfl))) hA2 ?_
      exact h.effV hch 3 (by decide) (by decide) ho hall hno hie inj hz hu
    | 10, _ =>
      refine og_nil (g := none) ho (.tmp 46) (d := some 56) (by kernel_rfl) trivial (show a'.eval (.tmp 46) = .pointer (some ⟨sx, 0, none⟩) from E 0 (by decide) (dep ho hall 0 (by kernel_rfl))) ?_
      exact h.next (i := 10) ho hall (by decide) (hqq 10 (by kernel_rfl)) inj hz hu
    | 11, _ =>
      obtain ⟨h1, h2, h3⟩ := flds (d := some 57) (p := Op.fieldAddr 38 (.tmp 56) 1) (g := none) ho (by kernel_rfl)
      have g0 := (show a'.eval (.tmp 56) = .pointer (some ⟨sx, 0, none⟩) from E 10 (by decide) (dep ho hall 10 (by kernel_rfl)))
      refine og_plain ho h3 trivial ?_
      unfold Oper.wp
      simp only [execOp, h2, g0]
      go_simp
      exact h.next (i := 11) ho hall (by decide) (hqq 11 (by kernel_rfl)) inj hz hu
    | 12, _ =>
      obtain ⟨h1, h2, h3⟩ := flds (d := none) (p := Op.store 35 (.tmp 57) (.tmp 55)) (g := none) ho (by kernel_rfl)
      have g0 := (show a'.eval (.tmp 57) = .pointer (some ⟨sx, 1, none⟩) from E 11 (by decide) (dep ho hall 11 (by kernel_rfl)))
      have g1 := (show a'.eval (.tmp 55) = vn from E 9 (by decide) (dep ho hall 9 (by kernel_rfl)))
      obtain ⟨na, nn, nc, rfl⟩ := hvn
      have c0 := (hG 4 (by decide)).1
      have c1 := (hG 4 (by decide)).2
      obtain rfl := h.now hch 4 (by decide) (fun t ht => by (have e5 : t = 3 := by omega); subst e5; exact dep ho hall 9 (by kernel_rfl)) hno
      simp only [WshE8, List.getD_cons_zero, List.getD_cons_succ] at c0 c1
      refine og_plain ho h3 trivial ?_
      unfold Oper.wp
      simp only [execOp, h2, g0, g1]
      go_simp
      exact h.effN hch 4 (by decide) rfl ho hall hno hie hu
    | i + 13, hi => omega
  · rintro L a' u h hall
    rw [opsE8_size] at hall
    obtain ⟨⟨V', rfl⟩, rfl⟩ := h.done hz (fun t ht => hall _ (by
      have h2 : (List.range 5).all (fun t => decide (EshE8 t < 13)) = true := by kernel_rfl
      exact of_decide_eq_true (List.all_eq_true.1 h2 t (List.mem_range.2 ht))))
    exact hK V'
  · intro L hL
    exact ⟨Fe.refl _ _, fun j _ hl => absurd hl (hL _), fun j o _ hl => absurd hl (hL _), fun s hs h1 _ => by
      cases s with
      | zero => rfl
      | succ s => exact absurd (h1 s (Nat.lt_succ_self _)) (hL _)⟩

noncomputable def opsE11 : Array Oper := (Tryz.f9.body.bind (opsAt 11)).getD #[]
theorem opsE11_size : opsE11.size = 13 := by kernel_rfl
theorem opsE11_earlier : Earlier opsE11 := by
  have h : (List.range 13).all (fun i => ((opsE11[i]?).map (fun o => o.after.all (fun e => !Region.binds .any e || decide (e.on < i)))).getD true) = true := by kernel_rfl
  intro i o ho e he hb
  have hi : i < 13 := by
    have := (Array.getElem?_eq_some_iff.1 ho).1
    rwa [opsE11_size] at this
  have h1 := List.all_eq_true.1 h i (List.mem_range.2 hi)
  rw [ho] at h1
  simp only [Option.map_some, Option.getD_some, Array.all_eq_true'] at h1
  have h2 := h1 e he
  rw [hb] at h2
  simpa using h2
def slshE11 (j : Nat) : Nat := ([74, 75, 76, 77, 78, 79, 80, 81, 82, 83, 84, 85] : List Nat).getD j 0
def VshE11 (w : World) (sx : Nat) (v vW vc vn : Value) (W2 W4 : World) (j : Nat) : Value := [.pointer (some ⟨sx, 0, none⟩), .pointer (some ⟨sx, 0, none⟩), .pointer (some ⟨sx, 0, none⟩), .pointer (some ⟨sx, 1, none⟩), vW, .slice (some ⟨w.heap.size, 0, none⟩) 0 0, v, vc, .slice (some ⟨W2.heap.size, 0, none⟩) 1 1, vn, .pointer (some ⟨sx, 0, none⟩), .pointer (some ⟨sx, 1, none⟩)].getD j (.bool false)
def WshE11 (w : World) (sx : Nat) (v vW vc vn : Value) (W2 W4 : World) (s : Nat) : World := [w.drew, (w.drew.alloc (.cells #[] 48)), W2, (W2.alloc (.cells #[vc] 22)), W4, W4.setCell ⟨sx, 1, none⟩ vn].getD s w
def EshE11 (t : Nat) : Nat := ([5, 7, 8, 9, 12] : List Nat).getD t 0

set_option maxRecDepth 100000 in
set_option maxHeartbeats 4000000 in
theorem shE11 (a0 : Act) (w : World) {Q : Exit → Act → World → Prop} (sx : Nat) (v vW vc vn : Value) (W2 W4 : World) (h0 : a0.eval (.tmp 0) = .pointer (some ⟨sx, 0, none⟩)) (h6 : a0.eval (.tmp 6) = v) (hzz : 85 < a0.tmps.size)
    (hvc : ∃ a n c, vc = .slice a n c) (hvn : ∃ a n c, vn = .slice a n c)
    (hG : ∀ s, s ≤ 4 → (WshE11 w sx v vW vc vn W2 W4 s).cell? ⟨sx, 1, none⟩ = some vW ∧ (WshE11 w sx v vW vc vn W2 W4 s).frozen? ⟨sx, 1, none⟩ = false)
    (hA1 : ∀ ty, (Builtin.append_ #[22, 22] ty #[.slice (some ⟨w.heap.size, 0, none⟩) 0 0, v]).run Tryz.prog (w.drew.alloc (.cells #[] 48)) = .ok vc W2)
    (hA2 : ∀ ty, (Builtin.append_ #[35, 35] ty #[vW, .slice (some ⟨W2.heap.size, 0, none⟩) 1 1]).run Tryz.prog (W2.alloc (.cells #[vc] 22)) = .ok vn W4)
    (hK : ∀ (V' : Nat → Value), Q .normal (puts a0 ((List.range 12).map fun j => (slshE11 j, V' j))) (W4.setCell ⟨sx, 1, none⟩ vn)) :
    (Code.region 11 opsE11 true).wp Tryz.prog Q a0 w := by
  have inj : ∀ i j, i < 12 → j < 12 → slshE11 i = slshE11 j → i = j := by
    have h : (List.range 12).all (fun i => (List.range 12).all (fun j => decide (slshE11 i = slshE11 j → i = j))) = true := by kernel_rfl
    intro i j hi hj he
    have h1 := List.all_eq_true.1 h i (List.mem_range.2 hi)
    have h2 := List.all_eq_true.1 h1 j (List.mem_range.2 hj)
    exact (of_decide_eq_true h2) he
  have hz : ∀ j, j < 12 → slshE11 j < a0.tmps.size := by
    have h : (List.range 12).all (fun i => decide (slshE11 i ≤ 85)) = true := by kernel_rfl
    intro j hj
    have := of_decide_eq_true (List.all_eq_true.1 h j (List.mem_range.2 hj))
    omega
  have hie : ∀ t t', t < 5 → t' < 5 → EshE11 t = EshE11 t' → t = t' := by
    have h : (List.range 5).all (fun i => (List.range 5).all (fun j => decide (EshE11 i = EshE11 j → i = j))) = true := by kernel_rfl
    intro i j hi hj he
    exact (of_decide_eq_true (List.all_eq_true.1 (List.all_eq_true.1 h i (List.mem_range.2 hi)) j (List.mem_range.2 hj))) he
  have hch : ∀ s, s + 1 < 5 → anc opsE11 40 (EshE11 (s + 1)) (EshE11 s) = true := by
    have h : (List.range 4).all (fun s => anc opsE11 40 (EshE11 (s + 1)) (EshE11 s)) = true := by kernel_rfl
    intro s hs
    exact List.all_eq_true.1 h s (List.mem_range.2 (by omega))
  have hqq : ∀ i, (List.range 5).all (fun t => decide (EshE11 t ≠ i)) = true → ∀ t, t < 5 → EshE11 t ≠ i := fun i h t ht => of_decide_eq_true (List.all_eq_true.1 h t (List.mem_range.2 ht))
  refine wp_region_inv (by kernel_rfl) opsE11_earlier (fun L a u => JW opsE11 slshE11 12 (VshE11 w sx v vW vc vn W2 W4) a0 EshE11 5 (WshE11 w sx v vW vc vn W2 W4) L a u) ?_ ?_ ?_
  · rintro L L' a' u i o h ho hno hall hu
    clear hK
    have q0 := (h.fe.ev (j := 0) (by decide)).trans h0
    have q6 := (h.fe.ev (j := 6) (by decide)).trans h6
    have E := h.e
    have hi : i < 13 := by
      have := (Array.getElem?_eq_some_iff.1 ho).1
      rwa [opsE11_size] at this
    match i, hi with
    | 0, _ =>
      refine og_move (g := none) ho (.tmp 0) (d := some 74) (by kernel_rfl) trivial q0 ?_
      exact h.next (i := 0) ho hall (by decide) (hqq 0 (by kernel_rfl)) inj hz hu
    | 1, _ =>
      refine og_move (g := none) ho (.tmp 0) (d := some 75) (by kernel_rfl) trivial q0 ?_
      exact h.next (i := 1) ho hall (by decide) (hqq 1 (by kernel_rfl)) inj hz hu
    | 2, _ =>
      refine og_nil (g := none) ho (.tmp 75) (d := some 76) (by kernel_rfl) trivial (show a'.eval (.tmp 75) = .pointer (some ⟨sx, 0, none⟩) from E 1 (by decide) (dep ho hall 1 (by kernel_rfl))) ?_
      exact h.next (i := 2) ho hall (by decide) (hqq 2 (by kernel_rfl)) inj hz hu
    | 3, _ =>
      obtain ⟨h1, h2, h3⟩ := flds (d := some 77) (p := Op.fieldAddr 38 (.tmp 76) 1) (g := none) ho (by kernel_rfl)
      have g0 := (show a'.eval (.tmp 76) = .pointer (some ⟨sx, 0, none⟩) from E 2 (by decide) (dep ho hall 2 (by kernel_rfl)))
      refine og_plain ho h3 trivial ?_
      unfold Oper.wp
      simp only [execOp, h2, g0]
      go_simp
      exact h.next (i := 3) ho hall (by decide) (hqq 3 (by kernel_rfl)) inj hz hu
    | 4, _ =>
      obtain ⟨h1, h2, h3⟩ := flds (d := some 78) (p := Op.load 35 (.tmp 77)) (g := none) ho (by kernel_rfl)
      have g0 := (show a'.eval (.tmp 77) = .pointer (some ⟨sx, 1, none⟩) from E 3 (by decide) (dep ho hall 3 (by kernel_rfl)))
      obtain ⟨s, hs, hus, hl, -⟩ := h.at hch
      have hs4 : s ≤ 4 := by
        rcases Nat.lt_or_ge s 5 with h5 | h5
        · omega
        · exact absurd (anc_spec h.dc 40 12 4 (by kernel_rfl) (hl 4 (by omega))) hno
      have c0 := (hG s hs4).1
      rw [← hus] at c0
      clear hus
      refine og_plain ho h3 trivial ?_
      unfold Oper.wp
      simp only [execOp, h2, g0]
      go_simp
      exact h.next (i := 4) ho hall (by decide) (hqq 4 (by kernel_rfl)) inj hz hu
    | 5, _ =>
      obtain ⟨h1, h2, h3⟩ := flds (d := some 79) (p := Op.buildSlice 22 0 #[]) (g := none) ho (by kernel_rfl)
      obtain rfl := h.now hch 0 (by decide) (fun t ht => by omega) hno
      refine og_plain ho h3 trivial ?_
      unfold Oper.wp
      simp only [execOp, h2]
      simp only [WshE11, List.getD_cons_zero]
      go_simp
      exact h.effV hch 0 (by decide) (by decide) ho hall hno hie inj hz hu
    | 6, _ =>
      refine og_move (g := none) ho (.tmp 6) (d := some 80) (by kernel_rfl) trivial q6 ?_
      exact h.next (i := 6) ho hall (by decide) (hqq 6 (by kernel_rfl)) inj hz hu
    | 7, _ =>
      obtain rfl := h.now hch 1 (by decide) (fun t ht => by (have e5 : t = 0 := by omega); subst e5; exact dep ho hall 5 (by kernel_rfl)) hno
      refine og_app (g := none) ho (.tmp 79) (.tmp 80) 22 (d := some 81) (by kernel_rfl) trivial (show a'.eval (.tmp 79) = .slice (some ⟨w.heap.size, 0, none⟩) 0 0 from E 5 (by decide) (dep ho hall 5 (by kernel_rfl))) (show a'.eval (.tmp 80) = v from E 6 (by decide) (dep ho hall 6 (by kernel_rfl))) hA1 ?_
      exact h.effV hch 1 (by decide) (by decide) ho hall hno hie inj hz hu
    | 8, _ =>
      obtain ⟨h1, h2, h3⟩ := flds (d := some 82) (p := Op.buildSlice 35 1 #[(0, .tmp 81)]) (g := none) ho (by kernel_rfl)
      have g0 := (show a'.eval (.tmp 81) = vc from E 7 (by decide) (dep ho hall 7 (by kernel_rfl)))
      obtain ⟨ca, cn, cc, rfl⟩ := hvc
      have t0 : a'.tmps[81]?.getD undef = .slice ca cn cc := by simpa [Act.eval] using g0
      obtain rfl := h.now hch 2 (by decide) (fun t ht => by (have e5 : t = 1 := by omega); subst e5; exact dep ho hall 7 (by kernel_rfl)) hno
      refine og_plain ho h3 trivial ?_
      unfold Oper.wp
      simp only [execOp, h2]
      go_simp
      exact h.effV hch 2 (by decide) (by decide) ho hall hno hie inj hz hu
    | 9, _ =>
      obtain rfl := h.now hch 3 (by decide) (fun t ht => by (have e5 : t = 2 := by omega); subst e5; exact dep ho hall 8 (by kernel_rfl)) hno
      refine og_app (g := none) ho (.tmp 78) (.tmp 82) 35 (d := some 83) (by kernel_rfl) trivial (show a'.eval (.tmp 78) = vW from E 4 (by decide) (dep ho hall 4 (by kernel_rfl))) (show a'.eval (.tmp 82) = .slice (some ⟨W2.heap.size, 0, none⟩) 1 1 from E 8 (by decide) (dep ho hall 8 (by kernel_rfl))) hA2 ?_
      exact h.effV hch 3 (by decide) (by decide) ho hall hno hie inj hz hu
    | 10, _ =>
      refine og_nil (g := none) ho (.tmp 74) (d := some 84) (by kernel_rfl) trivial (show a'.eval (.tmp 74) = .pointer (some ⟨sx, 0, none⟩) from E 0 (by decide) (dep ho hall 0 (by kernel_rfl))) ?_
      exact h.next (i := 10) ho hall (by decide) (hqq 10 (by kernel_rfl)) inj hz hu
    | 11, _ =>
      obtain ⟨h1, h2, h3⟩ := flds (d := some 85) (p := Op.fieldAddr 38 (.tmp 84) 1) (g := none) ho (by kernel_rfl)
      have g0 := (show a'.eval (.tmp 84) = .pointer (some ⟨sx, 0, none⟩) from E 10 (by decide) (dep ho hall 10 (by kernel_rfl)))
      refine og_plain ho h3 trivial ?_
      unfold Oper.wp
      simp only [execOp, h2, g0]
      go_simp
      exact h.next (i := 11) ho hall (by decide) (hqq 11 (by kernel_rfl)) inj hz hu
    | 12, _ =>
      obtain ⟨h1, h2, h3⟩ := flds (d := none) (p := Op.store 35 (.tmp 85) (.tmp 83)) (g := none) ho (by kernel_rfl)
      have g0 := (show a'.eval (.tmp 85) = .pointer (some ⟨sx, 1, none⟩) from E 11 (by decide) (dep ho hall 11 (by kernel_rfl)))
      have g1 := (show a'.eval (.tmp 83) = vn from E 9 (by decide) (dep ho hall 9 (by kernel_rfl)))
      obtain ⟨na, nn, nc, rfl⟩ := hvn
      have c0 := (hG 4 (by decide)).1
      have c1 := (hG 4 (by decide)).2
      obtain rfl := h.now hch 4 (by decide) (fun t ht => by (have e5 : t = 3 := by omega); subst e5; exact dep ho hall 9 (by kernel_rfl)) hno
      simp only [WshE11, List.getD_cons_zero, List.getD_cons_succ] at c0 c1
      refine og_plain ho h3 trivial ?_
      unfold Oper.wp
      simp only [execOp, h2, g0, g1]
      go_simp
      exact h.effN hch 4 (by decide) rfl ho hall hno hie hu
    | i + 13, hi => omega
  · rintro L a' u h hall
    rw [opsE11_size] at hall
    obtain ⟨⟨V', rfl⟩, rfl⟩ := h.done hz (fun t ht => hall _ (by
      have h2 : (List.range 5).all (fun t => decide (EshE11 t < 13)) = true := by kernel_rfl
      exact of_decide_eq_true (List.all_eq_true.1 h2 t (List.mem_range.2 ht))))
    exact hK V'
  · intro L hL
    exact ⟨Fe.refl _ _, fun j _ hl => absurd hl (hL _), fun j o _ hl => absurd hl (hL _), fun s hs h1 _ => by
      cases s with
      | zero => rfl
      | succ s => exact absurd (h1 s (Nat.lt_succ_self _)) (hL _)⟩

noncomputable def opsD8 : Array Oper := (Tryz.f12.body.bind (opsAt 8)).getD #[]
theorem opsD8_size : opsD8.size = 13 := by kernel_rfl
theorem opsD8_earlier : Earlier opsD8 := by
  have h : (List.range 13).all (fun i => ((opsD8[i]?).map (fun o => o.after.all (fun e => !Region.binds .any e || decide (e.on < i)))).getD true) = true := by kernel_rfl
  intro i o ho e he hb
  have hi : i < 13 := by
    have := (Array.getElem?_eq_some_iff.1 ho).1
    rwa [opsD8_size] at this
  have h1 := List.all_eq_true.1 h i (List.mem_range.2 hi)
  rw [ho] at h1
  simp only [Option.map_some, Option.getD_some, Array.all_eq_true'] at h1
  have h2 := h1 e he
  rw [hb] at h2
  simpa using h2
def slshD8 (j : Nat) : Nat := ([46, 47, 48, 49, 50, 51, 52, 53, 54, 55, 56, 57] : List Nat).getD j 0
def VshD8 (w : World) (sx : Nat) (v vW vc vn : Value) (W2 W4 : World) (j : Nat) : Value := [.pointer (some ⟨sx, 0, none⟩), .pointer (some ⟨sx, 0, none⟩), .pointer (some ⟨sx, 0, none⟩), .pointer (some ⟨sx, 3, none⟩), vW, .slice (some ⟨w.heap.size, 0, none⟩) 0 0, v, vc, .slice (some ⟨W2.heap.size, 0, none⟩) 1 1, vn, .pointer (some ⟨sx, 0, none⟩), .pointer (some ⟨sx, 3, none⟩)].getD j (.bool false)
def WshD8 (w : World) (sx : Nat) (v vW vc vn : Value) (W2 W4 : World) (s : Nat) : World := [w.drew, (w.drew.alloc (.cells #[] 50)), W2, (W2.alloc (.cells #[vc] 25)), W4, W4.setCell ⟨sx, 3, none⟩ vn].getD s w
def EshD8 (t : Nat) : Nat := ([5, 7, 8, 9, 12] : List Nat).getD t 0

set_option maxRecDepth 100000 in
set_option maxHeartbeats 4000000 in
theorem shD8 (a0 : Act) (w : World) {Q : Exit → Act → World → Prop} (sx : Nat) (v vW vc vn : Value) (W2 W4 : World) (h0 : a0.eval (.tmp 0) = .pointer (some ⟨sx, 0, none⟩)) (h1 : a0.eval (.tmp 1) = v) (hzz : 57 < a0.tmps.size)
    (hvc : ∃ a n c, vc = .slice a n c) (hvn : ∃ a n c, vn = .slice a n c)
    (hG : ∀ s, s ≤ 4 → (WshD8 w sx v vW vc vn W2 W4 s).cell? ⟨sx, 3, none⟩ = some vW ∧ (WshD8 w sx v vW vc vn W2 W4 s).frozen? ⟨sx, 3, none⟩ = false)
    (hA1 : ∀ ty, (Builtin.append_ #[25, 25] ty #[.slice (some ⟨w.heap.size, 0, none⟩) 0 0, v]).run Tryz.prog (w.drew.alloc (.cells #[] 50)) = .ok vc W2)
    (hA2 : ∀ ty, (Builtin.append_ #[36, 36] ty #[vW, .slice (some ⟨W2.heap.size, 0, none⟩) 1 1]).run Tryz.prog (W2.alloc (.cells #[vc] 25)) = .ok vn W4)
    (hK : ∀ (V' : Nat → Value), Q .normal (puts a0 ((List.range 12).map fun j => (slshD8 j, V' j))) (W4.setCell ⟨sx, 3, none⟩ vn)) :
    (Code.region 8 opsD8 true).wp Tryz.prog Q a0 w := by
  have inj : ∀ i j, i < 12 → j < 12 → slshD8 i = slshD8 j → i = j := by
    have h : (List.range 12).all (fun i => (List.range 12).all (fun j => decide (slshD8 i = slshD8 j → i = j))) = true := by kernel_rfl
    intro i j hi hj he
    have h1 := List.all_eq_true.1 h i (List.mem_range.2 hi)
    have h2 := List.all_eq_true.1 h1 j (List.mem_range.2 hj)
    exact (of_decide_eq_true h2) he
  have hz : ∀ j, j < 12 → slshD8 j < a0.tmps.size := by
    have h : (List.range 12).all (fun i => decide (slshD8 i ≤ 57)) = true := by kernel_rfl
    intro j hj
    have := of_decide_eq_true (List.all_eq_true.1 h j (List.mem_range.2 hj))
    omega
  have hie : ∀ t t', t < 5 → t' < 5 → EshD8 t = EshD8 t' → t = t' := by
    have h : (List.range 5).all (fun i => (List.range 5).all (fun j => decide (EshD8 i = EshD8 j → i = j))) = true := by kernel_rfl
    intro i j hi hj he
    exact (of_decide_eq_true (List.all_eq_true.1 (List.all_eq_true.1 h i (List.mem_range.2 hi)) j (List.mem_range.2 hj))) he
  have hch : ∀ s, s + 1 < 5 → anc opsD8 40 (EshD8 (s + 1)) (EshD8 s) = true := by
    have h : (List.range 4).all (fun s => anc opsD8 40 (EshD8 (s + 1)) (EshD8 s)) = true := by kernel_rfl
    intro s hs
    exact List.all_eq_true.1 h s (List.mem_range.2 (by omega))
  have hqq : ∀ i, (List.range 5).all (fun t => decide (EshD8 t ≠ i)) = true → ∀ t, t < 5 → EshD8 t ≠ i := fun i h t ht => of_decide_eq_true (List.all_eq_true.1 h t (List.mem_range.2 ht))
  refine wp_region_inv (by kernel_rfl) opsD8_earlier (fun L a u => JW opsD8 slshD8 12 (VshD8 w sx v vW vc vn W2 W4) a0 EshD8 5 (WshD8 w sx v vW vc vn W2 W4) L a u) ?_ ?_ ?_
  · rintro L L' a' u i o h ho hno hall hu
    clear hK
    have q0 := (h.fe.ev (j := 0) (by decide)).trans h0
    have q1 := (h.fe.ev (j := 1) (by decide)).trans h1
    have E := h.e
    have hi : i < 13 := by
      have := (Array.getElem?_eq_some_iff.1 ho).1
      rwa [opsD8_size] at this
    match i, hi with
    | 0, _ =>
      refine og_move (g := none) ho (.tmp 0) (d := some 46) (by kernel_rfl) trivial q0 ?_
      exact h.next (i := 0) ho hall (by decide) (hqq 0 (by kernel_rfl)) inj hz hu
    | 1, _ =>
      refine og_move (g := none) ho (.tmp 0) (d := some 47) (by kernel_rfl) trivial q0 ?_
      exact h.next (i := 1) ho hall (by decide) (hqq 1 (by kernel_rfl)) inj hz hu
    | 2, _ =>
      refine og_nil (g := none) ho (.tmp 47) (d := some 48) (by kernel_rfl) trivial (show a'.eval (.tmp 47) = .pointer (some ⟨sx, 0, none⟩) from E 1 (by decide) (dep ho hall 1 (by kernel_rfl))) ?_
      exact h.next (i := 2) ho hall (by decide) (hqq 2 (by kernel_rfl)) inj hz hu
    | 3, _ =>
      obtain ⟨h1, h2, h3⟩ := flds (d := some 49) (p := Op.fieldAddr 38 (.tmp 48) 3) (g := none) ho (by kernel_rfl)
      have g0 := (show a'.eval (.tmp 48) = .pointer (some ⟨sx, 0, none⟩) from E 2 (by decide) (dep ho hall 2 (by kernel_rfl)))
      refine og_plain ho h3 trivial ?_
      unfold Oper.wp
      simp only [execOp, h2, g0]
      go_simp
      exact h.next (i := 3) ho hall (by decide) (hqq 3 (by kernel_rfl)) inj hz hu
    | 4, _ =>
      obtain ⟨h1, h2, h3⟩ := flds (d := some 50) (p := Op.load 36 (.tmp 49)) (g := none) ho (by kernel_rfl)
      have g0 := (show a'.eval (.tmp 49) = .pointer (some ⟨sx, 3, none⟩) from E 3 (by decide) (dep ho hall 3 (by kernel_rfl)))
      obtain ⟨s, hs, hus, hl, -⟩ := h.at hch
      have hs4 : s ≤ 4 := by
        rcases Nat.lt_or_ge s 5 with h5 | h5
        · omega
        · exact absurd (anc_spec h.dc 40 12 4 (by kernel_rfl) (hl 4 (by omega))) hno
      have c0 := (hG s hs4).1
      rw [← hus] at c0
      clear hus
      refine og_plain ho h3 trivial ?_
      unfold Oper.wp
      simp only [execOp, h2, g0]
      go_simp
      exact h.next (i := 4) ho hall (by decide) (hqq 4 (by kernel_rfl)) inj hz hu
    | 5, _ =>
      obtain ⟨h1, h2, h3⟩ := flds (d := some 51) (p := Op.buildSlice 25 0 #[]) (g := none) ho (by kernel_rfl)
      obtain rfl := h.now hch 0 (by decide) (fun t ht => by omega) hno
      refine og_plain ho h3 trivial ?_
      unfold Oper.wp
      simp only [execOp, h2]
      simp only [WshD8, List.getD_cons_zero]
      go_simp
      exact h.effV hch 0 (by decide) (by decide) ho hall hno hie inj hz hu
    | 6, _ =>
      refine og_move (g := none) ho (.tmp 1) (d := some 52) (by kernel_rfl) trivial q1 ?_
      exact h.next (i := 6) ho hall (by decide) (hqq 6 (by kernel_rfl)) inj hz hu
    | 7, _ =>
      obtain rfl := h.now hch 1 (by decide) (fun t ht => by (have e5 : t = 0 := by omega); subst e5; exact dep ho hall 5 (by kernel_rfl)) hno
      refine og_app (g := none) ho (.tmp 51) (.tmp 52) 25 (d := some 53) (by kernel_rfl) trivial (show a'.eval (.tmp 51) = .slice (some ⟨w.heap.size, 0, none⟩) 0 0 from E 5 (by decide) (dep ho hall 5 (by kernel_rfl))) (show a'.eval (.tmp 52) = v from E 6 (by decide) (dep ho hall 6 (by kernel_rfl))) hA1 ?_
      exact h.effV hch 1 (by decide) (by decide) ho hall hno hie inj hz hu
    | 8, _ =>
      obtain ⟨h1, h2, h3⟩ := flds (d := some 54) (p := Op.buildSlice 36 1 #[(0, .tmp 53)]) (g := none) ho (by kernel_rfl)
      have g0 := (show a'.eval (.tmp 53) = vc from E 7 (by decide) (dep ho hall 7 (by kernel_rfl)))
      obtain ⟨ca, cn, cc, rfl⟩ := hvc
      have t0 : a'.tmps[53]?.getD undef = .slice ca cn cc := by simpa [Act.eval] using g0
      obtain rfl := h.now hch 2 (by decide) (fun t ht => by (have e5 : t = 1 := by omega); subst e5; exact dep ho hall 7 (by kernel_rfl)) hno
      refine og_plain ho h3 trivial ?_
      unfold Oper.wp
      simp only [execOp, h2]
      go_simp
      exact h.effV hch 2 (by decide) (by decide) ho hall hno hie inj hz hu
    | 9, _ =>
      obtain rfl := h.now hch 3 (by decide) (fun t ht => by (have e5 : t = 2 := by omega); subst e5; exact dep ho hall 8 (by kernel_rfl)) hno
      refine og_app (g := none) ho (.tmp 50) (.tmp 54) 36 (d := some 55) (by kernel_rfl) trivial (show a'.eval (.tmp 50) = vW from E 4 (by decide) (dep ho hall 4 (by kernel_rfl))) (show a'.eval (.tmp 54) = .slice (some ⟨W2.heap.size, 0, none⟩) 1 1 from E 8 (by decide) (dep ho hall 8 (by kernel_rfl))) hA2 ?_
      exact h.effV hch 3 (by decide) (by decide) ho hall hno hie inj hz hu
    | 10, _ =>
      refine og_nil (g := none) ho (.tmp 46) (d := some 56) (by kernel_rfl) trivial (show a'.eval (.tmp 46) = .pointer (some ⟨sx, 0, none⟩) from E 0 (by decide) (dep ho hall 0 (by kernel_rfl))) ?_
      exact h.next (i := 10) ho hall (by decide) (hqq 10 (by kernel_rfl)) inj hz hu
    | 11, _ =>
      obtain ⟨h1, h2, h3⟩ := flds (d := some 57) (p := Op.fieldAddr 38 (.tmp 56) 3) (g := none) ho (by kernel_rfl)
      have g0 := (show a'.eval (.tmp 56) = .pointer (some ⟨sx, 0, none⟩) from E 10 (by decide) (dep ho hall 10 (by kernel_rfl)))
      refine og_plain ho h3 trivial ?_
      unfold Oper.wp
      simp only [execOp, h2, g0]
      go_simp
      exact h.next (i := 11) ho hall (by decide) (hqq 11 (by kernel_rfl)) inj hz hu
    | 12, _ =>
      obtain ⟨h1, h2, h3⟩ := flds (d := none) (p := Op.store 36 (.tmp 57) (.tmp 55)) (g := none) ho (by kernel_rfl)
      have g0 := (show a'.eval (.tmp 57) = .pointer (some ⟨sx, 3, none⟩) from E 11 (by decide) (dep ho hall 11 (by kernel_rfl)))
      have g1 := (show a'.eval (.tmp 55) = vn from E 9 (by decide) (dep ho hall 9 (by kernel_rfl)))
      obtain ⟨na, nn, nc, rfl⟩ := hvn
      have c0 := (hG 4 (by decide)).1
      have c1 := (hG 4 (by decide)).2
      obtain rfl := h.now hch 4 (by decide) (fun t ht => by (have e5 : t = 3 := by omega); subst e5; exact dep ho hall 9 (by kernel_rfl)) hno
      simp only [WshD8, List.getD_cons_zero, List.getD_cons_succ] at c0 c1
      refine og_plain ho h3 trivial ?_
      unfold Oper.wp
      simp only [execOp, h2, g0, g1]
      go_simp
      exact h.effN hch 4 (by decide) rfl ho hall hno hie hu
    | i + 13, hi => omega
  · rintro L a' u h hall
    rw [opsD8_size] at hall
    obtain ⟨⟨V', rfl⟩, rfl⟩ := h.done hz (fun t ht => hall _ (by
      have h2 : (List.range 5).all (fun t => decide (EshD8 t < 13)) = true := by kernel_rfl
      exact of_decide_eq_true (List.all_eq_true.1 h2 t (List.mem_range.2 ht))))
    exact hK V'
  · intro L hL
    exact ⟨Fe.refl _ _, fun j _ hl => absurd hl (hL _), fun j o _ hl => absurd hl (hL _), fun s hs h1 _ => by
      cases s with
      | zero => rfl
      | succ s => exact absurd (h1 s (Nat.lt_succ_self _)) (hL _)⟩

noncomputable def opsD11 : Array Oper := (Tryz.f12.body.bind (opsAt 11)).getD #[]
theorem opsD11_size : opsD11.size = 13 := by kernel_rfl
theorem opsD11_earlier : Earlier opsD11 := by
  have h : (List.range 13).all (fun i => ((opsD11[i]?).map (fun o => o.after.all (fun e => !Region.binds .any e || decide (e.on < i)))).getD true) = true := by kernel_rfl
  intro i o ho e he hb
  have hi : i < 13 := by
    have := (Array.getElem?_eq_some_iff.1 ho).1
    rwa [opsD11_size] at this
  have h1 := List.all_eq_true.1 h i (List.mem_range.2 hi)
  rw [ho] at h1
  simp only [Option.map_some, Option.getD_some, Array.all_eq_true'] at h1
  have h2 := h1 e he
  rw [hb] at h2
  simpa using h2
def slshD11 (j : Nat) : Nat := ([74, 75, 76, 77, 78, 79, 80, 81, 82, 83, 84, 85] : List Nat).getD j 0
def VshD11 (w : World) (sx : Nat) (v vW vc vn : Value) (W2 W4 : World) (j : Nat) : Value := [.pointer (some ⟨sx, 0, none⟩), .pointer (some ⟨sx, 0, none⟩), .pointer (some ⟨sx, 0, none⟩), .pointer (some ⟨sx, 3, none⟩), vW, .slice (some ⟨w.heap.size, 0, none⟩) 0 0, v, vc, .slice (some ⟨W2.heap.size, 0, none⟩) 1 1, vn, .pointer (some ⟨sx, 0, none⟩), .pointer (some ⟨sx, 3, none⟩)].getD j (.bool false)
def WshD11 (w : World) (sx : Nat) (v vW vc vn : Value) (W2 W4 : World) (s : Nat) : World := [w.drew, (w.drew.alloc (.cells #[] 50)), W2, (W2.alloc (.cells #[vc] 25)), W4, W4.setCell ⟨sx, 3, none⟩ vn].getD s w
def EshD11 (t : Nat) : Nat := ([5, 7, 8, 9, 12] : List Nat).getD t 0

set_option maxRecDepth 100000 in
set_option maxHeartbeats 4000000 in
theorem shD11 (a0 : Act) (w : World) {Q : Exit → Act → World → Prop} (sx : Nat) (v vW vc vn : Value) (W2 W4 : World) (h0 : a0.eval (.tmp 0) = .pointer (some ⟨sx, 0, none⟩)) (h6 : a0.eval (.tmp 6) = v) (hzz : 85 < a0.tmps.size)
    (hvc : ∃ a n c, vc = .slice a n c) (hvn : ∃ a n c, vn = .slice a n c)
    (hG : ∀ s, s ≤ 4 → (WshD11 w sx v vW vc vn W2 W4 s).cell? ⟨sx, 3, none⟩ = some vW ∧ (WshD11 w sx v vW vc vn W2 W4 s).frozen? ⟨sx, 3, none⟩ = false)
    (hA1 : ∀ ty, (Builtin.append_ #[25, 25] ty #[.slice (some ⟨w.heap.size, 0, none⟩) 0 0, v]).run Tryz.prog (w.drew.alloc (.cells #[] 50)) = .ok vc W2)
    (hA2 : ∀ ty, (Builtin.append_ #[36, 36] ty #[vW, .slice (some ⟨W2.heap.size, 0, none⟩) 1 1]).run Tryz.prog (W2.alloc (.cells #[vc] 25)) = .ok vn W4)
    (hK : ∀ (V' : Nat → Value), Q .normal (puts a0 ((List.range 12).map fun j => (slshD11 j, V' j))) (W4.setCell ⟨sx, 3, none⟩ vn)) :
    (Code.region 11 opsD11 true).wp Tryz.prog Q a0 w := by
  have inj : ∀ i j, i < 12 → j < 12 → slshD11 i = slshD11 j → i = j := by
    have h : (List.range 12).all (fun i => (List.range 12).all (fun j => decide (slshD11 i = slshD11 j → i = j))) = true := by kernel_rfl
    intro i j hi hj he
    have h1 := List.all_eq_true.1 h i (List.mem_range.2 hi)
    have h2 := List.all_eq_true.1 h1 j (List.mem_range.2 hj)
    exact (of_decide_eq_true h2) he
  have hz : ∀ j, j < 12 → slshD11 j < a0.tmps.size := by
    have h : (List.range 12).all (fun i => decide (slshD11 i ≤ 85)) = true := by kernel_rfl
    intro j hj
    have := of_decide_eq_true (List.all_eq_true.1 h j (List.mem_range.2 hj))
    omega
  have hie : ∀ t t', t < 5 → t' < 5 → EshD11 t = EshD11 t' → t = t' := by
    have h : (List.range 5).all (fun i => (List.range 5).all (fun j => decide (EshD11 i = EshD11 j → i = j))) = true := by kernel_rfl
    intro i j hi hj he
    exact (of_decide_eq_true (List.all_eq_true.1 (List.all_eq_true.1 h i (List.mem_range.2 hi)) j (List.mem_range.2 hj))) he
  have hch : ∀ s, s + 1 < 5 → anc opsD11 40 (EshD11 (s + 1)) (EshD11 s) = true := by
    have h : (List.range 4).all (fun s => anc opsD11 40 (EshD11 (s + 1)) (EshD11 s)) = true := by kernel_rfl
    intro s hs
    exact List.all_eq_true.1 h s (List.mem_range.2 (by omega))
  have hqq : ∀ i, (List.range 5).all (fun t => decide (EshD11 t ≠ i)) = true → ∀ t, t < 5 → EshD11 t ≠ i := fun i h t ht => of_decide_eq_true (List.all_eq_true.1 h t (List.mem_range.2 ht))
  refine wp_region_inv (by kernel_rfl) opsD11_earlier (fun L a u => JW opsD11 slshD11 12 (VshD11 w sx v vW vc vn W2 W4) a0 EshD11 5 (WshD11 w sx v vW vc vn W2 W4) L a u) ?_ ?_ ?_
  · rintro L L' a' u i o h ho hno hall hu
    clear hK
    have q0 := (h.fe.ev (j := 0) (by decide)).trans h0
    have q6 := (h.fe.ev (j := 6) (by decide)).trans h6
    have E := h.e
    have hi : i < 13 := by
      have := (Array.getElem?_eq_some_iff.1 ho).1
      rwa [opsD11_size] at this
    match i, hi with
    | 0, _ =>
      refine og_move (g := none) ho (.tmp 0) (d := some 74) (by kernel_rfl) trivial q0 ?_
      exact h.next (i := 0) ho hall (by decide) (hqq 0 (by kernel_rfl)) inj hz hu
    | 1, _ =>
      refine og_move (g := none) ho (.tmp 0) (d := some 75) (by kernel_rfl) trivial q0 ?_
      exact h.next (i := 1) ho hall (by decide) (hqq 1 (by kernel_rfl)) inj hz hu
    | 2, _ =>
      refine og_nil (g := none) ho (.tmp 75) (d := some 76) (by kernel_rfl) trivial (show a'.eval (.tmp 75) = .pointer (some ⟨sx, 0, none⟩) from E 1 (by decide) (dep ho hall 1 (by kernel_rfl))) ?_
      exact h.next (i := 2) ho hall (by decide) (hqq 2 (by kernel_rfl)) inj hz hu
    | 3, _ =>
      obtain ⟨h1, h2, h3⟩ := flds (d := some 77) (p := Op.fieldAddr 38 (.tmp 76) 3) (g := none) ho (by kernel_rfl)
      have g0 := (show a'.eval (.tmp 76) = .pointer (some ⟨sx, 0, none⟩) from E 2 (by decide) (dep ho hall 2 (by kernel_rfl)))
      refine og_plain ho h3 trivial ?_
      unfold Oper.wp
      simp only [execOp, h2, g0]
      go_simp
      exact h.next (i := 3) ho hall (by decide) (hqq 3 (by kernel_rfl)) inj hz hu
    | 4, _ =>
      obtain ⟨h1, h2, h3⟩ := flds (d := some 78) (p := Op.load 36 (.tmp 77)) (g := none) ho (by kernel_rfl)
      have g0 := (show a'.eval (.tmp 77) = .pointer (some ⟨sx, 3, none⟩) from E 3 (by decide) (dep ho hall 3 (by kernel_rfl)))
      obtain ⟨s, hs, hus, hl, -⟩ := h.at hch
      have hs4 : s ≤ 4 := by
        rcases Nat.lt_or_ge s 5 with h5 | h5
        · omega
        · exact absurd (anc_spec h.dc 40 12 4 (by kernel_rfl) (hl 4 (by omega))) hno
      have c0 := (hG s hs4).1
      rw [← hus] at c0
      clear hus
      refine og_plain ho h3 trivial ?_
      unfold Oper.wp
      simp only [execOp, h2, g0]
      go_simp
      exact h.next (i := 4) ho hall (by decide) (hqq 4 (by kernel_rfl)) inj hz hu
    | 5, _ =>
      obtain ⟨h1, h2, h3⟩ := flds (d := some 79) (p := Op.buildSlice 25 0 #[]) (g := none) ho (by kernel_rfl)
      obtain rfl := h.now hch 0 (by decide) (fun t ht => by omega) hno
      refine og_plain ho h3 trivial ?_
      unfold Oper.wp
      simp only [execOp, h2]
      simp only [WshD11, List.getD_cons_zero]
      go_simp
      exact h.effV hch 0 (by decide) (by decide) ho hall hno hie inj hz hu
    | 6, _ =>
      refine og_move (g := none) ho (.tmp 6) (d := some 80) (by kernel_rfl) trivial q6 ?_
      exact h.next (i := 6) ho hall (by decide) (hqq 6 (by kernel_rfl)) inj hz hu
    | 7, _ =>
      obtain rfl := h.now hch 1 (by decide) (fun t ht => by (have e5 : t = 0 := by omega); subst e5; exact dep ho hall 5 (by kernel_rfl)) hno
      refine og_app (g := none) ho (.tmp 79) (.tmp 80) 25 (d := some 81) (by kernel_rfl) trivial (show a'.eval (.tmp 79) = .slice (some ⟨w.heap.size, 0, none⟩) 0 0 from E 5 (by decide) (dep ho hall 5 (by kernel_rfl))) (show a'.eval (.tmp 80) = v from E 6 (by decide) (dep ho hall 6 (by kernel_rfl))) hA1 ?_
      exact h.effV hch 1 (by decide) (by decide) ho hall hno hie inj hz hu
    | 8, _ =>
      obtain ⟨h1, h2, h3⟩ := flds (d := some 82) (p := Op.buildSlice 36 1 #[(0, .tmp 81)]) (g := none) ho (by kernel_rfl)
      have g0 := (show a'.eval (.tmp 81) = vc from E 7 (by decide) (dep ho hall 7 (by kernel_rfl)))
      obtain ⟨ca, cn, cc, rfl⟩ := hvc
      have t0 : a'.tmps[81]?.getD undef = .slice ca cn cc := by simpa [Act.eval] using g0
      obtain rfl := h.now hch 2 (by decide) (fun t ht => by (have e5 : t = 1 := by omega); subst e5; exact dep ho hall 7 (by kernel_rfl)) hno
      refine og_plain ho h3 trivial ?_
      unfold Oper.wp
      simp only [execOp, h2]
      go_simp
      exact h.effV hch 2 (by decide) (by decide) ho hall hno hie inj hz hu
    | 9, _ =>
      obtain rfl := h.now hch 3 (by decide) (fun t ht => by (have e5 : t = 2 := by omega); subst e5; exact dep ho hall 8 (by kernel_rfl)) hno
      refine og_app (g := none) ho (.tmp 78) (.tmp 82) 36 (d := some 83) (by kernel_rfl) trivial (show a'.eval (.tmp 78) = vW from E 4 (by decide) (dep ho hall 4 (by kernel_rfl))) (show a'.eval (.tmp 82) = .slice (some ⟨W2.heap.size, 0, none⟩) 1 1 from E 8 (by decide) (dep ho hall 8 (by kernel_rfl))) hA2 ?_
      exact h.effV hch 3 (by decide) (by decide) ho hall hno hie inj hz hu
    | 10, _ =>
      refine og_nil (g := none) ho (.tmp 74) (d := some 84) (by kernel_rfl) trivial (show a'.eval (.tmp 74) = .pointer (some ⟨sx, 0, none⟩) from E 0 (by decide) (dep ho hall 0 (by kernel_rfl))) ?_
      exact h.next (i := 10) ho hall (by decide) (hqq 10 (by kernel_rfl)) inj hz hu
    | 11, _ =>
      obtain ⟨h1, h2, h3⟩ := flds (d := some 85) (p := Op.fieldAddr 38 (.tmp 84) 3) (g := none) ho (by kernel_rfl)
      have g0 := (show a'.eval (.tmp 84) = .pointer (some ⟨sx, 0, none⟩) from E 10 (by decide) (dep ho hall 10 (by kernel_rfl)))
      refine og_plain ho h3 trivial ?_
      unfold Oper.wp
      simp only [execOp, h2, g0]
      go_simp
      exact h.next (i := 11) ho hall (by decide) (hqq 11 (by kernel_rfl)) inj hz hu
    | 12, _ =>
      obtain ⟨h1, h2, h3⟩ := flds (d := none) (p := Op.store 36 (.tmp 85) (.tmp 83)) (g := none) ho (by kernel_rfl)
      have g0 := (show a'.eval (.tmp 85) = .pointer (some ⟨sx, 3, none⟩) from E 11 (by decide) (dep ho hall 11 (by kernel_rfl)))
      have g1 := (show a'.eval (.tmp 83) = vn from E 9 (by decide) (dep ho hall 9 (by kernel_rfl)))
      obtain ⟨na, nn, nc, rfl⟩ := hvn
      have c0 := (hG 4 (by decide)).1
      have c1 := (hG 4 (by decide)).2
      obtain rfl := h.now hch 4 (by decide) (fun t ht => by (have e5 : t = 3 := by omega); subst e5; exact dep ho hall 9 (by kernel_rfl)) hno
      simp only [WshD11, List.getD_cons_zero, List.getD_cons_succ] at c0 c1
      refine og_plain ho h3 trivial ?_
      unfold Oper.wp
      simp only [execOp, h2, g0, g1]
      go_simp
      exact h.effN hch 4 (by decide) rfl ho hall hno hie hu
    | i + 13, hi => omega
  · rintro L a' u h hall
    rw [opsD11_size] at hall
    obtain ⟨⟨V', rfl⟩, rfl⟩ := h.done hz (fun t ht => hall _ (by
      have h2 : (List.range 5).all (fun t => decide (EshD11 t < 13)) = true := by kernel_rfl
      exact of_decide_eq_true (List.all_eq_true.1 h2 t (List.mem_range.2 ht))))
    exact hK V'
  · intro L hL
    exact ⟨Fe.refl _ _, fun j _ hl => absurd hl (hL _), fun j o _ hl => absurd hl (hL _), fun s hs h1 _ => by
      cases s with
      | zero => rfl
      | succ s => exact absurd (h1 s (Nat.lt_succ_self _)) (hL _)⟩

end Go.Proofs.YtilidolbplglcaaGreatDoor
