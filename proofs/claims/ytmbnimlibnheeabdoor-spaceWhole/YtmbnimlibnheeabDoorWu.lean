/-
  SpaceWhole: region 19, drawn: both texts are shown.
-/
import Derived.Test.YtmbnimlibnheeabDoorWr
import Derived.Test.YtmbnimlibnheeabDoorWy
namespace Go.Proofs.YtmbnimlibnheeabDoor
open Go.RowKit Go.Lib
set_option linter.unusedVariables false

section
variable {ops : Array Oper} {o : Oper} {a : Act} {w : World} {K : Act → World → Prop} {Q : Exit → Act → World → Prop} {i : Nat}
theorem og_bs2 {g : Option (Nat × Bool)} (ho : ops[i]? = some o) (x y : Tmp) {d : Option Tmp} (h : (ops[i]?).map (fun o => (o.dst, o.op, o.guard)) = some (d, Op.buildSlice 32 2 #[(0, .tmp x), (1, .tmp y)], g)) (hw : gOk ops a g) {A B : Option Addr} {n m c e : Nat} (hx : a.eval (.tmp x) = .slice A n c) (hy : a.eval (.tmp y) = .slice B m e) (hK : K (a.put d (.slice (some ⟨w.heap.size, 0, none⟩) 2 2)) (w.alloc (.cells #[.slice A n c, .slice B m e] 26))) : wpOp Tryd.prog ops Q i K a w := by
  obtain ⟨h1, h2, h3⟩ := flds ho h
  refine og_plain ho h3 hw ?_
  unfold Oper.wp
  have hx' : a.tmps[x]?.getD undef = .slice A n c := by simpa [Act.eval] using hx
  have hy' : a.tmps[y]?.getD undef = .slice B m e := by simpa [Act.eval] using hy
  simp only [execOp, h2]
  go_simp
  exact hK
theorem og_app {g : Option (Nat × Bool)} (ho : ops[i]? = some o) (x y : Operand) (t : TypeId) {d : Option Tmp} (h : (ops[i]?).map (fun o => (o.dst, o.op, o.guard)) = some (d, Op.call { callee := .builtin .append, args := #[x, y], argTypes := #[t, t] }, g)) (hw : gOk ops a g) {v u v' : Value} {w' : World} (hx : a.eval x = v) (hy : a.eval y = u) (hr : ∀ ty, (Builtin.append_ #[t, t] ty #[v, u]).run Tryd.prog w = .ok v' w') (hK : K (a.put d v') w') : wpOp Tryd.prog ops Q i K a w := by
  obtain ⟨h1, h2, h3⟩ := flds ho h
  refine og_plain ho h3 hw ?_
  unfold Oper.wp
  simp [execOp, h2, resolve, invoke, builtin, hx, hy, hr, Result.andThen]
  show K (a.put o.dst v') w'
  rw [h1]
  exact hK
end

noncomputable def opsW19 : Array Oper := (Tryd.f3.body.bind (opsAt 19)).getD #[]
theorem opsW19_size : opsW19.size = 12 := by kernel_rfl
theorem opsW19_earlier : Earlier opsW19 := by
  have h : (List.range 12).all (fun i => ((opsW19[i]?).map (fun o => o.after.all (fun e => !Region.binds .any e || decide (e.on < i)))).getD true) = true := by kernel_rfl
  intro i o ho e he hb
  have hi : i < 12 := by
    have := (Array.getElem?_eq_some_iff.1 ho).1
    rwa [opsW19_size] at this
  have h1 := List.all_eq_true.1 h i (List.mem_range.2 hi)
  rw [ho] at h1
  simp only [Option.map_some, Option.getD_some, Array.all_eq_true'] at h1
  have h2 := h1 e he
  rw [hb] at h2
  simpa using h2
def slwh19 (j : Nat) : Nat := ([118, 119, 120, 121, 122, 123, 124, 125, 126, 127, 128, 8] : List Nat).getD j 0
def V19 (x y : Nat) (vx vs vt : Value) (j : Nat) : Value := [vx, .pointer (some ⟨x, 0, none⟩), .pointer (some ⟨x, 0, none⟩), .pointer (some ⟨x, 0, none⟩), vs, .pointer (some ⟨y, 0, none⟩), .pointer (some ⟨y, 0, none⟩), .pointer (some ⟨y, 0, none⟩), vt].getD j (.bool false)

structure J19 (a0 : Act) (w : World) (x y : Nat) (vx vs vt : Value) (P : Value → World → Prop) (L : Nat → Prop) (a : Act) (u : World) : Prop where
  fe : Fe a0 a ((List.range 12).map slwh19)
  e : ∀ j, j < 9 → L j → a.eval (.tmp (slwh19 j)) = V19 x y vx vs vt j
  cx : u.cell? ⟨x, 0, none⟩ = some vs
  cy : u.cell? ⟨y, 0, none⟩ = some vt
  c0 : L 10 → L 0
  c9 : L 10 → L 9
  c11 : L 11 → L 10
  e8 : ¬ L 11 → a.eval (.tmp 8) = vx
  b9 : L 9 → ¬ L 10 → ∃ b, a.eval (.tmp 127) = .slice (some ⟨b, 0, none⟩) 2 2 ∧ u.heap[b]? = some (.cells #[vs, vt] 26 (0, 0))
  n10 : ¬ L 10 → Below w.heap.size w u
  y10 : L 10 → ∃ v', a.eval (.tmp 128) = v' ∧ P v' u ∧ (L 11 → a.eval (.tmp 8) = v')

theorem sl19_inj : ∀ i j, i < 12 → j < 12 → slwh19 i = slwh19 j → i = j := by
  have h : (List.range 12).all (fun i => (List.range 12).all (fun j => decide (slwh19 i = slwh19 j → i = j))) = true := by kernel_rfl
  intro i j hi hj he
  have h1 := List.all_eq_true.1 h i (List.mem_range.2 hi)
  have h2 := List.all_eq_true.1 h1 j (List.mem_range.2 hj)
  exact (of_decide_eq_true h2) he

/-- One of the first nine operations. -/
theorem J19.next {a0 : Act} {w : World} {x y : Nat} {vx vs vt : Value} {P : Value → World → Prop} {L L' : Nat → Prop} {a : Act} {u : World} {i d : Nat} (h : J19 a0 w x y vx vs vt P L a u) (hi : i < 9) (hd : d = slwh19 i) (hzz : 128 < a0.tmps.size) (hno : ¬ L i) (hu : ∀ j, L' j ↔ (j = i ∨ L j)) : J19 a0 w x y vx vs vt P L' (a.put (some d) (V19 x y vx vs vt i)) u := by
  subst hd
  have hz : slwh19 i ≤ 128 := by
    have h : (List.range 12).all (fun i => decide (slwh19 i ≤ 128)) = true := by kernel_rfl
    exact of_decide_eq_true (List.all_eq_true.1 h i (List.mem_range.2 (by omega)))
  have ne : ∀ j, j < 12 → j ≠ i → slwh19 j ≠ slwh19 i := fun j hj hji he => hji (sl19_inj j i hj (by omega) he)
  have l9 : L' 9 ↔ L 9 := by rw [hu]; exact ⟨fun h => h.resolve_left (by omega), .inr⟩
  have l10 : L' 10 ↔ L 10 := by rw [hu]; exact ⟨fun h => h.resolve_left (by omega), .inr⟩
  have l11 : L' 11 ↔ L 11 := by rw [hu]; exact ⟨fun h => h.resolve_left (by omega), .inr⟩
  have k8 : (a.put (some (slwh19 i)) (V19 x y vx vs vt i)).eval (.tmp 8) = a.eval (.tmp 8) := ev_ne _ _ (ne 11 (by omega) (by omega))
  have k127 : (a.put (some (slwh19 i)) (V19 x y vx vs vt i)).eval (.tmp 127) = a.eval (.tmp 127) := ev_ne _ _ (ne 9 (by omega) (by omega))
  have k128 : (a.put (some (slwh19 i)) (V19 x y vx vs vt i)).eval (.tmp 128) = a.eval (.tmp 128) := ev_ne _ _ (ne 10 (by omega) (by omega))
  refine ⟨h.fe.put (List.mem_map.2 ⟨i, List.mem_range.2 (by omega), rfl⟩) _, fun j hj hl => ?_, h.cx, h.cy, fun a => (hu 0).2 (.inr (h.c0 (l10.1 a))), fun a => l9.2 (h.c9 (l10.1 a)), fun a => l10.2 (h.c11 (l11.1 a)), ?_, ?_, ?_, ?_⟩
  · by_cases e : j = i
    · subst e
      exact ev_eq _ _ (by rw [h.fe.sz]; omega)
    · exact (ev_ne _ _ (ne j (by omega) e)).trans (h.e j hj (((hu j).1 hl).resolve_left e))
  · rw [l11, k8]
    exact h.e8
  · rw [l9, l10, k127]
    exact h.b9
  · rw [l10]
    exact h.n10
  · rw [l10, l11, k128, k8]
    exact h.y10

set_option maxRecDepth 100000 in
set_option maxHeartbeats 4000000 in
theorem wh19 (a0 : Act) (w : World) {Q : Exit → Act → World → Prop} {w0 : World} {x y : Nat} {s t : Sd} {N M : Nat} {K : Nat → Prop} {Gs Gt Ins : List El} {X : List En} {vs vt vi vx : Value} {βs βt βi : Option Nat} {L0 : List El} {bx : Nat}
    (H : LS w0 w x y s t N M K Gs Gt Ins X vs βs vt βt vi vx L0 βi bx) (hX : X.length ≤ 4096)
    (h5 : a0.eval (.tmp 5) = .pointer (some ⟨x, 0, none⟩)) (h6 : a0.eval (.tmp 6) = .pointer (some ⟨y, 0, none⟩)) (h8 : a0.eval (.tmp 8) = vx) (hzz : 128 < a0.tmps.size)
    (hK : ∀ (V : Nat → Value) u v', V 11 = v' → (∃ K' g', LS w0 u x y s t N M K' Gs Gt Ins (X ++ [⟨vs, βs, s.d⟩, ⟨vt, βt, t.d⟩]) vs βs vt βt vi v' L0 βi g') → Q .normal (puts a0 ((List.range 12).map fun j => (slwh19 j, V j))) u) :
    (Code.region 19 opsW19 true).wp Tryd.prog Q a0 w := by
  obtain ⟨z1, aw, cw, vg, βg, e0, -, -, -, xl, se, -⟩ := H.ww.see
  obtain ⟨z2, ay, cy, vh, βh, g0, -, -, -, yl, te, -⟩ := H.ww.swap.see
  obtain ⟨A, c, ev, -, -⟩ := se.form
  obtain ⟨B, d, et, -, -⟩ := te.form
  generalize s.d.length = n at ev
  generalize t.d.length = m at et
  refine wp_region_inv (by kernel_rfl) opsW19_earlier (fun L a u => J19 a0 w x y vx vs vt (fun v' u => ∃ K' g', LS w0 u x y s t N M K' Gs Gt Ins (X ++ [⟨vs, βs, s.d⟩, ⟨vt, βt, t.d⟩]) vs βs vt βt vi v' L0 βi g') L a u) ?_ ?_ ?_
  · rintro L L' x' u i o h ho hno hall hu
    clear hK
    have q5 := (h.fe.ev (j := 5) (by decide)).trans h5
    have q6 := (h.fe.ev (j := 6) (by decide)).trans h6
    have E := h.e
    have hi : i < 12 := by
      have := (Array.getElem?_eq_some_iff.1 ho).1
      rwa [opsW19_size] at this
    match i, hi with
    | 0, _ =>
      refine og_move (g := none) ho (.tmp 8) (d := some 118) (by kernel_rfl) trivial (h.e8 (fun a => hno (h.c0 (h.c11 a)))) ?_
      exact h.next (i := 0) (by omega) rfl hzz hno hu
    | 1, _ =>
      refine og_move (g := none) ho (.tmp 5) (d := some 119) (by kernel_rfl) trivial q5 ?_
      exact h.next (i := 1) (by omega) rfl hzz hno hu
    | 2, _ =>
      refine og_nil (g := none) ho (.tmp 119) (d := some 120) (by kernel_rfl) trivial (show x'.eval (.tmp 119) = _ from E 1 (by decide) (dep ho hall 1 (by kernel_rfl))) ?_
      exact h.next (i := 2) (by omega) rfl hzz hno hu
    | 3, _ =>
      refine og_fld0 (g := none) ho (.tmp 120) (d := some 121) (by kernel_rfl) trivial (show x'.eval (.tmp 120) = _ from E 2 (by decide) (dep ho hall 2 (by kernel_rfl))) ?_
      exact h.next (i := 3) (by omega) rfl hzz hno hu
    | 4, _ =>
      refine og_ldS (g := none) ho (.tmp 121) (d := some 122) (by kernel_rfl) trivial (show x'.eval (.tmp 121) = .pointer (some ⟨x, 0, none⟩) from E 3 (by decide) (dep ho hall 3 (by kernel_rfl))) (h.cx.trans (congrArg some ev)) ?_
      rw [← ev]
      exact h.next (i := 4) (by omega) rfl hzz hno hu
    | 5, _ =>
      refine og_move (g := none) ho (.tmp 6) (d := some 123) (by kernel_rfl) trivial q6 ?_
      exact h.next (i := 5) (by omega) rfl hzz hno hu
    | 6, _ =>
      refine og_nil (g := none) ho (.tmp 123) (d := some 124) (by kernel_rfl) trivial (show x'.eval (.tmp 123) = _ from E 5 (by decide) (dep ho hall 5 (by kernel_rfl))) ?_
      exact h.next (i := 6) (by omega) rfl hzz hno hu
    | 7, _ =>
      refine og_fld0 (g := none) ho (.tmp 124) (d := some 125) (by kernel_rfl) trivial (show x'.eval (.tmp 124) = _ from E 6 (by decide) (dep ho hall 6 (by kernel_rfl))) ?_
      exact h.next (i := 7) (by omega) rfl hzz hno hu
    | 8, _ =>
      refine og_ldS (g := none) ho (.tmp 125) (d := some 126) (by kernel_rfl) trivial (show x'.eval (.tmp 125) = .pointer (some ⟨y, 0, none⟩) from E 7 (by decide) (dep ho hall 7 (by kernel_rfl))) (h.cy.trans (congrArg some et)) ?_
      rw [← et]
      exact h.next (i := 8) (by omega) rfl hzz hno hu
    | 9, _ =>
      have n10 : ¬ L 10 := fun a => hno (h.c9 a)
      have hb := h.n10 n10
      refine og_bs2 (g := none) ho 122 126 (d := some 127) (by kernel_rfl) trivial ((show x'.eval (.tmp 122) = vs from E 4 (by decide) (dep ho hall 4 (by kernel_rfl))).trans ev) ((show x'.eval (.tmp 126) = vt from E 8 (by decide) (dep ho hall 8 (by kernel_rfl))).trans et) ?_
      have l10 : L' 10 ↔ L 10 := by rw [hu]; exact ⟨fun h => h.resolve_left (by omega), .inr⟩
      have l11 : L' 11 ↔ L 11 := by rw [hu]; exact ⟨fun h => h.resolve_left (by omega), .inr⟩
      rw [← ev, ← et]
      have hb' : Below w.heap.size w (u.alloc (.cells #[vs, vt] 26)) := hb.alloc hb.size _
      refine ⟨h.fe.put (by decide) _, fun j hj hl => ?_, (hb'.cell (p := ⟨x, 0, none⟩) xl).trans e0, (hb'.cell (p := ⟨y, 0, none⟩) yl).trans g0, fun a => absurd (l10.1 a) n10, fun a => absurd (l10.1 a) n10, fun a => absurd (h.c11 (l11.1 a)) n10, fun a => ?_, fun _ _ => ⟨u.heap.size, ev_eq _ _ (by rw [h.fe.sz]; omega), heap_alloc_new _ _⟩, fun _ => hb', fun a => absurd (l10.1 a) n10⟩
      · exact (ev_ne _ _ (fun he => by have := sl19_inj j 9 (by omega) (by omega) he; omega)).trans (h.e j hj (((hu j).1 hl).resolve_left (by omega)))
      · exact (ev_ne _ _ (by decide)).trans (h.e8 (fun b => a (l11.2 b)))
    | 10, _ =>
      obtain ⟨b, hb1, hb2⟩ := h.b9 (dep ho hall 9 (by kernel_rfl)) hno
      obtain ⟨v', u', hr, K', g', hL⟩ := H.shows (h.n10 hno) hb2 hX
      refine og_app (g := none) ho (.tmp 118) (.tmp 127) 32 (d := some 128) (by kernel_rfl) trivial (show x'.eval (.tmp 118) = vx from E 0 (by decide) (dep ho hall 0 (by kernel_rfl))) hb1 hr ?_
      obtain ⟨_, _, _, _, _, f0, _⟩ := hL.ww.see
      obtain ⟨_, _, _, _, _, k0, _⟩ := hL.ww.swap.see
      have l10 : L' 10 := (hu 10).2 (.inl rfl)
      have l11 : ¬ L' 11 := fun a => hno (h.c11 (((hu 11).1 a).resolve_left (by omega)))
      refine ⟨h.fe.put (by decide) _, fun j hj hl => ?_, f0, k0, fun _ => (hu 0).2 (.inr (dep ho hall 0 (by kernel_rfl))), fun _ => (hu 9).2 (.inr (dep ho hall 9 (by kernel_rfl))), fun a => absurd a l11, fun a => ?_, fun _ a => absurd l10 a, fun a => absurd l10 a, fun _ => ⟨v', ev_eq _ _ (by rw [h.fe.sz]; omega), ⟨K', g', hL⟩, fun a => absurd a l11⟩⟩
      · exact (ev_ne _ _ (fun he => by have := sl19_inj j 10 (by omega) (by omega) he; omega)).trans (h.e j hj (((hu j).1 hl).resolve_left (by omega)))
      · exact (ev_ne _ _ (by decide)).trans (h.e8 (fun b => hno (h.c11 b)))
    | 11, _ =>
      have l10 : L 10 := dep ho hall 10 (by kernel_rfl)
      obtain ⟨v', hv1, hv2, hv3⟩ := h.y10 l10
      refine og_assign (g := none) ho (.tmp 128) (d := some 8) (by kernel_rfl) trivial hv1 ?_
      have l10' : L' 10 := (hu 10).2 (.inr l10)
      refine ⟨h.fe.put (by decide) _, fun j hj hl => ?_, h.cx, h.cy, fun _ => (hu 0).2 (.inr (h.c0 l10)), fun _ => (hu 9).2 (.inr (h.c9 l10)), fun _ => l10', fun a => absurd ((hu 11).2 (.inl rfl)) a, fun _ a => absurd l10' a, fun a => absurd l10' a, fun _ => ⟨v', (ev_ne _ _ (by decide)).trans hv1, hv2, fun _ => ev_eq _ _ (by rw [h.fe.sz]; omega)⟩⟩
      exact (ev_ne _ _ (fun he => by have := sl19_inj j 11 (by omega) (by omega) he; omega)).trans (h.e j hj (((hu j).1 hl).resolve_left (by omega)))
    | i + 12, hi => omega
  · rintro L x' u h hall
    rw [opsW19_size] at hall
    obtain ⟨v', hv1, hv2, hv3⟩ := h.y10 (hall 10 (by omega))
    have hp := Fe.puts ((List.range 12).map fun j => (slwh19 j, x'.eval (.tmp (slwh19 j)))) a0 x' (by rw [List.map_map]; exact h.fe) (by
      intro p hp
      obtain ⟨j, hj, rfl⟩ := List.mem_map.1 hp
      have hj := List.mem_range.1 hj
      have hz : slwh19 j ≤ 128 := by
        have h : (List.range 12).all (fun i => decide (slwh19 i ≤ 128)) = true := by kernel_rfl
        exact of_decide_eq_true (List.all_eq_true.1 h j (List.mem_range.2 hj))
      exact ⟨by show _ < _; simp only; omega, rfl⟩)
    rw [hp]
    exact hK _ u v' (hv3 (hall 11 (by omega))) hv2
  · intro L hL
    exact ⟨Fe.refl _ _, fun j _ h => absurd h (hL _), by first | exact e0 | exact ((Below.refl w.heap.size w).drew.cell (p := ⟨x, 0, none⟩) xl).trans e0, by first | exact g0 | exact ((Below.refl w.heap.size w).drew.cell (p := ⟨y, 0, none⟩) yl).trans g0, fun h => absurd h (hL _), fun h => absurd h (hL _), fun h => absurd h (hL _), fun _ => h8, fun h => absurd h (hL _), fun _ => (Below.refl _ _).drew, fun h => absurd h (hL _)⟩

end Go.Proofs.YtmbnimlibnheeabDoor
