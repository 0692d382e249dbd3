/-
  note.reach.
-/
import Derived.Test.YtkkklfnooeofcaaWa
namespace Go.Proofs.Ytkkklfnooeofcaa
open Go.RowKit Go.Maps Go.ChangeMaps Go.MapKept Go.WideMaps
set_option linter.unusedVariables false

theorem fr_set2 (w : World) (g i j : Nat) (u v : Value) : Fr (· = g) w ((w.setCell ⟨g, i, none⟩ u).setCell ⟨g, j, none⟩ v) := by
  have h1 : Fr (· = g) w (w.setCell ⟨g, i, none⟩ u) := Fr.setCell w ⟨g, i, none⟩ u rfl
  exact h1.trans (Fr.setCell _ ⟨g, j, none⟩ v rfl)

/-- Within reach: the answer's block, the range so far. -/
def RcI (w wr : World) (b : Nat) (xs : List El) (s : Nat × Nat) : Prop :=
  wr.heap[w.heap.size]? = some (.cells #[.int .i64 0, .int .i64 0] 84 (0, 0)) ∧ wr.heap[w.heap.size + 1]? = some (.cells #[.int .i64 s.1, .int .i64 s.2] 84 (0, 0)) ∧ SM wr b xs ∧ b < w.heap.size ∧ Below w.heap.size w wr

theorem RcI.below {w wr u : World} {b : Nat} {xs : List El} {s : Nat × Nat} (h : RcI w wr b xs s) (hb : Below wr.heap.size wr u) : RcI w u b xs s := by
  obtain ⟨h1, h2, h3, h4, h5⟩ := h
  have hF : Fr (fun _ => False) wr u := Fr.of_below hb
  exact ⟨hF.keeps h1 (fun h => h), hF.keeps h2 (fun h => h), h3.below hb, h4, h5.trans (hb.mono h5.size)⟩
theorem RcI.set {w wr : World} {b : Nat} {xs : List El} {s : Nat × Nat} (h : RcI w wr b xs s) (t : Nat × Nat) : RcI w ((wr.setCell ⟨w.heap.size + 1, 0, none⟩ (.int .i64 t.1)).setCell ⟨w.heap.size + 1, 1, none⟩ (.int .i64 t.2)) b xs t := by
  obtain ⟨h1, h2, h3, h4, h5⟩ := h
  have hF := fr_set2 wr (w.heap.size + 1) 0 1 (.int .i64 t.1) (.int .i64 t.2)
  refine ⟨hF.keeps h1 (by omega), ?_, h3.fr hF (by omega), h4, h5.trans (hF.below h5.size (fun k hk => by omega))⟩
  have := set_row (set_row h2 0 (.int .i64 t.1)) 1 (.int .i64 t.2)
  simpa using this

theorem RcI.set2 {w wr : World} {b : Nat} {xs : List El} {s r : Nat × Nat} (h : RcI w wr b xs s) (f t : Nat) (e : r = (f, t)) : RcI w ((wr.setCell ⟨w.heap.size + 1, 0, none⟩ (.int .i64 f)).setCell ⟨w.heap.size + 1, 1, none⟩ (.int .i64 t)) b xs r := by
  subst e
  exact h.set (f, t)

set_option maxRecDepth 100000 in
set_option maxHeartbeats 4000000 in
theorem reach_any (p : NB) (b : Nat) (xs : List El) (w : World) (h : NK w p) (hM : SM w b xs) :
    Calls Try.prog 34 #[.pointer (some ⟨p.x, 0, none⟩), .map (some b)] w fun e w' => e = .returned (.agg #[.int .i64 (reachP xs p.n.el).1, .int .i64 (reachP xs p.n.el).2]) ∧ Below w.heap.size w w' := by
  obtain ⟨cap, hev, hR⟩ := h.elems
  have c8 := cell_row h.box 8
  simp [ntc] at c8
  rw [hev] at c8
  have HE := hd hR.isE
  have HW := hd h.wf
  have lx := block_lt h.box
  have HXS := hd (reachP_le xs)
  have HXL := hd (show ∀ x s, spP xs x = some s → s.1 < s.2 ∧ s.2 ≤ xs.length from fun x s h => spP_le h)
  clear hR hev
  generalize p.n.el = es at *
  generalize p.x = x at *
  generalize p.ε = g at *
  obtain ⟨n, hn⟩ : ∃ n, es.length = n := ⟨_, rfl⟩
  rw [hn] at c8 HE
  have HN := hd hn
  have hn63 : n ≤ 9223372036854775807 := Nat.le_trans HE.out.2.1 HE.out.2.2.1
  clear h hn
  have HM := hd hM
  clear hM
  go_enter Try.func34, Try.ntmps34
  go_wp2
  have I0 : Hid (RcI w ((w.alloc (.cells #[.int .i64 0, .int .i64 0] 84)).alloc (.cells #[.int .i64 0, .int .i64 0] 84)) b xs (reachP xs (es.take 0))) := by
    refine ⟨(heap_alloc_old _ _ (by simp)).trans (heap_alloc_new _ _), ?_, HM.out.below (((Below.refl _ _).alloc (Nat.le_refl _) _).alloc (by simp) _), HM.out.lt, ((Below.refl _ _).alloc (Nat.le_refl _) _).alloc (by simp) _⟩
    have := heap_alloc_new (w.alloc (.cells #[.int .i64 0, .int .i64 0] 84)) (.cells #[.int .i64 0, .int .i64 0] 84)
    rw [World.size_alloc] at this
    exact this
  go_loopw [15] (fun v wr => ∃ k : Nat, k ≤ n ∧ v = .int .i64 k ∧ Hid (RcI w wr b xs (reachP xs (es.take k)))) (fun v _ => n - (intOf v).toNat)
  case atStart => exact ⟨0, Nat.zero_le _, rfl, I0⟩
  case round =>
    obtain ⟨k, hk, rfl, HI⟩ := hrel
    clear I0
    by_cases hlt : k < n
    · have hx : k < es.length := by rw [HN.out]; exact hlt
      obtain ⟨e0, e1, e2⟩ := (HE.out.below HI.out.2.2.2.2).at k hlt hx
      have HX := hd (HW.out es[k] (List.getElem_mem hx))
      have HT := hd (show reachP xs (es.take (k + 1)) = stepR (reachP xs (es.take k)) (spP xs es[k]) by rw [take_snoc es k hx, reachP_snoc])
      generalize es[k] = y at *
      obtain ⟨x0, x1, x2⟩ := y
      simp only [Nat.zero_add] at e0 e1 e2
      have bX : Below wr.heap.size wr (wr.alloc (.cells #[.int .u8 x0, .int .i64 x1, .int .i64 x2] 57)) := (Below.refl _ _).alloc (Nat.le_refl _) _
      have lk := (HI.out.2.2.1.below bX).look HX.out
      simp only [elV, spV] at lk
      have HS : Hid ((reachP xs (es.take k)).1 ≤ xs.length ∧ (reachP xs (es.take k)).2 ≤ xs.length) := ⟨(HXS.out _).1, (HXS.out _).2.1⟩
      have hr1 := cell_row HI.out.2.1 0
      have hr2 := cell_row HI.out.2.1 1
      have hz1 := frozen_row HI.out.2.1 0
      have hz2 := frozen_row HI.out.2.1 1
      have lw := block_lt HI.out.2.1
      simp at hr1 hr2
      generalize reachP xs (es.take k) = s at *
      obtain ⟨f, t⟩ := s
      simp only at hr1 hr2
      cases hs : spP xs (x0, x1, x2) with
      | none =>
        rw [hs] at lk HT
        simp only [Option.getD_none, Option.isSome_none] at lk
        have Z : Hid (RcI w ((wr.alloc (.cells #[.int .u8 x0, .int .i64 x1, .int .i64 x2] 57)).alloc (.cells #[.int .i64 0, .int .i64 0] 84)) b xs (reachP xs (es.take (k + 1)))) := by
          rw [HT.out]
          exact HI.out.below (((Below.refl _ _).alloc (Nat.le_refl _) _).alloc (by simp) _)
        clear bX HI HX hs HT
        go_wp2
        exact ⟨⟨k + 1, by omega, by trivial, Z⟩, by simp [intOf]; omega⟩
      | some q =>
        have HQ := hd (HXL.out _ _ hs)
        rw [hs] at lk HT
        obtain ⟨q0, q1⟩ := q
        simp only [Option.getD_some, Option.isSome_some] at lk
        simp only [stepR] at HT
        have HI2 := hd (HI.out.below (((Below.refl _ _).alloc (Nat.le_refl _) _).alloc (by simp) _ : Below wr.heap.size wr ((wr.alloc (.cells #[.int .u8 x0, .int .i64 x1, .int .i64 x2] 57)).alloc (.cells #[.int .i64 q0, .int .i64 q1] 84))))
        have HBX := hd (show ((wr.alloc (.cells #[.int .u8 x0, .int .i64 x1, .int .i64 x2] 57)).alloc (.cells #[.int .i64 q0, .int .i64 q1] 84)).heap[wr.heap.size + 1]? = some (.cells #[.int .i64 q0, .int .i64 q1] 84 (0, 0)) by
          have := heap_alloc_new (wr.alloc (.cells #[.int .u8 x0, .int .i64 x1, .int .i64 x2] 57)) (.cells #[.int .i64 q0, .int .i64 q1] 84)
          rwa [World.size_alloc] at this)
        have y1 := cell_row HI2.out.2.1 0
        have y2 := cell_row HI2.out.2.1 1
        simp at y1 y2
        clear bX HI HX hs
        go_wp2_with fail
        refine (empty_any _ _ _).mono ?_
        rintro e u ⟨rfl, bu⟩
        have HI3 := hd (HI2.out.below bu)
        have hq := (Fr.of_below bu : Fr (fun _ => False) _ u).keeps HBX.out (fun h => h)
        have q0c := cell_row hq 0
        have q1c := cell_row hq 1
        have r0c := cell_row HI3.out.2.1 0
        have r1c := cell_row HI3.out.2.1 1
        have z0c := frozen_row HI3.out.2.1 0
        have z1c := frozen_row HI3.out.2.1 1
        simp at q0c q1c r0c r1c
        clear HI2 HBX bu hq hr1 hr2 hz1 hz2 lw lk e0 e1 e2 y1 y2
        by_cases hc : f = t
        · subst hc
          rw [if_pos rfl] at HT
          have Z := hd (HI3.out.set2 q0 q1 HT.out)
          clear HI3 HT
          have hft : ((f : Int) == (f : Int)) = true := by simp
          go_wp2
          exact ⟨⟨k + 1, by omega, by trivial, Z⟩, by simp [intOf]; omega⟩
        · rw [if_neg (by simpa using hc)] at HT
          have hft : ((f : Int) == (t : Int)) = false := by
            rw [beq_eq_false_iff_ne]
            omega
          by_cases h1 : (f : Int) ≤ q0
          · by_cases h2 : t < q1
            · have Z' := fun r => HI3.out.set2 (r := r) f q1
              rw [Nat.min_eq_left (by omega), Nat.max_eq_right (by omega)] at HT
              have Z := hd (Z' _ HT.out)
              clear HI3 HT Z'
              go_wp2
              exact ⟨⟨k + 1, by omega, by trivial, Z⟩, by simp [intOf]; omega⟩
            · have Z' := fun r => HI3.out.set2 (r := r) f t
              rw [Nat.min_eq_left (by omega), Nat.max_eq_left (by omega)] at HT
              have Z := hd (Z' _ HT.out)
              clear HI3 HT Z'
              go_wp2
              exact ⟨⟨k + 1, by omega, by trivial, Z⟩, by simp [intOf]; omega⟩
          · by_cases h2 : t < q1
            · have Z' := fun r => HI3.out.set2 (r := r) q0 q1
              rw [Nat.min_eq_right (by omega), Nat.max_eq_right (by omega)] at HT
              have Z := hd (Z' _ HT.out)
              clear HI3 HT Z'
              go_wp2
              exact ⟨⟨k + 1, by omega, by trivial, Z⟩, by simp [intOf]; omega⟩
            · have Z' := fun r => HI3.out.set2 (r := r) q0 t
              rw [Nat.min_eq_right (by omega), Nat.max_eq_left (by omega)] at HT
              have Z := hd (Z' _ HT.out)
              clear HI3 HT Z'
              go_wp2
              exact ⟨⟨k + 1, by omega, by trivial, Z⟩, by simp [intOf]; omega⟩
    · have Z := HI
      have e : es.take k = es := List.take_of_length_le (by rw [HN.out]; omega)
      rw [e] at Z
      clear HI e
      have r0c := cell_row Z.out.2.1 0
      have r1c := cell_row Z.out.2.1 1
      have a0c := cell_row Z.out.1 0
      have a1c := cell_row Z.out.1 1
      have z0c := frozen_row Z.out.1 0
      have z1c := frozen_row Z.out.1 1
      simp at a0c a1c r0c r1c
      have lw := block_lt Z.out.2.1
      have ZB : Hid (Below w.heap.size w ((wr.setCell ⟨w.heap.size, 0, none⟩ (.int .i64 (reachP xs es).1)).setCell ⟨w.heap.size, 1, none⟩ (.int .i64 (reachP xs es).2))) := Z.out.2.2.2.2.trans ((fr_set2 wr w.heap.size 0 1 _ _).below Z.out.2.2.2.2.size (fun k hk => by omega))
      have hrow := set_row (set_row Z.out.1 0 (.int .i64 (reachP xs es).1)) 1 (.int .i64 (reachP xs es).2)
      have k0 := cell_row hrow 0
      have k1 := cell_row hrow 1
      simp at k0 k1
      clear Z hrow
      go_wp2
      refine bodyPost_ret (v := .agg #[.int .i64 (reachP xs es).1, .int .i64 (reachP xs es).2]) (by simp [results, Try.results34, go_sem, k0, k1]) rfl ?_
      exact ⟨rfl, ZB.out⟩

end Go.Proofs.Ytkkklfnooeofcaa
