/-
  Texts put together: Wa Wb Wc Wd.
-/
import Derived.Test.YtkkklfnooeofcabBd
import Derived.Deep.RegionHeld3
import Derived.Deep.QuietTactic
import Derived.BigQuiet
import Derived.Deep.DeepCutAuto
import Derived.Laws.IdiomStrings
/-! Wa -/
namespace Go.Proofs.Ytkkklfnooeofcab
open Go.RowKit Go.Maps Go.ChangeMaps Go.MapKept Go.WideMaps
set_option linter.unusedVariables false

theorem run_makeMapN (n : Int) (w : World) : (Instr.makeMap 80 (some (.int .i64 n))).run Try.prog w = .ok (.map (some w.heap.size)) (w.alloc (.map #[] 0)) := by
  simp [Instr.makeMap, run_underlying Try.underlying80, asInt, asIntOf, Result.andThen]

theorem empty_any (s t : Int) (w : World) : Calls Try.prog 47 #[.agg #[.int .i64 s, .int .i64 t]] w fun e w' => e = .returned (.bool (s == t)) ∧ Below w.heap.size w w' := by
  go_enter Try.func47, Try.ntmps47
  go_wp2
  go_ret
  exact ⟨by simp, (Below.refl _ _).alloc (Nat.le_refl _) _⟩

theorem take_snoc {α : Type} (l : List α) (k : Nat) (h : k < l.length) : l.take (k + 1) = l.take k ++ [l[k]] := List.take_succ_eq_append_getElem h

theorem put_spot {w wr : World} {b : Nat} {ys : List El} {x0 x1 x2 : Int} (hx : wfE (x0, x1, x2)) (h : SM wr b ys) {k f : Nat} (hk : ys.length = k ∧ k < 9223372036854775807) (hs : spP (ys ++ [(x0, x1, x2)]) (x0, x1, x2) = some (f, k + 1)) (hb : Below w.heap.size w wr) (hwb : w.heap.size ≤ b) :
    ∃ w', (Instr.mapUpdate 80 (.map (some b)) (.agg #[.int .u8 x0, .int .i64 x1, .int .i64 x2]) (.agg #[.int .i64 f, .int .i64 ((k : Int) + 1)])).run Try.prog ((wr.alloc (.cells #[.int .u8 x0, .int .i64 x1, .int .i64 x2] 41)).alloc (.cells #[.int .i64 f, .int .i64 ((k : Int) + 1)] 98)) = .ok () w' ∧ SM w' b (ys ++ [(x0, x1, x2)]) ∧ Below w.heap.size w w' := by
  have b1 : Below wr.heap.size wr ((wr.alloc (.cells #[.int .u8 x0, .int .i64 x1, .int .i64 x2] 41)).alloc (.cells #[.int .i64 f, .int .i64 ((k : Int) + 1)] 98)) := ((Below.refl _ _).alloc (Nat.le_refl _) _).alloc (by simp) _
  obtain ⟨w', hrun, h1, h2⟩ := (h.below b1).put hx (by omega) hs (v := .agg #[.int .i64 f, .int .i64 ((k : Int) + 1)]) (by simp [spV])
  have b2 : Below w.heap.size w _ := hb.trans (b1.mono hb.size)
  exact ⟨w', hrun, h1, b2.trans (h2.below b2.size (fun k hk => by omega))⟩

set_option maxRecDepth 100000 in
set_option maxHeartbeats 4000000 in
theorem spots_any (a : Option Addr) (n c : Nat) (xs : List El) (w : World) (hE : IsE w a n c xs) (hw : ∀ x ∈ xs, wfE x) :
    Calls Try.prog 31 #[.slice a n c] w fun e w' => ∃ b, e = .returned (.map (some b)) ∧ SM w' b xs ∧ w.heap.size ≤ b ∧ Below w.heap.size w w' := by
  have hmk := run_makeMapN
  have hn63 : n ≤ 9223372036854775807 := Nat.le_trans hE.2.1 hE.2.2.1
  have HL := hd hE.1
  have HE := hd hE
  have HW := hd hw
  clear hE hw
  go_enter Try.func31, Try.ntmps31
  go_wp2
  have I0 : Hid (SM (w.alloc (.map #[] 0)) w.heap.size (xs.take 0) ∧ Below w.heap.size w (w.alloc (.map #[] 0))) := ⟨SM.made w, (Below.refl _ _).alloc (Nat.le_refl _) _⟩
  go_loopw [13] (fun v wr => ∃ k : Nat, k ≤ n ∧ v = .int .i64 k ∧ Hid (SM wr w.heap.size (xs.take k) ∧ Below w.heap.size w wr)) (fun v _ => n - (intOf v).toNat)
  case atStart => exact ⟨0, Nat.zero_le _, rfl, I0⟩
  case round =>
    obtain ⟨k, hk, rfl, HI⟩ := hrel
    clear I0
    by_cases hlt : k < n
    · have hx : k < xs.length := by rw [HL.out]; exact hlt
      have hEr := HE.out.below HI.out.2
      obtain ⟨ab, off, ha, habl⟩ := hEr.addr (by omega)
      subst ha
      obtain ⟨e0, e1, e2⟩ := hEr.at k hlt hx
      have HX := hd (HW.out xs[k] (List.getElem_mem hx))
      have HT := hd (take_snoc xs k hx)
      generalize xs[k] = x at *
      obtain ⟨x0, x1, x2⟩ := x
      simp only at e0 e1 e2
      clear hEr habl
      have bX : Below wr.heap.size wr (wr.alloc (.cells #[.int .u8 x0, .int .i64 x1, .int .i64 x2] 41)) := (Below.refl _ _).alloc (Nat.le_refl _) _
      have lk := (HI.out.1.below bX).look HX.out
      simp only [elV, spV] at lk
      cases hs : spP (xs.take k) (x0, x1, x2) with
      | none =>
        rw [hs] at lk
        simp only [Option.getD_none, Option.isSome_none] at lk
        have PT := hd (put_spot HX.out (HI.out.1) (k := k) ⟨by rw [List.length_take]; omega, by omega⟩ (f := k) (by
          rw [spP_snoc, if_pos rfl, hs]
          simp only [List.length_take, Nat.min_eq_left (Nat.le_of_lt hx)]) HI.out.2 (Nat.le_refl _))
        clear bX HX HI
        obtain ⟨w', hrun, hZ⟩ := PT.out
        have Z := hd hZ
        clear hZ PT hs
        rw [← HT.out] at Z
        go_upto_region 9 with fail
        go_wp2
        exact ⟨⟨k + 1, by omega, by trivial, Z⟩, by simp [intOf]; omega⟩
      | some s =>
        rw [hs] at lk
        obtain ⟨s0, s1⟩ := s
        simp only [Option.getD_some, Option.isSome_some] at lk
        have PT := hd (put_spot HX.out (HI.out.1) (k := k) ⟨by rw [List.length_take]; omega, by omega⟩ (f := s0) (by
          rw [spP_snoc, if_pos rfl, hs]
          simp only [List.length_take, Nat.min_eq_left (Nat.le_of_lt hx)]) HI.out.2 (Nat.le_refl _))
        clear bX HX HI
        obtain ⟨w', hrun, hZ⟩ := PT.out
        have Z := hd hZ
        clear hZ PT hs
        rw [← HT.out] at Z
        go_upto_region 9 with fail
        go_wp2
        exact ⟨⟨k + 1, by omega, by trivial, Z⟩, by simp [intOf]; omega⟩
    · have Z := HI
      have e : xs.take k = xs := List.take_of_length_le (by rw [HL.out]; omega)
      rw [e] at Z
      clear HI e
      go_wp2
      go_ret
      exact ⟨_, rfl, Z.out.1, Nat.le_refl _, Z.out.2⟩

end Go.Proofs.Ytkkklfnooeofcab

/-! Wb -/
namespace Go.Proofs.Ytkkklfnooeofcab
open Go.RowKit Go.Maps Go.ChangeMaps Go.MapKept Go.WideMaps
set_option linter.unusedVariables false

theorem fr_set2 (w : World) (g i j : Nat) (u v : Value) : Fr (· = g) w ((w.setCell ⟨g, i, none⟩ u).setCell ⟨g, j, none⟩ v) := by
  have h1 : Fr (· = g) w (w.setCell ⟨g, i, none⟩ u) := Fr.setCell w ⟨g, i, none⟩ u rfl
  exact h1.trans (Fr.setCell _ ⟨g, j, none⟩ v rfl)

/-- Within reach: the answer's block, the range so far. -/
def RcI (w wr : World) (b : Nat) (xs : List El) (s : Nat × Nat) : Prop :=
  wr.heap[w.heap.size]? = some (.cells #[.int .i64 0, .int .i64 0] 98 (0, 0)) ∧ wr.heap[w.heap.size + 1]? = some (.cells #[.int .i64 s.1, .int .i64 s.2] 98 (0, 0)) ∧ SM wr b xs ∧ b < w.heap.size ∧ Below w.heap.size w wr

theorem RcI.below {w wr u : World} {b : Nat} {xs : List El} {s : Nat × Nat} (h : RcI w wr b xs s) (hb : Below wr.heap.size wr u) : RcI w u b xs s := by
  obtain ⟨h1, h2, h3, h4, h5⟩ := h
  have hF : Fr (fun _ => False) wr u := Fr.of_below hb
  exact ⟨hF.keeps h1 (fun h => h), hF.keeps h2 (fun h => h), h3.below hb, h4, h5.trans (hb.mono h5.size)⟩
theorem RcI.set {w wr : World} {b : Nat} {xs : List El} {s : Nat × Nat} (h : RcI w wr b xs s) (t : Nat × Nat) : RcI w ((wr.setCell ⟨w.heap.size + 1, 0, none⟩ (.int .i64 t.1)).setCell ⟨w.heap.size + 1, 1, none⟩ (.int .i64 t.2)) b xs t := by
  obtain ⟨h1, h2, h3, h4, h5⟩ := h
  have hF := fr_set2 wr (w.heap.size + 1) 0 1 (.int .i64 t.1) (.int .i64 t.2)
  refine ⟨hF.keeps h1 (by omega), ?_, h3.fr hF (by omega), h4, h5.trans (hF.below h5.size (fun k hk => by omega))⟩
  have := set_row (set_row h2 0 (.int .i64 t.1)) 1 (.int .i64 t.2)
  simpa using this

theorem RcI.set2 {w wr : World} {b : Nat} {xs : List El} {s r : Nat × Nat} (h : RcI w wr b xs s) (f t : Nat) (e : r = (f, t)) : RcI w ((wr.setCell ⟨w.heap.size + 1, 0, none⟩ (.int .i64 f)).setCell ⟨w.heap.size + 1, 1, none⟩ (.int .i64 t)) b xs r := by
  subst e
  exact h.set (f, t)

set_option maxRecDepth 100000 in
set_option maxHeartbeats 4000000 in
theorem reach_any (p : NB) (b : Nat) (xs : List El) (w : World) (h : NK w p) (hM : SM w b xs) :
    Calls Try.prog 44 #[.pointer (some ⟨p.x, 0, none⟩), .map (some b)] w fun e w' => e = .returned (.agg #[.int .i64 (reachP xs p.n.el).1, .int .i64 (reachP xs p.n.el).2]) ∧ Below w.heap.size w w' := by
  obtain ⟨cap, hev, hR⟩ := h.elems
  have c8 := cell_row h.box 8
  simp [ntc] at c8
  rw [hev] at c8
  have HE := hd hR.isE
  have HW := hd h.wf
  have lx := block_lt h.box
  have HXS := hd (reachP_le xs)
  have HXL := hd (show ∀ x s, spP xs x = some s → s.1 < s.2 ∧ s.2 ≤ xs.length from fun x s h => spP_le h)
  clear hR hev
  generalize p.n.el = es at *
  generalize p.x = x at *
  generalize p.ε = g at *
  obtain ⟨n, hn⟩ : ∃ n, es.length = n := ⟨_, rfl⟩
  rw [hn] at c8 HE
  have HN := hd hn
  have hn63 : n ≤ 9223372036854775807 := Nat.le_trans HE.out.2.1 HE.out.2.2.1
  clear h hn
  have HM := hd hM
  clear hM
  go_enter Try.func44, Try.ntmps44
  go_wp2
  have I0 : Hid (RcI w ((w.alloc (.cells #[.int .i64 0, .int .i64 0] 98)).alloc (.cells #[.int .i64 0, .int .i64 0] 98)) b xs (reachP xs (es.take 0))) := by
    refine ⟨(heap_alloc_old _ _ (by simp)).trans (heap_alloc_new _ _), ?_, HM.out.below (((Below.refl _ _).alloc (Nat.le_refl _) _).alloc (by simp) _), HM.out.lt, ((Below.refl _ _).alloc (Nat.le_refl _) _).alloc (by simp) _⟩
    have := heap_alloc_new (w.alloc (.cells #[.int .i64 0, .int .i64 0] 98)) (.cells #[.int .i64 0, .int .i64 0] 98)
    rw [World.size_alloc] at this
    exact this
  go_loopw [15] (fun v wr => ∃ k : Nat, k ≤ n ∧ v = .int .i64 k ∧ Hid (RcI w wr b xs (reachP xs (es.take k)))) (fun v _ => n - (intOf v).toNat)
  case atStart => exact ⟨0, Nat.zero_le _, rfl, I0⟩
  case round =>
    obtain ⟨k, hk, rfl, HI⟩ := hrel
    clear I0
    by_cases hlt : k < n
    · have hx : k < es.length := by rw [HN.out]; exact hlt
      obtain ⟨e0, e1, e2⟩ := (HE.out.below HI.out.2.2.2.2).at k hlt hx
      have HX := hd (HW.out es[k] (List.getElem_mem hx))
      have HT := hd (show reachP xs (es.take (k + 1)) = stepR (reachP xs (es.take k)) (spP xs es[k]) by rw [take_snoc es k hx, reachP_snoc])
      generalize es[k] = y at *
      obtain ⟨x0, x1, x2⟩ := y
      simp only [Nat.zero_add] at e0 e1 e2
      have bX : Below wr.heap.size wr (wr.alloc (.cells #[.int .u8 x0, .int .i64 x1, .int .i64 x2] 41)) := (Below.refl _ _).alloc (Nat.le_refl _) _
      have lk := (HI.out.2.2.1.below bX).look HX.out
      simp only [elV, spV] at lk
      have HS : Hid ((reachP xs (es.take k)).1 ≤ xs.length ∧ (reachP xs (es.take k)).2 ≤ xs.length) := ⟨(HXS.out _).1, (HXS.out _).2.1⟩
      have hr1 := cell_row HI.out.2.1 0
      have hr2 := cell_row HI.out.2.1 1
      have hz1 := frozen_row HI.out.2.1 0
      have hz2 := frozen_row HI.out.2.1 1
      have lw := block_lt HI.out.2.1
      simp at hr1 hr2
      generalize reachP xs (es.take k) = s at *
      obtain ⟨f, t⟩ := s
      simp only at hr1 hr2
      cases hs : spP xs (x0, x1, x2) with
      | none =>
        rw [hs] at lk HT
        simp only [Option.getD_none, Option.isSome_none] at lk
        have Z : Hid (RcI w ((wr.alloc (.cells #[.int .u8 x0, .int .i64 x1, .int .i64 x2] 41)).alloc (.cells #[.int .i64 0, .int .i64 0] 98)) b xs (reachP xs (es.take (k + 1)))) := by
          rw [HT.out]
          exact HI.out.below (((Below.refl _ _).alloc (Nat.le_refl _) _).alloc (by simp) _)
        clear bX HI HX hs HT
        go_wp2
        exact ⟨⟨k + 1, by omega, by trivial, Z⟩, by simp [intOf]; omega⟩
      | some q =>
        have HQ := hd (HXL.out _ _ hs)
        rw [hs] at lk HT
        obtain ⟨q0, q1⟩ := q
        simp only [Option.getD_some, Option.isSome_some] at lk
        simp only [stepR] at HT
        have HI2 := hd (HI.out.below (((Below.refl _ _).alloc (Nat.le_refl _) _).alloc (by simp) _ : Below wr.heap.size wr ((wr.alloc (.cells #[.int .u8 x0, .int .i64 x1, .int .i64 x2] 41)).alloc (.cells #[.int .i64 q0, .int .i64 q1] 98))))
        have HBX := hd (show ((wr.alloc (.cells #[.int .u8 x0, .int .i64 x1, .int .i64 x2] 41)).alloc (.cells #[.int .i64 q0, .int .i64 q1] 98)).heap[wr.heap.size + 1]? = some (.cells #[.int .i64 q0, .int .i64 q1] 98 (0, 0)) by
          have := heap_alloc_new (wr.alloc (.cells #[.int .u8 x0, .int .i64 x1, .int .i64 x2] 41)) (.cells #[.int .i64 q0, .int .i64 q1] 98)
          rwa [World.size_alloc] at this)
        have y1 := cell_row HI2.out.2.1 0
        have y2 := cell_row HI2.out.2.1 1
        simp at y1 y2
        clear bX HI HX hs
        go_wp2_with fail
        refine (empty_any _ _ _).mono ?_
        rintro e u ⟨rfl, bu⟩
        have HI3 := hd (HI2.out.below bu)
        have hq := (Fr.of_below bu : Fr (fun _ => False) _ u).keeps HBX.out (fun h => h)
        have q0c := cell_row hq 0
        have q1c := cell_row hq 1
        have r0c := cell_row HI3.out.2.1 0
        have r1c := cell_row HI3.out.2.1 1
        have z0c := frozen_row HI3.out.2.1 0
        have z1c := frozen_row HI3.out.2.1 1
        simp at q0c q1c r0c r1c
        clear HI2 HBX bu hq hr1 hr2 hz1 hz2 lw lk e0 e1 e2 y1 y2
        by_cases hc : f = t
        · subst hc
          rw [if_pos rfl] at HT
          have Z := hd (HI3.out.set2 q0 q1 HT.out)
          clear HI3 HT
          have hft : ((f : Int) == (f : Int)) = true := by simp
          go_wp2
          exact ⟨⟨k + 1, by omega, by trivial, Z⟩, by simp [intOf]; omega⟩
        · rw [if_neg (by simpa using hc)] at HT
          have hft : ((f : Int) == (t : Int)) = false := by
            rw [beq_eq_false_iff_ne]
            omega
          by_cases h1 : (f : Int) ≤ q0
          · by_cases h2 : t < q1
            · have Z' := fun r => HI3.out.set2 (r := r) f q1
              rw [Nat.min_eq_left (by omega), Nat.max_eq_right (by omega)] at HT
              have Z := hd (Z' _ HT.out)
              clear HI3 HT Z'
              go_wp2
              exact ⟨⟨k + 1, by omega, by trivial, Z⟩, by simp [intOf]; omega⟩
            · have Z' := fun r => HI3.out.set2 (r := r) f t
              rw [Nat.min_eq_left (by omega), Nat.max_eq_left (by omega)] at HT
              have Z := hd (Z' _ HT.out)
              clear HI3 HT Z'
              go_wp2
              exact ⟨⟨k + 1, by omega, by trivial, Z⟩, by simp [intOf]; omega⟩
          · by_cases h2 : t < q1
            · have Z' := fun r => HI3.out.set2 (r := r) q0 q1
              rw [Nat.min_eq_right (by omega), Nat.max_eq_right (by omega)] at HT
              have Z := hd (Z' _ HT.out)
              clear HI3 HT Z'
              go_wp2
              exact ⟨⟨k + 1, by omega, by trivial, Z⟩, by simp [intOf]; omega⟩
            · have Z' := fun r => HI3.out.set2 (r := r) q0 t
              rw [Nat.min_eq_right (by omega), Nat.max_eq_left (by omega)] at HT
              have Z := hd (Z' _ HT.out)
              clear HI3 HT Z'
              go_wp2
              exact ⟨⟨k + 1, by omega, by trivial, Z⟩, by simp [intOf]; omega⟩
    · have Z := HI
      have e : es.take k = es := List.take_of_length_le (by rw [HN.out]; omega)
      rw [e] at Z
      clear HI e
      have r0c := cell_row Z.out.2.1 0
      have r1c := cell_row Z.out.2.1 1
      have a0c := cell_row Z.out.1 0
      have a1c := cell_row Z.out.1 1
      have z0c := frozen_row Z.out.1 0
      have z1c := frozen_row Z.out.1 1
      simp at a0c a1c r0c r1c
      have lw := block_lt Z.out.2.1
      have ZB : Hid (Below w.heap.size w ((wr.setCell ⟨w.heap.size, 0, none⟩ (.int .i64 (reachP xs es).1)).setCell ⟨w.heap.size, 1, none⟩ (.int .i64 (reachP xs es).2))) := Z.out.2.2.2.2.trans ((fr_set2 wr w.heap.size 0 1 _ _).below Z.out.2.2.2.2.size (fun k hk => by omega))
      have hrow := set_row (set_row Z.out.1 0 (.int .i64 (reachP xs es).1)) 1 (.int .i64 (reachP xs es).2)
      have k0 := cell_row hrow 0
      have k1 := cell_row hrow 1
      simp at k0 k1
      clear Z hrow
      go_wp2
      refine bodyPost_ret (v := .agg #[.int .i64 (reachP xs es).1, .int .i64 (reachP xs es).2]) (by simp [results, Try.results44, go_sem, k0, k1]) rfl ?_
      exact ⟨rfl, ZB.out⟩

end Go.Proofs.Ytkkklfnooeofcab

/-! Wc -/
namespace Go.Proofs.Ytkkklfnooeofcab
open Go.RowKit Go.Maps Go.ChangeMaps Go.MapKept Go.WideMaps
set_option linter.unusedVariables false

theorem back_row (w : World) (s : ByteArray) (cap : Nat) (fr : Nat × Nat) : (convert 100 9 (.slice (some ⟨w.heap.size, 0, none⟩) s.size cap)).run Try.prog (w.drew.alloc (.cells (bytesRow s cap) 5 fr)) = .ok (.string s) (w.drew.alloc (.cells (bytesRow s cap) 5 fr)) := by
  have hl : s.data.toList.length = s.size := by rw [Array.length_toList]; rfl
  have h := run_convert_bytes_back (P := Try.prog) (w.drew.alloc (.cells (bytesRow s cap) 5 fr)) 100 9 5 ⟨w.heap.size, 0, none⟩ cap s.data.toList Try.underlying100 Try.underlying5 Try.underlying9 (fun j hj => by
    have hb : (w.drew.alloc (.cells (bytesRow s cap) 5 fr)).heap[w.heap.size]? = some (.cells (bytesRow s cap) 5 fr) := heap_alloc_new w.drew _
    rw [add_lit, Nat.zero_add]
    simp only [World.cell?, hb]
    rw [hl] at hj
    have hj2 : j < s.data.size := hj
    unfold bytesRow
    rw [Array.getElem?_append_left (by simpa using hj2)]
    simp
    exact ⟨_, Array.getElem?_eq_getElem hj2, rfl⟩)
  rw [hl] at h
  simpa using h

set_option maxRecDepth 100000 in
set_option maxHeartbeats 1000000 in
theorem own_any (s : ByteArray) (w : World) : Calls Try.prog 28 #[.string s] w fun e w' => e = .returned (.string s) ∧ Below w.heap.size w w' := by
  have h1 := run_bytes_of_string (P := Try.prog) w 9 100 5 s Try.underlying9 Try.underlying100 Try.underlying5
  have h2 := back_row w s (grownCap w s.size 0 5) ((bytesRow s (grownCap w s.size 0 5)).size, (bytesRow s (grownCap w s.size 0 5)).size + 1)
  have hb : Hid (Below w.heap.size w (w.drew.alloc (.cells (bytesRow s (grownCap w s.size 0 5)) 5 ((bytesRow s (grownCap w s.size 0 5)).size, (bytesRow s (grownCap w s.size 0 5)).size + 1)))) := (Fr.drew (fun _ => False) w).trans (Fr.alloc _ _ _) |>.below (Nat.le_refl _) (fun k h => h.elim)
  generalize (w.drew.alloc (.cells (bytesRow s (grownCap w s.size 0 5)) 5 ((bytesRow s (grownCap w s.size 0 5)).size, (bytesRow s (grownCap w s.size 0 5)).size + 1))) = u at *
  generalize grownCap w s.size 0 5 = c at *
  go_enter Try.func28, Try.ntmps28
  go_wp2
  go_ret
  exact ⟨rfl, hb.out⟩

/-- The first character that may not be: is there one? -/
def badC (c : UInt8) : Bool := decide ((c.toNat : Int) < 32 ∨ 126 < (c.toNat : Int))
def okW (s : ByteArray) : Bool := decide (1 ≤ s.size ∧ s.size ≤ 120) && !(s.data.toList.any badC)
def sayE (c : Int) (s : ByteArray) : Int := if c < 1 ∨ 64 < c then 235 else if okW s then 0 else 231

theorem say_hand {c : Int} {s : ByteArray} (h : c < 1 ∨ 64 < c) : sayE c s = 235 := by unfold sayE; rw [if_pos h]
theorem say_ok {c : Int} {s : ByteArray} (h : ¬ c < 1) (h2 : ¬ 64 < c) (h3 : okW s = true) : sayE c s = 0 := by unfold sayE; rw [if_neg (by omega), if_pos h3]
theorem say_bad {c : Int} {s : ByteArray} (h : ¬ c < 1) (h2 : ¬ 64 < c) (h3 : okW s = false) : sayE c s = 231 := by unfold sayE; rw [if_neg (by omega), if_neg (by rw [h3]; decide)]

theorem byte_snoc (s : ByteArray) (k : Nat) (h : k < s.size) : s.data.toList.take (k + 1) = s.data.toList.take k ++ [s[k]] := by
  rw [List.take_succ_eq_append_getElem (by simpa using h)]; rfl

set_option maxRecDepth 100000 in
set_option maxHeartbeats 1000000 in
theorem say_any (c : Int) (s : ByteArray) (w : World) (hs : s.size ≤ 9223372036854775807) : Calls Try.prog 27 #[.int .i64 c, .string s] w fun e w' => e = .returned (.int .i64 (sayE c s)) ∧ w' = w := by
  obtain ⟨r, hr⟩ : ∃ r, sayE c s = r := ⟨_, rfl⟩
  rw [hr]
  have HR := hd hr
  clear hr
  by_cases hc1 : c < 1
  · have Z : Hid (r = 235) := HR.out.symm.trans (say_hand (.inl hc1))
    go_enter Try.func27, Try.ntmps27
    go_wp2
    go_ret
    exact ⟨by rw [Z.out]; rfl, rfl⟩
  · by_cases hc2 : 64 < c
    · have Z : Hid (r = 235) := HR.out.symm.trans (say_hand (.inr hc2))
      go_enter Try.func27, Try.ntmps27
      go_wp2
      go_ret
      exact ⟨by rw [Z.out]; rfl, rfl⟩
    · by_cases hl1 : s.size < 1
      · have e : okW s = false := by simp [okW]; omega
        have Z : Hid (r = 231) := HR.out.symm.trans (say_bad hc1 hc2 e)
        clear e
        have hl2 : (s.size : Int) < 1 := by omega
        go_enter Try.func27, Try.ntmps27
        go_wp2
        go_ret
        exact ⟨by rw [Z.out]; rfl, rfl⟩
      · by_cases hl2 : 120 < s.size
        · have e : okW s = false := by simp [okW]; omega
          have Z : Hid (r = 231) := HR.out.symm.trans (say_bad hc1 hc2 e)
          clear e
          have hl3 : ¬ (s.size : Int) < 1 := by omega
          have hl4 : (120 : Int) < (s.size : Int) := by omega
          go_enter Try.func27, Try.ntmps27
          go_wp2
          go_ret
          exact ⟨by rw [Z.out]; rfl, rfl⟩
        · have e : Hid (okW s = !(s.data.toList.any badC)) := by
            have : decide (1 ≤ s.size ∧ s.size ≤ 120) = true := by simp; omega
            unfold Hid okW
            rw [this]
            rfl
          have hl3 : ¬ (s.size : Int) < 1 := by omega
          have hl4 : ¬ (120 : Int) < (s.size : Int) := by omega
          have HL := hd (show s.data.toList.length = s.size by rw [Array.length_toList]; rfl)
          clear hl1 hl2
          go_enter Try.func27, Try.ntmps27
          go_wp2
          go_loop [22] (fun i => ∃ k : Nat, k ≤ s.size ∧ i = .int .i64 k ∧ Hid ((s.data.toList.take k).any badC = false)) (fun i => s.size - (intOf i).toNat)
          case atStart => exact ⟨0, Nat.zero_le _, rfl, hd (by simp)⟩
          case round =>
            obtain ⟨k, hk, rfl, HA⟩ := hrel
            by_cases hlt : k < s.size
            · have HS := hd (byte_snoc s k hlt)
              by_cases hb1 : (s[k].toNat : Int) < 32
              · have Z0 : okW s = false := by
                  rw [e.out, Bool.not_eq_false']
                  exact List.any_eq_true.2 ⟨s[k], ByteArray.getElem_eq_getElem_data ▸ Array.getElem_mem_toList _, by simp [badC, hb1]⟩
                have Z : Hid (r = 231) := HR.out.symm.trans (say_bad (by omega) (by omega) Z0)
                clear HA HS e Z0 HR
                go_wp2
                go_ret
                exact ⟨by rw [Z.out]; rfl, rfl⟩
              · by_cases hb2 : 126 < (s[k].toNat : Int)
                · have Z0 : okW s = false := by
                    rw [e.out, Bool.not_eq_false']
                    exact List.any_eq_true.2 ⟨s[k], ByteArray.getElem_eq_getElem_data ▸ Array.getElem_mem_toList _, by simp [badC, hb2]⟩
                  have Z : Hid (r = 231) := HR.out.symm.trans (say_bad (by omega) (by omega) Z0)
                  clear HA HS e Z0 HR
                  go_wp2
                  go_ret
                  exact ⟨by rw [Z.out]; rfl, rfl⟩
                · have Z : Hid ((s.data.toList.take (k + 1)).any badC = false) := by
                    unfold Hid
                    rw [HS.out, List.any_append, HA.out]
                    simp [badC]
                    omega
                  clear HA HS e
                  go_wp2
                  go_round
                  case rel => exact ⟨k + 1, by omega, by go_num, Z⟩
                  case measure => simp [intOf]; omega
            · have Z0 : okW s = true := by
                have := HA.out
                rw [List.take_of_length_le (by rw [HL.out]; omega)] at this
                rw [e.out, this]
                rfl
              have Z : Hid (r = 0) := HR.out.symm.trans (say_ok (by omega) (by omega) Z0)
              clear HA e Z0 HR
              go_wp2
              go_ret
              exact ⟨by rw [Z.out]; rfl, rfl⟩

end Go.Proofs.Ytkkklfnooeofcab

/-! Wd -/
namespace Go.Proofs.Ytkkklfnooeofcab
open Go.RowKit Go.Maps Go.ChangeMaps Go.MapKept Go.WideMaps
set_option linter.unusedVariables false

theorem eql_nil {P : Program} (w : World) (t e : TypeId) (a : Option Addr) (n c : Nat) (ht : P.underlying t = some (.slice e)) : (binOp .eql t (.slice a n c) (.slice none 0 0)).run P w = .ok (.bool a.isNone) w := by
  have h : ∀ d : Nat, (Op.equalIn (d + 1) t (.slice a n c) (.slice none 0 0)).run P w = .ok a.isNone w := fun d => by
    cases a <;> simp [Op.equalIn, run_underlying ht]
  simp only [binOp]
  simp [Op.equal, Op.maxDepth, h 9999]

theorem Try.infoR : (Try.prog.info? 90).map (fun i => (i.zero, i.size, i.bytes)) = some (some (.agg #[.int .i64 0, .string ⟨#[]⟩]), 2, 24) := by kernel_rfl

/-- What may be cloned, or grow, to n elements of so many bytes. -/
def roomy (n bytes : Nat) : Prop := (n + n / 4 + 192) * bytes ≤ 281474976710656 ∧ n ≤ 9223372036854775807

set_option maxRecDepth 100000 in
/-- append of a whole row onto an empty one. -/
theorem run_clone {α : Type} {f : α → List Value} {k : Nat} (hz : Sz f k) (w : World) (t e : TypeId) (i : TypeInfo) (z : Value) (bytes : Nat) (ht : Try.prog.underlying t = some (.slice e)) (hi : Try.prog.info? e = some i) (hzo : i.zero = some z) (hsz : i.size = k) (hzs : z.cells.size = k) (hby : i.bytes = bytes)
    (b c : Nat) (ad : Addr) (hb : w.heap[b]? = some (.cells #[] e (0, 0))) (xs : List α) (hc : ∀ j u, (cl f xs)[j]? = some u → w.cell? (ad.add j) = some u) (hl : roomy xs.length bytes) :
    ∃ v' w' g', (∀ ty, (Builtin.append_ #[t, t] ty #[.slice (some ⟨b, 0, none⟩) 0 0, .slice (some ad) xs.length c]).run Try.prog w = .ok v' w') ∧ SF f k w' e (some g') v' xs ∧ (g' = b ∨ g' = w.heap.size) ∧ Fr (· = b) w w' := by
  have h0 : RowF f k w b 0 0 e [] := ⟨[], by simpa using hb, by simp [cl_nil], rfl, Nat.le_refl _, by omega, by simp⟩
  by_cases hn : xs = []
  · subst hn
    have hlc : ∀ (x : Addr), (loadCells x 0).run Try.prog w = .ok #[] w := fun x => by simpa using run_loadCells_list (P := Try.prog) w x [] (by simp)
    refine ⟨.slice (some ⟨b, 0, none⟩) 0 0, w, b, fun ty => ?_, ⟨0, rfl, h0⟩, .inl rfl, Fr.refl _ _⟩
    simp [Builtin.append_, run_underlying ht, Builtin.lenOf, Builtin.firstCells, sizeOf, typeInfo, hi, storeCells, hlc]
  · have hp : 0 < xs.length := List.length_pos_iff.2 hn
    obtain ⟨v', w', hr, g', h1, h2⟩ := run_pushF hz (P := Try.prog) w t 0 e i z bytes ht hi hzo hsz hzs hby (some b) (.slice (some ⟨b, 0, none⟩) 0 0) [] ⟨0, rfl, h0⟩ ad xs.length c xs rfl hc hp (by have := hl.2; simpa using this) (by have := hl.1; simpa using this)
    refine ⟨v', w', g', fun ty => hr, by simpa using h1, ?_, ?_⟩
    · rcases h2 with ⟨h2, -⟩ | ⟨h2, -⟩
      · injection h2 with h2; exact .inl h2.symm
      · exact .inr h2
    · rcases h2 with ⟨h2, h3⟩ | ⟨h2, h3⟩
      · injection h2 with h2
        subst h2
        exact h3
      · exact h3.mono (fun _ _ h => h.elim)

set_option maxRecDepth 100000 in
set_option maxHeartbeats 4000000 in
theorem cloneE_any (ad : Addr) (c : Nat) (xs : List El) (w : World) (hc : ∀ j u, (cl elc xs)[j]? = some u → w.cell? (ad.add j) = some u) (hb0 : ad.block < w.heap.size) (hl : roomy xs.length 24) :
    Calls Try.prog 29 #[.slice (some ad) xs.length c] w fun e w' => ∃ u g, e = .returned u ∧ SE w' (some g) u xs ∧ w.heap.size ≤ g ∧ Below w.heap.size w w' := by
  obtain ⟨i0, hi0, hz0, hz1, hz2⟩ := info_parts Try.infoE
  have b1 : Below w.heap.size w (w.alloc (.cells #[] 41)) := (Below.refl _ _).alloc (Nat.le_refl _) _
  obtain ⟨v', w', g', hr, hS, hg, hF⟩ := run_clone sz_elc (w.alloc (.cells #[] 41)) 24 41 i0 _ 24 Try.underlying24 hi0 hz0 hz1 rfl hz2 w.heap.size c ad (heap_alloc_new w _) xs (fun j u hj => (b1.cell (p := ad.add j) (show (ad.add j).block < w.heap.size by unfold Addr.add; split <;> exact hb0)).trans (hc j u hj)) hl
  obtain ⟨a', c', hv', -⟩ := hS.form
  have Z : Hid (SE w' (some g') v' xs ∧ w.heap.size ≤ g' ∧ Below w.heap.size w w') := ⟨sf_se hS, (by rw [World.size_alloc] at hg; omega), b1.trans (hF.below (by simp) (fun k h => by omega))⟩
  subst hv'
  clear b1 hS hg hF hc hb0
  generalize xs.length = n at *
  have hq := fun w => eql_nil (P := Try.prog) w 24 41 (some ad) n c Try.underlying24
  simp only [Option.isNone_some] at hq
  go_enter Try.func29, Try.ntmps29
  go_wp2_with (at_builtin; refine wpList_append_k _ rfl _ _ 24 24 rfl _ _ rfl rfl (hr _) ?_; clear hr)
  go_ret
  exact ⟨_, _, rfl, Z.out⟩

set_option maxRecDepth 100000 in
set_option maxHeartbeats 4000000 in
theorem cloneR_any (β : Option Nat) (v : Value) (xs : List (Int × ByteArray)) (w : World) (h : SF rpc 2 w 90 β v xs) (hl : roomy xs.length 24) :
    Calls Try.prog 48 #[v] w fun e w' => ∃ u β', e = .returned u ∧ SF rpc 2 w' 90 β' u xs ∧ (∀ g, β' = some g → w.heap.size ≤ g) ∧ Below w.heap.size w w' := by
  cases β with
  | none =>
    obtain ⟨rfl, rfl⟩ := h
    have hq := fun w => eql_nil (P := Try.prog) w 45 90 none 0 0 Try.underlying45
    simp only [Option.isNone_none] at hq
    clear hl
    go_enter Try.func48, Try.ntmps48
    go_wp2
    go_ret
    exact ⟨_, none, rfl, ⟨rfl, rfl⟩, fun g h => (by cases h), Below.refl _ _⟩
  | some g =>
    obtain ⟨c, rfl, hR⟩ := h
    obtain ⟨i0, hi0, hz0, hz1, hz2⟩ := info_parts Try.infoR
    have b1 : Below w.heap.size w (w.alloc (.cells #[] 90)) := (Below.refl _ _).alloc (Nat.le_refl _) _
    obtain ⟨v', w', g', hr, hS, hg, hF⟩ := run_clone sz_rpc (w.alloc (.cells #[] 90)) 45 90 i0 _ 24 Try.underlying45 hi0 hz0 hz1 rfl hz2 w.heap.size c ⟨g, 0, none⟩ (heap_alloc_new w _) xs (fun j u hj => by
      have := (hR.fr (S := fun _ => False) (Fr.of_below b1) (fun h => h)).cells sz_rpc 0 j u (by simpa using hj)
      simpa using this) hl
    obtain ⟨a', c', hv', -⟩ := hS.form
    have Z : Hid (SF rpc 2 w' 90 (some g') v' xs ∧ (∀ k, some g' = some k → w.heap.size ≤ k) ∧ Below w.heap.size w w') := ⟨hS, fun k hk => (by cases hk; rw [World.size_alloc] at hg; omega), b1.trans (hF.below (by simp) (fun k h => by omega))⟩
    subst hv'
    clear hR b1 hS hg hF hl
    generalize xs.length = n at *
    have hq := fun w => eql_nil (P := Try.prog) w 45 90 (some ⟨g, 0, none⟩) n c Try.underlying45
    simp only [Option.isNone_some] at hq
    go_enter Try.func48, Try.ntmps48
    go_wp2_with (at_builtin; refine wpList_append_k _ rfl _ _ 45 45 rfl _ _ rfl rfl (hr _) ?_; clear hr)
    go_ret
    exact ⟨_, _, rfl, Z.out⟩

end Go.Proofs.Ytkkklfnooeofcab
