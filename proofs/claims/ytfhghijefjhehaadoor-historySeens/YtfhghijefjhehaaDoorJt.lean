/-
  The comparison that the sort is handed: by Client, then Seq.
-/
import Derived.Test.YtfhghijefjhehaaDoorMK
import Derived.Test.YtfhghijefjhehaaDoorMC
import Derived.Deep.RegionHeld3
import Derived.WalkKit
import Derived.WalkSpells
import Derived.WalkLawsBesides
namespace Go.Proofs.YtfhghijefjhehaaDoor
open Go.Shelf Go.RowKit Go.Lib Go.Sort
set_option linter.unusedVariables false

theorem nan_any (x : Int) (w : World) : Calls Tryd.prog 60 #[.int .i64 x] w fun e w' => e = .returned (.bool false) ∧ w' = w := by
  go_enter Tryd.func60, Tryd.ntmps60
  go_wp2
  go_ret
  simp

theorem compare_any (x y : Int) (w : World) : Calls Tryd.prog 40 #[.int .i64 x, .int .i64 y] w fun e w' => e = .returned (.int .i64 (Lib.compareInt x y)) ∧ w' = w := by
  unfold Lib.compareInt
  go_enter Tryd.func40, Tryd.ntmps40
  by_cases h1 : x < y
  · go_wp2_with (go_at_call 60; refine (nan_any _ _).mono ?_; rintro e w' ⟨rfl, rfl⟩)
    go_ret
    simp
  · by_cases h2 : y < x
    · go_wp2_with (go_at_call 60; refine (nan_any _ _).mono ?_; rintro e w' ⟨rfl, rfl⟩)
      go_ret
      simp
    · go_wp2_with (go_at_call 60; refine (nan_any _ _).mono ?_; rintro e w' ⟨rfl, rfl⟩)
      go_ret
      simp

def OrP (a c : Int) (k : Nat) : Prop := (0 < k → a = 0) ∧ (1 < k → c = 0)
def orI (a c : Int) : Int := if a = 0 then c else a
set_option maxRecDepth 100000 in
set_option maxHeartbeats 2000000 in
theorem or_any (a c : Int) (b : Nat) (w : World) (h0 : w.cell? ⟨b, 0, none⟩ = some (.int .i64 a)) (h1 : w.cell? ⟨b, 1, none⟩ = some (.int .i64 c)) : Calls Tryd.prog 39 #[.slice (some ⟨b, 0, none⟩) 2 2] w fun e w' => e = .returned (.int .i64 (orI a c)) ∧ w' = w := by
  unfold orI
  go_enter Tryd.func39, Tryd.ntmps39
  go_wp2
  go_loopw [8] (fun v wr => ∃ k : Nat, k ≤ 2 ∧ v = .int .i64 k ∧ wr = w ∧ OrP a c k) (fun v _ => 2 - (intOf v).toNat)
  case atStart => exact ⟨0, by omega, rfl, rfl, fun h => by omega, fun h => by omega⟩
  case round =>
    obtain ⟨k, hk, rfl, rfl, KK⟩ := hrel
    have k0 := KK.1
    have k1 := KK.2
    clear KK
    obtain rfl | rfl | rfl : k = 0 ∨ k = 1 ∨ k = 2 := by omega
    · by_cases ha : a = 0
      · subst ha
        have Z : OrP 0 c 1 := ⟨fun _ => rfl, fun h => by omega⟩
        clear k0 k1
        go_wp2
        exact ⟨⟨1, by omega, by trivial, by trivial, Z⟩, by simp [intOf]⟩
      · go_wp2
        go_ret
        simp
    · obtain rfl := k0 (by omega)
      by_cases hc : c = 0
      · subst hc
        have Z : OrP 0 0 2 := ⟨fun _ => rfl, fun _ => rfl⟩
        clear k0 k1
        go_wp2
        exact ⟨⟨2, by omega, by trivial, by trivial, Z⟩, by simp [intOf]⟩
      · go_wp2
        go_ret
        simp
    · obtain rfl := k0 (by omega)
      obtain rfl := k1 (by omega)
      go_wp2
      go_ret
      simp

theorem cell_two (w : World) (x y : Value) (t : TypeId) : (w.alloc (.cells #[x, y] t)).cell? ⟨w.heap.size, 0, none⟩ = some x ∧ (w.alloc (.cells #[x, y] t)).cell? ⟨w.heap.size, 1, none⟩ = some y := by
  have h := heap_alloc_new w (.cells #[x, y] t)
  exact ⟨by rw [cell_row h]; rfl, by rw [cell_row h]; rfl⟩
def cfI (a1 a2 b1 b2 : Int) : Int := orI (Lib.compareInt a1 b1) (Lib.compareInt a2 b2)
theorem grow_one (w : World) (q : Nat) (os : Array Obj) (o : Obj) (v : World) (h : v = grow w os) : (v.drewN q).alloc o = grow (w.drewN q) (os.push o) := by
  subst h
  rw [alloc_eq_grow]
  show grow (grow (w.drewN q) os) #[o] = _
  rw [grow_grow]
  simp

/-- Quiet operations have put V j into their slots; kb has turned u0 to u1. -/
structure JB (ops : Array Oper) (σ : Nat → Nat) (N kb : Nat) (V : Nat → Value) (a0 : Act) (u0 u1 : World) (L : Nat → Prop) (a : Act) (u : World) : Prop where
  fe : Fe a0 a ((List.range N).map σ)
  e : ∀ j, j < N → L j → a.eval (.tmp (σ j)) = V j
  dc : Dc ops L
  n : ¬ L kb → u = u0
  s : L kb → u = u1
section
variable {ops : Array Oper} {σ : Nat → Nat} {N kb : Nat} {V : Nat → Value} {a0 : Act} {u0 u1 : World} {L L' : Nat → Prop} {a : Act} {u : World} {i : Nat} {o : Oper}
theorem JB.next (h : JB ops σ N kb V a0 u0 u1 L a u) (ho : ops[i]? = some o) (hall : ∀ e ∈ o.after, Region.binds .any e = true → L e.on) (hi : i < N) (ib : i ≠ kb) (hinj : ∀ i j, i < N → j < N → σ i = σ j → i = j) (hz : ∀ j, j < N → σ j < a0.tmps.size) (hu : ∀ j, L' j ↔ (j = i ∨ L j)) :
    JB ops σ N kb V a0 u0 u1 L' (a.put (some (σ i)) (V i)) u := by
  have lb : L' kb ↔ L kb := by rw [hu]; exact ⟨fun h => h.resolve_left (Ne.symm ib), .inr⟩
  refine ⟨h.fe.put (List.mem_map.2 ⟨i, List.mem_range.2 hi, rfl⟩) _, fun j hj hl => ?_, h.dc.next ho hall hu, fun hn => h.n (fun hl => hn (lb.2 hl)), fun hl => h.s (lb.1 hl)⟩
  by_cases e : j = i
  · subst e
    exact ev_eq _ _ (by rw [h.fe.sz]; exact hz j hj)
  · exact (ev_ne _ _ (fun he => e (hinj j i hj hi he))).trans (h.e j hj (((hu j).1 hl).resolve_left e))
theorem JB.build (h : JB ops σ N kb V a0 u0 u1 L a u) (ho : ops[kb]? = some o) (hall : ∀ e ∈ o.after, Region.binds .any e = true → L e.on) (hi : kb < N) (hinj : ∀ i j, i < N → j < N → σ i = σ j → i = j) (hz : ∀ j, j < N → σ j < a0.tmps.size) (hu : ∀ j, L' j ↔ (j = kb ∨ L j)) :
    JB ops σ N kb V a0 u0 u1 L' (a.put (some (σ kb)) (V kb)) u1 := by
  refine ⟨h.fe.put (List.mem_map.2 ⟨kb, List.mem_range.2 hi, rfl⟩) _, fun j hj hl => ?_, h.dc.next ho hall hu, fun hn => absurd ((hu kb).2 (.inl rfl)) hn, fun _ => rfl⟩
  by_cases e : j = kb
  · subst e
    exact ev_eq _ _ (by rw [h.fe.sz]; exact hz j hj)
  · exact (ev_ne _ _ (fun he => e (hinj j kb hj hi he))).trans (h.e j hj (((hu j).1 hl).resolve_left e))
theorem JB.done (h : JB ops σ N kb V a0 u0 u1 L a u) (hz : ∀ j, j < N → σ j < a0.tmps.size) (hall : ∀ j, j < N → L j) : a = puts a0 ((List.range N).map fun j => (σ j, V j)) := by
  refine Fe.puts _ a0 a (by rw [List.map_map]; exact h.fe) (fun p hp => ?_)
  obtain ⟨j, hj, rfl⟩ := List.mem_map.1 hp
  exact ⟨hz j (List.mem_range.1 hj), h.e j (List.mem_range.1 hj) (hall j (List.mem_range.1 hj))⟩
theorem JB.start (hL : ∀ i, ¬ L i) : JB ops σ N kb V a0 u0 u1 L a0 u0 :=
  ⟨Fe.refl _ _, fun j _ h => absurd h (hL _), fun j o _ hl => absurd hl (hL _), fun _ => rfl, fun h => absurd h (hL _)⟩
end

noncomputable def opscmp : Array Oper := (Tryd.f38.body.bind (opsAt 1)).getD #[]
theorem opscmp_size : opscmp.size = 13 := by kernel_rfl
theorem opscmp_earlier : Earlier opscmp := by
  have h : (List.range 13).all (fun i => ((opscmp[i]?).map (fun o => o.after.all (fun e => !Region.binds .any e || decide (e.on < i)))).getD true) = true := by kernel_rfl
  intro i o ho e he hb
  have hi : i < 13 := by
    have := (Array.getElem?_eq_some_iff.1 ho).1
    rwa [opscmp_size] at this
  have h1 := List.all_eq_true.1 h i (List.mem_range.2 hi)
  rw [ho] at h1
  simp only [Option.map_some, Option.getD_some, Array.all_eq_true'] at h1
  have h2 := h1 e he
  rw [hb] at h2
  simpa using h2
def slcmp (j : Nat) : Nat := ([5, 6, 7, 8, 9, 10, 11, 12, 13, 14, 15, 16, 4] : List Nat).getD j 0
def Vcmp (A B Z : Nat) (a1 a2 b1 b2 c1 c2 r : Int) (j : Nat) : Value := [.pointer (some ⟨A, 1, none⟩), .int .i64 a1, .pointer (some ⟨B, 1, none⟩), .int .i64 b1, .int .i64 c1, .pointer (some ⟨A, 2, none⟩), .int .i64 a2, .pointer (some ⟨B, 2, none⟩), .int .i64 b2, .int .i64 c2, .slice (some ⟨Z, 0, none⟩) 2 2, .int .i64 r, .int .i64 r].getD j undef

set_option maxRecDepth 100000 in
set_option maxHeartbeats 4000000 in
theorem cmp_region (a0 : Act) (w : World) {Q : Exit → Act → World → Prop} (A B : Nat) (a1 a2 b1 b2 c1 c2 r : Int) (h2 : a0.eval (.tmp 2) = .pointer (some ⟨A, 0, none⟩)) (h3 : a0.eval (.tmp 3) = .pointer (some ⟨B, 0, none⟩)) (hzz : 16 < a0.tmps.size)
    (x1 : w.cell? ⟨A, 1, none⟩ = some (.int .i64 a1)) (x2 : w.cell? ⟨A, 2, none⟩ = some (.int .i64 a2)) (y1 : w.cell? ⟨B, 1, none⟩ = some (.int .i64 b1)) (y2 : w.cell? ⟨B, 2, none⟩ = some (.int .i64 b2))
    (C1 : ∀ W', Calls Tryd.prog 40 #[.int .i64 a1, .int .i64 b1] W' fun e w' => e = .returned (.int .i64 c1) ∧ w' = W') (C2 : ∀ W', Calls Tryd.prog 40 #[.int .i64 a2, .int .i64 b2] W' fun e w' => e = .returned (.int .i64 c2) ∧ w' = W')
    (CO : Calls Tryd.prog 39 #[.slice (some ⟨w.heap.size, 0, none⟩) 2 2] (w.drew.alloc (.cells #[.int .i64 c1, .int .i64 c2] 3)) fun e w' => e = .returned (.int .i64 r) ∧ w' = w.drew.alloc (.cells #[.int .i64 c1, .int .i64 c2] 3))
    (hK : Q .normal (puts a0 ((List.range 13).map fun j => (slcmp j, Vcmp A B w.heap.size a1 a2 b1 b2 c1 c2 r j))) (w.drew.alloc (.cells #[.int .i64 c1, .int .i64 c2] 3))) :
    (Code.region 1 opscmp true).wp Tryd.prog Q a0 w := by
  have inj : ∀ i j, i < 13 → j < 13 → slcmp i = slcmp j → i = j := by
    have h : (List.range 13).all (fun i => (List.range 13).all (fun j => decide (slcmp i = slcmp j → i = j))) = true := by kernel_rfl
    intro i j hi hj he
    have h1 := List.all_eq_true.1 h i (List.mem_range.2 hi)
    have h2 := List.all_eq_true.1 h1 j (List.mem_range.2 hj)
    exact (of_decide_eq_true h2) he
  have hz : ∀ j, j < 13 → slcmp j < a0.tmps.size := by
    have h : (List.range 13).all (fun i => decide (slcmp i ≤ 16)) = true := by kernel_rfl
    intro j hj
    have := of_decide_eq_true (List.all_eq_true.1 h j (List.mem_range.2 hj))
    omega
  refine wp_region_inv (by kernel_rfl) opscmp_earlier (fun L a u => JB opscmp slcmp 13 10 (Vcmp A B w.heap.size a1 a2 b1 b2 c1 c2 r) a0 w.drew (w.drew.alloc (.cells #[.int .i64 c1, .int .i64 c2] 3)) L a u) ?_ ?_ ?_
  · rintro L L' a' u i o h ho hno hall hu
    clear hK
    have q2 := (h.fe.ev (j := 2) (by decide)).trans h2
    have q3 := (h.fe.ev (j := 3) (by decide)).trans h3
    have E := h.e
    have hi : i < 13 := by
      have := (Array.getElem?_eq_some_iff.1 ho).1
      rwa [opscmp_size] at this
    match i, hi with
    | 0, _ =>
      obtain ⟨h1, h2, h3⟩ := flds (d := some 5) (p := Op.fieldAddr 64 (.tmp 2) 1) (g := none) ho (by kernel_rfl)
      have g0 := q2
      refine og_plain ho h3 trivial ?_
      unfold Oper.wp
      simp only [execOp, h2, g0]
      go_simp
      exact h.next (i := 0) ho hall (by decide) (by decide) inj hz hu
    | 1, _ =>
      obtain ⟨h1, h2, h3⟩ := flds (d := some 6) (p := Op.load 3 (.tmp 5)) (g := none) ho (by kernel_rfl)
      have g0 := (show a'.eval (.tmp 5) = .pointer (some ⟨A, 1, none⟩) from E 0 (by decide) (dep ho hall 0 (by kernel_rfl)))
      have c0 : u.cell? ⟨A, 1, none⟩ = some (.int .i64 a1) := by rw [h.n (fun hl => hno (anc_spec h.dc 40 10 1 (by kernel_rfl) hl))]; exact x1
      refine og_plain ho h3 trivial ?_
      unfold Oper.wp
      simp only [execOp, h2, g0]
      go_simp
      exact h.next (i := 1) ho hall (by decide) (by decide) inj hz hu
    | 2, _ =>
      obtain ⟨h1, h2, h3⟩ := flds (d := some 7) (p := Op.fieldAddr 64 (.tmp 3) 1) (g := none) ho (by kernel_rfl)
      have g0 := q3
      refine og_plain ho h3 trivial ?_
      unfold Oper.wp
      simp only [execOp, h2, g0]
      go_simp
      exact h.next (i := 2) ho hall (by decide) (by decide) inj hz hu
    | 3, _ =>
      obtain ⟨h1, h2, h3⟩ := flds (d := some 8) (p := Op.load 3 (.tmp 7)) (g := none) ho (by kernel_rfl)
      have g0 := (show a'.eval (.tmp 7) = .pointer (some ⟨B, 1, none⟩) from E 2 (by decide) (dep ho hall 2 (by kernel_rfl)))
      have c0 : u.cell? ⟨B, 1, none⟩ = some (.int .i64 b1) := by rw [h.n (fun hl => hno (anc_spec h.dc 40 10 3 (by kernel_rfl) hl))]; exact y1
      refine og_plain ho h3 trivial ?_
      unfold Oper.wp
      simp only [execOp, h2, g0]
      go_simp
      exact h.next (i := 3) ho hall (by decide) (by decide) inj hz hu
    | 4, _ =>
      refine og_call2 (g := none) ho 40 (.tmp 6) (.tmp 8) 3 3 (d := some 9) (by kernel_rfl) trivial Tryd.func40 rfl (by kernel_rfl) (by rw [(show a'.eval (.tmp 6) = .int .i64 a1 from E 1 (by decide) (dep ho hall 1 (by kernel_rfl))), (show a'.eval (.tmp 8) = .int .i64 b1 from E 3 (by decide) (dep ho hall 3 (by kernel_rfl)))]; exact C1 u) ?_
      rintro e w' ⟨rfl, rfl⟩
      exact ⟨_, rfl, h.next (i := 4) ho hall (by decide) (by decide) inj hz hu⟩
    | 5, _ =>
      obtain ⟨h1, h2, h3⟩ := flds (d := some 10) (p := Op.fieldAddr 64 (.tmp 2) 2) (g := none) ho (by kernel_rfl)
      have g0 := q2
      refine og_plain ho h3 trivial ?_
      unfold Oper.wp
      simp only [execOp, h2, g0]
      go_simp
      exact h.next (i := 5) ho hall (by decide) (by decide) inj hz hu
    | 6, _ =>
      obtain ⟨h1, h2, h3⟩ := flds (d := some 11) (p := Op.load 3 (.tmp 10)) (g := none) ho (by kernel_rfl)
      have g0 := (show a'.eval (.tmp 10) = .pointer (some ⟨A, 2, none⟩) from E 5 (by decide) (dep ho hall 5 (by kernel_rfl)))
      have c0 : u.cell? ⟨A, 2, none⟩ = some (.int .i64 a2) := by rw [h.n (fun hl => hno (anc_spec h.dc 40 10 6 (by kernel_rfl) hl))]; exact x2
      refine og_plain ho h3 trivial ?_
      unfold Oper.wp
      simp only [execOp, h2, g0]
      go_simp
      exact h.next (i := 6) ho hall (by decide) (by decide) inj hz hu
    | 7, _ =>
      obtain ⟨h1, h2, h3⟩ := flds (d := some 12) (p := Op.fieldAddr 64 (.tmp 3) 2) (g := none) ho (by kernel_rfl)
      have g0 := q3
      refine og_plain ho h3 trivial ?_
      unfold Oper.wp
      simp only [execOp, h2, g0]
      go_simp
      exact h.next (i := 7) ho hall (by decide) (by decide) inj hz hu
    | 8, _ =>
      obtain ⟨h1, h2, h3⟩ := flds (d := some 13) (p := Op.load 3 (.tmp 12)) (g := none) ho (by kernel_rfl)
      have g0 := (show a'.eval (.tmp 12) = .pointer (some ⟨B, 2, none⟩) from E 7 (by decide) (dep ho hall 7 (by kernel_rfl)))
      have c0 : u.cell? ⟨B, 2, none⟩ = some (.int .i64 b2) := by rw [h.n (fun hl => hno (anc_spec h.dc 40 10 8 (by kernel_rfl) hl))]; exact y2
      refine og_plain ho h3 trivial ?_
      unfold Oper.wp
      simp only [execOp, h2, g0]
      go_simp
      exact h.next (i := 8) ho hall (by decide) (by decide) inj hz hu
    | 9, _ =>
      refine og_call2 (g := none) ho 40 (.tmp 11) (.tmp 13) 3 3 (d := some 14) (by kernel_rfl) trivial Tryd.func40 rfl (by kernel_rfl) (by rw [(show a'.eval (.tmp 11) = .int .i64 a2 from E 6 (by decide) (dep ho hall 6 (by kernel_rfl))), (show a'.eval (.tmp 13) = .int .i64 b2 from E 8 (by decide) (dep ho hall 8 (by kernel_rfl)))]; exact C2 u) ?_
      rintro e w' ⟨rfl, rfl⟩
      exact ⟨_, rfl, h.next (i := 9) ho hall (by decide) (by decide) inj hz hu⟩
    | 10, _ =>
      obtain ⟨h1, h2, h3⟩ := flds (d := some 15) (p := Op.buildSlice 34 2 #[(0, .tmp 9), (1, .tmp 14)]) (g := none) ho (by kernel_rfl)
      have g0 := (show a'.eval (.tmp 9) = .int .i64 c1 from E 4 (by decide) (dep ho hall 4 (by kernel_rfl)))
      have g1 := (show a'.eval (.tmp 14) = .int .i64 c2 from E 9 (by decide) (dep ho hall 9 (by kernel_rfl)))
      have gt : a'.tmps[9]?.getD undef = .int .i64 c1 := by simpa [Act.eval] using g0
      have gs : a'.tmps[14]?.getD undef = .int .i64 c2 := by simpa [Act.eval] using g1
      obtain rfl := h.n hno
      refine og_plain ho h3 trivial ?_
      unfold Oper.wp
      simp only [execOp, h2]
      go_simp
      exact h.build ho hall (by decide) inj hz hu
    | 11, _ =>
      obtain rfl := h.s (dep ho hall 10 (by kernel_rfl))
      refine op_call ho 39 (.tmp 15) 34 (d := some 16) (by kernel_rfl) Tryd.func39 rfl (by kernel_rfl) (by rw [(show a'.eval (.tmp 15) = .slice (some ⟨w.heap.size, 0, none⟩) 2 2 from E 10 (by decide) (dep ho hall 10 (by kernel_rfl)))]; exact CO) ?_
      rintro e w' ⟨rfl, rfl⟩
      exact ⟨_, rfl, h.next (i := 11) ho hall (by decide) (by decide) inj hz hu⟩
    | 12, _ =>
      refine og_assign (g := none) ho (.tmp 16) (d := some 4) (by kernel_rfl) trivial (show a'.eval (.tmp 16) = .int .i64 r from E 11 (by decide) (dep ho hall 11 (by kernel_rfl))) ?_
      exact h.next (i := 12) ho hall (by decide) (by decide) inj hz hu
    | i + 13, hi => omega
  · rintro L a' u h hall
    rw [opscmp_size] at hall
    rw [h.done hz hall, h.s (hall 10 (by omega))]
    exact hK
  · intro L hL
    exact JB.start hL

set_option maxRecDepth 100000 in
set_option maxHeartbeats 4000000 in
theorem cmp_any (a0 a1 a2 b0 b1 b2 : Int) (W : World) : Calls Tryd.prog 38 #[.agg #[.int .u8 a0, .int .i64 a1, .int .i64 a2], .agg #[.int .u8 b0, .int .i64 b1, .int .i64 b2]] W fun e w' => e = .returned (.int .i64 (cfI a1 a2 b1 b2)) ∧ ∃ q os', w' = grow (W.drewN q) os' := by
  have C1 := hd (fun W' => compare_any a1 b1 W')
  have C2 := hd (fun W' => compare_any a2 b2 W')
  have hA : ((W.alloc (.cells #[.int .u8 a0, .int .i64 a1, .int .i64 a2] 64)).alloc (.cells #[.int .u8 b0, .int .i64 b1, .int .i64 b2] 64)).heap[W.heap.size]? = some (.cells #[.int .u8 a0, .int .i64 a1, .int .i64 a2] 64 (0, 0)) := (heap_alloc_old _ _ (by simp)).trans (heap_alloc_new _ _)
  have hB : ((W.alloc (.cells #[.int .u8 a0, .int .i64 a1, .int .i64 a2] 64)).alloc (.cells #[.int .u8 b0, .int .i64 b1, .int .i64 b2] 64)).heap[W.heap.size + 1]? = some (.cells #[.int .u8 b0, .int .i64 b1, .int .i64 b2] 64 (0, 0)) := by
    have := heap_alloc_new (W.alloc (.cells #[.int .u8 a0, .int .i64 a1, .int .i64 a2] 64)) (.cells #[.int .u8 b0, .int .i64 b1, .int .i64 b2] 64)
    rwa [World.size_alloc] at this
  have GR := hd (show (W.alloc (.cells #[.int .u8 a0, .int .i64 a1, .int .i64 a2] 64)).alloc (.cells #[.int .u8 b0, .int .i64 b1, .int .i64 b2] 64) = grow W (#[] ++ #[.cells #[.int .u8 a0, .int .i64 a1, .int .i64 a2] 64] ++ #[.cells #[.int .u8 b0, .int .i64 b1, .int .i64 b2] 64]) by rw [alloc_eq_grow, alloc_eq_grow, grow_grow]; rfl)
  have HA := hd hA
  have HB := hd hB
  clear hA hB
  unfold cfI
  generalize Lib.compareInt a1 b1 = c1 at C1 ⊢
  generalize Lib.compareInt a2 b2 = c2 at C2 ⊢
  go_enter Tryd.func38, Tryd.ntmps38
  go_upto_region 1 with fail
  generalize (W.alloc (.cells #[.int .u8 a0, .int .i64 a1, .int .i64 a2] 64)).alloc (.cells #[.int .u8 b0, .int .i64 b1, .int .i64 b2] 64) = w0 at *
  have x1 := cell_row HA.out 1; have x2 := cell_row HA.out 2; have y1 := cell_row HB.out 1; have y2 := cell_row HB.out 2
  simp at x1 x2 y1 y2
  have CO := or_any c1 c2 w0.heap.size (w0.drew.alloc (.cells #[.int .i64 c1, .int .i64 c2] 3)) (cell_two w0.drew _ _ _).1 (cell_two w0.drew _ _ _).2
  refine cmp_region _ w0 W.heap.size (W.heap.size + 1) a1 a2 b1 b2 c1 c2 (orI c1 c2) rfl rfl (by simp) x1 x2 y1 y2 C1.out C2.out CO ?_
  simp only [slcmp, Vcmp, List.getD_cons_zero, List.getD_cons_succ, List.range, List.range.loop, List.map_cons, List.map_nil, puts, List.foldl_cons, List.foldl_nil, Act.put, List.setIfInBounds_toArray, List.set_cons_succ, List.set_cons_zero]
  go_wp2
  go_ret
  exact ⟨rfl, 1, _, grow_one W 1 _ _ w0 GR.out⟩

end Go.Proofs.YtfhghijefjhehaaDoor
