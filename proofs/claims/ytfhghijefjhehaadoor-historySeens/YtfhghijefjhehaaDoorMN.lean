/-
  Texts put together: Jv Jw.
-/
import Derived.Test.YtfhghijefjhehaaDoorJi
import Derived.Test.YtfhghijefjhehaaDoorJc
import Derived.Test.YtfhghijefjhehaaDoorJk
/-! Jv -/
namespace Go.Proofs.YtfhghijefjhehaaDoor
open Go.RowKit
set_option linter.unusedVariables false

noncomputable def opscnt : Array Oper := (Tryd.f23.body.bind (opsAt 1)).getD #[]
theorem opscnt_size : opscnt.size = 9 := by kernel_rfl
theorem opscnt_earlier : Earlier opscnt := by
  have h : (List.range 9).all (fun i => ((opscnt[i]?).map (fun o => o.after.all (fun e => !Region.binds .any e || decide (e.on < i)))).getD true) = true := by kernel_rfl
  intro i o ho e he hb
  have hi : i < 9 := by
    have := (Array.getElem?_eq_some_iff.1 ho).1
    rwa [opscnt_size] at this
  have h1 := List.all_eq_true.1 h i (List.mem_range.2 hi)
  rw [ho] at h1
  simp only [Option.map_some, Option.getD_some, Array.all_eq_true'] at h1
  have h2 := h1 e he
  rw [hb] at h2
  simpa using h2
def slcnt (j : Nat) : Nat := ([14, 15, 16, 17, 18, 19, 20, 5] : List Nat).getD j 0
def Vcnt (bx b off i nE cE nL cL : Nat) (C : Int) (aL : Option Addr) (st si ha ma ok op oc ol os : Int) (ad : Option Addr) (nd cd : Nat) (N : Array Value) (j : Nat) : Value := [.agg #[.int .i64 C, .slice aL nL cL, .slice (some ⟨b, off, none⟩) nE cE], .pointer (some ⟨bx, 2, none⟩), .slice (some ⟨b, off, none⟩) nE cE, .int .i64 (i : Int), .pointer (some ⟨b, off + i * 10, none⟩), .agg #[.int .i64 st, .int .i64 si, .int .i64 ha, .int .i64 ma, .int .i64 ok, .int .i64 op, .int .u8 oc, .int .i64 ol, .int .i64 os, .slice ad nd cd], .agg N].getD j undef

set_option maxRecDepth 100000 in
set_option maxHeartbeats 4000000 in
theorem cnt_region (a0 : Act) (w : World) {Q : Exit → Act → World → Prop} (bx b off i nE cE nL cL : Nat) (C : Int) (aL : Option Addr) (st si ha ma ok op oc ol os : Int) (ad : Option Addr) (nd cd : Nat) (N : Array Value) (h2 : a0.eval (.tmp 2) = .pointer (some ⟨bx, 0, none⟩)) (h1 : a0.eval (.tmp 1) = .int .i64 (i : Int)) (hzz : 20 < a0.tmps.size) (hi' : (i : Int) < (nE : Int))
    (lbx : bx < w.heap.size) (lb : b < w.heap.size) (m0 : w.cell? ⟨bx, 0, none⟩ = some (.int .i64 C)) (m1 : w.cell? ⟨bx, 1, none⟩ = some (.slice aL nL cL)) (m2 : w.cell? ⟨bx, 2, none⟩ = some (.slice (some ⟨b, off, none⟩) nE cE)) (k0 : w.cell? ⟨b, off + i * 10, none⟩ = some (.int .i64 st)) (k1 : w.cell? ⟨b, off + i * 10 + 1, none⟩ = some (.int .i64 si)) (k2 : w.cell? ⟨b, off + i * 10 + 2, none⟩ = some (.int .i64 ha)) (k3 : w.cell? ⟨b, off + i * 10 + 3, none⟩ = some (.int .i64 ma)) (k4 : w.cell? ⟨b, off + i * 10 + 4, none⟩ = some (.int .i64 ok)) (k5 : w.cell? ⟨b, off + i * 10 + 5, none⟩ = some (.int .i64 op)) (k6 : w.cell? ⟨b, off + i * 10 + 6, none⟩ = some (.int .u8 oc)) (k7 : w.cell? ⟨b, off + i * 10 + 7, none⟩ = some (.int .i64 ol)) (k8 : w.cell? ⟨b, off + i * 10 + 8, none⟩ = some (.int .i64 os)) (k9 : w.cell? ⟨b, off + i * 10 + 9, none⟩ = some (.slice ad nd cd))
    (CC : ∀ U, Below w.heap.size w U → Calls Tryd.prog 41 #[.agg #[.int .i64 C, .slice aL nL cL, .slice (some ⟨b, off, none⟩) nE cE], .agg #[.int .i64 st, .int .i64 si, .int .i64 ha, .int .i64 ma, .int .i64 ok, .int .i64 op, .int .u8 oc, .int .i64 ol, .int .i64 os, .slice ad nd cd]] U fun e w' => e = .returned (.agg N) ∧ Below U.heap.size U w') (hN : N.size = 65) (hN1 : N.all (·.oneCell') = true)
    (hK : ∀ (V' : Nat → Value) u g, V' 7 = .pointer (some ⟨g, 0, none⟩) → w.heap.size ≤ g → u.heap[g]? = some (.cells N 74 (0, 0)) → Below w.heap.size w u → Q .normal (puts a0 ((List.range 8).map fun j => (slcnt j, V' j))) u) :
    (Code.region 1 opscnt true).wp Tryd.prog Q a0 w := by
  have inj : ∀ i j, i < 8 → j < 8 → slcnt i = slcnt j → i = j := by
    have h : (List.range 8).all (fun i => (List.range 8).all (fun j => decide (slcnt i = slcnt j → i = j))) = true := by kernel_rfl
    intro i j hi hj he
    have h1 := List.all_eq_true.1 h i (List.mem_range.2 hi)
    have h2 := List.all_eq_true.1 h1 j (List.mem_range.2 hj)
    exact (of_decide_eq_true h2) he
  have hz : ∀ j, j < 8 → slcnt j < a0.tmps.size := by
    have h : (List.range 8).all (fun i => decide (slcnt i ≤ 20)) = true := by kernel_rfl
    intro j hj
    have := of_decide_eq_true (List.all_eq_true.1 h j (List.mem_range.2 hj))
    omega
  refine wp_region_inv (by kernel_rfl) opscnt_earlier (fun L a u => JA opscnt slcnt 8 7 (Vcnt bx b off i nE cE nL cL C aL st si ha ma ok op oc ol os ad nd cd N) a0 w Tryd.zeroCells74 N 74 L a u) ?_ ?_ ?_
  · rintro L L' a' u ii o h ho hno hall hu
    clear hK
    have q2 := (h.fe.ev (j := 2) (by decide)).trans h2
    have q1 := (h.fe.ev (j := 1) (by decide)).trans h1
    have E := h.e
    have hi : ii < 9 := by
      have := (Array.getElem?_eq_some_iff.1 ho).1
      rwa [opscnt_size] at this
    match ii, hi with
    | 0, _ =>
      obtain ⟨h1, h2, h3⟩ := flds (d := some 14) (p := Op.load 25 (.tmp 2)) (g := none) ho (by kernel_rfl)
      have g0 := q2
      have c0 := (h.n.cell (p := ⟨bx, 0, none⟩) lbx).trans m0
      have c1 := (h.n.cell (p := ⟨bx, 1, none⟩) lbx).trans m1
      have c2 := (h.n.cell (p := ⟨bx, 2, none⟩) lbx).trans m2
      refine og_plain ho h3 trivial ?_
      unfold Oper.wp
      simp only [execOp, h2, g0]
      go_simp
      exact h.next (i := 0) ho hall (by decide) (by decide) (by decide) inj hz hu (Below.refl _ _)
    | 1, _ =>
      obtain ⟨h1, h2, h3⟩ := flds (d := some 15) (p := Op.fieldAddr 25 (.tmp 2) 2) (g := none) ho (by kernel_rfl)
      have g0 := q2
      refine og_plain ho h3 trivial ?_
      unfold Oper.wp
      simp only [execOp, h2, g0]
      go_simp
      exact h.next (i := 1) ho hall (by decide) (by decide) (by decide) inj hz hu (Below.refl _ _)
    | 2, _ =>
      obtain ⟨h1, h2, h3⟩ := flds (d := some 16) (p := Op.load 23 (.tmp 15)) (g := none) ho (by kernel_rfl)
      have g0 := (show a'.eval (.tmp 15) = .pointer (some ⟨bx, 2, none⟩) from E 1 (by decide) (by decide) (dep ho hall 1 (by kernel_rfl)))
      have c2 := (h.n.cell (p := ⟨bx, 2, none⟩) lbx).trans m2
      refine og_plain ho h3 trivial ?_
      unfold Oper.wp
      simp only [execOp, h2, g0]
      go_simp
      exact h.next (i := 2) ho hall (by decide) (by decide) (by decide) inj hz hu (Below.refl _ _)
    | 3, _ =>
      refine og_move (g := none) ho (.tmp 1) (d := some 17) (by kernel_rfl) trivial q1 ?_
      exact h.next (i := 3) ho hall (by decide) (by decide) (by decide) inj hz hu (Below.refl _ _)
    | 4, _ =>
      obtain ⟨h1, h2, h3⟩ := flds (d := some 18) (p := Op.indexAddr 23 (.tmp 16) (.tmp 17)) (g := none) ho (by kernel_rfl)
      have g0 := (show a'.eval (.tmp 16) = .slice (some ⟨b, off, none⟩) nE cE from E 2 (by decide) (by decide) (dep ho hall 2 (by kernel_rfl)))
      have g1 := (show a'.eval (.tmp 17) = .int .i64 (i : Int) from E 3 (by decide) (by decide) (dep ho hall 3 (by kernel_rfl)))
      refine og_plain ho h3 trivial ?_
      unfold Oper.wp
      simp only [execOp, h2, g0, g1]
      go_simp
      exact h.next (i := 4) ho hall (by decide) (by decide) (by decide) inj hz hu (Below.refl _ _)
    | 5, _ =>
      obtain ⟨h1, h2, h3⟩ := flds (d := some 19) (p := Op.load 50 (.tmp 18)) (g := none) ho (by kernel_rfl)
      have g0 := (show a'.eval (.tmp 18) = .pointer (some ⟨b, off + i * 10, none⟩) from E 4 (by decide) (by decide) (dep ho hall 4 (by kernel_rfl)))
      have c0 := (h.n.cell (p := ⟨b, off + i * 10, none⟩) lb).trans k0
      have c1 := (h.n.cell (p := ⟨b, off + i * 10 + 1, none⟩) lb).trans k1
      have c2 := (h.n.cell (p := ⟨b, off + i * 10 + 2, none⟩) lb).trans k2
      have c3 := (h.n.cell (p := ⟨b, off + i * 10 + 3, none⟩) lb).trans k3
      have c4 := (h.n.cell (p := ⟨b, off + i * 10 + 4, none⟩) lb).trans k4
      have c5 := (h.n.cell (p := ⟨b, off + i * 10 + 5, none⟩) lb).trans k5
      have c6 := (h.n.cell (p := ⟨b, off + i * 10 + 6, none⟩) lb).trans k6
      have c7 := (h.n.cell (p := ⟨b, off + i * 10 + 7, none⟩) lb).trans k7
      have c8 := (h.n.cell (p := ⟨b, off + i * 10 + 8, none⟩) lb).trans k8
      have c9 := (h.n.cell (p := ⟨b, off + i * 10 + 9, none⟩) lb).trans k9
      refine og_plain ho h3 trivial ?_
      unfold Oper.wp
      simp only [execOp, h2, g0]
      go_simp
      exact h.next (i := 5) ho hall (by decide) (by decide) (by decide) inj hz hu (Below.refl _ _)
    | 6, _ =>
      refine og_call2 (g := none) ho 41 (.tmp 14) (.tmp 19) 25 50 (d := some 20) (by kernel_rfl) trivial Tryd.func41 rfl (by kernel_rfl) (by rw [(show a'.eval (.tmp 14) = .agg #[.int .i64 C, .slice aL nL cL, .slice (some ⟨b, off, none⟩) nE cE] from E 0 (by decide) (by decide) (dep ho hall 0 (by kernel_rfl))), (show a'.eval (.tmp 19) = .agg #[.int .i64 st, .int .i64 si, .int .i64 ha, .int .i64 ma, .int .i64 ok, .int .i64 op, .int .u8 oc, .int .i64 ol, .int .i64 os, .slice ad nd cd] from E 5 (by decide) (by decide) (dep ho hall 5 (by kernel_rfl)))]; exact CC u h.n) ?_
      rintro e w' ⟨rfl, bb⟩
      exact ⟨_, rfl, h.next (i := 6) ho hall (by decide) (by decide) (by decide) inj hz hu bb⟩
    | 7, _ =>
      obtain ⟨h1, h2, h3⟩ := flds (d := some 5) (p := Op.alloc 74) (g := none) ho (by kernel_rfl)
      refine og_plain ho h3 trivial ?_
      unfold Oper.wp
      simp only [execOp, h2]
      go_simp
      exact h.lay ho hall hno (by decide) inj hz hu (by kernel_rfl)
    | 8, _ =>
      obtain ⟨h1, h2, h3⟩ := flds (d := none) (p := Op.store 74 (.tmp 5) (.tmp 20)) (g := none) ho (by kernel_rfl)
      have la : L 7 := dep ho hall 7 (by kernel_rfl)
      obtain ⟨g, g1, g2, g3, -⟩ := h.al la
      have hg := g3 hno
      have g0 : a'.eval (.tmp 5) = .pointer (some ⟨g, 0, none⟩) := g1
      have gv := (show a'.eval (.tmp 20) = .agg N from E 6 (by decide) (by decide) (dep ho hall 6 (by kernel_rfl)))
      refine og_plain ho h3 trivial ?_
      refine wp_store_row 74 (.tmp 5) (.tmp 20) h2 g N g0 gv 74 Tryd.zeroCells74 hg (by rw [hN]; kernel_rfl) (by rw [hN, zero65, arr65_size]) hN1 ?_
      rw [h1]
      refine h.fill ho hall hno (by decide) hu la g1 ?_ ?_
      · exact h.n.trans (Fr.below (Fr.setRow (S := fun k => k = g) u _ _ rfl) h.n.size (fun k hk => by omega))
      · exact set_rowAt hg N
    | i + 9, hi => omega
  · rintro L a' u h hall
    rw [opscnt_size] at hall
    obtain ⟨V', g, hv, hg, hD, rfl⟩ := h.done hz (by decide) (hall 8 (by omega)) (hall 7 (by omega))
    exact hK V' u g hv hg hD h.n
  · intro L hL
    exact JA.start ((Below.refl _ _).drew) hL

end Go.Proofs.YtfhghijefjhehaaDoor

/-! Jw -/
namespace Go.Proofs.YtfhghijefjhehaaDoor
open Go.RowKit
set_option linter.unusedVariables false

/-- append of one element onto a row of the call's own. -/
theorem row_push {u : World} {β : Option Nat} {a : Option Addr} {c : Nat} {xs : List El} (x : El) (h2 : SF elc 3 u 64 β (.slice a xs.length c) xs) (hA : xs.length ≤ 5864062014634) :
    ∃ g' cap w2, (∀ ty, (Builtin.append_ #[35, 35] ty #[.slice a xs.length c, .slice (some ⟨u.heap.size, 0, none⟩) 1 1]).run Tryd.prog (u.alloc (.cells #[.int .u8 x.1, .int .i64 x.2.1, .int .i64 x.2.2] 64)) = .ok (.slice (some ⟨g', 0, none⟩) (xs.length + 1) cap) w2) ∧
      SF elc 3 w2 64 (some g') (.slice (some ⟨g', 0, none⟩) (xs.length + 1) cap) (xs ++ [x]) ∧ (β = some g' ∨ u.heap.size ≤ g') ∧ Fr (fun k => β = some k) u w2 := by
  have hF : Fr (fun _ => False) u (u.alloc (.cells #[.int .u8 x.1, .int .i64 x.2.1, .int .i64 x.2.2] 64)) := Fr.alloc _ _ _
  obtain ⟨v', w', hr, g, ⟨cap, rfl, hR⟩, hN⟩ := push_el _ β _ xs (h2.fr hF (fun _ _ h => h)) u.heap.size x (heap_alloc_new u (.cells #[.int .u8 x.1, .int .i64 x.2.1, .int .i64 x.2.2] 64)) hA
  have hl : (xs ++ [x]).length = xs.length + 1 := by simp
  rw [hl] at hr
  refine ⟨g, cap, w', hr, ⟨cap, by rw [hl], hR⟩, ?_, ?_⟩
  · rcases hN with ⟨e, -⟩ | ⟨e, -⟩
    · exact .inl e
    · simp at e
      exact .inr (by omega)
  · have h0 : Fr (fun k => β = some k) u (u.alloc (.cells #[.int .u8 x.1, .int .i64 x.2.1, .int .i64 x.2.2] 64)) := hF.mono (fun _ _ h => h.elim)
    rcases hN with ⟨e, hf⟩ | ⟨e, hf⟩
    · exact h0.next hf (fun k _ hk => by rw [hk]; exact e)
    · exact h0.next hf (fun _ _ h => h.elim)

/-- Within seen: the history's box, the counts at gN, what was put in, what was taken out. -/
def SnI (w wr : World) (bx : Array Value) (gN : Nat) (cn : Array Value) (βi : Option Nat) (vi : Value) (I : List El) (βo : Option Nat) (vo : Value) (O : List El) : Prop :=
  wr.heap[w.heap.size]? = some (.cells bx 25 (0, 0)) ∧ (wr.heap[gN]? = some (.cells cn 74 (0, 0)) ∧ w.heap.size < gN) ∧ (SF elc 3 wr 64 βi vi I ∧ ∀ g, βi = some g → w.heap.size < g ∧ g ≠ gN) ∧ (SF elc 3 wr 64 βo vo O ∧ ∀ g, βo = some g → w.heap.size < g ∧ g ≠ gN ∧ βi ≠ some g) ∧ Below w.heap.size w wr
section
variable {w wr u : World} {bx cn : Array Value} {gN : Nat} {βi βo : Option Nat} {vi vo : Value} {I O : List El}
theorem SnI.below (h : SnI w wr bx gN cn βi vi I βo vo O) (hb : Below wr.heap.size wr u) : SnI w u bx gN cn βi vi I βo vo O := by
  obtain ⟨h1, ⟨h2, h2'⟩, ⟨h3, h3'⟩, ⟨h4, h4'⟩, h5⟩ := h
  have hF : Fr (fun _ => False) wr u := Fr.of_below hb
  exact ⟨hF.keeps h1 (fun h => h), ⟨hF.keeps h2 (fun h => h), h2'⟩, ⟨h3.fr hF (fun _ _ h => h), h3'⟩, ⟨h4.fr hF (fun _ _ h => h), h4'⟩, h5.trans (hb.mono h5.size)⟩
theorem SnI.pushI {a : Option Addr} {c : Nat} (h : SnI w wr bx gN cn βi (.slice a I.length c) I βo vo O) (x : El) (hn : I.length ≤ 5864062014634) :
    ∃ g' cap w2, (∀ ty, (Builtin.append_ #[35, 35] ty #[.slice a I.length c, .slice (some ⟨wr.heap.size, 0, none⟩) 1 1]).run Tryd.prog (wr.alloc (.cells #[.int .u8 x.1, .int .i64 x.2.1, .int .i64 x.2.2] 64)) = .ok (.slice (some ⟨g', 0, none⟩) (I.length + 1) cap) w2) ∧
      SnI w w2 bx gN cn (some g') (.slice (some ⟨g', 0, none⟩) (I.length + 1) cap) (I ++ [x]) βo vo O := by
  obtain ⟨h1, ⟨h2, h2'⟩, ⟨h3, h3'⟩, ⟨h4, h4'⟩, h5⟩ := h
  obtain ⟨g', cap, w2, hr, hs, hg, hF⟩ := row_push x h3 hn
  have l2 := block_lt h2
  have l4 := h4.lt
  have hg' : w.heap.size < g' ∧ g' ≠ gN := by
    rcases hg with e | e
    · exact h3' g' e
    · omega
  refine ⟨g', cap, w2, hr, hF.keeps h1 (fun e => by have := (h3' _ e).1; omega), ⟨hF.keeps h2 (fun e => (h3' _ e).2 rfl), h2'⟩, ⟨hs, fun g e => by cases e; exact hg'⟩, ⟨h4.fr hF (fun g e e' => (h4' g e).2.2 e'), fun g e => ⟨(h4' g e).1, (h4' g e).2.1, fun e' => ?_⟩⟩, h5.trans (hF.below h5.size (fun k hk => by have := (h3' k hk).1; omega))⟩
  injection e' with e'
  subst e'
  rcases hg with e1 | e1
  · exact (h4' g' e).2.2 e1
  · have := l4 g' e
    omega
theorem SnI.pushO {a : Option Addr} {c : Nat} (h : SnI w wr bx gN cn βi vi I βo (.slice a O.length c) O) (x : El) (hn : O.length ≤ 5864062014634) :
    ∃ g' cap w2, (∀ ty, (Builtin.append_ #[35, 35] ty #[.slice a O.length c, .slice (some ⟨wr.heap.size, 0, none⟩) 1 1]).run Tryd.prog (wr.alloc (.cells #[.int .u8 x.1, .int .i64 x.2.1, .int .i64 x.2.2] 64)) = .ok (.slice (some ⟨g', 0, none⟩) (O.length + 1) cap) w2) ∧
      SnI w w2 bx gN cn βi vi I (some g') (.slice (some ⟨g', 0, none⟩) (O.length + 1) cap) (O ++ [x]) := by
  obtain ⟨h1, ⟨h2, h2'⟩, ⟨h3, h3'⟩, ⟨h4, h4'⟩, h5⟩ := h
  obtain ⟨g', cap, w2, hr, hs, hg, hF⟩ := row_push x h4 hn
  have l2 := block_lt h2
  have l3 := h3.lt
  have hg' : w.heap.size < g' ∧ g' ≠ gN ∧ βi ≠ some g' := by
    rcases hg with e | e
    · exact h4' g' e
    · refine ⟨by omega, by omega, fun e' => ?_⟩
      have := l3 g' e'
      omega
  exact ⟨g', cap, w2, hr, hF.keeps h1 (fun e => by have := (h4' _ e).1; omega), ⟨hF.keeps h2 (fun e => (h4' _ e).2.1 rfl), h2'⟩, ⟨h3.fr hF (fun g e e' => (h4' g e').2.2 e), h3'⟩, ⟨hs, fun g e => by cases e; exact hg'⟩, h5.trans (hF.below h5.size (fun k hk => by have := (h4' k hk).1; omega))⟩
end

theorem in_len (log : List Ed) (evs : List Ev) (e : Ev) (k : Nat) : (inAt log evs e k).length ≤ k := by
  induction k with
  | zero => simp [inAt]
  | succ k ih =>
    simp only [inAt, List.length_append]
    split
    · split <;> simp <;> omega
    · simp; omega
theorem out_len (log : List Ed) (evs : List Ev) (D : Nat → List El) (e : Ev) (k : Nat) : (outAt log evs D e k).length ≤ k := by
  induction k with
  | zero => simp [outAt]
  | succ k ih =>
    simp only [outAt, List.length_append]
    split
    · split <;> simp <;> omega
    · simp; omega
theorem in_step (log : List Ed) (evs : List Ev) (e : Ev) (k : Nat) (h : k < evs.length) : inAt log evs e (k + 1) = inAt log evs e k ++ (if shB log e evs[k] = true ∧ evs[k].o.kind = 1 then [oEl evs[k].o] else []) := by
  simp only [inAt, List.getElem?_eq_getElem h]
theorem out_step (log : List Ed) (evs : List Ev) (D : Nat → List El) (e : Ev) (k : Nat) (h : k < evs.length) : outAt log evs D e (k + 1) = outAt log evs D e k ++ (if shB log e evs[k] = true ∧ evs[k].o.kind ≠ 1 then [(pvD evs D k evs[k].site).getD evs[k].o.pos.toNat (0, 0, 0)] else []) := by
  simp only [outAt, List.getElem?_eq_getElem h]

noncomputable def keepP (O I : List El) : List El := open Classical in I.filter fun y => decide (y ∉ O)
theorem stay_keep (log : List Ed) (evs : List Ev) (D : Nat → List El) (e : Ev) : stayP log evs D e = keepP (outAt log evs D e evs.length) (inAt log evs e evs.length) := rfl
theorem keep_in {O I : List El} {j : Nat} {x : El} (hx : I[j]? = some x) (h : x ∉ O) : keepP O (I.take (j + 1)) = keepP O (I.take j) ++ [x] := by
  unfold keepP
  rw [take_snoc I j x hx, List.filter_append]
  simp [h]
theorem keep_out {O I : List El} {j : Nat} {x : El} (hx : I[j]? = some x) (h : x ∈ O) : keepP O (I.take (j + 1)) = keepP O (I.take j) := by
  unfold keepP
  rw [take_snoc I j x hx, List.filter_append]
  simp [h]
theorem keep_len (O I : List El) : (keepP O I).length ≤ I.length := List.length_filter_le _ _

end Go.Proofs.YtfhghijefjhehaaDoor
