/-
  Texts put together: Ws Wt.
-/
import Derived.Test.YtmbnimlibnheeabDoorWr
/-! Ws -/
namespace Go.Proofs.YtmbnimlibnheeabDoor
open Go.RowKit Go.Lib
set_option linter.unusedVariables false

noncomputable def opsW28 : Array Oper := (Tryd.f3.body.bind (opsAt 28)).getD #[]
theorem opsW28_size : opsW28.size = 23 := by kernel_rfl
theorem opsW28_earlier : Earlier opsW28 := by
  have h : (List.range 23).all (fun i => ((opsW28[i]?).map (fun o => o.after.all (fun e => !Region.binds .any e || decide (e.on < i)))).getD true) = true := by kernel_rfl
  intro i o ho e he hb
  have hi : i < 23 := by
    have := (Array.getElem?_eq_some_iff.1 ho).1
    rwa [opsW28_size] at this
  have h1 := List.all_eq_true.1 h i (List.mem_range.2 hi)
  rw [ho] at h1
  simp only [Option.map_some, Option.getD_some, Array.all_eq_true'] at h1
  have h2 := h1 e he
  rw [hb] at h2
  simpa using h2

noncomputable def opsW31 : Array Oper := (Tryd.f3.body.bind (opsAt 31)).getD #[]
theorem opsW31_size : opsW31.size = 24 := by kernel_rfl
theorem opsW31_earlier : Earlier opsW31 := by
  have h : (List.range 24).all (fun i => ((opsW31[i]?).map (fun o => o.after.all (fun e => !Region.binds .any e || decide (e.on < i)))).getD true) = true := by kernel_rfl
  intro i o ho e he hb
  have hi : i < 24 := by
    have := (Array.getElem?_eq_some_iff.1 ho).1
    rwa [opsW31_size] at this
  have h1 := List.all_eq_true.1 h i (List.mem_range.2 hi)
  rw [ho] at h1
  simp only [Option.map_some, Option.getD_some, Array.all_eq_true'] at h1
  have h2 := h1 e he
  rw [hb] at h2
  simpa using h2

def Vwh28t (x y b1 o1 nl ci k : Nat) (zc zl zq : Int) (sa ta : Option Addr) (sn sc tn tc : Nat) (j : Nat) : Value := [.pointer (some ⟨x, 0, none⟩), .pointer (some ⟨x, 0, none⟩), .pointer (some ⟨x, 6, none⟩), .slice sa sn sc, .slice (some ⟨b1, o1, none⟩) nl ci, .int .i64 k, .pointer (some ⟨b1, o1 + k * 3, none⟩), .agg #[.int .u8 zc, .int .i64 zl, .int .i64 zq], .bool true, .bool false, .bool false, undef, undef, undef, undef, undef, undef, undef, undef, undef, undef, .bool false, .bool false].getD j (.bool false)
def slwh28t (j : Nat) : Nat := ([165, 166, 167, 168, 169, 170, 171, 172, 173, 174, 175, 176, 177, 178, 179, 180, 181, 182, 183, 184, 185, 186, 16] : List Nat).getD j 0

set_option maxRecDepth 100000 in
set_option maxHeartbeats 4000000 in
theorem wh28t (a0 : Act) (w : World) {K : Act → World → Prop} {Q' : Exit → Act → World → Prop} (x y b1 o1 nl ci k : Nat) (zc zl zq : Int) (sa ta : Option Addr) (sn sc tn tc : Nat)
    (h5 : a0.eval (.tmp 5) = .pointer (some ⟨x, 0, none⟩)) (h6 : a0.eval (.tmp 6) = .pointer (some ⟨y, 0, none⟩)) (h7 : a0.eval (.tmp 7) = .slice (some ⟨b1, o1, none⟩) nl ci) (h15 : a0.eval (.tmp 15) = .int .i64 k) (hzz : 186 < a0.tmps.size)
    (lx : x < w.heap.size) (ly : y < w.heap.size) (lb1 : b1 < w.heap.size) (hcx : w.cell? ⟨x, 6, none⟩ = some (.slice sa sn sc)) (hcy : w.cell? ⟨y, 6, none⟩ = some (.slice ta tn tc)) (c0 : w.cell? ⟨b1, o1 + k * 3, none⟩ = some (.int .u8 zc)) (c1 : w.cell? ⟨b1, o1 + k * 3 + 1, none⟩ = some (.int .i64 zl)) (c2 : w.cell? ⟨b1, o1 + k * 3 + 2, none⟩ = some (.int .i64 zq)) (i1 : (k : Int) < (nl : Int)) (i0 : (0 : Int) ≤ (k : Int)) (C1 : ∀ U, Below w.heap.size w U → Calls Tryd.prog 9 #[.slice sa sn sc, .agg #[.int .u8 zc, .int .i64 zl, .int .i64 zq]] U fun e w' => e = .returned (.bool true) ∧ Below w.heap.size w w')
    (hK : ∀ (V : Nat → Value) u, V 22 = .bool false → Below w.heap.size w u → K (puts a0 ((List.range 23).map fun j => (slwh28t j, V j))) u) :
    (Code.region 28 opsW28 true).wp Tryd.prog (Exit.then K Q') a0 w := by
  have inj : ∀ i j, i < 23 → j < 23 → slwh28t i = slwh28t j → i = j := by
    have h : (List.range 23).all (fun i => (List.range 23).all (fun j => decide (slwh28t i = slwh28t j → i = j))) = true := by kernel_rfl
    intro i j hi hj he
    have h1 := List.all_eq_true.1 h i (List.mem_range.2 hi)
    have h2 := List.all_eq_true.1 h1 j (List.mem_range.2 hj)
    exact (of_decide_eq_true h2) he
  have hz : ∀ j, j < 23 → slwh28t j < a0.tmps.size := by
    have h : (List.range 23).all (fun i => decide (slwh28t i ≤ 186)) = true := by kernel_rfl
    intro j hj
    have := of_decide_eq_true (List.all_eq_true.1 h j (List.mem_range.2 hj))
    omega
  refine wp_region_inv (by kernel_rfl) opsW28_earlier (fun L a u => IVs slwh28t 23 a0 w (Vwh28t x y b1 o1 nl ci k zc zl zq sa ta sn sc tn tc) L a u) ?_ ?_ ?_
  · rintro L L' x' u i o h ho hno hall hu
    clear hK
    have q5 := (h.fe.ev (j := 5) (by decide)).trans h5
    have q6 := (h.fe.ev (j := 6) (by decide)).trans h6
    have q7 := (h.fe.ev (j := 7) (by decide)).trans h7
    have q15 := (h.fe.ev (j := 15) (by decide)).trans h15
    have E := h.e
    have hi : i < 23 := by
      have := (Array.getElem?_eq_some_iff.1 ho).1
      rwa [opsW28_size] at this
    match i, hi with
    | 0, _ =>
      refine og_move (g := none) ho (.tmp 5) (d := some 165) (by kernel_rfl) (by exact trivial) q5 ?_
      exact h.next (by omega) rfl inj hz hu h.bw
    | 1, _ =>
      refine og_nil (g := none) ho (.tmp 165) (d := some 166) (by kernel_rfl) (by exact trivial) (show x'.eval (.tmp 165) = .pointer (some ⟨x, 0, none⟩) from E 0 (by decide) (dep ho hall 0 (by kernel_rfl))) ?_
      exact h.next (by omega) rfl inj hz hu h.bw
    | 2, _ =>
      refine og_fld6 (g := none) ho (.tmp 166) (d := some 167) (by kernel_rfl) (by exact trivial) (show x'.eval (.tmp 166) = .pointer (some ⟨x, 0, none⟩) from E 1 (by decide) (dep ho hall 1 (by kernel_rfl))) ?_
      exact h.next (by omega) rfl inj hz hu h.bw
    | 3, _ =>
      refine og_ldS (g := none) ho (.tmp 167) (d := some 168) (by kernel_rfl) (by exact trivial) (show x'.eval (.tmp 167) = .pointer (some ⟨x, 6, none⟩) from E 2 (by decide) (dep ho hall 2 (by kernel_rfl))) ((h.bw.cell (p := ⟨x, 6, none⟩) lx).trans hcx) ?_
      exact h.next (by omega) rfl inj hz hu h.bw
    | 4, _ =>
      refine og_move (g := none) ho (.tmp 7) (d := some 169) (by kernel_rfl) (by exact trivial) q7 ?_
      exact h.next (by omega) rfl inj hz hu h.bw
    | 5, _ =>
      refine og_move (g := none) ho (.tmp 15) (d := some 170) (by kernel_rfl) (by exact trivial) q15 ?_
      exact h.next (by omega) rfl inj hz hu h.bw
    | 6, _ =>
      refine og_ixE (g := none) ho (.tmp 169) (.tmp 170) (d := some 171) (by kernel_rfl) (by exact trivial) (show x'.eval (.tmp 169) = .slice (some ⟨b1, o1, none⟩) nl ci from E 4 (by decide) (dep ho hall 4 (by kernel_rfl))) (show x'.eval (.tmp 170) = .int .i64 k from E 5 (by decide) (dep ho hall 5 (by kernel_rfl))) i1 i0 ?_
      exact h.next (by omega) rfl inj hz hu h.bw
    | 7, _ =>
      refine og_ldE (g := none) ho (.tmp 171) (d := some 172) (by kernel_rfl) (by exact trivial) (show x'.eval (.tmp 171) = .pointer (some ⟨b1, o1 + k * 3, none⟩) from E 6 (by decide) (dep ho hall 6 (by kernel_rfl))) ((h.bw.cell (p := ⟨b1, o1 + k * 3, none⟩) lb1).trans c0) ((h.bw.cell (p := ⟨b1, o1 + k * 3 + 1, none⟩) lb1).trans c1) ((h.bw.cell (p := ⟨b1, o1 + k * 3 + 2, none⟩) lb1).trans c2) ?_
      exact h.next (by omega) rfl inj hz hu h.bw
    | 8, _ =>
      refine og_call2 (g := none) ho 9 (.tmp 168) (.tmp 172) 26 41 (d := some 173) (by kernel_rfl) (by exact trivial) Tryd.func9 rfl (by kernel_rfl) (R := fun e w' => e = .returned (.bool true) ∧ Below w.heap.size w w') (by rw [(show x'.eval (.tmp 168) = .slice sa sn sc from E 3 (by decide) (dep ho hall 3 (by kernel_rfl))), (show x'.eval (.tmp 172) = .agg #[.int .u8 zc, .int .i64 zl, .int .i64 zq] from E 7 (by decide) (dep ho hall 7 (by kernel_rfl)))]; exact C1 u h.bw) ?_
      rintro e w' ⟨rfl, bb⟩
      exact ⟨_, rfl, h.next (by omega) rfl inj hz hu bb⟩
    | 9, _ =>
      refine og_not (g := none) ho (.tmp 173) (d := some 174) (by kernel_rfl) (by exact trivial) (show x'.eval (.tmp 173) = .bool true from E 8 (by decide) (dep ho hall 8 (by kernel_rfl))) ?_
      exact h.next (by omega) rfl inj hz hu h.bw
    | 10, _ =>
      refine og_move (g := none) ho (.tmp 174) (d := some 175) (by kernel_rfl) (by exact trivial) (show x'.eval (.tmp 174) = .bool false from E 9 (by decide) (dep ho hall 9 (by kernel_rfl))) ?_
      exact h.next (by omega) rfl inj hz hu h.bw
    | 11, _ =>
      refine og_skip (k := 10) (b := true) ho (d := some 176) (by kernel_rfl) (t := 175) (by kernel_rfl) (E 10 (by decide) (dep ho hall 10 (by kernel_rfl))) ?_
      exact h.next (by omega) rfl inj hz hu h.bw
    | 12, _ =>
      refine og_skip (k := 10) (b := true) ho (d := some 177) (by kernel_rfl) (t := 175) (by kernel_rfl) (E 10 (by decide) (dep ho hall 10 (by kernel_rfl))) ?_
      exact h.next (by omega) rfl inj hz hu h.bw
    | 13, _ =>
      refine og_skip (k := 10) (b := true) ho (d := some 178) (by kernel_rfl) (t := 175) (by kernel_rfl) (E 10 (by decide) (dep ho hall 10 (by kernel_rfl))) ?_
      exact h.next (by omega) rfl inj hz hu h.bw
    | 14, _ =>
      refine og_skip (k := 10) (b := true) ho (d := some 179) (by kernel_rfl) (t := 175) (by kernel_rfl) (E 10 (by decide) (dep ho hall 10 (by kernel_rfl))) ?_
      exact h.next (by omega) rfl inj hz hu h.bw
    | 15, _ =>
      refine og_skip (k := 10) (b := true) ho (d := some 180) (by kernel_rfl) (t := 175) (by kernel_rfl) (E 10 (by decide) (dep ho hall 10 (by kernel_rfl))) ?_
      exact h.next (by omega) rfl inj hz hu h.bw
    | 16, _ =>
      refine og_skip (k := 10) (b := true) ho (d := some 181) (by kernel_rfl) (t := 175) (by kernel_rfl) (E 10 (by decide) (dep ho hall 10 (by kernel_rfl))) ?_
      exact h.next (by omega) rfl inj hz hu h.bw
    | 17, _ =>
      refine og_skip (k := 10) (b := true) ho (d := some 182) (by kernel_rfl) (t := 175) (by kernel_rfl) (E 10 (by decide) (dep ho hall 10 (by kernel_rfl))) ?_
      exact h.next (by omega) rfl inj hz hu h.bw
    | 18, _ =>
      refine og_skip (k := 10) (b := true) ho (d := some 183) (by kernel_rfl) (t := 175) (by kernel_rfl) (E 10 (by decide) (dep ho hall 10 (by kernel_rfl))) ?_
      exact h.next (by omega) rfl inj hz hu h.bw
    | 19, _ =>
      refine og_skip (k := 10) (b := true) ho (d := some 184) (by kernel_rfl) (t := 175) (by kernel_rfl) (E 10 (by decide) (dep ho hall 10 (by kernel_rfl))) ?_
      exact h.next (by omega) rfl inj hz hu h.bw
    | 20, _ =>
      refine og_skip (k := 10) (b := true) ho (d := some 185) (by kernel_rfl) (t := 175) (by kernel_rfl) (E 10 (by decide) (dep ho hall 10 (by kernel_rfl))) ?_
      exact h.next (by omega) rfl inj hz hu h.bw
    | 21, _ =>
      refine og_pickN (g := none) ho (.tmp 175) (.tmp 185) (.const (.bool false)) (d := some 186) (by kernel_rfl) (by exact trivial) (show x'.eval (.tmp 175) = .bool false from E 10 (by decide) (dep ho hall 10 (by kernel_rfl))) rfl ?_
      exact h.next (by omega) rfl inj hz hu h.bw
    | 22, _ =>
      refine og_assign (g := none) ho (.tmp 186) (d := some 16) (by kernel_rfl) (by exact trivial) (show x'.eval (.tmp 186) = .bool false from E 21 (by decide) (dep ho hall 21 (by kernel_rfl))) ?_
      exact h.next (by omega) rfl inj hz hu h.bw
    | i + 23, hi => omega
  · rintro L x' u h hall
    rw [opsW28_size] at hall
    have hp := Fe.puts ((List.range 23).map fun j => (slwh28t j, Vwh28t x y b1 o1 nl ci k zc zl zq sa ta sn sc tn tc j)) a0 x' (by rw [List.map_map]; exact h.fe) (by
      intro p hp
      obtain ⟨j, hj, rfl⟩ := List.mem_map.1 hp
      have hj := List.mem_range.1 hj
      exact ⟨hz j hj, h.e j hj (hall j hj)⟩)
    rw [hp]
    exact hK _ u rfl h.bw
  · intro L hL
    exact ⟨Fe.refl _ _, fun j _ h => absurd h (hL _), (Below.refl _ _).drew⟩

def Vwh28f (x y b1 o1 nl ci k : Nat) (zc zl zq : Int) (sa ta : Option Addr) (sn sc tn tc : Nat) (q : Bool) (j : Nat) : Value := [.pointer (some ⟨x, 0, none⟩), .pointer (some ⟨x, 0, none⟩), .pointer (some ⟨x, 6, none⟩), .slice sa sn sc, .slice (some ⟨b1, o1, none⟩) nl ci, .int .i64 k, .pointer (some ⟨b1, o1 + k * 3, none⟩), .agg #[.int .u8 zc, .int .i64 zl, .int .i64 zq], .bool false, .bool true, .bool true, .pointer (some ⟨y, 0, none⟩), .pointer (some ⟨y, 0, none⟩), .pointer (some ⟨y, 6, none⟩), .slice ta tn tc, .slice (some ⟨b1, o1, none⟩) nl ci, .int .i64 k, .pointer (some ⟨b1, o1 + k * 3, none⟩), .agg #[.int .u8 zc, .int .i64 zl, .int .i64 zq], .bool q, .bool (!q), .bool (!q), .bool (!q)].getD j (.bool false)
def slwh28f (j : Nat) : Nat := ([165, 166, 167, 168, 169, 170, 171, 172, 173, 174, 175, 176, 177, 178, 179, 180, 181, 182, 183, 184, 185, 186, 16] : List Nat).getD j 0

set_option maxRecDepth 100000 in
set_option maxHeartbeats 4000000 in
theorem wh28f (a0 : Act) (w : World) {K : Act → World → Prop} {Q' : Exit → Act → World → Prop} (x y b1 o1 nl ci k : Nat) (zc zl zq : Int) (sa ta : Option Addr) (sn sc tn tc : Nat) (q : Bool)
    (h5 : a0.eval (.tmp 5) = .pointer (some ⟨x, 0, none⟩)) (h6 : a0.eval (.tmp 6) = .pointer (some ⟨y, 0, none⟩)) (h7 : a0.eval (.tmp 7) = .slice (some ⟨b1, o1, none⟩) nl ci) (h15 : a0.eval (.tmp 15) = .int .i64 k) (hzz : 186 < a0.tmps.size)
    (lx : x < w.heap.size) (ly : y < w.heap.size) (lb1 : b1 < w.heap.size) (hcx : w.cell? ⟨x, 6, none⟩ = some (.slice sa sn sc)) (hcy : w.cell? ⟨y, 6, none⟩ = some (.slice ta tn tc)) (c0 : w.cell? ⟨b1, o1 + k * 3, none⟩ = some (.int .u8 zc)) (c1 : w.cell? ⟨b1, o1 + k * 3 + 1, none⟩ = some (.int .i64 zl)) (c2 : w.cell? ⟨b1, o1 + k * 3 + 2, none⟩ = some (.int .i64 zq)) (i1 : (k : Int) < (nl : Int)) (i0 : (0 : Int) ≤ (k : Int)) (C1 : ∀ U, Below w.heap.size w U → Calls Tryd.prog 9 #[.slice sa sn sc, .agg #[.int .u8 zc, .int .i64 zl, .int .i64 zq]] U fun e w' => e = .returned (.bool false) ∧ Below w.heap.size w w') (C2 : ∀ U, Below w.heap.size w U → Calls Tryd.prog 9 #[.slice ta tn tc, .agg #[.int .u8 zc, .int .i64 zl, .int .i64 zq]] U fun e w' => e = .returned (.bool q) ∧ Below w.heap.size w w')
    (hK : ∀ (V : Nat → Value) u, V 22 = .bool (!q) → Below w.heap.size w u → K (puts a0 ((List.range 23).map fun j => (slwh28f j, V j))) u) :
    (Code.region 28 opsW28 true).wp Tryd.prog (Exit.then K Q') a0 w := by
  have inj : ∀ i j, i < 23 → j < 23 → slwh28f i = slwh28f j → i = j := by
    have h : (List.range 23).all (fun i => (List.range 23).all (fun j => decide (slwh28f i = slwh28f j → i = j))) = true := by kernel_rfl
    intro i j hi hj he
    have h1 := List.all_eq_true.1 h i (List.mem_range.2 hi)
    have h2 := List.all_eq_true.1 h1 j (List.mem_range.2 hj)
    exact (of_decide_eq_true h2) he
  have hz : ∀ j, j < 23 → slwh28f j < a0.tmps.size := by
    have h : (List.range 23).all (fun i => decide (slwh28f i ≤ 186)) = true := by kernel_rfl
    intro j hj
    have := of_decide_eq_true (List.all_eq_true.1 h j (List.mem_range.2 hj))
    omega
  refine wp_region_inv (by kernel_rfl) opsW28_earlier (fun L a u => IVs slwh28f 23 a0 w (Vwh28f x y b1 o1 nl ci k zc zl zq sa ta sn sc tn tc q) L a u) ?_ ?_ ?_
  · rintro L L' x' u i o h ho hno hall hu
    clear hK
    have q5 := (h.fe.ev (j := 5) (by decide)).trans h5
    have q6 := (h.fe.ev (j := 6) (by decide)).trans h6
    have q7 := (h.fe.ev (j := 7) (by decide)).trans h7
    have q15 := (h.fe.ev (j := 15) (by decide)).trans h15
    have E := h.e
    have hi : i < 23 := by
      have := (Array.getElem?_eq_some_iff.1 ho).1
      rwa [opsW28_size] at this
    match i, hi with
    | 0, _ =>
      refine og_move (g := none) ho (.tmp 5) (d := some 165) (by kernel_rfl) (by exact trivial) q5 ?_
      exact h.next (by omega) rfl inj hz hu h.bw
    | 1, _ =>
      refine og_nil (g := none) ho (.tmp 165) (d := some 166) (by kernel_rfl) (by exact trivial) (show x'.eval (.tmp 165) = .pointer (some ⟨x, 0, none⟩) from E 0 (by decide) (dep ho hall 0 (by kernel_rfl))) ?_
      exact h.next (by omega) rfl inj hz hu h.bw
    | 2, _ =>
      refine og_fld6 (g := none) ho (.tmp 166) (d := some 167) (by kernel_rfl) (by exact trivial) (show x'.eval (.tmp 166) = .pointer (some ⟨x, 0, none⟩) from E 1 (by decide) (dep ho hall 1 (by kernel_rfl))) ?_
      exact h.next (by omega) rfl inj hz hu h.bw
    | 3, _ =>
      refine og_ldS (g := none) ho (.tmp 167) (d := some 168) (by kernel_rfl) (by exact trivial) (show x'.eval (.tmp 167) = .pointer (some ⟨x, 6, none⟩) from E 2 (by decide) (dep ho hall 2 (by kernel_rfl))) ((h.bw.cell (p := ⟨x, 6, none⟩) lx).trans hcx) ?_
      exact h.next (by omega) rfl inj hz hu h.bw
    | 4, _ =>
      refine og_move (g := none) ho (.tmp 7) (d := some 169) (by kernel_rfl) (by exact trivial) q7 ?_
      exact h.next (by omega) rfl inj hz hu h.bw
    | 5, _ =>
      refine og_move (g := none) ho (.tmp 15) (d := some 170) (by kernel_rfl) (by exact trivial) q15 ?_
      exact h.next (by omega) rfl inj hz hu h.bw
    | 6, _ =>
      refine og_ixE (g := none) ho (.tmp 169) (.tmp 170) (d := some 171) (by kernel_rfl) (by exact trivial) (show x'.eval (.tmp 169) = .slice (some ⟨b1, o1, none⟩) nl ci from E 4 (by decide) (dep ho hall 4 (by kernel_rfl))) (show x'.eval (.tmp 170) = .int .i64 k from E 5 (by decide) (dep ho hall 5 (by kernel_rfl))) i1 i0 ?_
      exact h.next (by omega) rfl inj hz hu h.bw
    | 7, _ =>
      refine og_ldE (g := none) ho (.tmp 171) (d := some 172) (by kernel_rfl) (by exact trivial) (show x'.eval (.tmp 171) = .pointer (some ⟨b1, o1 + k * 3, none⟩) from E 6 (by decide) (dep ho hall 6 (by kernel_rfl))) ((h.bw.cell (p := ⟨b1, o1 + k * 3, none⟩) lb1).trans c0) ((h.bw.cell (p := ⟨b1, o1 + k * 3 + 1, none⟩) lb1).trans c1) ((h.bw.cell (p := ⟨b1, o1 + k * 3 + 2, none⟩) lb1).trans c2) ?_
      exact h.next (by omega) rfl inj hz hu h.bw
    | 8, _ =>
      refine og_call2 (g := none) ho 9 (.tmp 168) (.tmp 172) 26 41 (d := some 173) (by kernel_rfl) (by exact trivial) Tryd.func9 rfl (by kernel_rfl) (R := fun e w' => e = .returned (.bool false) ∧ Below w.heap.size w w') (by rw [(show x'.eval (.tmp 168) = .slice sa sn sc from E 3 (by decide) (dep ho hall 3 (by kernel_rfl))), (show x'.eval (.tmp 172) = .agg #[.int .u8 zc, .int .i64 zl, .int .i64 zq] from E 7 (by decide) (dep ho hall 7 (by kernel_rfl)))]; exact C1 u h.bw) ?_
      rintro e w' ⟨rfl, bb⟩
      exact ⟨_, rfl, h.next (by omega) rfl inj hz hu bb⟩
    | 9, _ =>
      refine og_not (g := none) ho (.tmp 173) (d := some 174) (by kernel_rfl) (by exact trivial) (show x'.eval (.tmp 173) = .bool false from E 8 (by decide) (dep ho hall 8 (by kernel_rfl))) ?_
      exact h.next (by omega) rfl inj hz hu h.bw
    | 10, _ =>
      refine og_move (g := none) ho (.tmp 174) (d := some 175) (by kernel_rfl) (by exact trivial) (show x'.eval (.tmp 174) = .bool true from E 9 (by decide) (dep ho hall 9 (by kernel_rfl))) ?_
      exact h.next (by omega) rfl inj hz hu h.bw
    | 11, _ =>
      refine og_move (g := some (10, true)) ho (.tmp 6) (d := some 176) (by kernel_rfl) (by exact ⟨175, by kernel_rfl, E 10 (by decide) (dep ho hall 10 (by kernel_rfl))⟩) q6 ?_
      exact h.next (by omega) rfl inj hz hu h.bw
    | 12, _ =>
      refine og_nil (g := some (10, true)) ho (.tmp 176) (d := some 177) (by kernel_rfl) (by exact ⟨175, by kernel_rfl, E 10 (by decide) (dep ho hall 10 (by kernel_rfl))⟩) (show x'.eval (.tmp 176) = .pointer (some ⟨y, 0, none⟩) from E 11 (by decide) (dep ho hall 11 (by kernel_rfl))) ?_
      exact h.next (by omega) rfl inj hz hu h.bw
    | 13, _ =>
      refine og_fld6 (g := some (10, true)) ho (.tmp 177) (d := some 178) (by kernel_rfl) (by exact ⟨175, by kernel_rfl, E 10 (by decide) (dep ho hall 10 (by kernel_rfl))⟩) (show x'.eval (.tmp 177) = .pointer (some ⟨y, 0, none⟩) from E 12 (by decide) (dep ho hall 12 (by kernel_rfl))) ?_
      exact h.next (by omega) rfl inj hz hu h.bw
    | 14, _ =>
      refine og_ldS (g := some (10, true)) ho (.tmp 178) (d := some 179) (by kernel_rfl) (by exact ⟨175, by kernel_rfl, E 10 (by decide) (dep ho hall 10 (by kernel_rfl))⟩) (show x'.eval (.tmp 178) = .pointer (some ⟨y, 6, none⟩) from E 13 (by decide) (dep ho hall 13 (by kernel_rfl))) ((h.bw.cell (p := ⟨y, 6, none⟩) ly).trans hcy) ?_
      exact h.next (by omega) rfl inj hz hu h.bw
    | 15, _ =>
      refine og_move (g := some (10, true)) ho (.tmp 7) (d := some 180) (by kernel_rfl) (by exact ⟨175, by kernel_rfl, E 10 (by decide) (dep ho hall 10 (by kernel_rfl))⟩) q7 ?_
      exact h.next (by omega) rfl inj hz hu h.bw
    | 16, _ =>
      refine og_move (g := some (10, true)) ho (.tmp 15) (d := some 181) (by kernel_rfl) (by exact ⟨175, by kernel_rfl, E 10 (by decide) (dep ho hall 10 (by kernel_rfl))⟩) q15 ?_
      exact h.next (by omega) rfl inj hz hu h.bw
    | 17, _ =>
      refine og_ixE (g := some (10, true)) ho (.tmp 180) (.tmp 181) (d := some 182) (by kernel_rfl) (by exact ⟨175, by kernel_rfl, E 10 (by decide) (dep ho hall 10 (by kernel_rfl))⟩) (show x'.eval (.tmp 180) = .slice (some ⟨b1, o1, none⟩) nl ci from E 15 (by decide) (dep ho hall 15 (by kernel_rfl))) (show x'.eval (.tmp 181) = .int .i64 k from E 16 (by decide) (dep ho hall 16 (by kernel_rfl))) i1 i0 ?_
      exact h.next (by omega) rfl inj hz hu h.bw
    | 18, _ =>
      refine og_ldE (g := some (10, true)) ho (.tmp 182) (d := some 183) (by kernel_rfl) (by exact ⟨175, by kernel_rfl, E 10 (by decide) (dep ho hall 10 (by kernel_rfl))⟩) (show x'.eval (.tmp 182) = .pointer (some ⟨b1, o1 + k * 3, none⟩) from E 17 (by decide) (dep ho hall 17 (by kernel_rfl))) ((h.bw.cell (p := ⟨b1, o1 + k * 3, none⟩) lb1).trans c0) ((h.bw.cell (p := ⟨b1, o1 + k * 3 + 1, none⟩) lb1).trans c1) ((h.bw.cell (p := ⟨b1, o1 + k * 3 + 2, none⟩) lb1).trans c2) ?_
      exact h.next (by omega) rfl inj hz hu h.bw
    | 19, _ =>
      refine og_call2 (g := some (10, true)) ho 9 (.tmp 179) (.tmp 183) 26 41 (d := some 184) (by kernel_rfl) (by exact ⟨175, by kernel_rfl, E 10 (by decide) (dep ho hall 10 (by kernel_rfl))⟩) Tryd.func9 rfl (by kernel_rfl) (R := fun e w' => e = .returned (.bool q) ∧ Below w.heap.size w w') (by rw [(show x'.eval (.tmp 179) = .slice ta tn tc from E 14 (by decide) (dep ho hall 14 (by kernel_rfl))), (show x'.eval (.tmp 183) = .agg #[.int .u8 zc, .int .i64 zl, .int .i64 zq] from E 18 (by decide) (dep ho hall 18 (by kernel_rfl)))]; exact C2 u h.bw) ?_
      rintro e w' ⟨rfl, bb⟩
      exact ⟨_, rfl, h.next (by omega) rfl inj hz hu bb⟩
    | 20, _ =>
      refine og_not (g := some (10, true)) ho (.tmp 184) (d := some 185) (by kernel_rfl) (by exact ⟨175, by kernel_rfl, E 10 (by decide) (dep ho hall 10 (by kernel_rfl))⟩) (show x'.eval (.tmp 184) = .bool q from E 19 (by decide) (dep ho hall 19 (by kernel_rfl))) ?_
      exact h.next (by omega) rfl inj hz hu h.bw
    | 21, _ =>
      refine og_pickT (g := none) ho (.tmp 175) (.tmp 185) (.const (.bool false)) (d := some 186) (by kernel_rfl) (by exact trivial) (show x'.eval (.tmp 175) = .bool true from E 10 (by decide) (dep ho hall 10 (by kernel_rfl))) (show x'.eval (.tmp 185) = .bool (!q) from E 20 (by decide) (dep ho hall 20 (by kernel_rfl))) ?_
      exact h.next (by omega) rfl inj hz hu h.bw
    | 22, _ =>
      refine og_assign (g := none) ho (.tmp 186) (d := some 16) (by kernel_rfl) (by exact trivial) (show x'.eval (.tmp 186) = .bool (!q) from E 21 (by decide) (dep ho hall 21 (by kernel_rfl))) ?_
      exact h.next (by omega) rfl inj hz hu h.bw
    | i + 23, hi => omega
  · rintro L x' u h hall
    rw [opsW28_size] at hall
    have hp := Fe.puts ((List.range 23).map fun j => (slwh28f j, Vwh28f x y b1 o1 nl ci k zc zl zq sa ta sn sc tn tc q j)) a0 x' (by rw [List.map_map]; exact h.fe) (by
      intro p hp
      obtain ⟨j, hj, rfl⟩ := List.mem_map.1 hp
      have hj := List.mem_range.1 hj
      exact ⟨hz j hj, h.e j hj (hall j hj)⟩)
    rw [hp]
    exact hK _ u rfl h.bw
  · intro L hL
    exact ⟨Fe.refl _ _, fun j _ h => absurd h (hL _), (Below.refl _ _).drew⟩

def Vwh31 (x y b1 o1 nl ci k : Nat) (zc zl zq : Int) (sa ta : Option Addr) (sn sc tn tc : Nat) (q : Bool) (j : Nat) : Value := [.bool q, .pointer (some ⟨x, 0, none⟩), .pointer (some ⟨x, 0, none⟩), .pointer (some ⟨x, 0, none⟩), .slice sa sn sc, .slice (some ⟨b1, o1, none⟩) nl ci, .int .i64 k, .pointer (some ⟨b1, o1 + k * 3, none⟩), .agg #[.int .u8 zc, .int .i64 zl, .int .i64 zq], .bool q, .bool false, .bool false, .bool q, .pointer (some ⟨y, 0, none⟩), .pointer (some ⟨y, 0, none⟩), .pointer (some ⟨y, 0, none⟩), .slice ta tn tc, .slice (some ⟨b1, o1, none⟩) nl ci, .int .i64 k, .pointer (some ⟨b1, o1 + k * 3, none⟩), .agg #[.int .u8 zc, .int .i64 zl, .int .i64 zq], .bool q, .bool false, .bool false].getD j (.bool false)
def slwh31 (j : Nat) : Nat := ([190, 191, 192, 193, 194, 195, 196, 197, 198, 199, 200, 201, 202, 203, 204, 205, 206, 207, 208, 209, 210, 211, 212, 213] : List Nat).getD j 0

set_option maxRecDepth 100000 in
set_option maxHeartbeats 4000000 in
theorem wh31 (a0 : Act) (w : World) {K : Act → World → Prop} {Q' : Exit → Act → World → Prop} (x y b1 o1 nl ci k : Nat) (zc zl zq : Int) (sa ta : Option Addr) (sn sc tn tc : Nat) (q : Bool)
    (h5 : a0.eval (.tmp 5) = .pointer (some ⟨x, 0, none⟩)) (h6 : a0.eval (.tmp 6) = .pointer (some ⟨y, 0, none⟩)) (h7 : a0.eval (.tmp 7) = .slice (some ⟨b1, o1, none⟩) nl ci) (h15 : a0.eval (.tmp 15) = .int .i64 k) (h16 : a0.eval (.tmp 16) = .bool q) (hzz : 213 < a0.tmps.size)
    (lx : x < w.heap.size) (ly : y < w.heap.size) (lb1 : b1 < w.heap.size) (hcx : w.cell? ⟨x, 0, none⟩ = some (.slice sa sn sc)) (hcy : w.cell? ⟨y, 0, none⟩ = some (.slice ta tn tc)) (c0 : w.cell? ⟨b1, o1 + k * 3, none⟩ = some (.int .u8 zc)) (c1 : w.cell? ⟨b1, o1 + k * 3 + 1, none⟩ = some (.int .i64 zl)) (c2 : w.cell? ⟨b1, o1 + k * 3 + 2, none⟩ = some (.int .i64 zq)) (i1 : (k : Int) < (nl : Int)) (i0 : (0 : Int) ≤ (k : Int)) (C1 : ∀ U, Below w.heap.size w U → Calls Tryd.prog 9 #[.slice sa sn sc, .agg #[.int .u8 zc, .int .i64 zl, .int .i64 zq]] U fun e w' => e = .returned (.bool q) ∧ Below w.heap.size w w') (C2 : ∀ U, Below w.heap.size w U → Calls Tryd.prog 9 #[.slice ta tn tc, .agg #[.int .u8 zc, .int .i64 zl, .int .i64 zq]] U fun e w' => e = .returned (.bool q) ∧ Below w.heap.size w w')
    (hK : ∀ (V : Nat → Value) u, V 23 = .bool false → Below w.heap.size w u → K (puts a0 ((List.range 24).map fun j => (slwh31 j, V j))) u) :
    (Code.region 31 opsW31 true).wp Tryd.prog (Exit.then K Q') a0 w := by
  have inj : ∀ i j, i < 24 → j < 24 → slwh31 i = slwh31 j → i = j := by
    have h : (List.range 24).all (fun i => (List.range 24).all (fun j => decide (slwh31 i = slwh31 j → i = j))) = true := by kernel_rfl
    intro i j hi hj he
    have h1 := List.all_eq_true.1 h i (List.mem_range.2 hi)
    have h2 := List.all_eq_true.1 h1 j (List.mem_range.2 hj)
    exact (of_decide_eq_true h2) he
  have hz : ∀ j, j < 24 → slwh31 j < a0.tmps.size := by
    have h : (List.range 24).all (fun i => decide (slwh31 i ≤ 213)) = true := by kernel_rfl
    intro j hj
    have := of_decide_eq_true (List.all_eq_true.1 h j (List.mem_range.2 hj))
    omega
  refine wp_region_inv (by kernel_rfl) opsW31_earlier (fun L a u => IVs slwh31 24 a0 w (Vwh31 x y b1 o1 nl ci k zc zl zq sa ta sn sc tn tc q) L a u) ?_ ?_ ?_
  · rintro L L' x' u i o h ho hno hall hu
    clear hK
    have q5 := (h.fe.ev (j := 5) (by decide)).trans h5
    have q6 := (h.fe.ev (j := 6) (by decide)).trans h6
    have q7 := (h.fe.ev (j := 7) (by decide)).trans h7
    have q15 := (h.fe.ev (j := 15) (by decide)).trans h15
    have q16 := (h.fe.ev (j := 16) (by decide)).trans h16
    have E := h.e
    have hi : i < 24 := by
      have := (Array.getElem?_eq_some_iff.1 ho).1
      rwa [opsW31_size] at this
    match i, hi with
    | 0, _ =>
      refine og_move (g := none) ho (.tmp 16) (d := some 190) (by kernel_rfl) (by exact trivial) q16 ?_
      exact h.next (by omega) rfl inj hz hu h.bw
    | 1, _ =>
      refine og_move (g := none) ho (.tmp 5) (d := some 191) (by kernel_rfl) (by exact trivial) q5 ?_
      exact h.next (by omega) rfl inj hz hu h.bw
    | 2, _ =>
      refine og_nil (g := none) ho (.tmp 191) (d := some 192) (by kernel_rfl) (by exact trivial) (show x'.eval (.tmp 191) = .pointer (some ⟨x, 0, none⟩) from E 1 (by decide) (dep ho hall 1 (by kernel_rfl))) ?_
      exact h.next (by omega) rfl inj hz hu h.bw
    | 3, _ =>
      refine og_fld0 (g := none) ho (.tmp 192) (d := some 193) (by kernel_rfl) (by exact trivial) (show x'.eval (.tmp 192) = .pointer (some ⟨x, 0, none⟩) from E 2 (by decide) (dep ho hall 2 (by kernel_rfl))) ?_
      exact h.next (by omega) rfl inj hz hu h.bw
    | 4, _ =>
      refine og_ldS (g := none) ho (.tmp 193) (d := some 194) (by kernel_rfl) (by exact trivial) (show x'.eval (.tmp 193) = .pointer (some ⟨x, 0, none⟩) from E 3 (by decide) (dep ho hall 3 (by kernel_rfl))) ((h.bw.cell (p := ⟨x, 0, none⟩) lx).trans hcx) ?_
      exact h.next (by omega) rfl inj hz hu h.bw
    | 5, _ =>
      refine og_move (g := none) ho (.tmp 7) (d := some 195) (by kernel_rfl) (by exact trivial) q7 ?_
      exact h.next (by omega) rfl inj hz hu h.bw
    | 6, _ =>
      refine og_move (g := none) ho (.tmp 15) (d := some 196) (by kernel_rfl) (by exact trivial) q15 ?_
      exact h.next (by omega) rfl inj hz hu h.bw
    | 7, _ =>
      refine og_ixE (g := none) ho (.tmp 195) (.tmp 196) (d := some 197) (by kernel_rfl) (by exact trivial) (show x'.eval (.tmp 195) = .slice (some ⟨b1, o1, none⟩) nl ci from E 5 (by decide) (dep ho hall 5 (by kernel_rfl))) (show x'.eval (.tmp 196) = .int .i64 k from E 6 (by decide) (dep ho hall 6 (by kernel_rfl))) i1 i0 ?_
      exact h.next (by omega) rfl inj hz hu h.bw
    | 8, _ =>
      refine og_ldE (g := none) ho (.tmp 197) (d := some 198) (by kernel_rfl) (by exact trivial) (show x'.eval (.tmp 197) = .pointer (some ⟨b1, o1 + k * 3, none⟩) from E 7 (by decide) (dep ho hall 7 (by kernel_rfl))) ((h.bw.cell (p := ⟨b1, o1 + k * 3, none⟩) lb1).trans c0) ((h.bw.cell (p := ⟨b1, o1 + k * 3 + 1, none⟩) lb1).trans c1) ((h.bw.cell (p := ⟨b1, o1 + k * 3 + 2, none⟩) lb1).trans c2) ?_
      exact h.next (by omega) rfl inj hz hu h.bw
    | 9, _ =>
      refine og_call2 (g := none) ho 9 (.tmp 194) (.tmp 198) 26 41 (d := some 199) (by kernel_rfl) (by exact trivial) Tryd.func9 rfl (by kernel_rfl) (R := fun e w' => e = .returned (.bool q) ∧ Below w.heap.size w w') (by rw [(show x'.eval (.tmp 194) = .slice sa sn sc from E 4 (by decide) (dep ho hall 4 (by kernel_rfl))), (show x'.eval (.tmp 198) = .agg #[.int .u8 zc, .int .i64 zl, .int .i64 zq] from E 8 (by decide) (dep ho hall 8 (by kernel_rfl)))]; exact C1 u h.bw) ?_
      rintro e w' ⟨rfl, bb⟩
      exact ⟨_, rfl, h.next (by omega) rfl inj hz hu bb⟩
    | 10, _ =>
      refine og_neqB (g := none) ho (.tmp 190) (.tmp 199) (d := some 200) (by kernel_rfl) (by exact trivial) (show x'.eval (.tmp 190) = .bool q from E 0 (by decide) (dep ho hall 0 (by kernel_rfl))) (show x'.eval (.tmp 199) = .bool q from E 9 (by decide) (dep ho hall 9 (by kernel_rfl))) ?_
      exact h.next (by omega) rfl inj hz hu h.bw
    | 11, _ =>
      refine og_move (g := none) ho (.tmp 200) (d := some 201) (by kernel_rfl) (by exact trivial) (show x'.eval (.tmp 200) = .bool false from E 10 (by decide) (dep ho hall 10 (by kernel_rfl))) ?_
      exact h.next (by omega) rfl inj hz hu h.bw
    | 12, _ =>
      refine og_move (g := some (11, false)) ho (.tmp 16) (d := some 202) (by kernel_rfl) (by exact ⟨201, by kernel_rfl, E 11 (by decide) (dep ho hall 11 (by kernel_rfl))⟩) q16 ?_
      exact h.next (by omega) rfl inj hz hu h.bw
    | 13, _ =>
      refine og_move (g := some (11, false)) ho (.tmp 6) (d := some 203) (by kernel_rfl) (by exact ⟨201, by kernel_rfl, E 11 (by decide) (dep ho hall 11 (by kernel_rfl))⟩) q6 ?_
      exact h.next (by omega) rfl inj hz hu h.bw
    | 14, _ =>
      refine og_nil (g := some (11, false)) ho (.tmp 203) (d := some 204) (by kernel_rfl) (by exact ⟨201, by kernel_rfl, E 11 (by decide) (dep ho hall 11 (by kernel_rfl))⟩) (show x'.eval (.tmp 203) = .pointer (some ⟨y, 0, none⟩) from E 13 (by decide) (dep ho hall 13 (by kernel_rfl))) ?_
      exact h.next (by omega) rfl inj hz hu h.bw
    | 15, _ =>
      refine og_fld0 (g := some (11, false)) ho (.tmp 204) (d := some 205) (by kernel_rfl) (by exact ⟨201, by kernel_rfl, E 11 (by decide) (dep ho hall 11 (by kernel_rfl))⟩) (show x'.eval (.tmp 204) = .pointer (some ⟨y, 0, none⟩) from E 14 (by decide) (dep ho hall 14 (by kernel_rfl))) ?_
      exact h.next (by omega) rfl inj hz hu h.bw
    | 16, _ =>
      refine og_ldS (g := some (11, false)) ho (.tmp 205) (d := some 206) (by kernel_rfl) (by exact ⟨201, by kernel_rfl, E 11 (by decide) (dep ho hall 11 (by kernel_rfl))⟩) (show x'.eval (.tmp 205) = .pointer (some ⟨y, 0, none⟩) from E 15 (by decide) (dep ho hall 15 (by kernel_rfl))) ((h.bw.cell (p := ⟨y, 0, none⟩) ly).trans hcy) ?_
      exact h.next (by omega) rfl inj hz hu h.bw
    | 17, _ =>
      refine og_move (g := some (11, false)) ho (.tmp 7) (d := some 207) (by kernel_rfl) (by exact ⟨201, by kernel_rfl, E 11 (by decide) (dep ho hall 11 (by kernel_rfl))⟩) q7 ?_
      exact h.next (by omega) rfl inj hz hu h.bw
    | 18, _ =>
      refine og_move (g := some (11, false)) ho (.tmp 15) (d := some 208) (by kernel_rfl) (by exact ⟨201, by kernel_rfl, E 11 (by decide) (dep ho hall 11 (by kernel_rfl))⟩) q15 ?_
      exact h.next (by omega) rfl inj hz hu h.bw
    | 19, _ =>
      refine og_ixE (g := some (11, false)) ho (.tmp 207) (.tmp 208) (d := some 209) (by kernel_rfl) (by exact ⟨201, by kernel_rfl, E 11 (by decide) (dep ho hall 11 (by kernel_rfl))⟩) (show x'.eval (.tmp 207) = .slice (some ⟨b1, o1, none⟩) nl ci from E 17 (by decide) (dep ho hall 17 (by kernel_rfl))) (show x'.eval (.tmp 208) = .int .i64 k from E 18 (by decide) (dep ho hall 18 (by kernel_rfl))) i1 i0 ?_
      exact h.next (by omega) rfl inj hz hu h.bw
    | 20, _ =>
      refine og_ldE (g := some (11, false)) ho (.tmp 209) (d := some 210) (by kernel_rfl) (by exact ⟨201, by kernel_rfl, E 11 (by decide) (dep ho hall 11 (by kernel_rfl))⟩) (show x'.eval (.tmp 209) = .pointer (some ⟨b1, o1 + k * 3, none⟩) from E 19 (by decide) (dep ho hall 19 (by kernel_rfl))) ((h.bw.cell (p := ⟨b1, o1 + k * 3, none⟩) lb1).trans c0) ((h.bw.cell (p := ⟨b1, o1 + k * 3 + 1, none⟩) lb1).trans c1) ((h.bw.cell (p := ⟨b1, o1 + k * 3 + 2, none⟩) lb1).trans c2) ?_
      exact h.next (by omega) rfl inj hz hu h.bw
    | 21, _ =>
      refine og_call2 (g := some (11, false)) ho 9 (.tmp 206) (.tmp 210) 26 41 (d := some 211) (by kernel_rfl) (by exact ⟨201, by kernel_rfl, E 11 (by decide) (dep ho hall 11 (by kernel_rfl))⟩) Tryd.func9 rfl (by kernel_rfl) (R := fun e w' => e = .returned (.bool q) ∧ Below w.heap.size w w') (by rw [(show x'.eval (.tmp 206) = .slice ta tn tc from E 16 (by decide) (dep ho hall 16 (by kernel_rfl))), (show x'.eval (.tmp 210) = .agg #[.int .u8 zc, .int .i64 zl, .int .i64 zq] from E 20 (by decide) (dep ho hall 20 (by kernel_rfl)))]; exact C2 u h.bw) ?_
      rintro e w' ⟨rfl, bb⟩
      exact ⟨_, rfl, h.next (by omega) rfl inj hz hu bb⟩
    | 22, _ =>
      refine og_neqB (g := some (11, false)) ho (.tmp 202) (.tmp 211) (d := some 212) (by kernel_rfl) (by exact ⟨201, by kernel_rfl, E 11 (by decide) (dep ho hall 11 (by kernel_rfl))⟩) (show x'.eval (.tmp 202) = .bool q from E 12 (by decide) (dep ho hall 12 (by kernel_rfl))) (show x'.eval (.tmp 211) = .bool q from E 21 (by decide) (dep ho hall 21 (by kernel_rfl))) ?_
      exact h.next (by omega) rfl inj hz hu h.bw
    | 23, _ =>
      refine og_pickN (g := none) ho (.tmp 201) (.const (.bool true)) (.tmp 212) (d := some 213) (by kernel_rfl) (by exact trivial) (show x'.eval (.tmp 201) = .bool false from E 11 (by decide) (dep ho hall 11 (by kernel_rfl))) (show x'.eval (.tmp 212) = .bool false from E 22 (by decide) (dep ho hall 22 (by kernel_rfl))) ?_
      exact h.next (by omega) rfl inj hz hu h.bw
    | i + 24, hi => omega
  · rintro L x' u h hall
    rw [opsW31_size] at hall
    have hp := Fe.puts ((List.range 24).map fun j => (slwh31 j, Vwh31 x y b1 o1 nl ci k zc zl zq sa ta sn sc tn tc q j)) a0 x' (by rw [List.map_map]; exact h.fe) (by
      intro p hp
      obtain ⟨j, hj, rfl⟩ := List.mem_map.1 hp
      have hj := List.mem_range.1 hj
      exact ⟨hz j hj, h.e j hj (hall j hj)⟩)
    rw [hp]
    exact hK _ u rfl h.bw
  · intro L hL
    exact ⟨Fe.refl _ _, fun j _ h => absurd h (hL _), (Below.refl _ _).drew⟩

end Go.Proofs.YtmbnimlibnheeabDoor

/-! Wt -/
namespace Go.Proofs.YtmbnimlibnheeabDoor
open Go.RowKit Go.Lib
set_option linter.unusedVariables false

noncomputable def opsW36 : Array Oper := (Tryd.f3.body.bind (opsAt 36)).getD #[]
theorem opsW36_size : opsW36.size = 10 := by kernel_rfl
theorem opsW36_earlier : Earlier opsW36 := by
  have h : (List.range 10).all (fun i => ((opsW36[i]?).map (fun o => o.after.all (fun e => !Region.binds .any e || decide (e.on < i)))).getD true) = true := by kernel_rfl
  intro i o ho e he hb
  have hi : i < 10 := by
    have := (Array.getElem?_eq_some_iff.1 ho).1
    rwa [opsW36_size] at this
  have h1 := List.all_eq_true.1 h i (List.mem_range.2 hi)
  rw [ho] at h1
  simp only [Option.map_some, Option.getD_some, Array.all_eq_true'] at h1
  have h2 := h1 e he
  rw [hb] at h2
  simpa using h2

noncomputable def opsW38 : Array Oper := (Tryd.f3.body.bind (opsAt 38)).getD #[]
theorem opsW38_size : opsW38.size = 28 := by kernel_rfl
theorem opsW38_earlier : Earlier opsW38 := by
  have h : (List.range 28).all (fun i => ((opsW38[i]?).map (fun o => o.after.all (fun e => !Region.binds .any e || decide (e.on < i)))).getD true) = true := by kernel_rfl
  intro i o ho e he hb
  have hi : i < 28 := by
    have := (Array.getElem?_eq_some_iff.1 ho).1
    rwa [opsW38_size] at this
  have h1 := List.all_eq_true.1 h i (List.mem_range.2 hi)
  rw [ho] at h1
  simp only [Option.map_some, Option.getD_some, Array.all_eq_true'] at h1
  have h2 := h1 e he
  rw [hb] at h2
  simpa using h2

def Vwh36 (x bx nx cx k : Nat) (sa ta : Option Addr) (sn sc tn tc : Nat) (j : Nat) : Value := [.slice (some ⟨bx, 0, none⟩) nx cx, .int .i64 k, .pointer (some ⟨bx, k, none⟩), .slice ta tn tc, .pointer (some ⟨x, 0, none⟩), .pointer (some ⟨x, 0, none⟩), .pointer (some ⟨x, 0, none⟩), .slice sa sn sc, .bool true, .bool false].getD j (.bool false)
def slwh36 (j : Nat) : Nat := ([220, 221, 222, 223, 224, 225, 226, 227, 228, 229] : List Nat).getD j 0

set_option maxRecDepth 100000 in
set_option maxHeartbeats 4000000 in
theorem wh36 (a0 : Act) (w : World) {K : Act → World → Prop} {Q' : Exit → Act → World → Prop} (x bx nx cx k : Nat) (sa ta : Option Addr) (sn sc tn tc : Nat)
    (h5 : a0.eval (.tmp 5) = .pointer (some ⟨x, 0, none⟩)) (h8 : a0.eval (.tmp 8) = .slice (some ⟨bx, 0, none⟩) nx cx) (h17 : a0.eval (.tmp 17) = .int .i64 k) (hzz : 229 < a0.tmps.size)
    (lx : x < w.heap.size) (lbx : bx < w.heap.size) (hcx : w.cell? ⟨x, 0, none⟩ = some (.slice sa sn sc)) (hcb : w.cell? ⟨bx, k, none⟩ = some (.slice ta tn tc)) (i1 : (k : Int) < (nx : Int)) (i0 : (0 : Int) ≤ (k : Int)) (C1 : ∀ U, Below w.heap.size w U → Calls Tryd.prog 10 #[.slice ta tn tc, .slice sa sn sc] U fun e w' => e = .returned (.bool true) ∧ Below w.heap.size w w')
    (hK : ∀ (V : Nat → Value) u, V 9 = .bool false → Below w.heap.size w u → K (puts a0 ((List.range 10).map fun j => (slwh36 j, V j))) u) :
    (Code.region 36 opsW36 true).wp Tryd.prog (Exit.then K Q') a0 w := by
  have inj : ∀ i j, i < 10 → j < 10 → slwh36 i = slwh36 j → i = j := by
    have h : (List.range 10).all (fun i => (List.range 10).all (fun j => decide (slwh36 i = slwh36 j → i = j))) = true := by kernel_rfl
    intro i j hi hj he
    have h1 := List.all_eq_true.1 h i (List.mem_range.2 hi)
    have h2 := List.all_eq_true.1 h1 j (List.mem_range.2 hj)
    exact (of_decide_eq_true h2) he
  have hz : ∀ j, j < 10 → slwh36 j < a0.tmps.size := by
    have h : (List.range 10).all (fun i => decide (slwh36 i ≤ 229)) = true := by kernel_rfl
    intro j hj
    have := of_decide_eq_true (List.all_eq_true.1 h j (List.mem_range.2 hj))
    omega
  refine wp_region_inv (by kernel_rfl) opsW36_earlier (fun L a u => IVs slwh36 10 a0 w (Vwh36 x bx nx cx k sa ta sn sc tn tc) L a u) ?_ ?_ ?_
  · rintro L L' x' u i o h ho hno hall hu
    clear hK
    have q5 := (h.fe.ev (j := 5) (by decide)).trans h5
    have q8 := (h.fe.ev (j := 8) (by decide)).trans h8
    have q17 := (h.fe.ev (j := 17) (by decide)).trans h17
    have E := h.e
    have hi : i < 10 := by
      have := (Array.getElem?_eq_some_iff.1 ho).1
      rwa [opsW36_size] at this
    match i, hi with
    | 0, _ =>
      refine og_move (g := none) ho (.tmp 8) (d := some 220) (by kernel_rfl) (by exact trivial) q8 ?_
      exact h.next (by omega) rfl inj hz hu h.bw
    | 1, _ =>
      refine og_move (g := none) ho (.tmp 17) (d := some 221) (by kernel_rfl) (by exact trivial) q17 ?_
      exact h.next (by omega) rfl inj hz hu h.bw
    | 2, _ =>
      refine og_ixS (g := none) ho (.tmp 220) (.tmp 221) (d := some 222) (by kernel_rfl) (by exact trivial) (show x'.eval (.tmp 220) = .slice (some ⟨bx, 0, none⟩) nx cx from E 0 (by decide) (dep ho hall 0 (by kernel_rfl))) (show x'.eval (.tmp 221) = .int .i64 k from E 1 (by decide) (dep ho hall 1 (by kernel_rfl))) i1 i0 ?_
      exact h.next (by omega) rfl inj hz hu h.bw
    | 3, _ =>
      refine og_ldS (g := none) ho (.tmp 222) (d := some 223) (by kernel_rfl) (by exact trivial) (show x'.eval (.tmp 222) = .pointer (some ⟨bx, k, none⟩) from E 2 (by decide) (dep ho hall 2 (by kernel_rfl))) ((h.bw.cell (p := ⟨bx, k, none⟩) lbx).trans hcb) ?_
      exact h.next (by omega) rfl inj hz hu h.bw
    | 4, _ =>
      refine og_move (g := none) ho (.tmp 5) (d := some 224) (by kernel_rfl) (by exact trivial) q5 ?_
      exact h.next (by omega) rfl inj hz hu h.bw
    | 5, _ =>
      refine og_nil (g := none) ho (.tmp 224) (d := some 225) (by kernel_rfl) (by exact trivial) (show x'.eval (.tmp 224) = .pointer (some ⟨x, 0, none⟩) from E 4 (by decide) (dep ho hall 4 (by kernel_rfl))) ?_
      exact h.next (by omega) rfl inj hz hu h.bw
    | 6, _ =>
      refine og_fld0 (g := none) ho (.tmp 225) (d := some 226) (by kernel_rfl) (by exact trivial) (show x'.eval (.tmp 225) = .pointer (some ⟨x, 0, none⟩) from E 5 (by decide) (dep ho hall 5 (by kernel_rfl))) ?_
      exact h.next (by omega) rfl inj hz hu h.bw
    | 7, _ =>
      refine og_ldS (g := none) ho (.tmp 226) (d := some 227) (by kernel_rfl) (by exact trivial) (show x'.eval (.tmp 226) = .pointer (some ⟨x, 0, none⟩) from E 6 (by decide) (dep ho hall 6 (by kernel_rfl))) ((h.bw.cell (p := ⟨x, 0, none⟩) lx).trans hcx) ?_
      exact h.next (by omega) rfl inj hz hu h.bw
    | 8, _ =>
      refine og_call2 (g := none) ho 10 (.tmp 223) (.tmp 227) 26 26 (d := some 228) (by kernel_rfl) (by exact trivial) Tryd.func10 rfl (by kernel_rfl) (R := fun e w' => e = .returned (.bool true) ∧ Below w.heap.size w w') (by rw [(show x'.eval (.tmp 223) = .slice ta tn tc from E 3 (by decide) (dep ho hall 3 (by kernel_rfl))), (show x'.eval (.tmp 227) = .slice sa sn sc from E 7 (by decide) (dep ho hall 7 (by kernel_rfl)))]; exact C1 u h.bw) ?_
      rintro e w' ⟨rfl, bb⟩
      exact ⟨_, rfl, h.next (by omega) rfl inj hz hu bb⟩
    | 9, _ =>
      refine og_not (g := none) ho (.tmp 228) (d := some 229) (by kernel_rfl) (by exact trivial) (show x'.eval (.tmp 228) = .bool true from E 8 (by decide) (dep ho hall 8 (by kernel_rfl))) ?_
      exact h.next (by omega) rfl inj hz hu h.bw
    | i + 10, hi => omega
  · rintro L x' u h hall
    rw [opsW36_size] at hall
    have hp := Fe.puts ((List.range 10).map fun j => (slwh36 j, Vwh36 x bx nx cx k sa ta sn sc tn tc j)) a0 x' (by rw [List.map_map]; exact h.fe) (by
      intro p hp
      obtain ⟨j, hj, rfl⟩ := List.mem_map.1 hp
      have hj := List.mem_range.1 hj
      exact ⟨hz j hj, h.e j hj (hall j hj)⟩)
    rw [hp]
    exact hK _ u rfl h.bw
  · intro L hL
    exact ⟨Fe.refl _ _, fun j _ h => absurd h (hL _), (Below.refl _ _).drew⟩

def Vwh38 (x y D : Nat) (sa ta : Option Addr) (sc tc : Nat) (j : Nat) : Value := [.pointer (some ⟨x, 0, none⟩), .pointer (some ⟨x, 0, none⟩), .pointer (some ⟨x, 0, none⟩), .slice sa D sc, .int .i64 (D : Nat), .int .i64 (D : Nat), .bool true, .bool true, .pointer (some ⟨y, 0, none⟩), .pointer (some ⟨y, 0, none⟩), .pointer (some ⟨y, 0, none⟩), .slice ta D tc, .int .i64 (D : Nat), .int .i64 (D : Nat), .bool true, .bool true, .bool true, .pointer (some ⟨x, 0, none⟩), .pointer (some ⟨x, 0, none⟩), .pointer (some ⟨x, 0, none⟩), .slice sa D sc, .pointer (some ⟨y, 0, none⟩), .pointer (some ⟨y, 0, none⟩), .pointer (some ⟨y, 0, none⟩), .slice ta D tc, .bool true, .bool true, .bool true].getD j (.bool false)
def slwh38 (j : Nat) : Nat := ([230, 231, 232, 233, 234, 235, 236, 237, 238, 239, 240, 241, 242, 243, 244, 245, 246, 247, 248, 249, 250, 251, 252, 253, 254, 255, 256, 4] : List Nat).getD j 0

set_option maxRecDepth 100000 in
set_option maxHeartbeats 4000000 in
theorem wh38 (a0 : Act) (w : World) {K : Act → World → Prop} {Q' : Exit → Act → World → Prop} (x y D : Nat) (sa ta : Option Addr) (sc tc : Nat)
    (h5 : a0.eval (.tmp 5) = .pointer (some ⟨x, 0, none⟩)) (h6 : a0.eval (.tmp 6) = .pointer (some ⟨y, 0, none⟩)) (h14 : a0.eval (.tmp 14) = .int .i64 (D : Nat)) (hzz : 256 < a0.tmps.size)
    (lx : x < w.heap.size) (ly : y < w.heap.size) (hcx : w.cell? ⟨x, 0, none⟩ = some (.slice sa D sc)) (hcy : w.cell? ⟨y, 0, none⟩ = some (.slice ta D tc)) (C1 : ∀ U, Below w.heap.size w U → Calls Tryd.prog 10 #[.slice sa D sc, .slice ta D tc] U fun e w' => e = .returned (.bool true) ∧ Below w.heap.size w w')
    (hK : ∀ (V : Nat → Value) u, V 27 = .bool true → Below w.heap.size w u → K (puts a0 ((List.range 28).map fun j => (slwh38 j, V j))) u) :
    (Code.region 38 opsW38 true).wp Tryd.prog (Exit.then K Q') a0 w := by
  have inj : ∀ i j, i < 28 → j < 28 → slwh38 i = slwh38 j → i = j := by
    have h : (List.range 28).all (fun i => (List.range 28).all (fun j => decide (slwh38 i = slwh38 j → i = j))) = true := by kernel_rfl
    intro i j hi hj he
    have h1 := List.all_eq_true.1 h i (List.mem_range.2 hi)
    have h2 := List.all_eq_true.1 h1 j (List.mem_range.2 hj)
    exact (of_decide_eq_true h2) he
  have hz : ∀ j, j < 28 → slwh38 j < a0.tmps.size := by
    have h : (List.range 28).all (fun i => decide (slwh38 i ≤ 256)) = true := by kernel_rfl
    intro j hj
    have := of_decide_eq_true (List.all_eq_true.1 h j (List.mem_range.2 hj))
    omega
  refine wp_region_inv (by kernel_rfl) opsW38_earlier (fun L a u => IVs slwh38 28 a0 w (Vwh38 x y D sa ta sc tc) L a u) ?_ ?_ ?_
  · rintro L L' x' u i o h ho hno hall hu
    clear hK
    have q5 := (h.fe.ev (j := 5) (by decide)).trans h5
    have q6 := (h.fe.ev (j := 6) (by decide)).trans h6
    have q14 := (h.fe.ev (j := 14) (by decide)).trans h14
    have E := h.e
    have hi : i < 28 := by
      have := (Array.getElem?_eq_some_iff.1 ho).1
      rwa [opsW38_size] at this
    match i, hi with
    | 0, _ =>
      refine og_move (g := none) ho (.tmp 5) (d := some 230) (by kernel_rfl) (by exact trivial) q5 ?_
      exact h.next (by omega) rfl inj hz hu h.bw
    | 1, _ =>
      refine og_nil (g := none) ho (.tmp 230) (d := some 231) (by kernel_rfl) (by exact trivial) (show x'.eval (.tmp 230) = .pointer (some ⟨x, 0, none⟩) from E 0 (by decide) (dep ho hall 0 (by kernel_rfl))) ?_
      exact h.next (by omega) rfl inj hz hu h.bw
    | 2, _ =>
      refine og_fld0 (g := none) ho (.tmp 231) (d := some 232) (by kernel_rfl) (by exact trivial) (show x'.eval (.tmp 231) = .pointer (some ⟨x, 0, none⟩) from E 1 (by decide) (dep ho hall 1 (by kernel_rfl))) ?_
      exact h.next (by omega) rfl inj hz hu h.bw
    | 3, _ =>
      refine og_ldS (g := none) ho (.tmp 232) (d := some 233) (by kernel_rfl) (by exact trivial) (show x'.eval (.tmp 232) = .pointer (some ⟨x, 0, none⟩) from E 2 (by decide) (dep ho hall 2 (by kernel_rfl))) ((h.bw.cell (p := ⟨x, 0, none⟩) lx).trans hcx) ?_
      exact h.next (by omega) rfl inj hz hu h.bw
    | 4, _ =>
      refine og_len (g := none) ho (.tmp 233) (d := some 234) (by kernel_rfl) (by exact trivial) (show x'.eval (.tmp 233) = .slice sa D sc from E 3 (by decide) (dep ho hall 3 (by kernel_rfl))) ?_
      exact h.next (by omega) rfl inj hz hu h.bw
    | 5, _ =>
      refine og_move (g := none) ho (.tmp 14) (d := some 235) (by kernel_rfl) (by exact trivial) q14 ?_
      exact h.next (by omega) rfl inj hz hu h.bw
    | 6, _ =>
      refine og_eqI (g := none) ho (.tmp 234) (.tmp 235) (d := some 236) (by kernel_rfl) (by exact trivial) (show x'.eval (.tmp 234) = .int .i64 (D : Nat) from E 4 (by decide) (dep ho hall 4 (by kernel_rfl))) (show x'.eval (.tmp 235) = .int .i64 (D : Nat) from E 5 (by decide) (dep ho hall 5 (by kernel_rfl))) ?_
      exact h.next (by omega) rfl inj hz hu h.bw
    | 7, _ =>
      refine og_move (g := none) ho (.tmp 236) (d := some 237) (by kernel_rfl) (by exact trivial) (show x'.eval (.tmp 236) = .bool true from E 6 (by decide) (dep ho hall 6 (by kernel_rfl))) ?_
      exact h.next (by omega) rfl inj hz hu h.bw
    | 8, _ =>
      refine og_move (g := some (7, true)) ho (.tmp 6) (d := some 238) (by kernel_rfl) (by exact ⟨237, by kernel_rfl, E 7 (by decide) (dep ho hall 7 (by kernel_rfl))⟩) q6 ?_
      exact h.next (by omega) rfl inj hz hu h.bw
    | 9, _ =>
      refine og_nil (g := some (7, true)) ho (.tmp 238) (d := some 239) (by kernel_rfl) (by exact ⟨237, by kernel_rfl, E 7 (by decide) (dep ho hall 7 (by kernel_rfl))⟩) (show x'.eval (.tmp 238) = .pointer (some ⟨y, 0, none⟩) from E 8 (by decide) (dep ho hall 8 (by kernel_rfl))) ?_
      exact h.next (by omega) rfl inj hz hu h.bw
    | 10, _ =>
      refine og_fld0 (g := some (7, true)) ho (.tmp 239) (d := some 240) (by kernel_rfl) (by exact ⟨237, by kernel_rfl, E 7 (by decide) (dep ho hall 7 (by kernel_rfl))⟩) (show x'.eval (.tmp 239) = .pointer (some ⟨y, 0, none⟩) from E 9 (by decide) (dep ho hall 9 (by kernel_rfl))) ?_
      exact h.next (by omega) rfl inj hz hu h.bw
    | 11, _ =>
      refine og_ldS (g := some (7, true)) ho (.tmp 240) (d := some 241) (by kernel_rfl) (by exact ⟨237, by kernel_rfl, E 7 (by decide) (dep ho hall 7 (by kernel_rfl))⟩) (show x'.eval (.tmp 240) = .pointer (some ⟨y, 0, none⟩) from E 10 (by decide) (dep ho hall 10 (by kernel_rfl))) ((h.bw.cell (p := ⟨y, 0, none⟩) ly).trans hcy) ?_
      exact h.next (by omega) rfl inj hz hu h.bw
    | 12, _ =>
      refine og_len (g := some (7, true)) ho (.tmp 241) (d := some 242) (by kernel_rfl) (by exact ⟨237, by kernel_rfl, E 7 (by decide) (dep ho hall 7 (by kernel_rfl))⟩) (show x'.eval (.tmp 241) = .slice ta D tc from E 11 (by decide) (dep ho hall 11 (by kernel_rfl))) ?_
      exact h.next (by omega) rfl inj hz hu h.bw
    | 13, _ =>
      refine og_move (g := some (7, true)) ho (.tmp 14) (d := some 243) (by kernel_rfl) (by exact ⟨237, by kernel_rfl, E 7 (by decide) (dep ho hall 7 (by kernel_rfl))⟩) q14 ?_
      exact h.next (by omega) rfl inj hz hu h.bw
    | 14, _ =>
      refine og_eqI (g := some (7, true)) ho (.tmp 242) (.tmp 243) (d := some 244) (by kernel_rfl) (by exact ⟨237, by kernel_rfl, E 7 (by decide) (dep ho hall 7 (by kernel_rfl))⟩) (show x'.eval (.tmp 242) = .int .i64 (D : Nat) from E 12 (by decide) (dep ho hall 12 (by kernel_rfl))) (show x'.eval (.tmp 243) = .int .i64 (D : Nat) from E 13 (by decide) (dep ho hall 13 (by kernel_rfl))) ?_
      exact h.next (by omega) rfl inj hz hu h.bw
    | 15, _ =>
      refine og_pickT (g := none) ho (.tmp 237) (.tmp 244) (.const (.bool false)) (d := some 245) (by kernel_rfl) (by exact trivial) (show x'.eval (.tmp 237) = .bool true from E 7 (by decide) (dep ho hall 7 (by kernel_rfl))) (show x'.eval (.tmp 244) = .bool true from E 14 (by decide) (dep ho hall 14 (by kernel_rfl))) ?_
      exact h.next (by omega) rfl inj hz hu h.bw
    | 16, _ =>
      refine og_move (g := none) ho (.tmp 245) (d := some 246) (by kernel_rfl) (by exact trivial) (show x'.eval (.tmp 245) = .bool true from E 15 (by decide) (dep ho hall 15 (by kernel_rfl))) ?_
      exact h.next (by omega) rfl inj hz hu h.bw
    | 17, _ =>
      refine og_move (g := some (16, true)) ho (.tmp 5) (d := some 247) (by kernel_rfl) (by exact ⟨246, by kernel_rfl, E 16 (by decide) (dep ho hall 16 (by kernel_rfl))⟩) q5 ?_
      exact h.next (by omega) rfl inj hz hu h.bw
    | 18, _ =>
      refine og_nil (g := some (16, true)) ho (.tmp 247) (d := some 248) (by kernel_rfl) (by exact ⟨246, by kernel_rfl, E 16 (by decide) (dep ho hall 16 (by kernel_rfl))⟩) (show x'.eval (.tmp 247) = .pointer (some ⟨x, 0, none⟩) from E 17 (by decide) (dep ho hall 17 (by kernel_rfl))) ?_
      exact h.next (by omega) rfl inj hz hu h.bw
    | 19, _ =>
      refine og_fld0 (g := some (16, true)) ho (.tmp 248) (d := some 249) (by kernel_rfl) (by exact ⟨246, by kernel_rfl, E 16 (by decide) (dep ho hall 16 (by kernel_rfl))⟩) (show x'.eval (.tmp 248) = .pointer (some ⟨x, 0, none⟩) from E 18 (by decide) (dep ho hall 18 (by kernel_rfl))) ?_
      exact h.next (by omega) rfl inj hz hu h.bw
    | 20, _ =>
      refine og_ldS (g := some (16, true)) ho (.tmp 249) (d := some 250) (by kernel_rfl) (by exact ⟨246, by kernel_rfl, E 16 (by decide) (dep ho hall 16 (by kernel_rfl))⟩) (show x'.eval (.tmp 249) = .pointer (some ⟨x, 0, none⟩) from E 19 (by decide) (dep ho hall 19 (by kernel_rfl))) ((h.bw.cell (p := ⟨x, 0, none⟩) lx).trans hcx) ?_
      exact h.next (by omega) rfl inj hz hu h.bw
    | 21, _ =>
      refine og_move (g := some (16, true)) ho (.tmp 6) (d := some 251) (by kernel_rfl) (by exact ⟨246, by kernel_rfl, E 16 (by decide) (dep ho hall 16 (by kernel_rfl))⟩) q6 ?_
      exact h.next (by omega) rfl inj hz hu h.bw
    | 22, _ =>
      refine og_nil (g := some (16, true)) ho (.tmp 251) (d := some 252) (by kernel_rfl) (by exact ⟨246, by kernel_rfl, E 16 (by decide) (dep ho hall 16 (by kernel_rfl))⟩) (show x'.eval (.tmp 251) = .pointer (some ⟨y, 0, none⟩) from E 21 (by decide) (dep ho hall 21 (by kernel_rfl))) ?_
      exact h.next (by omega) rfl inj hz hu h.bw
    | 23, _ =>
      refine og_fld0 (g := some (16, true)) ho (.tmp 252) (d := some 253) (by kernel_rfl) (by exact ⟨246, by kernel_rfl, E 16 (by decide) (dep ho hall 16 (by kernel_rfl))⟩) (show x'.eval (.tmp 252) = .pointer (some ⟨y, 0, none⟩) from E 22 (by decide) (dep ho hall 22 (by kernel_rfl))) ?_
      exact h.next (by omega) rfl inj hz hu h.bw
    | 24, _ =>
      refine og_ldS (g := some (16, true)) ho (.tmp 253) (d := some 254) (by kernel_rfl) (by exact ⟨246, by kernel_rfl, E 16 (by decide) (dep ho hall 16 (by kernel_rfl))⟩) (show x'.eval (.tmp 253) = .pointer (some ⟨y, 0, none⟩) from E 23 (by decide) (dep ho hall 23 (by kernel_rfl))) ((h.bw.cell (p := ⟨y, 0, none⟩) ly).trans hcy) ?_
      exact h.next (by omega) rfl inj hz hu h.bw
    | 25, _ =>
      refine og_call2 (g := some (16, true)) ho 10 (.tmp 250) (.tmp 254) 26 26 (d := some 255) (by kernel_rfl) (by exact ⟨246, by kernel_rfl, E 16 (by decide) (dep ho hall 16 (by kernel_rfl))⟩) Tryd.func10 rfl (by kernel_rfl) (R := fun e w' => e = .returned (.bool true) ∧ Below w.heap.size w w') (by rw [(show x'.eval (.tmp 250) = .slice sa D sc from E 20 (by decide) (dep ho hall 20 (by kernel_rfl))), (show x'.eval (.tmp 254) = .slice ta D tc from E 24 (by decide) (dep ho hall 24 (by kernel_rfl)))]; exact C1 u h.bw) ?_
      rintro e w' ⟨rfl, bb⟩
      exact ⟨_, rfl, h.next (by omega) rfl inj hz hu bb⟩
    | 26, _ =>
      refine og_pickT (g := none) ho (.tmp 246) (.tmp 255) (.const (.bool false)) (d := some 256) (by kernel_rfl) (by exact trivial) (show x'.eval (.tmp 246) = .bool true from E 16 (by decide) (dep ho hall 16 (by kernel_rfl))) (show x'.eval (.tmp 255) = .bool true from E 25 (by decide) (dep ho hall 25 (by kernel_rfl))) ?_
      exact h.next (by omega) rfl inj hz hu h.bw
    | 27, _ =>
      refine og_assign (g := none) ho (.tmp 256) (d := some 4) (by kernel_rfl) (by exact trivial) (show x'.eval (.tmp 256) = .bool true from E 26 (by decide) (dep ho hall 26 (by kernel_rfl))) ?_
      exact h.next (by omega) rfl inj hz hu h.bw
    | i + 28, hi => omega
  · rintro L x' u h hall
    rw [opsW38_size] at hall
    have hp := Fe.puts ((List.range 28).map fun j => (slwh38 j, Vwh38 x y D sa ta sc tc j)) a0 x' (by rw [List.map_map]; exact h.fe) (by
      intro p hp
      obtain ⟨j, hj, rfl⟩ := List.mem_map.1 hp
      have hj := List.mem_range.1 hj
      exact ⟨hz j hj, h.e j hj (hall j hj)⟩)
    rw [hp]
    exact hK _ u rfl h.bw
  · intro L hL
    exact ⟨Fe.refl _ _, fun j _ h => absurd h (hL _), (Below.refl _ _).drew⟩

end Go.Proofs.YtmbnimlibnheeabDoor
