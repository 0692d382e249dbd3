/-
  Texts put together: Ld Le Lf.
-/
import Derived.Test.YtfhghijefjhehaaGreatDoorMIo
import Derived.Test.YtfhghijefjhehaaGreatDoorVb
import Derived.Test.YtfhghijefjhehaaGreatDoorMIf
import Derived.Deep.RegionHeld3
import Derived.Deep.DeepCutAuto
/-! Ld -/
namespace Go.Proofs.YtfhghijefjhehaaGreatDoor
open Go.RowKit
set_option linter.unusedVariables false

/-- nil, or a part of the row at block g (of the tale). -/
def DS (w : World) (γ : Option Nat) (v : Value) (ds : List Dd) : Prop :=
  match γ with
  | none => v = .slice none 0 0 ∧ ds = []
  | some g => ∃ off cap, ∃ cur : List Value, v = .slice (some ⟨g, off, none⟩) ds.length cap ∧ w.heap[g]? = some (.cells cur.toArray 143 (0, 0)) ∧ ds.length ≤ cap ∧ cap ≤ 9223372036854775807 ∧ ∀ j u, (cl ddc ds)[j]? = some u → cur[off + j]? = some u
theorem DS.fr {S : Nat → Prop} {w w' : World} {γ : Option Nat} {v : Value} {ds : List Dd} (h : DS w γ v ds) (hF : Fr S w w') (hS : ∀ g, γ = some g → ¬ S g) : DS w' γ v ds := by
  cases γ with
  | none => exact h
  | some g =>
    obtain ⟨off, cap, cur, h1, h2, h3⟩ := h
    exact ⟨off, cap, cur, h1, hF.keeps h2 (hS g rfl), h3⟩
theorem DS.lt {w : World} {γ : Option Nat} {v : Value} {ds : List Dd} (h : DS w γ v ds) : ∀ g, γ = some g → g < w.heap.size := by
  rintro g rfl
  obtain ⟨off, cap, cur, h1, h2, h3⟩ := h
  exact block_lt h2
theorem DS.form {w : World} {γ : Option Nat} {v : Value} {ds : List Dd} (h : DS w γ v ds) : ∃ a c, v = .slice a ds.length c ∧ ds.length ≤ c ∧ c ≤ 9223372036854775807 := by
  cases γ with
  | none =>
    obtain ⟨rfl, rfl⟩ := h
    exact ⟨none, 0, rfl, by simp, by omega⟩
  | some g =>
    obtain ⟨off, cap, cur, rfl, h2, h3, h4, -⟩ := h
    exact ⟨_, cap, rfl, h3, h4⟩
/-- The first deed, to be read. -/
theorem DS.head {w : World} {γ : Option Nat} {d : Dd} {ds : List Dd} {a : Option Addr} {n c : Nat} (h : DS w γ (.slice a n c) (d :: ds)) : ∃ g off, γ = some g ∧ a = some ⟨g, off, none⟩ ∧ n = ds.length + 1 ∧ ds.length + 1 ≤ c ∧ c ≤ 9223372036854775807 ∧ g < w.heap.size ∧
    (w.cell? ⟨g, off, none⟩ = some (.int .i64 d.e.tag) ∧ w.cell? ⟨g, off + 1, none⟩ = some (.int .i64 d.e.o.kind) ∧ w.cell? ⟨g, off + 2, none⟩ = some (.int .i64 d.e.o.pos) ∧ w.cell? ⟨g, off + 3, none⟩ = some (.int .u8 d.e.o.ch) ∧ w.cell? ⟨g, off + 4, none⟩ = some (.int .i64 d.e.o.cl) ∧ w.cell? ⟨g, off + 5, none⟩ = some (.int .i64 d.e.o.sq)) ∧
    (c = 1 → DS w γ (.slice (some ⟨g, off, none⟩) ds.length 0) ds) ∧ DS w γ (.slice (some ⟨g, off + 9, none⟩) ds.length (c - 1)) ds := by
  cases γ with
  | none => obtain ⟨-, h⟩ := h; cases h
  | some g =>
    obtain ⟨off, cap, cur, hv, h2, h3, h4, h6⟩ := h
    obtain ⟨rfl, rfl, rfl⟩ : a = some ⟨g, off, none⟩ ∧ n = ds.length + 1 ∧ c = cap := by simpa using hv
    simp only [List.length_cons] at h3
    have hc : ∀ j u, (ddc d)[j]? = some u → w.cell? ⟨g, off + j, none⟩ = some u := fun j u hj => by
      rw [cell_row h2, List.getElem?_toArray]
      refine h6 j u ?_
      rw [cl_cons, List.getElem?_append_left (List.getElem?_eq_some_iff.1 hj).1]
      exact hj
    refine ⟨g, off, rfl, rfl, rfl, h3, h4, block_lt h2, ⟨hc 0 _ rfl, hc 1 _ rfl, hc 2 _ rfl, hc 3 _ rfl, hc 4 _ rfl, hc 5 _ rfl⟩, fun hc => ⟨off, 0, cur, rfl, h2, by omega, by omega, fun j u hj => ?_⟩, ⟨off + 9, c - 1, cur, rfl, h2, by omega, by omega, fun j u hj => ?_⟩⟩
    · have : ds = [] := List.length_eq_zero_iff.1 (by omega)
      subst this
      simp [cl] at hj
    · have := h6 (9 + j) u (by
        rw [cl_cons, List.getElem?_append_right (by simp [ddc])]
        simpa [ddc] using hj)
      rw [← Nat.add_assoc] at this
      exact this

/-- The hand at block x: its forms at β, its deeds at γ. -/
structure HD (w : World) (x : Nat) (β γ : Option Nat) (id : Int) (ds : List Dd) (made hav : Nat) (fs : List OpE) (n : Nat) : Prop where
  blk : ∃ vS vF, w.heap[x]? = some (.cells #[.int .i64 id, vS, .int .i64 made, .int .i64 hav, vF, .int .i64 n] 131 (0, 0)) ∧ DS w γ vS ds ∧ FO w β vF fs

section
variable {w w' : World} {x : Nat} {β γ : Option Nat} {id : Int} {ds : List Dd} {made hav n : Nat} {fs : List OpE}
theorem HD.lt (h : HD w x β γ id ds made hav fs n) : x < w.heap.size := by
  obtain ⟨vS, vF, h1, -⟩ := h.blk
  exact block_lt h1
/-- The blocks are told apart by their types. -/
theorem HD.apart (h : HD w x β γ id ds made hav fs n) : β ≠ some x ∧ γ ≠ some x ∧ ∀ g, β = some g → γ ≠ some g := by
  obtain ⟨vS, vF, h1, h2, h3⟩ := h.blk
  refine ⟨?_, ?_, ?_⟩
  · rintro rfl
    obtain ⟨off, cap, cur, -, k, -⟩ := h3
    rw [h1] at k
    simp at k
  · rintro rfl
    obtain ⟨off, cap, cur, -, k, -⟩ := h2
    rw [h1] at k
    simp at k
  · rintro g rfl rfl
    obtain ⟨off, cap, cur, -, k, -⟩ := h2
    obtain ⟨off', cap', cur', -, k', -⟩ := h3
    rw [k] at k'
    simp at k'
theorem HD.fr {S : Nat → Prop} (h : HD w x β γ id ds made hav fs n) (hF : Fr S w w') (hx : ¬ S x) (hb : ∀ g, β = some g → ¬ S g) (hg : ∀ g, γ = some g → ¬ S g) : HD w' x β γ id ds made hav fs n := by
  obtain ⟨vS, vF, h1, h2, h3⟩ := h.blk
  exact ⟨vS, vF, hF.keeps h1 hx, h2.fr hF hg, h3.fr hF hb⟩
theorem HD.below (h : HD w x β γ id ds made hav fs n) (hb : Below w.heap.size w w') : HD w' x β γ id ds made hav fs n := h.fr (S := fun _ => False) (Fr.of_below hb) (fun h => h) (fun _ _ h => h) (fun _ _ h => h)
theorem HD.frozen (h : HD w x β γ id ds made hav fs n) (i : Nat) : w.frozen? ⟨x, i, none⟩ = false := by
  obtain ⟨vS, vF, h1, -⟩ := h.blk
  exact frozen_row h1 i
end

/-- The size behind an operation. -/
def sizeP (n : Nat) (o : OpE) : Nat := if fitsP n o = 0 then (if o.kind = 1 then n + 1 else if o.kind = 2 then n - 1 else n) else n

set_option maxRecDepth 100000 in
set_option maxHeartbeats 2000000 in
theorem hnothing_any (k p c l s : Int) (w : World) :
    Calls Tryz.prog 86 #[.agg #[.int .i64 k, .int .i64 p, .int .u8 c, .int .i64 l, .int .i64 s]] w fun e w' => e = .returned (.agg #[.int .i64 0, .int .i64 0, .int .u8 0, .int .i64 l, .int .i64 s]) ∧ Below w.heap.size w w' := by
  go_enter Tryz.func86, Tryz.ntmps86
  go_wp2
  refine bodyPost_ret (v := .agg #[.int .i64 0, .int .i64 0, .int .u8 0, .int .i64 l, .int .i64 s]) (by simp [results, Tryz.results86, go_sem]) rfl ?_
  exact ⟨rfl, by repeat (first | exact Below.refl _ _ | refine Below.alloc ?_ (by simp) _ | refine Below.setCell ?_ (by simp) _)⟩

/-- The six cells of a hand. -/
theorem HD.cells {w : World} {x : Nat} {β γ : Option Nat} {id : Int} {ds : List Dd} {made hav n : Nat} {fs : List OpE} (h : HD w x β γ id ds made hav fs n) : ∃ vS vF, DS w γ vS ds ∧ FO w β vF fs ∧ w.cell? ⟨x, 0, none⟩ = some (.int .i64 id) ∧ w.cell? ⟨x, 1, none⟩ = some vS ∧ w.cell? ⟨x, 2, none⟩ = some (.int .i64 made) ∧ w.cell? ⟨x, 3, none⟩ = some (.int .i64 hav) ∧ w.cell? ⟨x, 4, none⟩ = some vF ∧ w.cell? ⟨x, 5, none⟩ = some (.int .i64 n) := by
  obtain ⟨vS, vF, h1, h2, h3⟩ := h.blk
  exact ⟨vS, vF, h2, h3, cell_row h1 0, cell_row h1 1, cell_row h1 2, cell_row h1 3, cell_row h1 4, cell_row h1 5⟩
theorem HD.size {w : World} {x : Nat} {β γ : Option Nat} {id : Int} {ds : List Dd} {made hav n : Nat} {fs : List OpE} (h : HD w x β γ id ds made hav fs n) : w.cell? ⟨x, 5, none⟩ = some (.int .i64 n) := by
  obtain ⟨vS, vF, h1, h2, h3⟩ := h.blk
  exact cell_row h1 5
/-- Its size set. -/
theorem HD.setSize {w : World} {x : Nat} {β γ : Option Nat} {id : Int} {ds : List Dd} {made hav n : Nat} {fs : List OpE} (h : HD w x β γ id ds made hav fs n) (m : Nat) : HD (w.setCell ⟨x, 5, none⟩ (.int .i64 m)) x β γ id ds made hav fs m := by
  obtain ⟨vS, vF, h1, h2, h3⟩ := h.blk
  obtain ⟨a1, a2, -⟩ := h.apart
  have hF : Fr (· = x) w (w.setCell ⟨x, 5, none⟩ (.int .i64 m)) := Fr.setCell _ _ _ rfl
  refine ⟨vS, vF, ?_, h2.fr hF (fun g hg e => a2 (e ▸ hg)), h3.fr hF (fun g hg e => a1 (e ▸ hg))⟩
  have := set_row h1 5 (.int .i64 m)
  simpa using this

theorem fits_two {n : Nat} {o : OpE} (h : fitsP n o = 0) (h2 : o.kind = 2) : 1 ≤ n := by
  unfold fitsP at h
  split at h
  · contradiction
  · split at h
    · contradiction
    · rename_i h1 h3
      split at h
      · contradiction
      · rename_i h4
        have hv : validP o = 0 := Decidable.not_not.1 h1
        have := (validP_zero hv).2.1
        omega

/-- The world behind a returned operation, put into a new block. -/
theorem HD.back {w W : World} {x q : Nat} {β γ : Option Nat} {id id' : Int} {ds ds' : List Dd} {made hav n made' hav' m : Nat} {fs fs' : List OpE} (h : HD w x β γ id ds made hav fs n) (hW : HD W x β γ id' ds' made' hav' fs' m) (hF : Fr (· = x) w W) (hq : w.heap.size ≤ q) (a b c d e : Int) :
    HD (set5 W q 0 a b c d e) x β γ id' ds' made' hav' fs' m ∧ Fr (· = x) w (set5 W q 0 a b c d e) := by
  obtain ⟨vS, vF, h1, h2, h3⟩ := h.blk
  have hx := block_lt h1
  refine ⟨hW.fr (Fr.set5 W q 0 a b c d e) (by omega) (fun g hg => ?_) (fun g hg => ?_), hF.next (Fr.set5 W q 0 a b c d e) (fun i hi hs => by omega)⟩
  · have := FO.lt h3 g hg
    omega
  · have := DS.lt h2 g hg
    omega

set_option maxRecDepth 100000 in
set_option maxHeartbeats 1000000 in
theorem fitting_any {w : World} {x : Nat} {β γ : Option Nat} {id : Int} {ds : List Dd} {made hav n : Nat} {fs : List OpE} (h : HD w x β γ id ds made hav fs n) (o : OpE) (h0 : 0 ≤ o.ch) (h1 : o.ch ≤ 255) (hn : n ≤ 4096) :
    Calls Tryz.prog 85 #[.pointer (some ⟨x, 0, none⟩), o.val] w fun e w' => e = .returned (fitO n o).val ∧ HD w' x β γ id ds made hav fs (sizeP n o) ∧ Fr (· = x) w w' := by
  obtain ⟨k, p, c, l, s⟩ := o
  simp only [OpE.val]
  have BX := hd (two_of (Below.refl ((w.alloc (.cells #[.int .i64 k, .int .i64 p, .int .u8 c, .int .i64 l, .int .i64 s] 69 (0, 0))).alloc (.cells #[.int .i64 0, .int .i64 0, .int .u8 0, .int .i64 0, .int .i64 0] 69 (0, 0))).heap.size _))
  have CF := hd (fun W => fits_any (n : Int) k p c l s W h0 h1)
  have CN := hd (fun W => hnothing_any k p c l s W)
  have HH := hd h
  have hx := h.lt
  have hR := hd (show fitO n ⟨k, p, c, l, s⟩ = if fitsP n ⟨k, p, c, l, s⟩ = 0 then ⟨k, p, c, l, s⟩ else ⟨0, 0, 0, l, s⟩ from rfl)
  have hS := hd (show sizeP n ⟨k, p, c, l, s⟩ = if fitsP n ⟨k, p, c, l, s⟩ = 0 then (if k = 1 then n + 1 else if k = 2 then n - 1 else n) else n from rfl)
  have hF := hd (fun (a : fitsP (n : Int) ⟨k, p, c, l, s⟩ = 0) (b : k = 2) => fits_two a b)
  generalize fitO n ⟨k, p, c, l, s⟩ = R at *
  generalize sizeP n ⟨k, p, c, l, s⟩ = M at *
  generalize fitsP (n : Int) ⟨k, p, c, l, s⟩ = r at *
  clear h h0 h1
  go_enter Tryz.func85, Tryz.ntmps85
  go_upto_region 1 with fail
  generalize (w.alloc (.cells #[.int .i64 k, .int .i64 p, .int .u8 c, .int .i64 l, .int .i64 s] 69)).alloc (.cells #[.int .i64 0, .int .i64 0, .int .u8 0, .int .i64 0, .int .i64 0] 69) = w1 at *
  obtain ⟨hp, hr, hB, hz⟩ := BX.out
  have H1 := hd (HH.out.below hB)
  have x5 := H1.out.size
  have lX : x < w1.heap.size := by omega
  have lO : w.heap.size < w1.heap.size := by omega
  obtain ⟨⟨p0, p1, p2, p3, p4⟩, -⟩ := cellsF hp
  have nW : Nonempty (Wd w1) := ⟨⟨w1, Below.refl _ _⟩⟩
  have z5 := fun y : Wd w1 => y.cell x5 lX
  have z0 := fun y : Wd w1 => y.cell p0 lO
  have z1 := fun y : Wd w1 => y.cell p1 lO
  have z2 := fun y : Wd w1 => y.cell p2 lO
  have z3 := fun y : Wd w1 => y.cell p3 lO
  have z4 := fun y : Wd w1 => y.cell p4 lO
  refine wp_region_calm (by kernel_rfl) (by kernel_rfl) ?_
  (repeat (go_big_quiet_step ((rename_i y; exact calm_call (CF.out y.W)))))
  refine wpQuiet_nil ?_
  intro u hz'
  obtain ⟨⟨u', bu⟩, hu⟩ := hz'
  have hu' : u = u' := hu
  subst hu'
  clear hu nW z5 z0 z1 z2 z3 z4 x5 p0 p1 p2 p3 p4
  have FU : Fr (fun _ => False) w1 u := Fr.of_below bu
  have hp := FU.keeps hp (fun h => h)
  have hr := FU.keeps hr (fun h => h)
  have H2 := hd (H1.out.below bu)
  have HB := hd (hB.trans (bu.mono hB.size))
  have hz : w.heap.size + 2 ≤ u.heap.size := Nat.le_trans hz bu.size
  clear FU H1 hB bu BX lX lO
  obtain ⟨⟨p0, p1, p2, p3, p4⟩, -⟩ := cellsF hp
  obtain ⟨⟨r0, r1, r2, r3, r4⟩, ⟨f0, f1, f2, f3, f4⟩⟩ := cellsF hr
  clear hp hr
  have hxq : ¬ (w.heap.size + 1 = x) := by omega
  have hxq' : ¬ (x = w.heap.size + 1) := by omega
  have hxp' : ¬ (w.heap.size = x) := by omega
  have hxp : ¬ (x = w.heap.size) := by omega
  have F0 := H2.out.frozen 5
  have FIN := hd (fun (W : World) (m : Nat) (hW : HD W x β γ id ds made hav fs m) (hF : Fr (· = x) w W) (a b c d e : Int) => HH.out.back (q := w.heap.size + 1) hW hF (by omega) a b c d e)
  have FU := hd (fun v => (Fr.of_below HB.out : Fr (· = x) w u).trans (Fr.setCell u ⟨x, 5, none⟩ v rfl))
  by_cases hr0 : r = 0
  · subst hr0
    have e1 : R = ⟨k, p, c, l, s⟩ := by rw [hR.out, if_pos rfl]
    have e2 : M = if k = 1 then n + 1 else if k = 2 then n - 1 else n := by rw [hS.out, if_pos rfl]
    subst e1
    have HF := hd (hF.out rfl)
    have HM := hd e2
    have x5 := H2.out.size
    clear hR hS hF e2 CN CF
    by_cases k1 : k = 1
    · subst k1
      have em := hd (show (n : Int) + 1 = (M : Int) by rw [HM.out, if_pos rfl]; omega)
      clear HM HF
      go_wp2
      refine bodyPost_ret (v := .agg #[.int .i64 1, .int .i64 p, .int .u8 c, .int .i64 l, .int .i64 s]) (by simp [results, Tryz.results85, go_sem, r0, r1, r2, r3, r4]) rfl ?_
      rw [em.out]
      exact ⟨rfl, FIN.out _ _ (H2.out.setSize M) (FU.out _) _ _ _ _ _⟩
    · have q1 : (k == 1) = false := by simpa using k1
      by_cases k2 : k = 2
      · subst k2
        have hn1 := HF.out rfl
        have em := hd (show (n : Int) - 1 = (M : Int) by rw [HM.out, if_neg (by omega), if_pos rfl]; omega)
        clear HM HF hn1
        go_wp2
        refine bodyPost_ret (v := .agg #[.int .i64 2, .int .i64 p, .int .u8 c, .int .i64 l, .int .i64 s]) (by simp [results, Tryz.results85, go_sem, r0, r1, r2, r3, r4]) rfl ?_
        rw [em.out]
        exact ⟨rfl, FIN.out _ _ (H2.out.setSize M) (FU.out _) _ _ _ _ _⟩
      · have q2 : (k == 2) = false := by simpa using k2
        have e3 : M = n := by rw [HM.out, if_neg k1, if_neg k2]
        subst e3
        clear HM HF k1 k2
        go_wp2
        refine bodyPost_ret (v := .agg #[.int .i64 k, .int .i64 p, .int .u8 c, .int .i64 l, .int .i64 s]) (by simp [results, Tryz.results85, go_sem, r0, r1, r2, r3, r4]) rfl ?_
        exact ⟨rfl, FIN.out _ _ H2.out (Fr.of_below HB.out) _ _ _ _ _⟩
  · have q0 : (r == 0) = false := by simpa using hr0
    have e1 : R = ⟨0, 0, 0, l, s⟩ := by rw [hR.out, if_neg hr0]
    have e2 : M = n := by rw [hS.out, if_neg hr0]
    subst e1 e2
    clear hR hS hF
    go_wp2_with fail
    refine (CN.out _).mono ?_
    rintro e u1 ⟨rfl, b1⟩
    have lq : w.heap.size + 1 < u.heap.size := by omega
    have r0 := (b1.cell (p := ⟨w.heap.size + 1, 0, none⟩) lq).trans r0
    have r1 := (b1.cell (p := ⟨w.heap.size + 1, 1, none⟩) lq).trans r1
    have r2 := (b1.cell (p := ⟨w.heap.size + 1, 2, none⟩) lq).trans r2
    have r3 := (b1.cell (p := ⟨w.heap.size + 1, 3, none⟩) lq).trans r3
    have r4 := (b1.cell (p := ⟨w.heap.size + 1, 4, none⟩) lq).trans r4
    have f0 := (b1.frozen (p := ⟨w.heap.size + 1, 0, none⟩) lq).trans f0
    have f1 := (b1.frozen (p := ⟨w.heap.size + 1, 1, none⟩) lq).trans f1
    have f2 := (b1.frozen (p := ⟨w.heap.size + 1, 2, none⟩) lq).trans f2
    have f3 := (b1.frozen (p := ⟨w.heap.size + 1, 3, none⟩) lq).trans f3
    have f4 := (b1.frozen (p := ⟨w.heap.size + 1, 4, none⟩) lq).trans f4
    have Z := hd (FIN.out u1 _ (H2.out.below b1) (Fr.of_below (HB.out.trans (b1.mono HB.out.size))))
    clear b1
    go_wp2
    refine bodyPost_ret (v := .agg #[.int .i64 0, .int .i64 0, .int .u8 0, .int .i64 l, .int .i64 s]) (by simp [results, Tryz.results85, go_sem, r0, r1, r2, r3, r4]) rfl ?_
    exact ⟨rfl, Z.out _ _ _ _ _⟩

/-- The next edit is to be made now. -/
def dueB (ds : List Dd) (hav : Nat) : Bool := match ds with
  | [] => false
  | d :: _ => d.e.tag == (hav : Int)

set_option maxRecDepth 100000 in
set_option maxHeartbeats 1000000 in
theorem due_any {w : World} {x : Nat} {β γ : Option Nat} {id : Int} {ds : List Dd} {made hav n : Nat} {fs : List OpE} (h : HD w x β γ id ds made hav fs n) :
    Calls Tryz.prog 47 #[.pointer (some ⟨x, 0, none⟩)] w fun e w' => e = .returned (.bool (dueB ds hav)) ∧ Below w.heap.size w w' := by
  obtain ⟨vS, vF, hS, hF, c0, c1, c2, c3, c4, c5⟩ := h.cells
  have hx := h.lt
  cases ds with
  | nil =>
    obtain ⟨a, c, rfl, hc1, hc2⟩ := hS.form
    clear hS hF h
    simp only [List.length_nil, dueB] at *
    go_enter Tryz.func47, Tryz.ntmps47
    go_wp2_with fail
    go_quiet (fail)
    go_wp2
    go_ret
    exact ⟨rfl, by first | exact Below.refl _ _ | exact below_drewN (Below.refl _ _) _⟩
  | cons d ds =>
    obtain ⟨a, c, rfl, hc1, hc2⟩ := hS.form
    obtain ⟨g, off, -, rfl, -, hl, -, hg, ⟨d0, -⟩, -⟩ := hS.head
    clear hS hF h
    simp only [List.length_cons, dueB] at *
    have q1 : decide (((ds.length + 1 : Nat) : Int) > 0) = true := by simp
    have hn0 : 0 < ds.length + 1 := by omega
    generalize ds.length + 1 = m at *
    go_enter Tryz.func47, Tryz.ntmps47
    go_wp2_with fail
    go_quiet (fail)
    go_wp2
    go_ret
    exact ⟨rfl, by first | exact Below.refl _ _ | exact below_drewN (Below.refl _ _) _⟩

end Go.Proofs.YtfhghijefjhehaaGreatDoor

/-! Le -/
namespace Go.Proofs.YtfhghijefjhehaaGreatDoor
open Go.RowKit
set_option linter.unusedVariables false

section
variable {w w' : World} {x : Nat} {β γ : Option Nat} {id : Int} {ds : List Dd} {made hav n : Nat} {fs : List OpE}
theorem HD.setHav (h : HD w x β γ id ds made hav fs n) (m : Nat) : HD (w.setCell ⟨x, 3, none⟩ (.int .i64 m)) x β γ id ds made m fs n := by
  obtain ⟨vS, vF, h1, h2, h3⟩ := h.blk
  obtain ⟨a1, a2, -⟩ := h.apart
  have hF : Fr (· = x) w (w.setCell ⟨x, 3, none⟩ (.int .i64 m)) := Fr.setCell _ _ _ rfl
  refine ⟨vS, vF, ?_, h2.fr hF (fun g hg e => a2 (e ▸ hg)), h3.fr hF (fun g hg e => a1 (e ▸ hg))⟩
  have := set_row h1 3 (.int .i64 m)
  simpa using this
theorem HD.setMade (h : HD w x β γ id ds made hav fs n) (m : Nat) : HD (w.setCell ⟨x, 2, none⟩ (.int .i64 m)) x β γ id ds m hav fs n := by
  obtain ⟨vS, vF, h1, h2, h3⟩ := h.blk
  obtain ⟨a1, a2, -⟩ := h.apart
  have hF : Fr (· = x) w (w.setCell ⟨x, 2, none⟩ (.int .i64 m)) := Fr.setCell _ _ _ rfl
  refine ⟨vS, vF, ?_, h2.fr hF (fun g hg e => a2 (e ▸ hg)), h3.fr hF (fun g hg e => a1 (e ▸ hg))⟩
  have := set_row h1 2 (.int .i64 m)
  simpa using this
theorem FO.ne {b : Nat} {t : TypeId} {cs : Array Value} {v : Value} (h : FO w β v fs) (hb : w.heap[b]? = some (.cells cs t (0, 0))) (ht : t ≠ 69) : β ≠ some b := by
  rintro rfl
  obtain ⟨off, cap, cur, -, k, -⟩ := h
  rw [hb] at k
  simp at k
  exact ht k.2
theorem DS.ne {b : Nat} {t : TypeId} {cs : Array Value} {v : Value} (h : DS w γ v ds) (hb : w.heap[b]? = some (.cells cs t (0, 0))) (ht : t ≠ 143) : γ ≠ some b := by
  rintro rfl
  obtain ⟨off, cap, cur, -, k, -⟩ := h
  rw [hb] at k
  simp at k
  exact ht k.2
theorem HD.setForms (h : HD w x β γ id ds made hav fs n) {β' : Option Nat} {v' : Value} {fs' : List OpE} (hv : FO w β' v' fs') : HD (w.setCell ⟨x, 4, none⟩ v') x β' γ id ds made hav fs' n := by
  obtain ⟨vS, vF, h1, h2, h3⟩ := h.blk
  obtain ⟨a1, a2, -⟩ := h.apart
  have a1 := hv.ne h1 (by decide)
  have hF : Fr (· = x) w (w.setCell ⟨x, 4, none⟩ v') := Fr.setCell _ _ _ rfl
  refine ⟨vS, v', ?_, h2.fr hF (fun g hg e => a2 (e ▸ hg)), hv.fr hF (fun g hg e => a1 (e ▸ hg))⟩
  have := set_row h1 4 v'
  simpa using this
theorem HD.setStill (h : HD w x β γ id ds made hav fs n) {v' : Value} {ds' : List Dd} (hv : DS w γ v' ds') : HD (w.setCell ⟨x, 1, none⟩ v') x β γ id ds' made hav fs n := by
  obtain ⟨vS, vF, h1, h2, h3⟩ := h.blk
  obtain ⟨a1, a2, -⟩ := h.apart
  have hF : Fr (· = x) w (w.setCell ⟨x, 1, none⟩ v') := Fr.setCell _ _ _ rfl
  refine ⟨v', vF, ?_, hv.fr hF (fun g hg e => a2 (e ▸ hg)), h3.fr hF (fun g hg e => a1 (e ▸ hg))⟩
  have := set_row h1 1 v'
  simpa using this
/-- The four ways of a hand's part that stays. -/
theorem HD.frozens (h : HD w x β γ id ds made hav fs n) : w.frozen? ⟨x, 0, none⟩ = false ∧ w.frozen? ⟨x, 1, none⟩ = false ∧ w.frozen? ⟨x, 2, none⟩ = false ∧ w.frozen? ⟨x, 3, none⟩ = false ∧ w.frozen? ⟨x, 4, none⟩ = false ∧ w.frozen? ⟨x, 5, none⟩ = false :=
  ⟨h.frozen 0, h.frozen 1, h.frozen 2, h.frozen 3, h.frozen 4, h.frozen 5⟩
end

theorem Table.fr {S : Nat → Prop} {w w' : World} (h : Table w) (hF : Fr S w w') (hS : ¬ S 1) : Table w' := by
  have hc : ∀ i, w'.cell? ⟨1, i, none⟩ = w.cell? ⟨1, i, none⟩ := fun i => hF.cell (p := ⟨1, i, none⟩) h.1 hS
  unfold Table at h ⊢
  simp only [hc]
  exact ⟨Nat.lt_of_lt_of_le h.1 hF.size, h.2⟩

theorem shift_ch (a b : OpE) (f : Bool) (h : 0 ≤ a.ch ∧ a.ch ≤ 255) : 0 ≤ (shiftP a b f).ch ∧ (shiftP a b f).ch ≤ 255 := by
  unfold shiftP
  split
  · exact h
  · split
    · simp
    · split <;> exact h
theorem through_ch : ∀ (l : List OpE) (op : OpE) (f : Bool), 0 ≤ op.ch ∧ op.ch ≤ 255 → 0 ≤ (throughP op l f).1.ch ∧ (throughP op l f).1.ch ≤ 255
  | [], op, f, h => h
  | x :: l, op, f, h => by
    simp only [throughP]
    exact through_ch l _ f (shift_ch _ _ _ h)

theorem own_fin {w w2 : World} {x : Nat} {β γ : Option Nat} {id : Int} {ds : List Dd} {made hav n made' hav' n' : Nat} {fs fs' fs2 : List OpE} {cs : Array Value} (h : HD w x β γ id ds made hav fs n) (h2 : HD w2 x β γ id ds made' hav' fs' n') (hF : Fr (· = x) w w2) (hr : w2.heap[w.heap.size + 1]? = some (.cells cs 69 (0, 0))) (hs : w.heap.size + 2 ≤ w2.heap.size) (hx : x < w.heap.size) :
    ∀ (v' : Value), FO w2 β v' fs2 → ∀ (m : Nat) (u : World), Below ((w2.drewN m).setCell ⟨x, 4, none⟩ v').heap.size ((w2.drewN m).setCell ⟨x, 4, none⟩ v') u → u.heap[w.heap.size + 1]? = some (.cells cs 69 (0, 0)) ∧
      ∀ a b c d e, HD (set5 u (w.heap.size + 1) 0 a b c d e) x β γ id ds made' hav' fs2 n' ∧ Fr (· = x) w (set5 u (w.heap.size + 1) 0 a b c d e) := by
  intro v' hv m u bu
  have d0 : Fr (fun _ => False) w2 (w2.drewN m) := Fr.drewN _ _ _
  have h3 := ((h2.fr d0 (fun h => h) (fun _ _ h => h) (fun _ _ h => h)).setForms (hv.fr d0 (fun _ _ h => h))).below bu
  have hF3 : Fr (· = x) w2 u := ((Fr.drewN (· = x) w2 m).trans (Fr.setCell (S := (· = x)) (w2.drewN m) ⟨x, 4, none⟩ v' rfl)).trans (Fr.of_below bu)
  exact ⟨hF3.keeps hr (by omega), fun a b c d e => h.back h3 (hF.trans hF3) (by omega) a b c d e⟩

set_option maxRecDepth 100000 in
set_option maxHeartbeats 1000000 in
theorem takeIn_own {w : World} {x : Nat} {β γ : Option Nat} {id : Int} {ds : List Dd} {made hav n : Nat} {y : OpE} {fs : List OpE} (h : HD w x β γ id ds made hav (y :: fs) n) (o : OpE) (ho : o.cl = id) (hh : hav ≤ 1000000) :
    Calls Tryz.prog 49 #[.pointer (some ⟨x, 0, none⟩), o.val] w fun e w' => e = .returned (nopO o).val ∧ HD w' x β γ id ds made (hav + 1) fs n ∧ Fr (· = x) w w' := by
  obtain ⟨k, p, c, l, s⟩ := o
  simp only at ho
  subst ho
  simp only [OpE.val, nopO]
  have BX := hd (two_of (Below.refl ((w.alloc (.cells #[.int .i64 k, .int .i64 p, .int .u8 c, .int .i64 l, .int .i64 s] 69 (0, 0))).alloc (.cells #[.int .i64 0, .int .i64 0, .int .u8 0, .int .i64 0, .int .i64 0] 69 (0, 0))).heap.size _))
  have CN := hd (fun W => hnothing_any k p c l s W)
  have HH := hd h
  have hx := h.lt
  clear h
  have em := hd (show (hav : Int) + 1 = ((hav + 1 : Nat) : Int) by omega)
  generalize hav + 1 = M at *
  go_enter Tryz.func49, Tryz.ntmps49
  go_upto_region 1 with fail
  generalize (w.alloc (.cells #[.int .i64 k, .int .i64 p, .int .u8 c, .int .i64 l, .int .i64 s] 69)).alloc (.cells #[.int .i64 0, .int .i64 0, .int .u8 0, .int .i64 0, .int .i64 0] 69) = w1 at *
  obtain ⟨hp, hr, hB, hz⟩ := BX.out
  have H1 := hd (HH.out.below hB)
  have HB := hd hB
  obtain ⟨vS, vF, -, -, c0, c1, c2, c3, c4, c5⟩ := H1.out.cells
  obtain ⟨F0, F1, F2, F3, F4, F5⟩ := H1.out.frozens
  have hxq : ¬ (w.heap.size + 1 = x) := by omega
  have hxq' : ¬ (x = w.heap.size + 1) := by omega
  have hxp' : ¬ (w.heap.size = x) := by omega
  have hxp : ¬ (x = w.heap.size) := by omega
  obtain ⟨⟨p0, p1, p2, p3, p4⟩, -⟩ := cellsF hp
  clear BX hB
  go_upto_region 2 with fail
  rw [em.out]
  have H2 := hd (H1.out.setHav M)
  have B2 := hd (show Fr (· = x) w (w1.setCell ⟨x, 3, none⟩ (.int .i64 M)) from (Fr.of_below HB.out).trans (Fr.setCell w1 ⟨x, 3, none⟩ (.int .i64 M) rfl))
  have hs2 : w.heap.size + 2 ≤ (w1.setCell ⟨x, 3, none⟩ (.int .i64 M)).heap.size := by simpa using hz
  have hp := hd ((Fr.setCell (S := (· = x)) w1 ⟨x, 3, none⟩ (.int .i64 M) rfl).keeps hp (fun e => hxp' e))
  have hr := hd ((Fr.setCell (S := (· = x)) w1 ⟨x, 3, none⟩ (.int .i64 M) rfl).keeps hr (fun e => hxq e))
  generalize w1.setCell ⟨x, 3, none⟩ (.int .i64 M) = w2 at *
  clear p0 p1 p2 p3 p4 c0 c1 c2 c3 c4 c5 F0 F1 F2 F3 F4 F5 vS vF H1 HB hz
  obtain ⟨vS, vF, -, hF, c0, c1, c2, c3, c4, c5⟩ := H2.out.cells
  obtain ⟨a, cp, rfl, hI⟩ := hF.is
  obtain ⟨g, off, rfl, rfl, -, hc1, hc2, hc3, hc4, hc5⟩ := hF.tail
  have T1 := hd hc4
  have T2 := hd hc5
  obtain ⟨⟨p0, p1, p2, p3, p4⟩, -⟩ := cellsF hp.out
  obtain ⟨F0, F1, F2, F3, F4, F5⟩ := H2.out.frozens
  clear hF hI hc4 hc5
  simp only [List.length_cons] at *
  go_quiet (fail)
  have Z := hd (own_fin (fs2 := fs) HH.out H2.out B2.out hr.out hs2 (by omega))
  clear hs2
  by_cases hc : cp = 1
  · subst hc
    obtain rfl : fs = [] := List.length_eq_zero_iff.1 (by omega)
    have T3 : Hid (FO w2 (some g) (.slice (some ⟨g, off, none⟩) 0 0) []) := T1.out rfl
    simp only [List.length_nil] at c4
    go_wp2_with fail
    refine (CN.out _).mono ?_
    rintro e u ⟨rfl, bu⟩
    obtain ⟨hr', G⟩ := Z.out _ T3.out _ u bu
    have G := hd G
    obtain ⟨⟨r0, r1, r2, r3, r4⟩, ⟨f0, f1, f2, f3, f4⟩⟩ := cellsF hr'
    clear bu hr'
    go_wp2
    refine bodyPost_ret (v := .agg #[.int .i64 0, .int .i64 0, .int .u8 0, .int .i64 l, .int .i64 s]) (by simp [results, Tryz.results49, go_sem, r0, r1, r2, r3, r4]) rfl ?_
    exact ⟨rfl, G.out _ _ _ _ _⟩
  · go_wp2_with fail
    refine (CN.out _).mono ?_
    rintro e u ⟨rfl, bu⟩
    obtain ⟨hr', G⟩ := Z.out _ T2.out _ u bu
    have G := hd G
    obtain ⟨⟨r0, r1, r2, r3, r4⟩, ⟨f0, f1, f2, f3, f4⟩⟩ := cellsF hr'
    clear bu hr'
    go_wp2
    refine bodyPost_ret (v := .agg #[.int .i64 0, .int .i64 0, .int .u8 0, .int .i64 l, .int .i64 s]) (by simp [results, Tryz.results49, go_sem, r0, r1, r2, r3, r4]) rfl ?_
    exact ⟨rfl, G.out _ _ _ _ _⟩

end Go.Proofs.YtfhghijefjhehaaGreatDoor

/-! Lf -/
namespace Go.Proofs.YtfhghijefjhehaaGreatDoor
open Go.RowKit
set_option linter.unusedVariables false

theorem keep_cell {w : World} {p a : Addr} {u v : Value} (h : w.cell? a = some v) (hb : a.block ≠ p.block) : (w.setCell p u).cell? a = some v := by
  rw [← h]
  exact World.cell?_of_block (Below.heap_setCell w p u a.block hb)
def SixP (x : Nat) (z : Value) (b : Nat) (v : OpE) (W : World) : Prop := W.cell? ⟨x, 4, none⟩ = some z ∧ W.cell? ⟨b, 0, none⟩ = some (.int .i64 v.kind) ∧ W.cell? ⟨b, 1, none⟩ = some (.int .i64 v.pos) ∧ W.cell? ⟨b, 2, none⟩ = some (.int .u8 v.ch) ∧ W.cell? ⟨b, 3, none⟩ = some (.int .i64 v.cl) ∧ W.cell? ⟨b, 4, none⟩ = some (.int .i64 v.sq)
theorem SixP.out {x : Nat} {z : Value} {b : Nat} {v : OpE} {W : World} (h : SixP x z b v W) : W.cell? ⟨x, 4, none⟩ = some z ∧ W.cell? ⟨b, 0, none⟩ = some (.int .i64 v.kind) ∧ W.cell? ⟨b, 1, none⟩ = some (.int .i64 v.pos) ∧ W.cell? ⟨b, 2, none⟩ = some (.int .u8 v.ch) ∧ W.cell? ⟨b, 3, none⟩ = some (.int .i64 v.cl) ∧ W.cell? ⟨b, 4, none⟩ = some (.int .i64 v.sq) := h
theorem SixP.set {x : Nat} {z : Value} {b : Nat} {v : OpE} {W : World} (h : SixP x z b v W) {g i : Nat} {y : Value} (h0 : x ≠ g) (h1 : b ≠ g) : SixP x z b v (W.setCell ⟨g, i, none⟩ y) := by
  obtain ⟨a0, a1, a2, a3, a4, a5⟩ := h
  exact ⟨keep_cell a0 h0, keep_cell a1 h1, keep_cell a2 h1, keep_cell a3 h1, keep_cell a4 h1, keep_cell a5 h1⟩
theorem SixP.set5 {x : Nat} {z : Value} {b : Nat} {v : OpE} {W : World} (h : SixP x z b v W) (g : Nat) (y : OpE) (h0 : x ≠ g) (h1 : b ≠ g) :
    SixP x z b v (((((W.setCell ⟨g, 0, none⟩ (.int .i64 y.kind)).setCell ⟨g, 1, none⟩ (.int .i64 y.pos)).setCell ⟨g, 2, none⟩ (.int .u8 y.ch)).setCell ⟨g, 3, none⟩ (.int .i64 y.cl)).setCell ⟨g, 4, none⟩ (.int .i64 y.sq)) :=
  ((((h.set h0 h1).set h0 h1).set h0 h1).set h0 h1).set h0 h1

/-- Behind Through: the operation at block bx, the forms in a row of their own. -/
def PT (w u : World) (bx : Nat) (R : OpE) (v : Value) (L : List OpE) : Prop :=
  u.heap[bx]? = some (.cells (opc R).toArray 69 (0, 0)) ∧ Below w.heap.size w u ∧ w.heap.size ≤ bx ∧ ∃ g, w.heap.size ≤ g ∧ g ≠ bx ∧ FO u (some g) v L
/-- Behind the call, the block not made. -/
def PB (w u : World) (v : Value) (L : List OpE) : Prop := Below w.heap.size w u ∧ ∃ g, w.heap.size ≤ g ∧ FO u (some g) v L
theorem PT.set {w u : World} {bx : Nat} {X : OpE} {v : Value} {L : List OpE} (h : PT w u bx X v L) (R : OpE) : PT w (Go.Proofs.YtfhghijefjhehaaGreatDoor.set5 u bx 0 R.kind R.pos R.ch R.cl R.sq) bx R v L := by
  obtain ⟨h1, h2, h3, g, h4, h5, h6⟩ := h
  have hF := Fr.set5 u bx 0 R.kind R.pos R.ch R.cl R.sq
  exact ⟨set5_op h1 _ _ _ _ _, h2.trans (hF.below h2.size (fun k hk => by omega)), h3, g, h4, h5, h6.fr hF (fun g' hg' => by injection hg' with hg'; omega)⟩
theorem PB.new {w u : World} {v : Value} {L : List OpE} (h : PB w u v L) (R : OpE) : PT w (u.alloc (.cells (opc R).toArray 69 (0, 0))) u.heap.size R v L := by
  obtain ⟨h2, g, h4, h6⟩ := h
  have hl := h6.lt g rfl
  exact ⟨heap_alloc_new u _, h2.alloc h2.size _, h2.size, g, h4, by omega, h6.fr (Fr.alloc (fun _ => False) u _) (fun _ _ h => h)⟩

theorem take_fin {w w6 : World} {x g : Nat} {β γ : Option Nat} {id id' : Int} {ds ds' : List Dd} {made hav n made' hav' n' : Nat} {fs fs' : List OpE} (h : HD w x β γ id ds made hav fs n) (h6 : HD w6 x (some g) γ id' ds' made' hav' fs' n') (hF : Fr (· = x) w w6) (hg : w.heap.size + 2 ≤ g) (a b c d e : Int) :
    (∃ g, w.heap.size ≤ g ∧ HD (set5 w6 (w.heap.size + 1) 0 a b c d e) x (some g) γ id' ds' made' hav' fs' n') ∧ Fr (· = x) w (set5 w6 (w.heap.size + 1) 0 a b c d e) := by
  obtain ⟨vS, vF, h1, h2, h3⟩ := h.blk
  have hx := block_lt h1
  refine ⟨⟨g, by omega, h6.fr (Fr.set5 w6 (w.heap.size + 1) 0 a b c d e) (by omega) (fun g' hg' => ?_) (fun g' hg' => ?_)⟩, hF.next (Fr.set5 w6 (w.heap.size + 1) 0 a b c d e) (fun i hi hs => by omega)⟩
  · injection hg' with hg'
    omega
  · have := DS.lt h2 g' hg'
    omega

set_option maxRecDepth 100000 in
set_option maxHeartbeats 1000000 in
theorem takeIn_other {w : World} {x : Nat} {β γ : Option Nat} {id : Int} {ds : List Dd} {made hav n : Nat} {fs : List OpE} (h : HD w x β γ id ds made hav fs n) (hT : Table w) (hxT : 1 ≠ x) (o : OpE) (ho : o.cl ≠ id) (hh : hav ≤ 1000000) (hl : fs.length ≤ 4096) (h0 : 0 ≤ o.ch) (h1 : o.ch ≤ 255) (hn : n ≤ 4096) :
    Calls Tryz.prog 49 #[.pointer (some ⟨x, 0, none⟩), o.val] w fun e w' => e = .returned (fitO n (throughP o fs false).1).val ∧ (∃ g, w.heap.size ≤ g ∧ HD w' x (some g) γ id ds made (hav + 1) (throughP o fs false).2 (sizeP n (throughP o fs false).1)) ∧ Fr (· = x) w w' := by
  obtain ⟨k, p, c, l, s⟩ := o
  simp only at ho h0 h1
  simp only [OpE.val]
  have BX := hd (two_of (Below.refl ((w.alloc (.cells #[.int .i64 k, .int .i64 p, .int .u8 c, .int .i64 l, .int .i64 s] 69 (0, 0))).alloc (.cells #[.int .i64 0, .int .i64 0, .int .u8 0, .int .i64 0, .int .i64 0] 69 (0, 0))).heap.size _))
  have CT := hd (fun a m cp W hT hE hm => through_any ⟨k, p, c, l, s⟩ a m cp fs false W hT hE hm)
  have hch := through_ch fs ⟨k, p, c, l, s⟩ false ⟨h0, h1⟩
  have HH := hd h
  have HT := hd hT
  have hx := h.lt
  have b0 : (l == id) = false := by simpa using ho
  clear h h0 h1 hT ho
  have em := hd (show (hav : Int) + 1 = ((hav + 1 : Nat) : Int) by omega)
  generalize hav + 1 = M at *
  generalize (throughP ⟨k, p, c, l, s⟩ fs false).1 = R at *
  generalize (throughP ⟨k, p, c, l, s⟩ fs false).2 = L at *
  obtain ⟨rk, rp, rc, rl, rs⟩ := R
  simp only [OpE.val] at CT hch
  go_enter Tryz.func49, Tryz.ntmps49
  go_upto_region 1 with fail
  generalize (w.alloc (.cells #[.int .i64 k, .int .i64 p, .int .u8 c, .int .i64 l, .int .i64 s] 69)).alloc (.cells #[.int .i64 0, .int .i64 0, .int .u8 0, .int .i64 0, .int .i64 0] 69) = w1 at *
  obtain ⟨hp, hr, hB, hz⟩ := BX.out
  have H1 := hd (HH.out.below hB)
  have HB := hd hB
  have T1 := hd (HT.out.below hB HT.out.1)
  obtain ⟨vS, vF, -, -, c0, c1, c2, c3, c4, c5⟩ := H1.out.cells
  obtain ⟨F0, F1, F2, F3, F4, F5⟩ := H1.out.frozens
  have hxq : ¬ (w.heap.size + 1 = x) := by omega
  have hxq' : ¬ (x = w.heap.size + 1) := by omega
  have hxp' : ¬ (w.heap.size = x) := by omega
  have hxp : ¬ (x = w.heap.size) := by omega
  obtain ⟨⟨p0, p1, p2, p3, p4⟩, -⟩ := cellsF hp
  clear BX hB
  go_upto_region 2 with fail
  rw [em.out]
  have H2 := hd (H1.out.setHav M)
  have B2 := hd (show Fr (· = x) w (w1.setCell ⟨x, 3, none⟩ (.int .i64 M)) from (Fr.of_below HB.out).trans (Fr.setCell w1 ⟨x, 3, none⟩ (.int .i64 M) rfl))
  have T2 := hd (T1.out.fr (Fr.setCell (S := (· = x)) w1 ⟨x, 3, none⟩ (.int .i64 M) rfl) hxT)
  have hs2 : w.heap.size + 2 ≤ (w1.setCell ⟨x, 3, none⟩ (.int .i64 M)).heap.size := by simpa using hz
  have hp := hd ((Fr.setCell (S := (· = x)) w1 ⟨x, 3, none⟩ (.int .i64 M) rfl).keeps hp (fun e => hxp' e))
  have hr := hd ((Fr.setCell (S := (· = x)) w1 ⟨x, 3, none⟩ (.int .i64 M) rfl).keeps hr (fun e => hxq e))
  generalize w1.setCell ⟨x, 3, none⟩ (.int .i64 M) = w2 at *
  clear p0 p1 p2 p3 p4 c0 c1 c2 c3 c4 c5 F0 F1 F2 F3 F4 F5 vS vF H1 HB hz T1
  obtain ⟨vS, vF, -, hF, c0, c1, c2, c3, c4, c5⟩ := H2.out.cells
  obtain ⟨a, cp, rfl, hI⟩ := hF.is
  have HI := hd hI
  obtain ⟨⟨p0, p1, p2, p3, p4⟩, -⟩ := cellsF hp.out
  obtain ⟨F0, F1, F2, F3, F4, F5⟩ := H2.out.frozens
  clear hF hI
  go_quiet (fail)
  go_upto_region 5 with fail
  generalize hw3 : w2.drewN nq = w3
  have B3 : Below w2.heap.size w2 w3 := by rw [← hw3]; exact below_drewN (Below.refl _ _) _
  have HI3 := hd (HI.out.below B3)
  have T3 := hd (T2.out.below B3 T2.out.1)
  have hsz : w3.heap.size = w2.heap.size := by rw [← hw3]; rfl
  have H3 := hd (H2.out.below B3)
  have c4 := (B3.cell (p := ⟨x, 4, none⟩) H2.out.lt).trans c4
  have lp : w.heap.size < w2.heap.size := by omega
  have p0 := (B3.cell (p := ⟨w.heap.size, 0, none⟩) lp).trans p0
  have p1 := (B3.cell (p := ⟨w.heap.size, 1, none⟩) lp).trans p1
  have p2 := (B3.cell (p := ⟨w.heap.size, 2, none⟩) lp).trans p2
  have p3 := (B3.cell (p := ⟨w.heap.size, 3, none⟩) lp).trans p3
  have p4 := (B3.cell (p := ⟨w.heap.size, 4, none⟩) lp).trans p4
  have lp3 : w.heap.size < w3.heap.size := by omega
  have lx3 : x < w3.heap.size := by omega
  have m5 : ¬ (w3.heap.size = x) := by omega
  have m6 : ¬ (x = w3.heap.size) := by omega
  have m7 : ¬ (w3.heap.size = w.heap.size) := by omega
  have m8 : ¬ (w.heap.size = w3.heap.size) := by omega
  have HW3 := hd hw3
  have HSZ := hd hsz
  clear hw3 hsz B3
  go_cut [5, 6] (fun q f wx => ∃ bx, q = .pointer (some ⟨bx, 0, none⟩) ∧ Hid (PT w3 wx bx ⟨rk, rp, rc, rl, rs⟩ f L))
  case first =>
    go_region_held3 (fun W => W.cell? ⟨x, 4, none⟩ = some (.slice a fs.length cp) ∧ W.cell? ⟨w.heap.size, 0, none⟩ = some (.int .i64 k) ∧ W.cell? ⟨w.heap.size, 1, none⟩ = some (.int .i64 p) ∧ W.cell? ⟨w.heap.size, 2, none⟩ = some (.int .u8 c) ∧ W.cell? ⟨w.heap.size, 3, none⟩ = some (.int .i64 l) ∧ W.cell? ⟨w.heap.size, 4, none⟩ = some (.int .i64 s)) (first | (with_reducible exact SixP.out K6) | (with_reducible exact ⟨by assumption, by assumption, by assumption, by assumption, by assumption, by assumption⟩) | (go_keep; done)) (first | (go_at_call 87; refine (CT.out _ _ _ _ (T3.out.below (by first | exact (Below.refl _ _).drew | exact below_drewN (Below.refl _ _) _ | exact ((Below.refl _ _).drew).alloc (by simp) _ | exact (below_drewN (Below.refl _ _) _).alloc (by simp) _ | exact ((Below.refl _ _).alloc (Nat.le_refl _) _).drew | exact below_drewN ((Below.refl _ _).alloc (Nat.le_refl _) _) _) T3.out.1) (HI3.out.below (by first | exact (Below.refl _ _).drew | exact below_drewN (Below.refl _ _) _ | exact ((Below.refl _ _).drew).alloc (by simp) _ | exact (below_drewN (Below.refl _ _) _).alloc (by simp) _ | exact ((Below.refl _ _).alloc (Nat.le_refl _) _).drew | exact below_drewN ((Below.refl _ _).alloc (Nat.le_refl _) _) _)) hl).mono ?_; rintro e u ⟨v, rfl, hO, bu⟩; have BU := hd (show Below w3.heap.size w3 u from (show Below w3.heap.size w3 _ from (by first | exact (Below.refl _ _).drew | exact below_drewN (Below.refl _ _) _ | exact ((Below.refl _ _).drew).alloc (by simp) _ | exact (below_drewN (Below.refl _ _) _).alloc (by simp) _ | exact ((Below.refl _ _).alloc (Nat.le_refl _) _).drew | exact below_drewN ((Below.refl _ _).alloc (Nat.le_refl _) _) _)).trans (bu.mono (by simp))); have j0 := (BU.out.cell (p := ⟨x, 4, none⟩) lx3).trans c4; have j1 := (BU.out.cell (p := ⟨w.heap.size, 0, none⟩) lp3).trans p0; have j2 := (BU.out.cell (p := ⟨w.heap.size, 1, none⟩) lp3).trans p1; have j3 := (BU.out.cell (p := ⟨w.heap.size, 2, none⟩) lp3).trans p2; have j4 := (BU.out.cell (p := ⟨w.heap.size, 3, none⟩) lp3).trans p3; have j5 := (BU.out.cell (p := ⟨w.heap.size, 4, none⟩) lp3).trans p4; obtain ⟨gg, hgg, hFF⟩ := FO.of_own hO; (first | (have hB : Below w3.drew.heap.size w3.drew u := (by with_reducible exact bu); clear hB) | (have hx : u.heap[w3.heap.size]? = some (.cells (opc zop).toArray 69 (0, 0)) := (bu.block w3.heap.size (by show w3.heap.size < (w3.alloc _).heap.size; simp)).trans (heap_alloc_new w3 _); obtain ⟨⟨y0, y1, y2, y3, y4⟩, ⟨g0, g1, g2, g3, g4⟩⟩ := cellsF (show u.heap[w3.heap.size]? = some (.cells #[.int .i64 0, .int .i64 0, .int .u8 0, .int .i64 0, .int .i64 0] 69 (0, 0)) from hx); have GX : Hid (PT w3 u w3.heap.size zop v L) := ⟨hx, BU.out, Nat.le_refl _, gg, by have hq : (w3.alloc (.cells #[.int .i64 0, .int .i64 0, .int .u8 0, .int .i64 0, .int .i64 0] 69)).heap.size ≤ gg := hgg; simp at hq; omega, by have hq : (w3.alloc (.cells #[.int .i64 0, .int .i64 0, .int .u8 0, .int .i64 0, .int .i64 0] 69)).heap.size ≤ gg := hgg; simp at hq; omega, hFF⟩; have K6 := (show SixP x (.slice a fs.length cp) w.heap.size ⟨k, p, c, l, s⟩ u from ⟨j0, j1, j2, j3, j4, j5⟩).set5 w3.heap.size ⟨rk, rp, rc, rl, rs⟩ m6 m8; clear hx)); have GB : Hid (PB w3 u v L) := ⟨BU.out, gg, (by first | exact hgg | (have hq : (w3.alloc (.cells #[.int .i64 0, .int .i64 0, .int .u8 0, .int .i64 0, .int .i64 0] 69)).heap.size ≤ gg := hgg; simp at hq; omega)), hFF⟩; clear bu hO hgg hFF BU))
    · have Z := hd (GB.out.new ⟨rk, rp, rc, rl, rs⟩)
      go_wp2_with fail
      go_meet
      exact ⟨_, rfl, Z⟩
    · have Z := hd (GX.out.set ⟨rk, rp, rc, rl, rs⟩)
      go_wp2_with fail
      go_meet
      exact ⟨_, rfl, Z⟩
  case rest =>
  obtain ⟨bx, rfl, hG⟩ := hcut
  obtain ⟨hop, hB, hbx, g, hg, hne, hFO⟩ := hG.out
  have F3 : Fr (· = x) w w3 := B2.out.trans (by rw [← HW3.out]; exact Fr.drewN _ _ _)
  have hs3 := HSZ.out
  have H4 := hd (H3.out.below hB)
  have F4 := hd (F3.trans (Fr.of_below hB))
  have hg2 : w.heap.size + 2 ≤ g := by omega
  have hbq : ¬ (x = bx) := by omega
  have hr3 : w3.heap[w.heap.size + 1]? = some (.cells #[.int .i64 0, .int .i64 0, .int .u8 0, .int .i64 0, .int .i64 0] 69 (0, 0)) := by rw [← HW3.out]; exact hr.out
  have hr4 := (hB.block _ (block_lt hr3)).trans hr3
  obtain ⟨aF, cF, rfl, -⟩ := hFO.is
  have HFO := hd hFO
  obtain ⟨⟨o0, o1, o2, o3, o4⟩, -⟩ := cellsF (show wc.heap[bx]? = some (.cells #[.int .i64 rk, .int .i64 rp, .int .u8 rc, .int .i64 rl, .int .i64 rs] 69 (0, 0)) from hop)
  obtain ⟨⟨r0, r1, r2, r3, r4⟩, ⟨f0, f1, f2, f3, f4⟩⟩ := cellsF hr4
  clear c0 c1 c2 c3 c5 F0 F1 F2 F5 vS hG hop hB hr3 p0 p1 p2 p3 p4 F3 hbx hs3 hFO hg
  have F4x := H4.out.frozen 4
  obtain ⟨vS, vF, -, -, c0, c1, c2, c3, c4', c5⟩ := H4.out.cells
  have H5 := hd (H4.out.setForms HFO.out)
  have F5 := hd (F4.out.trans (Fr.setCell (S := (· = x)) wc ⟨x, 4, none⟩ (.slice aF L.length cF) rfl))
  have hr5 := hd ((Fr.setCell (S := (· = x)) wc ⟨x, 4, none⟩ (.slice aF L.length cF) rfl).keeps hr4 (fun e => hxq e))
  have CFt := hd (fitting_any H5.out ⟨rk, rp, rc, rl, rs⟩ hch.1 hch.2 hn)
  clear hr4
  go_wp2_with fail
  refine CFt.out.mono ?_
  rintro e w6 ⟨rfl, h6, hF6⟩
  have hr6 := hF6.keeps hr5.out (fun e => hxq e)
  have Z := hd (take_fin HH.out h6 (F5.out.trans hF6) hg2)
  obtain ⟨⟨fk, fp, fc, fl, fq⟩, hfo⟩ : ∃ Y, fitO n ⟨rk, rp, rc, rl, rs⟩ = Y := ⟨_, rfl⟩
  have HFo := hd hfo
  rw [hfo]
  clear hfo
  simp only [OpE.val]
  clear r0 r1 r2 r3 r4 f0 f1 f2 f3 f4 h6 hF6
  obtain ⟨⟨r0, r1, r2, r3, r4⟩, ⟨f0, f1, f2, f3, f4⟩⟩ := cellsF hr6
  clear hr6
  go_wp2
  refine bodyPost_ret (v := .agg #[.int .i64 fk, .int .i64 fp, .int .u8 fc, .int .i64 fl, .int .i64 fq]) (by simp [results, Tryz.results49, go_sem, r0, r1, r2, r3, r4]) rfl ?_
  rw [HFo.out]
  exact ⟨rfl, Z.out _ _ _ _ _⟩

end Go.Proofs.YtfhghijefjhehaaGreatDoor
