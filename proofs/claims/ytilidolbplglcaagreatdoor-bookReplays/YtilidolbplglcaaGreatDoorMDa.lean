/-
  Texts put together: Da Bu Bv.
-/
import Derived.Test.YtilidolbplglcaaGreatDoorMFo
import Derived.Test.YtilidolbplglcaaGreatDoorMWe
import Derived.Test.YtilidolbplglcaaGreatDoorMBr
import Derived.Deep.DeepCutAuto
import Derived.Deep.RegionHeld3
import Derived.Deep.RegionLaw
/-! Da -/
namespace Go.Proofs.YtilidolbplglcaaGreatDoor
open Go.RowKit
set_option linter.unusedVariables false

theorem opCells {w : World} {b t : Nat} {k p c l s : Int} (h : w.heap[b]? = some (.cells #[.int .i64 k, .int .i64 p, .int .u8 c, .int .i64 l, .int .i64 s] t (0, 0))) :
    (w.cell? ⟨b, 0, none⟩ = some (.int .i64 k) ∧ w.cell? ⟨b, 1, none⟩ = some (.int .i64 p) ∧ w.cell? ⟨b, 2, none⟩ = some (.int .u8 c) ∧ w.cell? ⟨b, 3, none⟩ = some (.int .i64 l) ∧ w.cell? ⟨b, 4, none⟩ = some (.int .i64 s)) ∧
    (w.frozen? ⟨b, 0, none⟩ = false ∧ w.frozen? ⟨b, 1, none⟩ = false ∧ w.frozen? ⟨b, 2, none⟩ = false ∧ w.frozen? ⟨b, 3, none⟩ = false ∧ w.frozen? ⟨b, 4, none⟩ = false) :=
  ⟨⟨by rw [cell_row h]; rfl, by rw [cell_row h]; rfl, by rw [cell_row h]; rfl, by rw [cell_row h]; rfl, by rw [cell_row h]; rfl⟩, frozen_row h 0, frozen_row h 1, frozen_row h 2, frozen_row h 3, frozen_row h 4⟩

set_option maxRecDepth 100000 in
set_option maxHeartbeats 2000000 in
theorem longer_any (o : OpE) (w : World) : Calls Tryz.prog 33 #[o.val] w fun e w' => e = .returned (.int .i64 (gr o)) ∧ Below w.heap.size w w' := by
  obtain ⟨k, p, c, l, s⟩ := o
  simp only [OpE.val]
  have B1 := hd ((Below.refl w.heap.size w).alloc (Nat.le_refl _) (.cells #[.int .i64 k, .int .i64 p, .int .u8 c, .int .i64 l, .int .i64 s] 46))
  by_cases h1 : k = 1
  · subst h1
    go_enter Tryz.func33, Tryz.ntmps33
    go_wp2_with fail
    go_ret
    exact ⟨rfl, B1.out⟩
  · by_cases h2 : k = 2
    · subst h2
      go_enter Tryz.func33, Tryz.ntmps33
      go_wp2_with fail
      go_ret
      exact ⟨rfl, B1.out⟩
    · have e1 : (k == 1) = false := by simpa using h1
      have e2 : (k == 2) = false := by simpa using h2
      go_enter Tryz.func33, Tryz.ntmps33
      go_wp2_with fail
      go_ret
      exact ⟨by simp [gr, h1, h2], B1.out⟩

theorem through_take {l : List OpE} {op : OpE} {i : Nat} (hi : i < l.length) : throughP op (l.take (i + 1)) false = (shiftP (throughP op (l.take i) false).1 l[i] true, (throughP op (l.take i) false).2 ++ [shiftP l[i] (throughP op (l.take i) false).1 false]) := by
  rw [List.take_succ_eq_append_getElem hi, throughP_snoc]
  rfl

/-- The state of carried. -/
structure CaI (w wr : World) (r : OpE) (nx : List OpE) (v : Value) : Prop where
  fo : ∃ β, FO wr β v nx ∧ ∀ g, β = some g → w.heap.size < g
  ob : wr.heap[w.heap.size]? = some (.cells (opc r).toArray 46 (0, 0))
  bel : Below w.heap.size w wr

theorem CaI.push {w wr u1 : World} {r : OpE} {nx : List OpE} {v : Value} (h : CaI w wr r nx v) (hb : Below wr.heap.size wr u1) (f : OpE) (hn : nx.length ≤ 1000000) :
    ∃ a c w6, (∀ ty, (Builtin.append_ #[24, 24] ty #[v, .slice (some ⟨u1.heap.size, 0, none⟩) 1 1]).run Tryz.prog (u1.alloc (.cells (opc f).toArray 46)) = .ok (.slice a (nx.length + 1) c) w6) ∧ CaI w w6 r (nx ++ [f]) (.slice a (nx.length + 1) c) ∧ ∀ j, wr.heap.size ≤ j → j < u1.heap.size → w6.heap[j]? = u1.heap[j]? := by
  obtain ⟨β, h1, h2⟩ := h.fo
  have b2 : Below u1.heap.size u1 (u1.alloc (.cells (opc f).toArray 46)) := (Below.refl _ _).alloc (Nat.le_refl _) _
  have b3 := hb.trans (b2.mono hb.size)
  obtain ⟨v', w6, g', hr, hF, hN⟩ := (h1.fr (Fr.of_below (S := fun _ => False) b3) (fun _ _ h => h)).push f u1.heap.size (heap_alloc_new u1 _) hn
  obtain ⟨a, c, e, -⟩ := hF.is
  rw [List.length_append, List.length_singleton] at e
  subst e
  have lob := block_lt h.ob
  have hsz := hb.size
  have hszA : (u1.alloc (.cells (opc f).toArray 46)).heap.size = u1.heap.size + 1 := by simp
  have hold : ∀ g, β = some g → g < wr.heap.size := h1.lt
  rcases hN with ⟨hβ, hFr⟩ | ⟨hg, hFr⟩
  · have l1 := h2 g' hβ
    have l2 := hold g' hβ
    refine ⟨a, c, w6, hr, ⟨⟨some g', hF, fun g hg => by injection hg with hg; omega⟩, hFr.keeps ((b3.block _ lob).trans h.ob) (by omega), (h.bel.trans (b3.mono h.bel.size)).trans (hFr.below (Nat.le_trans h.bel.size b3.size) (fun k hk => by omega))⟩, fun j hj hl => ?_⟩
    exact (hFr.block j (by omega) (by omega)).trans (b2.block j hl)
  · refine ⟨a, c, w6, hr, ⟨⟨some g', hF, fun g hg' => by injection hg' with hg'; omega⟩, hFr.keeps ((b3.block _ lob).trans h.ob) (fun h => h), (h.bel.trans (b3.mono h.bel.size)).trans (hFr.below (Nat.le_trans h.bel.size b3.size) (fun k hk => hk.elim))⟩, fun j hj hl => ?_⟩
    exact (hFr.block j (by omega) (fun h => h)).trans (b2.block j hl)
theorem CaI.below {w wr u : World} {r : OpE} {nx : List OpE} {v : Value} (h : CaI w wr r nx v) (hb : Below wr.heap.size wr u) : CaI w u r nx v := by
  obtain ⟨β, h1, h2⟩ := h.fo
  exact ⟨⟨β, h1.fr (Fr.of_below (S := fun _ => False) hb) (fun _ _ h => h), h2⟩, (hb.block _ (block_lt h.ob)).trans h.ob, h.bel.trans (hb.mono h.bel.size)⟩
theorem CaI.set {w wr : World} {r : OpE} {nx : List OpE} {v : Value} (h : CaI w wr r nx v) (R : OpE) : CaI w (Go.Proofs.YtilidolbplglcaaGreatDoor.set5 wr w.heap.size 0 R.kind R.pos R.ch R.cl R.sq) R nx v := by
  obtain ⟨β, h1, h2⟩ := h.fo
  have hF := Fr.set5 wr w.heap.size 0 R.kind R.pos R.ch R.cl R.sq
  exact ⟨⟨β, h1.fr hF (fun g hg hs => by have := h2 g hg; omega), h2⟩, set5_op h.ob _ _ _ _ _, h.bel.trans (hF.below h.bel.size (fun k hk => by omega))⟩

set_option maxRecDepth 100000 in
set_option maxHeartbeats 8000000 in
theorem carried_any (a : Option Addr) (n c : Nat) (fs : List OpE) (r : OpE) (w : World) (hE : IsO w a n c fs) (hn : n ≤ 1000000) :
    Calls Tryz.prog 38 #[.slice a n c, r.val] w fun e w' => ∃ v β, e = .returned v ∧ FO w' β v (throughP r fs false).2 ∧ (∀ g, β = some g → w.heap.size ≤ g) ∧ Below w.heap.size w w' := by
  have hlf : fs.length = n := hE.1
  have I0 : Hid (CaI w (w.alloc (.cells (opc r).toArray 46)) (throughP r (fs.take 0) false).1 (throughP r (fs.take 0) false).2 (.slice none 0 0)) := ⟨⟨none, ⟨rfl, rfl⟩, fun g hg => by cases hg⟩, heap_alloc_new w _, (Below.refl _ _).alloc (Nat.le_refl _) _⟩
  have HE := hd hE
  have HL := hd hlf
  obtain ⟨rk, rp, rc, rl, rs⟩ := r
  simp only [OpE.val, opc] at I0 ⊢
  clear hE hlf
  go_enter Tryz.func38, Tryz.ntmps38
  go_upto_region 1 with fail
  generalize w.alloc (.cells #[.int .i64 rk, .int .i64 rp, .int .u8 rc, .int .i64 rl, .int .i64 rs] 46) = w1 at *
  go_wp2_with fail
  go_loopw [5, 6] (fun v i wr => ∃ q : Nat, q ≤ n ∧ i = .int .i64 (q : Int) ∧ Hid (CaI w wr (throughP ⟨rk, rp, rc, rl, rs⟩ (fs.take q) false).1 (throughP ⟨rk, rp, rc, rl, rs⟩ (fs.take q) false).2 v)) (fun _ i _ => n - (intOf i).toNat)
  case atStart => exact ⟨0, Nat.zero_le _, rfl, I0⟩
  case round =>
    obtain ⟨q, hq, rfl, HR⟩ := hrel
    clear I0
    have hnxl : (throughP ⟨rk, rp, rc, rl, rs⟩ (fs.take q) false).2.length = q := by rw [throughP_len, List.length_take]; have := HL.out; omega
    obtain ⟨aV, cV, hvV⟩ : ∃ a c, _ = Value.slice a q c := by
      obtain ⟨φn, h1, -⟩ := HR.out.fo
      obtain ⟨a, c, e, -⟩ := h1.is
      rw [hnxl] at e
      exact ⟨a, c, e⟩
    subst hvV
    have HNX := hd hnxl
    clear hnxl
    by_cases hql : q < n
    · have hqf : q < fs.length := by have := HL.out; omega
      have hstep := through_take (op := ⟨rk, rp, rc, rl, rs⟩) hqf
      obtain ⟨⟨tk, tp, tc, tl, ts⟩, ht⟩ : ∃ r, (throughP ⟨rk, rp, rc, rl, rs⟩ (fs.take q) false).1 = r := ⟨_, rfl⟩
      obtain ⟨nx, hnx⟩ : ∃ nx, (throughP ⟨rk, rp, rc, rl, rs⟩ (fs.take q) false).2 = nx := ⟨_, rfl⟩
      obtain ⟨bF, oF, haF, lbF⟩ := HE.out.addr (by omega)
      obtain ⟨⟨xk, xp, xc, xl, xs⟩, hx⟩ : ∃ x, fs[q] = x := ⟨_, rfl⟩
      subst haF
      have hcs := (HE.out.below HR.out.bel).at q hql hqf
      rw [hx] at hcs hstep
      rw [ht, hnx] at HR hstep
      rw [hnx] at HNX
      obtain ⟨x0, x1, x2, x3, x4⟩ := hcs
      simp only at x0 x1 x2 x3 x4
      obtain ⟨⟨z0, z1, z2, z3, z4⟩, -⟩ := opCells (show wr.heap[w.heap.size]? = some (.cells #[.int .i64 tk, .int .i64 tp, .int .u8 tc, .int .i64 tl, .int .i64 ts] 46 (0, 0)) from HR.out.ob)
      have i1 : (q : Int) < (n : Int) := by omega
      have CS := hd (fun W => rshift_any ⟨xk, xp, xc, xl, xs⟩ ⟨tk, tp, tc, tl, ts⟩ false W)
      have CS2 := hd (fun W => rshift_any ⟨tk, tp, tc, tl, ts⟩ ⟨xk, xp, xc, xl, xs⟩ true W)
      obtain ⟨⟨fk, fp, fc, fl, fq⟩, hf⟩ : ∃ f, shiftP ⟨xk, xp, xc, xl, xs⟩ ⟨tk, tp, tc, tl, ts⟩ false = f := ⟨_, rfl⟩
      obtain ⟨⟨uk, up, uc, ul, us⟩, hu⟩ : ∃ f, shiftP ⟨tk, tp, tc, tl, ts⟩ ⟨xk, xp, xc, xl, xs⟩ true = f := ⟨_, rfl⟩
      rw [hf, hu] at hstep
      simp only [hf, hu, OpE.val] at CS CS2
      have HST := hd hstep
      have lb : w.heap.size < wr.heap.size := block_lt HR.out.ob
      clear hstep ht hnx hx hf hu
      have b1 : Below wr.heap.size wr (wr.alloc (.cells #[.int .i64 xk, .int .i64 xp, .int .u8 xc, .int .i64 xl, .int .i64 xs] 46)) := (Below.refl _ _).alloc (Nat.le_refl _) _
      have hX := heap_alloc_new wr (.cells #[.int .i64 xk, .int .i64 xp, .int .u8 xc, .int .i64 xl, .int .i64 xs] 46)
      obtain ⟨⟨y0, y1, y2, y3, y4⟩, -⟩ := opCells hX
      have r0 := (b1.cell (p := ⟨w.heap.size, 0, none⟩) lb).trans z0
      have r1 := (b1.cell (p := ⟨w.heap.size, 1, none⟩) lb).trans z1
      have r2 := (b1.cell (p := ⟨w.heap.size, 2, none⟩) lb).trans z2
      have r3 := (b1.cell (p := ⟨w.heap.size, 3, none⟩) lb).trans z3
      have r4 := (b1.cell (p := ⟨w.heap.size, 4, none⟩) lb).trans z4
      have HX := hd hX
      have B1 := hd b1
      clear hX b1
      go_upto_region 6 with fail
      generalize wr.alloc (.cells #[.int .i64 xk, .int .i64 xp, .int .u8 xc, .int .i64 xl, .int .i64 xs] 46) = w2 at *
      clear z0 z1 z2 z3 z4 x0 x1 x2 x3 x4
      have HP : Hid (∀ u1, Below w2.heap.size w2 u1 → ∃ a c w6, (∀ ty, (Builtin.append_ #[24, 24] ty #[.slice aV q cV, .slice (some ⟨u1.heap.size, 0, none⟩) 1 1]).run Tryz.prog (u1.alloc (.cells #[.int .i64 fk, .int .i64 fp, .int .u8 fc, .int .i64 fl, .int .i64 fq] 46)) = .ok (.slice a (q + 1) c) w6) ∧ CaI w w6 ⟨tk, tp, tc, tl, ts⟩ (nx ++ [⟨fk, fp, fc, fl, fq⟩]) (.slice a (q + 1) c) ∧ w6.heap[wr.heap.size]? = some (.cells #[.int .i64 xk, .int .i64 xp, .int .u8 xc, .int .i64 xl, .int .i64 xs] 46 (0, 0))) := fun u1 hu => by
        have hb := B1.out.trans (hu.mono B1.out.size)
        have lx := block_lt HX.out
        have e := HNX.out
        obtain ⟨a, c, w6, h1, h2, h3⟩ := HR.out.push hb ⟨fk, fp, fc, fl, fq⟩ (by omega)
        rw [e] at h1 h2
        exact ⟨a, c, w6, h1, h2, (h3 _ (Nat.le_refl _) (Nat.lt_of_lt_of_le lx hu.size)).trans ((hu.block _ lx).trans HX.out)⟩
      go_upto_region 7 with (first | (go_at_call 55; refine (CS.out _).mono ?_; rintro e u1 ⟨rfl, b1⟩; obtain ⟨a6, c6, w6, hap, hC6, hx6⟩ := HP.out u1 b1) | (at_builtin; refine wpList_append_k _ rfl _ _ 24 24 rfl _ _ rfl rfl (hap _) ?_))
      clear y0 y1 y2 y3 y4 r0 r1 r2 r3 r4 hap b1 HP CS
      obtain ⟨⟨y0, y1, y2, y3, y4⟩, -⟩ := opCells hx6
      obtain ⟨⟨r0, r1, r2, r3, r4⟩, -⟩ := opCells (show w6.heap[w.heap.size]? = some (.cells #[.int .i64 tk, .int .i64 tp, .int .u8 tc, .int .i64 tl, .int .i64 ts] 46 (0, 0)) from hC6.ob)
      have HC6 := hd hC6
      clear hC6 hx6
      go_wp2_with (go_at_call 55; refine (CS2.out _).mono ?_; rintro e u7 ⟨rfl, b7⟩; obtain ⟨⟨s0, s1, s2, s3, s4⟩, ⟨g0, g1, g2, g3, g4⟩⟩ := opCells (show u7.heap[w.heap.size]? = some (.cells #[.int .i64 tk, .int .i64 tp, .int .u8 tc, .int .i64 tl, .int .i64 ts] 46 (0, 0)) from (HC6.out.below b7).ob))
      refine ⟨⟨q + 1, by omega, by go_num, ?_⟩, by simp [intOf]; omega⟩
      rw [HST.out]
      exact (HC6.out.below b7).set ⟨uk, up, uc, ul, us⟩
    · obtain rfl : q = n := by omega
      have e : fs.take q = fs := List.take_of_length_le (by have := HL.out; omega)
      rw [e] at HR
      have i1 : ¬ ((q : Int) < (q : Int)) := by omega
      go_wp2
      go_ret
      obtain ⟨β, h1, h2⟩ := HR.out.fo
      exact ⟨_, rfl, β, h1, fun g hg => by have := h2 g hg; omega, HR.out.bel⟩

end Go.Proofs.YtilidolbplglcaaGreatDoor

/-! Bu -/
namespace Go.Proofs.YtilidolbplglcaaGreatDoor
open Go.RowKit
set_option linter.unusedVariables false

def pcE (e : Ed) : Pc := ⟨0, e.tag, e.o⟩
theorem owns_evO (c : Int) : ∀ (E : List Ed) (D : List OpE), D.length = E.length → owns (evO c E D) = (E.filter (fun e => decide (e.o.cl = c))).map pcE
  | [], [], _ => rfl
  | e :: E, d :: D, h => by
    have ih := owns_evO c E D (by simpa using h)
    simp only [evO]
    by_cases e1 : e.o.cl = c
    · rw [if_pos e1, List.filter_cons_of_pos (by simpa using e1)]
      simp only [owns, List.map_cons]
      rw [ih]
      rfl
    · rw [if_neg e1, List.filter_cons_of_neg (by simpa using e1)]
      exact ih

/-- The client on its way through its life. -/
def LI (e : Pc) (k : Nat) (O : List Pc) (F : List OpE) (l : List Ev) : Prop :=
  ∃ q W, Par true q W F ∧ (∀ x ∈ q, x.1 ≤ (k : Int)) ∧ (∀ p ∈ W, p.t ≤ (k : Int)) ∧ (∀ p ∈ O, (k : Int) ≤ p.t) ∧ (O.map (·.t)).Pairwise (· ≤ ·) ∧ W ++ O = owns l ++ [e] ∧ TagOk k l
theorem LI.own {e p : Pc} {k : Nat} {O : List Pc} {F : List OpE} {l : List Ev} (h : LI e k O F (.own p :: l)) : (mkF k O F).2 ≠ [] ∧ LI e (k + 1) (mkF k O F).1 ((mkF k O F).2.drop 1) l := by
  obtain ⟨q, W, h, hq, hW, hO, hs, hown, htag⟩ := h
  obtain ⟨M, h1, h2, h3, h4, h5⟩ := mkF_par (k := (k : Int)) hq O W F h hO hs hW
  have hown' : (W ++ M) ++ (mkF k O F).1 = owns (.own p :: l) ++ [e] := by rw [← hown, List.append_assoc, ← h1]
  simp only [owns, TagOk, List.cons_append] at hown' htag
  cases hWM : W ++ M with
  | nil =>
    exfalso
    rw [hWM, List.nil_append] at hown'
    have := h4 p (by rw [hown']; simp)
    have := htag.1
    omega
  | cons x W' =>
    rw [hWM, List.cons_append] at hown'
    injection hown' with hx hr
    subst hx
    rw [hWM] at h2 h3
    cases hB : (mkF k O F).2 with
    | nil => rw [hB] at h2; exact h2.elim
    | cons b B =>
      rw [hB] at h2
      refine ⟨by simp, _, W', h2.2, fun y hy => ?_, fun y hy => ?_, fun y hy => ?_, h5, hr, htag.2⟩
      · have := thrQ_all (p := fun m => m ≤ (k : Int)) (fun z hz => hq z (dropQ_mem hz)) y hy
        omega
      · have := h3 y (by simp [hy])
        omega
      · have := h4 y hy
        omega
theorem LI.oth {e : Pc} {r : OpE} {k : Nat} {O : List Pc} {F : List OpE} {l : List Ev} (h : LI e k O F (.oth r :: l)) : LI e (k + 1) (mkF k O F).1 (throughP r (mkF k O F).2 false).2 l := by
  obtain ⟨q, W, h, hq, hW, hO, hs, hown, htag⟩ := h
  obtain ⟨M, h1, h2, h3, h4, h5⟩ := mkF_par (k := (k : Int)) hq O W F h hO hs hW
  have hown' : (W ++ M) ++ (mkF k O F).1 = owns (.oth r :: l) ++ [e] := by rw [← hown, List.append_assoc, ← h1]
  refine ⟨_, W ++ M, Par.more (W ++ M) q _ ((k : Int) + 1) r (fun y hy => by have := h3 y hy; omega) h2, fun y hy => ?_, fun y hy => ?_, fun y hy => ?_, h5, hown', htag⟩
  · rcases List.mem_append.1 hy with hy | hy
    · have := hq y hy
      omega
    · simp at hy
      subst hy
      simp
  · have := h3 y hy
    omega
  · have := h4 y hy
    omega
theorem mkF_len (k : Int) : ∀ (O : List Pc) (F : List OpE), (mkF k O F).1.length + (mkF k O F).2.length = O.length + F.length
  | [], F => by simp [mkF]
  | p :: O, F => by
    unfold mkF
    split
    · rw [mkF_len k O]
      simp
      omega
    · simp
/-- What is left is the end of what there was. -/
theorem mkF_drop (k : Int) : ∀ (O : List Pc) (F : List OpE), (mkF k O F).1 = O.drop (O.length - (mkF k O F).1.length)
  | [], F => by simp [mkF]
  | p :: O, F => by
    unfold mkF
    split
    · have h := mkF_drop k O (F ++ [p.o])
      have hl := mkF_len k O (F ++ [p.o])
      have hle : (mkF k O (F ++ [p.o])).1.length ≤ O.length := by
        rw [h]
        simp
      rw [List.length_cons, show O.length + 1 - (mkF k O (F ++ [p.o])).1.length = O.length - (mkF k O (F ++ [p.o])).1.length + 1 by omega, List.drop_succ_cons]
      exact h
    · simp
theorem LI.begin {E : List Ed} {D : List OpE} (h : BJ E D) {e : Ed} (t1 : (laP e.o.cl E).2 ≤ e.tag) : LI (pcE e) 0 (owns (evO e.o.cl E D) ++ [pcE e]) [] (evO e.o.cl E D) := by
  refine ⟨[], [], trivial, fun x hx => (by cases hx), fun x hx => (by cases hx), fun p hp => ?_, ?_, rfl, h.b.tag _⟩
  · have h3 := (h.b.seq e.o.cl).2.2
    rcases List.mem_append.1 hp with hp | hp
    · exact (h.b.own e.o.cl p hp).1
    · rw [List.mem_singleton.1 hp]
      show (0 : Int) ≤ e.tag
      omega
  · rw [List.map_append]
    refine List.pairwise_append.2 ⟨h.b.inc _, by simp, fun x hx y hy => ?_⟩
    obtain ⟨p, hp, rfl⟩ := List.mem_map.1 hx
    have := (h.b.own e.o.cl p hp).2
    simp [pcE] at hy
    subst hy
    omega

end Go.Proofs.YtilidolbplglcaaGreatDoor

/-! Bv -/
namespace Go.Proofs.YtilidolbplglcaaGreatDoor
open Go.RowKit
set_option linter.unusedVariables false

def ownE (c : Int) (E : List Ed) : List Ed := E.filter (fun e => decide (e.o.cl = c))
theorem ownE_take {c : Int} {E : List Ed} {q : Nat} (hq : q < E.length) : ownE c (E.take (q + 1)) = if E[q].o.cl = c then ownE c (E.take q) ++ [E[q]] else ownE c (E.take q) := by
  unfold ownE
  rw [List.take_succ_eq_append_getElem hq, List.filter_append]
  by_cases h : E[q].o.cl = c
  · rw [if_pos h, List.filter_cons_of_pos (by simpa using h)]
    rfl
  · rw [if_neg h, List.filter_cons_of_neg (by simpa using h)]
    simp
theorem ownE_len (c : Int) (E : List Ed) : (ownE c E).length ≤ E.length := List.length_filter_le _ _
def nsP (D : List OpE) : Nat → Int := fun k => grL (D.take k)
theorem nsP_succ {D : List OpE} {k : Nat} (hk : k < D.length) : nsP D (k + 1) = nsP D k + gr D[k] := by
  unfold nsP
  rw [List.take_succ_eq_append_getElem hk, grL_app]
  simp [grL]
theorem nsP_le (D : List OpE) (k : Nat) : -(k : Int) ≤ nsP D k ∧ nsP D k ≤ k := by
  have := grL_le (D.take k)
  have h : (D.take k).length ≤ k := by simp; omega
  unfold nsP
  omega
/-- What is left of its own edits. -/
def oP (e : Ed) (E : List Ed) (mm : Nat) : List Pc := ((ownE e.o.cl E ++ [e]).drop mm).map pcE
theorem oP_nil {e : Ed} {E : List Ed} {mm : Nat} (h : (ownE e.o.cl E ++ [e]).length ≤ mm) : oP e E mm = [] := by
  unfold oP
  rw [List.drop_eq_nil_of_le h]
  rfl
theorem oP_cons {e : Ed} {E : List Ed} {mm : Nat} (h : mm < (ownE e.o.cl E ++ [e]).length) : oP e E mm = pcE (ownE e.o.cl E ++ [e])[mm] :: oP e E (mm + 1) := by
  unfold oP
  rw [List.drop_eq_getElem_cons h]
  rfl

/-- Life at record k. -/
structure P2 (E : List Ed) (D : List OpE) (e : Ed) (k mm : Nat) (F : List OpE) (nn : Int) : Prop where
  li : LI (pcE e) k (oP e E mm) F ((evO e.o.cl E D).drop k)
  lf : lifeF k (oP e E mm) F ((evO e.o.cl E D).drop k) = [dnP E D e]
  lx : lifeX k (oP e E mm) F (nsP D k) nn ((evO e.o.cl E D).drop k) (D.drop k) = lnP E D e
  m1 : mm ≤ (ownE e.o.cl E ++ [e]).length
  m2 : F.length ≤ mm
theorem P2.begin {E : List Ed} {D : List OpE} (h : BJ E D) {e : Ed} (t1 : (laP e.o.cl E).2 ≤ e.tag) (t2 : e.tag ≤ E.length) : P2 E D e 0 0 [] 0 := by
  have ho : owns (evO e.o.cl E D) ++ [pcE e] = oP e E 0 := by
    unfold oP
    rw [owns_evO _ _ _ h.b.len, List.drop_zero, List.map_append]
    rfl
  obtain ⟨l1, l2⟩ := life_all h t1 t2
  have l0 := LI.begin h t1
  have e1 : (⟨0, e.tag, e.o⟩ : Pc) = pcE e := rfl
  rw [e1, ho] at l1 l2
  rw [ho] at l0
  exact ⟨l0, l1, l2, Nat.zero_le _, Nat.le_refl _⟩
theorem evO_drop {c : Int} : ∀ {E : List Ed} {D : List OpE} {k : Nat} (h : D.length = E.length) (hk : k < E.length), (evO c E D).drop k = (if E[k].o.cl = c then Ev.own ⟨0, E[k].tag, E[k].o⟩ else Ev.oth (D[k]'(by omega))) :: (evO c E D).drop (k + 1)
  | e :: E, d :: D, 0, h, hk => rfl
  | e :: E, d :: D, k + 1, h, hk => by
    simp only [evO, List.drop_succ_cons, List.getElem_cons_succ]
    exact evO_drop (by simpa using h) (by simpa using hk)
section
variable {E : List Ed} {D : List OpE} {e : Ed} {k mm mm' : Nat} {F F' : List OpE} {nn nn' : Int}
theorem P2.own (h : P2 E D e k mm F nn) (hl : D.length = E.length) (hk : k < E.length) (hcl : E[k].o.cl = e.o.cl) (hmk : mkF k (oP e E mm) F = (oP e E mm', F')) (hmn : mkN k (oP e E mm) F (nsP D k) nn = nn') (h1 : mm' ≤ (ownE e.o.cl E ++ [e]).length) (h2 : F'.length ≤ mm') :
    ∃ y Y, F' = y :: Y ∧ P2 E D e (k + 1) mm' Y nn' := by
  obtain ⟨li, lf, lx, m1, m2⟩ := h
  rw [evO_drop hl hk, if_pos hcl] at li lf lx
  rw [List.drop_eq_getElem_cons (show k < D.length by omega)] at lx
  obtain ⟨n1, n2⟩ := li.own
  simp only [lifeF, lifeX] at lf lx
  rw [hmk] at n1 n2 lf lx
  rw [hmn, ← nsP_succ] at lx
  cases F' with
  | nil => exact absurd rfl n1
  | cons y Y => exact ⟨y, Y, rfl, n2, lf, lx, h1, by simp at h2; omega⟩
theorem P2.oth (h : P2 E D e k mm F nn) (hl : D.length = E.length) (hk : k < E.length) (hcl : E[k].o.cl ≠ e.o.cl) (hmk : mkF k (oP e E mm) F = (oP e E mm', F')) (hmn : mkN k (oP e E mm) F (nsP D k) nn = nn') (h1 : mm' ≤ (ownE e.o.cl E ++ [e]).length) (h2 : F'.length ≤ mm') :
    P2 E D e (k + 1) mm' (throughP (D[k]'(by omega)) F' false).2 nn' := by
  obtain ⟨li, lf, lx, m1, m2⟩ := h
  rw [evO_drop hl hk, if_neg hcl] at li lf lx
  rw [List.drop_eq_getElem_cons (show k < D.length by omega)] at lx
  have n2 := li.oth
  simp only [lifeF, lifeX] at lf lx
  rw [hmk] at n2 lf lx
  rw [hmn, ← nsP_succ] at lx
  exact ⟨n2, lf, lx, h1, by rw [throughP_len]; exact h2⟩
theorem P2.fin (h : P2 E D e E.length mm F nn) (hl : D.length = E.length) (hmk : mkF E.length (oP e E mm) F = (oP e E mm', F')) (hmn : mkN E.length (oP e E mm) F (nsP D E.length) nn = nn') : F' = [dnP E D e] ∧ nn' = lnP E D e := by
  obtain ⟨li, lf, lx, m1, m2⟩ := h
  rw [List.drop_eq_nil_of_le (by rw [evO_len _ _ _ hl]; exact Nat.le_refl _)] at li lf lx
  simp only [lifeF, lifeX] at lf lx
  rw [hmk] at lf
  rw [hmn] at lx
  exact ⟨lf, lx⟩
/-- One more edit is made. -/
theorem mk_more (hm : mm < (ownE e.o.cl E ++ [e]).length) (ht : (ownE e.o.cl E ++ [e])[mm].tag = (k : Int)) (N : Int) : mkF k (oP e E mm) F = mkF k (oP e E (mm + 1)) (F ++ [(ownE e.o.cl E ++ [e])[mm].o]) ∧ mkN k (oP e E mm) F N nn = mkN k (oP e E (mm + 1)) (F ++ [(ownE e.o.cl E ++ [e])[mm].o]) N (N + grL F) := by
  rw [oP_cons hm]
  have h : (pcE (ownE e.o.cl E ++ [e])[mm]).t = (k : Int) := ht
  simp only [mkF, mkN]
  rw [if_pos h, if_pos h]
  exact ⟨rfl, rfl⟩
/-- No more are made. -/
theorem mk_stop (hm : ¬ ∃ hm : mm < (ownE e.o.cl E ++ [e]).length, (ownE e.o.cl E ++ [e])[mm].tag = (k : Int)) (N : Int) : mkF k (oP e E mm) F = (oP e E mm, F) ∧ mkN k (oP e E mm) F N nn = nn := by
  by_cases h : mm < (ownE e.o.cl E ++ [e]).length
  · rw [oP_cons h]
    have h2 : ¬ (pcE (ownE e.o.cl E ++ [e])[mm]).t = (k : Int) := fun h2 => hm ⟨h, h2⟩
    simp only [mkF, mkN]
    rw [if_neg h2, if_neg h2]
    exact ⟨rfl, rfl⟩
  · rw [oP_nil (by omega)]
    exact ⟨rfl, rfl⟩
end

end Go.Proofs.YtilidolbplglcaaGreatDoor
