/-
  Texts put together: Nb Nc Ga.
-/
import Derived.Test.YtilidolbplglcaaGreatDoorMMb
import Derived.Test.YtilidolbplglcaaGreatDoorWb
import Derived.Deep.RegionHeld3
/-! Nb -/
namespace Go.Proofs.YtilidolbplglcaaGreatDoor
open Go.RowKit
set_option linter.unusedVariables false

theorem cellsF {w : World} {g : Nat} {a b c d e : Value} {t : TypeId} (h : w.heap[g]? = some (.cells #[a, b, c, d, e] t (0, 0))) :
    (w.cell? ⟨g, 0, none⟩ = some a ∧ w.cell? ⟨g, 1, none⟩ = some b ∧ w.cell? ⟨g, 2, none⟩ = some c ∧ w.cell? ⟨g, 3, none⟩ = some d ∧ w.cell? ⟨g, 4, none⟩ = some e) ∧
    (w.frozen? ⟨g, 0, none⟩ = false ∧ w.frozen? ⟨g, 1, none⟩ = false ∧ w.frozen? ⟨g, 2, none⟩ = false ∧ w.frozen? ⟨g, 3, none⟩ = false ∧ w.frozen? ⟨g, 4, none⟩ = false) := by
  simp [World.cell?, World.frozen?, h]

def set5 (w : World) (g i : Nat) (a b c d e : Int) : World :=
  ((((w.setCell ⟨g, i, none⟩ (.int .i64 a)).setCell ⟨g, i + 1, none⟩ (.int .i64 b)).setCell ⟨g, i + 2, none⟩ (.int .u8 c)).setCell ⟨g, i + 3, none⟩ (.int .i64 d)).setCell ⟨g, i + 4, none⟩ (.int .i64 e)

theorem Fr.set5 (w : World) (g i : Nat) (a b c d e : Int) : Fr (· = g) w (Go.Proofs.YtilidolbplglcaaGreatDoor.set5 w g i a b c d e) := by
  have h : ∀ (w : World) i u, Fr (· = g) w (w.setCell ⟨g, i, none⟩ u) := fun w i u => Fr.setCell w ⟨g, i, none⟩ u rfl
  exact (h _ _ _).trans ((h _ _ _).trans ((h _ _ _).trans ((h _ _ _).trans (h _ _ _))))

theorem set5_op {w : World} {g : Nat} {x : OpE} (h : w.heap[g]? = some (.cells (opc x).toArray 46 (0, 0))) (a b c d e : Int) : (Go.Proofs.YtilidolbplglcaaGreatDoor.set5 w g 0 a b c d e).heap[g]? = some (.cells (opc ⟨a, b, c, d, e⟩).toArray 46 (0, 0)) := by
  have u1 := set_row h 0 (.int .i64 a)
  have u2 := set_row u1 1 (.int .i64 b)
  have u3 := set_row u2 2 (.int .u8 c)
  have u4 := set_row u3 3 (.int .i64 d)
  have u5 := set_row u4 4 (.int .i64 e)
  unfold Go.Proofs.YtilidolbplglcaaGreatDoor.set5
  rw [u5]
  simp [opc]

/-- The operation at block o, the line at block g. -/
def CRel (w wr : World) (g o n c : Nat) (x : OpE) (L : List OpE) : Prop :=
  RowO wr g n c L ∧ wr.heap[o]? = some (.cells (opc x).toArray 46 (0, 0)) ∧ wr.heap[o + 1]? = some (.cells (opc zop).toArray 46 (0, 0)) ∧ Fr (· = g) w wr

def cArr (xs : List OpE) (op : OpE) (f : Bool) (k : Nat) : OpE := (throughP op (xs.take k) f).1
def cLin (xs : List OpE) (op : OpE) (f : Bool) (k : Nat) : List OpE := (throughP op (xs.take k) f).2 ++ xs.drop k

theorem cArr_next (xs : List OpE) (op : OpE) (f : Bool) (k : Nat) (h : k < xs.length) : cArr xs op f (k + 1) = shiftP (cArr xs op f k) xs[k] (!f) := by
  unfold cArr
  rw [List.take_succ_eq_append_getElem h, throughP_snoc]

theorem cLin_len (xs : List OpE) (op : OpE) (f : Bool) (k : Nat) (h : k ≤ xs.length) : (cLin xs op f k).length = xs.length := by
  unfold cLin
  rw [List.length_append, throughP_len]
  simp
  omega

theorem cLin_at (xs : List OpE) (op : OpE) (f : Bool) (k : Nat) (h : k < xs.length) : (cLin xs op f k)[k]? = some xs[k] := by
  unfold cLin
  have hl : (throughP op (xs.take k) f).2.length = k := by rw [throughP_len]; simp; omega
  rw [List.getElem?_append_right (by omega), hl, Nat.sub_self, List.getElem?_drop]
  simp

theorem cLin_next (xs : List OpE) (op : OpE) (f : Bool) (k : Nat) (h : k < xs.length) : cLin xs op f (k + 1) = (cLin xs op f k).set k (shiftP xs[k] (cArr xs op f k) f) := by
  unfold cLin cArr
  have hl : (throughP op (xs.take k) f).2.length = k := by rw [throughP_len]; simp; omega
  rw [List.take_succ_eq_append_getElem h, throughP_snoc, List.set_append_right _ _ (by omega), hl, Nat.sub_self]
  have e : xs.drop k = xs[k] :: xs.drop (k + 1) := List.drop_eq_getElem_cons h
  rw [e, List.set_cons_zero, List.append_assoc]
  rfl

set_option maxRecDepth 100000 in
set_option maxHeartbeats 8000000 in
theorem carry_any (op : OpE) (g n c : Nat) (xs : List OpE) (f : Bool) (w : World) (hT : Table w) (hg0 : 1 < g) (hR : RowO w g n c xs) :
    Calls Tryz.prog 82 #[op.val, .slice (some ⟨g, 0, none⟩) n c, .bool f] w fun e w' =>
      e = .returned (throughP op xs f).1.val ∧ RowO w' g n c (throughP op xs f).2 ∧ Fr (· = g) w w' := by
  have hgl := hR.lt
  have hnc := hR.isO.2.1
  have hc63 := hR.isO.2.2.1
  have HL := hd hR.isO.1
  have HR := hd hR
  have HT := hd hT
  clear hR hT
  have HO : Hid (cArr xs op f 0 = op) := by unfold cArr; rfl
  have HE : Hid (cArr xs op f n = (throughP op xs f).1 ∧ cLin xs op f n = (throughP op xs f).2) := by
    unfold cArr cLin
    have := HL.out
    rw [List.take_of_length_le (by omega), List.drop_of_length_le (by omega), List.append_nil]
    exact ⟨rfl, rfl⟩
  have HS : Hid (∀ j (h : j < n) (hx : j < xs.length), cArr xs op f (j + 1) = shiftP (cArr xs op f j) xs[j] (!f) ∧ cLin xs op f (j + 1) = (cLin xs op f j).set j (shiftP xs[j] (cArr xs op f j) f) ∧ (cLin xs op f j)[j]? = some xs[j] ∧ (cLin xs op f j).length = n) := fun j h hx =>
    ⟨cArr_next xs op f j hx, cLin_next xs op f j hx, cLin_at xs op f j hx, by rw [cLin_len xs op f j (by omega)]; exact HL.out⟩
  have HY0 := hd (show cLin xs op f 0 = xs by unfold cLin; simp [throughP])
  generalize cArr xs op f = X at *
  generalize cLin xs op f = Y at *
  generalize (throughP op xs f).1 = R1 at *
  generalize (throughP op xs f).2 = R2 at *
  obtain ⟨k, p, c', q, s⟩ := op
  obtain ⟨rk, rp, rc, rq, rs⟩ := R1
  simp only [OpE.val]
  go_enter Tryz.func82, Tryz.ntmps82
  go_wp2
  have S0 : Hid (CRel w ((w.alloc (.cells #[.int .i64 k, .int .i64 p, .int .u8 c', .int .i64 q, .int .i64 s] 46)).alloc (.cells #[.int .i64 0, .int .i64 0, .int .u8 0, .int .i64 0, .int .i64 0] 46)) g w.heap.size n c (X 0) (Y 0)) := by
    rw [HO.out, HY0.out]
    refine ⟨(HR.out.fr (S := (· = w.heap.size)) (Fr.alloc _ _ _) (by omega)).fr (S := (· = w.heap.size)) (Fr.alloc _ _ _) (by omega), ?_, ?_, (Fr.alloc _ _ _).trans (Fr.alloc _ _ _)⟩
    · rw [((Below.refl _ _).alloc (Nat.le_refl _) _).block _ (by simp)]
      exact heap_alloc_new w _
    · have := heap_alloc_new (w.alloc (.cells #[.int .i64 k, .int .i64 p, .int .u8 c', .int .i64 q, .int .i64 s] 46)) (.cells #[.int .i64 0, .int .i64 0, .int .u8 0, .int .i64 0, .int .i64 0] 46)
      rw [show (w.alloc (.cells #[.int .i64 k, .int .i64 p, .int .u8 c', .int .i64 q, .int .i64 s] 46)).heap.size = w.heap.size + 1 by simp] at this
      exact this
  clear HR HO HY0
  go_loopw [11] (fun i wr => ∃ j : Nat, j ≤ n ∧ i = .int .i64 j ∧ Hid (CRel w wr g w.heap.size n c (X j) (Y j))) (fun i _ => n - (intOf i).toNat)
  case atStart => exact ⟨0, Nat.zero_le _, rfl, S0⟩
  case round =>
    obtain ⟨j, hj, rfl, hr⟩ := hrel
    clear S0
    obtain ⟨hR, hO, hZ, hF⟩ := hr.out
    by_cases hlt : j < n
    · have jx : j < xs.length := by have := HL.out; omega
      obtain ⟨s1, s2, s3, s4⟩ := HS.out j hlt jx
      have jy : j < (Y j).length := by rw [s4]; exact hlt
      have e5 : (Y j)[j] = xs[j] := by
        have := List.getElem?_eq_getElem jy
        rw [s3] at this
        exact (Option.some.inj this).symm
      obtain ⟨y0, y1, y2, y3, y4⟩ := hR.at j hlt jy
      rw [e5] at y0 y1 y2 y3 y4
      have S1 := hd s1
      have S2 := hd s2
      generalize xs[j] = x at *
      generalize X j = xj at *
      obtain ⟨vk, vp, vc, vq, vs⟩ := xj
      obtain ⟨uk, up, uc, uq, us⟩ := x
      obtain ⟨⟨o0, o1, o2, o3, o4⟩, ⟨of0, of1, of2, of3, of4⟩⟩ := cellsF hO
      have i1 : (j : Int) < (n : Int) := by omega
      have ol := block_lt hO
      have zl := block_lt hZ
      have gl := hR.lt
      have F0 := hd hF
      have R0 := hd hR
      have O0 := hd hO
      have Z0 := hd hZ
      clear hr hR hO hZ hF s1 s2 s3 s4 e5 HS HE jy jx
      obtain ⟨⟨ak, ap, ac, aq, as'⟩, hA⟩ : ∃ A, shiftP ⟨uk, up, uc, uq, us⟩ ⟨vk, vp, vc, vq, vs⟩ f = A := ⟨_, rfl⟩
      obtain ⟨⟨bk, bp, bc, bq, bs⟩, hB⟩ : ∃ A, shiftP ⟨vk, vp, vc, vq, vs⟩ ⟨uk, up, uc, uq, us⟩ (!f) = A := ⟨_, rfl⟩
      rw [hA] at S2
      rw [hB] at S1
      have HA := hd hA
      have HB := hd hB
      clear hA hB
      go_wp2_with fail
      refine (shift_any ⟨uk, up, uc, uq, us⟩ ⟨vk, vp, vc, vq, vs⟩ f _ ?_).mono ?_
      · exact HT.out.below (B := 2) ((F0.out.below (B := 2) (by omega) (fun k h => by omega)).trans (((Below.refl wr.heap.size wr).alloc (Nat.le_refl _) _).mono (by omega))) (by omega)
      rintro e w1 ⟨rfl, b1⟩
      rw [HA.out]
      simp only [OpE.val]
      have b01 : Below wr.heap.size wr w1 := ((Below.refl wr.heap.size wr).alloc (Nat.le_refl _) _).trans (b1.mono (by simp))
      have X1 : w1.heap[wr.heap.size]? = some (.cells #[.int .i64 uk, .int .i64 up, .int .u8 uc, .int .i64 uq, .int .i64 us] 46 (0, 0)) := (b1.block _ (by simp)).trans (heap_alloc_new wr _)
      have O1 : w1.heap[w.heap.size]? = some (.cells #[.int .i64 vk, .int .i64 vp, .int .u8 vc, .int .i64 vq, .int .i64 vs] 46 (0, 0)) := (b01.block _ ol).trans O0.out
      have R1 := R0.out.fr (S := fun _ => False) (Fr.of_below b01) (fun h => h)
      have jy : j < (Y j).length := by rw [R1.isO.1]; exact hlt
      obtain ⟨⟨x0, x1, x2, x3, x4⟩, -⟩ := cellsF X1
      obtain ⟨⟨p0, p1, p2, p3, p4⟩, ⟨pf0, pf1, pf2, pf3, pf4⟩⟩ := cellsF O1
      obtain ⟨q0, q1, q2, q3, q4⟩ := R1.at j hlt jy
      have qf0 := R1.frozen (j * 5)
      have qf1 := R1.frozen (j * 5 + 1)
      have qf2 := R1.frozen (j * 5 + 2)
      have qf3 := R1.frozen (j * 5 + 3)
      have qf4 := R1.frozen (j * 5 + 4)
      generalize (Y j)[j] = yj at *
      have z01 := b1.size
      simp at z01
      have m1 : ¬ (w.heap.size = g) := by omega
      have m2 : ¬ (wr.heap.size = g) := by omega
      have m3 : ¬ (g = w.heap.size) := by omega
      have m4 : ¬ (g = wr.heap.size) := by omega
      have B01 := hd b01
      have HX1 := hd X1
      have HO1 := hd O1
      have HR1 := hd R1
      clear b1 b01 X1 O1 R1 jy y0 y1 y2 y3 y4 o0 o1 o2 o3 o4 of0 of1 of2 of3 of4 z01
      go_wp2_with fail
      obtain ⟨W1, hW1⟩ : ∃ W1, W1 = set5 w1 g (j * 5) ak ap ac aq as' := ⟨_, rfl⟩
      have FW : Fr (· = g) w1 W1 := by
        rw [hW1]
        exact Fr.set5 _ _ _ _ _ _ _ _
      have RW : RowO W1 g n c (Y (j + 1)) := by
        rw [hW1, S2.out]
        exact HR1.out.set5 j ak ap ac aq as' hlt
      have F1 : Fr (· = g) w W1 := (F0.out.trans (Fr.of_below B01.out)).trans FW
      refine (shift_any ⟨vk, vp, vc, vq, vs⟩ ⟨uk, up, uc, uq, us⟩ (!f) (set5 w1 g (j * 5) ak ap ac aq as') ?_).mono ?_
      · rw [← hW1]
        exact HT.out.below (B := 2) (F1.below (B := 2) (by omega) (fun k h => by omega)) (by omega)
      rintro e w2 ⟨rfl, b2⟩
      rw [← hW1] at b2
      rw [HB.out]
      simp only [OpE.val]
      have O2 : w2.heap[w.heap.size]? = some (.cells #[.int .i64 vk, .int .i64 vp, .int .u8 vc, .int .i64 vq, .int .i64 vs] 46 (0, 0)) := (b2.block _ (Nat.lt_of_lt_of_le (block_lt HO1.out) FW.size)).trans (FW.keeps HO1.out m1)
      have Z2 : w2.heap[w.heap.size + 1]? = some (.cells (opc zop).toArray 46 (0, 0)) := by
        have z1 := (B01.out.block _ zl).trans Z0.out
        exact (b2.block _ (Nat.lt_of_lt_of_le (block_lt z1) FW.size)).trans (FW.keeps z1 (by omega))
      have R2' := RW.fr (S := fun _ => False) (Fr.of_below b2) (fun h => h)
      have F2 : Fr (· = g) w w2 := F1.trans (Fr.of_below b2)
      obtain ⟨⟨t0, t1, t2, t3, t4⟩, ⟨tf0, tf1, tf2, tf3, tf4⟩⟩ := cellsF O2
      have G : Hid (CRel w (set5 w2 w.heap.size 0 bk bp bc bq bs) g w.heap.size n c (X (j + 1)) (Y (j + 1))) := by
        rw [S1.out]
        have FO := Fr.set5 w2 w.heap.size 0 bk bp bc bq bs
        exact ⟨R2'.fr FO m3, set5_op (x := ⟨vk, vp, vc, vq, vs⟩) O2 bk bp bc bq bs, FO.keeps Z2 (by omega), F2.next FO (fun k hk h => by omega)⟩
      clear O2 Z2 R2' F2 b2 F1 RW FW hW1 x0 x1 x2 x3 x4 p0 p1 p2 p3 p4 pf0 pf1 pf2 pf3 pf4 q0 q1 q2 q3 q4 qf0 qf1 qf2 qf3 qf4 HR1 HO1 HX1 B01
      go_wp2
      exact ⟨⟨j + 1, by omega, by go_num, G⟩, by simp [intOf]; omega⟩
    · obtain rfl : j = n := by omega
      obtain ⟨e1, e2⟩ := HE.out
      rw [e1] at hO
      rw [e2] at hR
      have o5 := hO
      obtain ⟨⟨o0, o1, o2, o3, o4⟩, -⟩ := cellsF o5
      obtain ⟨⟨z0, z1, z2, z3, z4⟩, ⟨zf0, zf1, zf2, zf3, zf4⟩⟩ := cellsF hZ
      have hz := block_lt hZ
      have G : Hid (∀ W, Fr (· = w.heap.size + 1) wr W → RowO W g j c R2 ∧ Fr (· = g) w W) := fun W h => ⟨hR.fr h (by omega), hF.next h (fun k hk h => by omega)⟩
      clear hr hR hO hZ hF o5 HS HE e1 e2
      go_wp2
      refine bodyPost_ret (v := .agg #[.int .i64 rk, .int .i64 rp, .int .u8 rc, .int .i64 rq, .int .i64 rs]) (by simp [results, Tryz.results82, go_sem, z0, z1, z2, z3, z4]) rfl ?_
      exact ⟨rfl, G.out _ (Fr.set5 wr (w.heap.size + 1) 0 rk rp rc rq rs)⟩
end Go.Proofs.YtilidolbplglcaaGreatDoor

/-! Nc -/
namespace Go.Proofs.YtilidolbplglcaaGreatDoor
open Go.RowKit
set_option linter.unusedVariables false

theorem two_of {w w1 : World} {ca cb : Array Value} {t : TypeId} (b : Below ((w.alloc (.cells ca t (0, 0))).alloc (.cells cb t (0, 0))).heap.size ((w.alloc (.cells ca t (0, 0))).alloc (.cells cb t (0, 0))) w1) :
    w1.heap[w.heap.size]? = some (.cells ca t (0, 0)) ∧ w1.heap[w.heap.size + 1]? = some (.cells cb t (0, 0)) ∧ Below w.heap.size w w1 ∧ w.heap.size + 2 ≤ w1.heap.size := by
  have hs : ∀ (w : World) o, (w.alloc o).heap.size = w.heap.size + 1 := fun w o => by simp
  have k : ∀ (w : World) o i, i < w.heap.size → (w.alloc o).heap[i]? = w.heap[i]? := fun w o i hi => ((Below.refl w.heap.size w).alloc (Nat.le_refl _) o).block i hi
  refine ⟨?_, ?_, ?_, ?_⟩
  · rw [b.block _ (by simp only [hs]; omega), k _ _ _ (by simp only [hs]; omega)]
    exact heap_alloc_new w _
  · rw [b.block _ (by simp only [hs]; omega)]
    have := heap_alloc_new (w.alloc (.cells ca t (0, 0))) (.cells cb t (0, 0))
    rwa [hs] at this
  · have b0 : Below w.heap.size w ((w.alloc (.cells ca t (0, 0))).alloc (.cells cb t (0, 0))) := ((Below.refl _ _).alloc (Nat.le_refl _) _).alloc (by simp only [hs]; omega) _
    exact b0.trans (b.mono (by simp only [hs]; omega))
  · have := b.size
    simp only [hs] at this
    omega

set_option maxHeartbeats 4000000 in
theorem through_bad (op : OpE) (a : Option Addr) (n c : Nat) (f : Bool) (w : World) (hn : 4096 < n) :
    Calls Tryz.prog 79 #[op.val, .slice a n c, .bool f] w fun e w' => e = .returned (.tuple #[zop.val, .slice none 0 0, .int .i64 50]) ∧ Below w.heap.size w w' := by
  obtain ⟨k, p, c', q, s⟩ := op
  have i1 : (n : Int) > 4096 := by omega
  simp only [OpE.val, zop]
  go_enter Tryz.func79, Tryz.ntmps79
  go_wp2
  refine bodyPost_ret (v := .tuple #[.agg #[.int .i64 0, .int .i64 0, .int .u8 0, .int .i64 0, .int .i64 0], .slice none 0 0, .int .i64 50]) (by simp [results, Tryz.results79, go_sem]) rfl ?_
  exact ⟨rfl, ((Below.refl _ _).alloc (Nat.le_refl _) _).alloc (by simp) _⟩

set_option maxHeartbeats 4000000 in
theorem through_any (op : OpE) (a : Option Addr) (n c : Nat) (xs : List OpE) (f : Bool) (w : World) (hT : Table w) (hE : IsO w a n c xs) (hn : n ≤ 4096) :
    Calls Tryz.prog 79 #[op.val, .slice a n c, .bool f] w fun e w' => ∃ v, e = .returned (.tuple #[(throughP op xs f).1.val, v, .int .i64 0]) ∧ OwnO w' w.heap.size v (throughP op xs f).2 ∧ Below w.heap.size w w' := by
  have i1 : ¬ (n : Int) > 4096 := by omega
  have HE := hd hE
  have HT := hd hT
  clear hT hE
  obtain ⟨⟨rk, rp, rc, rq, rs⟩, h1⟩ : ∃ R, (throughP op xs f).1 = R := ⟨_, rfl⟩
  obtain ⟨R2, h2⟩ : ∃ R, (throughP op xs f).2 = R := ⟨_, rfl⟩
  have H1 := hd h1
  have H2 := hd h2
  rw [h1, h2]
  clear h1 h2
  obtain ⟨k, p, c', q, s⟩ := op
  simp only [OpE.val]
  go_enter Tryz.func79, Tryz.ntmps79
  go_wp2_with fail
  refine (copied_any a n c xs _ (HE.out.below (((Below.refl _ _).alloc (Nat.le_refl _) _).alloc (by simp) _)) (by omega)).mono ?_
  rintro e w1 ⟨v, rfl, hO, b1⟩
  obtain ⟨hp, hr, hB, hz⟩ := two_of b1
  obtain ⟨g, cg, hg, rfl, hR⟩ := hO
  obtain ⟨⟨p0, p1, p2, p3, p4⟩, -⟩ := cellsF hp
  simp at hg
  rw [HE.out.1] at hR ⊢
  have T1 := hd (HT.out.below hB HT.out.1)
  have HR := hd hR
  have HB := hd hB
  have HZ := hd hr
  have g0 : 1 < g := by have := HT.out.1; omega
  clear hp hr hR hB hz b1
  go_wp2_with fail
  refine (carry_any ⟨k, p, c', q, s⟩ g n cg xs f w1 T1.out g0 HR.out).mono ?_
  rintro e w2 ⟨rfl, hR2, hF2⟩
  rw [H1.out]
  rw [H2.out] at hR2
  simp only [OpE.val]
  have hr2 := hF2.keeps HZ.out (by omega)
  obtain ⟨⟨r0, r1, r2, r3, r4⟩, ⟨f0, f1, f2, f3, f4⟩⟩ := cellsF hr2
  have hl := hR2.isO.1
  have G : Hid (∀ W, Fr (· = w.heap.size + 1) w2 W → OwnO W w.heap.size (.slice (some ⟨g, 0, none⟩) n cg) R2 ∧ Below w.heap.size w W) := fun W h =>
    ⟨⟨g, cg, by omega, by rw [hl], by rw [hl]; exact hR2.fr h (by omega)⟩, (HB.out.trans (hF2.below HB.out.size (fun k h => by omega))).trans (h.below (Nat.le_trans HB.out.size hF2.size) (fun k h => by omega))⟩
  clear hR2 hF2 hr2 hl p0 p1 p2 p3 p4
  go_wp2
  refine bodyPost_ret (v := .tuple #[.agg #[.int .i64 rk, .int .i64 rp, .int .u8 rc, .int .i64 rq, .int .i64 rs], .slice (some ⟨g, 0, none⟩) n cg, .int .i64 0]) (by simp [results, Tryz.results79, go_sem, r0, r1, r2, r3, r4]) rfl ?_
  exact ⟨_, rfl, G.out _ (Fr.set5 w2 (w.heap.size + 1) 0 rk rp rc rq rs)⟩

end Go.Proofs.YtilidolbplglcaaGreatDoor

/-! Ga -/
namespace Go.Proofs.YtilidolbplglcaaGreatDoor
open Go.RowKit Go.Lib
set_option linter.unusedVariables false

/-- An element has k cells. -/
def Sz {α : Type} (f : α → List Value) (k : Nat) : Prop := ∀ x, (f x).length = k ∧ ∀ v ∈ f x, v.oneCell' = true

/-- The cells of a list. -/
def cl {α : Type} (f : α → List Value) (xs : List α) : List Value := xs.flatMap f

section
variable {α : Type} {f : α → List Value} {k : Nat}
theorem cl_nil : cl f [] = [] := rfl
theorem cl_one (x : α) : cl f [x] = f x := by simp [cl]
theorem cl_app (xs ys : List α) : cl f (xs ++ ys) = cl f xs ++ cl f ys := by simp [cl]
theorem cl_cons (x : α) (xs : List α) : cl f (x :: xs) = f x ++ cl f xs := by simp [cl]
theorem cl_len (h : Sz f k) (xs : List α) : (cl f xs).length = xs.length * k := by
  induction xs with
  | nil => simp [cl_nil]
  | cons x xs ih => rw [cl_cons, List.length_append, ih, (h x).1, List.length_cons, Nat.add_mul]; omega
theorem cl_cells (h : Sz f k) (xs : List α) : ∀ v ∈ cl f xs, v.oneCell' = true := by
  intro v hv
  obtain ⟨x, -, hx⟩ := List.mem_flatMap.1 hv
  exact (h x).2 v hx
theorem cl_drop (h : Sz f k) (xs : List α) (i : Nat) : (cl f xs).drop (i * k) = cl f (xs.drop i) := by
  induction xs generalizing i with
  | nil => simp [cl_nil]
  | cons x xs ih =>
    cases i with
    | zero => simp
    | succ i =>
      rw [cl_cons, Nat.add_mul, Nat.one_mul, List.drop_succ_cons, ← ih i, List.drop_append]
      rw [List.drop_eq_nil_of_le (by rw [(h x).1]; omega), List.nil_append, (h x).1, Nat.add_sub_cancel]
theorem cl_take (h : Sz f k) (xs : List α) (i : Nat) : (cl f xs).take (i * k) = cl f (xs.take i) := by
  induction xs generalizing i with
  | nil => simp [cl_nil]
  | cons x xs ih =>
    cases i with
    | zero => simp [cl_nil]
    | succ i =>
      rw [cl_cons, Nat.add_mul, Nat.one_mul, List.take_succ_cons, cl_cons, ← ih i, List.take_append]
      rw [List.take_of_length_le (by rw [(h x).1]; omega), (h x).1, Nat.add_sub_cancel]
theorem cl_get (h : Sz f k) (xs : List α) (i j : Nat) (hi : i < xs.length) (hj : j < k) : (cl f xs)[i * k + j]? = (f xs[i])[j]? := by
  have h1 : (cl f xs)[i * k + j]? = ((cl f xs).drop (i * k))[j]? := by rw [List.getElem?_drop]
  rw [h1, cl_drop h, List.drop_eq_getElem_cons hi, cl_cons, List.getElem?_append_left (by rw [(h _).1]; exact hj)]
end

/-- Block g is a row of cap elements of type e, the first N of them xs. -/
def RowF {α : Type} (f : α → List Value) (k : Nat) (w : World) (g N cap : Nat) (e : TypeId) (xs : List α) : Prop :=
  ∃ cur : List Value, w.heap[g]? = some (.cells cur.toArray e (0, 0)) ∧ cur.take (N * k) = cl f xs ∧ xs.length = N ∧ N ≤ cap ∧ cap ≤ 9223372036854775807 ∧ cur.length = cap * k

/-- nil, or a row. -/
def SF {α : Type} (f : α → List Value) (k : Nat) (w : World) (e : TypeId) (β : Option Nat) (v : Value) (xs : List α) : Prop :=
  match β with
  | none => v = .slice none 0 0 ∧ xs = []
  | some g => ∃ cap, v = .slice (some ⟨g, 0, none⟩) xs.length cap ∧ RowF f k w g xs.length cap e xs

section
variable {α : Type} {f : α → List Value} {k : Nat} {w w' : World} {g N cap : Nat} {e : TypeId} {xs : List α} {S : Nat → Prop} {β : Option Nat} {v : Value}
theorem RowF.fr (h : RowF f k w g N cap e xs) (hF : Fr S w w') (hS : ¬ S g) : RowF f k w' g N cap e xs := by
  obtain ⟨cur, hh, r⟩ := h
  exact ⟨cur, hF.keeps hh hS, r⟩
theorem RowF.lt (h : RowF f k w g N cap e xs) : g < w.heap.size := by
  obtain ⟨cur, hh, _⟩ := h
  exact block_lt hh
theorem RowF.cell (h : RowF f k w g N cap e xs) (hz : Sz f k) (i j : Nat) (hi : i < xs.length) (hj : j < k) : w.cell? ⟨g, i * k + j, none⟩ = (f xs[i])[j]? := by
  obtain ⟨cur, hh, ht, hl, _⟩ := h
  have hlt : i * k + j < N * k := by
    have : (i + 1) * k ≤ N * k := Nat.mul_le_mul_right _ (by omega)
    rw [Nat.add_mul] at this
    omega
  rw [cell_row hh, ← cl_get hz xs i j hi hj, ← ht, List.getElem?_take, if_pos hlt]
  simp
theorem RowF.cells (h : RowF f k w g N cap e xs) (hz : Sz f k) (i : Nat) : ∀ j u, (cl f (xs.drop i))[j]? = some u → w.cell? ((⟨g, i * k, none⟩ : Addr).add j) = some u := by
  intro j u hj
  obtain ⟨cur, hh, ht, hl, _⟩ := h
  rw [add_lit, cell_row hh]
  rw [← cl_drop hz, List.getElem?_drop, ← ht] at hj
  have hjl := (List.getElem?_eq_some_iff.1 hj).1
  rw [List.length_take] at hjl
  rw [List.getElem?_take, if_pos (by omega)] at hj
  simpa using hj

theorem SF.fr (h : SF f k w e β v xs) (hF : Fr S w w') (hS : ∀ g, β = some g → ¬ S g) : SF f k w' e β v xs := by
  cases β with
  | none => exact h
  | some g =>
    obtain ⟨cap, hv, hR⟩ := h
    exact ⟨cap, hv, hR.fr hF (hS g rfl)⟩
theorem SF.form (h : SF f k w e β v xs) : ∃ a c, v = .slice a xs.length c ∧ xs.length ≤ c ∧ c ≤ 9223372036854775807 := by
  cases β with
  | none =>
    obtain ⟨rfl, rfl⟩ := h
    exact ⟨none, 0, rfl, by simp, by omega⟩
  | some g =>
    obtain ⟨cap, rfl, cur, -, -, -, h1, h2, -⟩ := h
    exact ⟨_, cap, rfl, h1, h2⟩
theorem SF.lt (h : SF f k w e β v xs) : ∀ g, β = some g → g < w.heap.size := by
  rintro g rfl
  obtain ⟨cap, hv, hR⟩ := h
  exact hR.lt
theorem SF.blk {g : Nat} (h : SF f k w e (some g) v xs) : ∃ cur, w.heap[g]? = some (.cells cur e (0, 0)) := by
  obtain ⟨cap, -, cur, hh, -⟩ := h
  exact ⟨_, hh⟩
end

/-- What an append leaves: the same row, or a new one behind all that was there. -/
def NowF {α : Type} (f : α → List Value) (k : Nat) (w w' : World) (e : TypeId) (β : Option Nat) (v' : Value) (xs : List α) : Prop :=
  ∃ g', SF f k w' e (some g') v' xs ∧ ((β = some g' ∧ Fr (· = g') w w') ∨ (g' = w.heap.size ∧ Fr (fun _ => False) w w'))

theorem run_pushF {α : Type} {f : α → List Value} {k : Nat} (hz : Sz f k) {P : Program} (w : World) (t ty e : TypeId) (i : TypeInfo) (z : Value) (bytes : Nat) (ht : P.underlying t = some (.slice e)) (hi : P.info? e = some i) (hzo : i.zero = some z) (hsz : i.size = k) (hzs : z.cells.size = k) (hby : i.bytes = bytes)
    (β : Option Nat) (v : Value) (xs : List α) (hv : SF f k w e β v xs) (ad : Addr) (m c : Nat) (ys : List α) (hl : ys.length = m) (hnews : ∀ j u, (cl f ys)[j]? = some u → w.cell? (ad.add j) = some u)
    (hm : 0 < m) (h63 : xs.length + m ≤ 9223372036854775807) (hb : ((xs.length + m) + (xs.length + m) / 4 + 192) * bytes ≤ 281474976710656) :
    ∃ v' w', (Builtin.append_ #[t, t] ty #[v, .slice (some ad) m c]).run P w = .ok v' w' ∧ NowF f k w w' e β v' (xs ++ ys) := by
  subst hby
  subst hsz
  have hmx : xs.length + m ≤ maxLen := h63
  have hlm : (cl f ys).length = m * i.size := by rw [cl_len hz, hl]
  have h1 := cl_cells hz ys
  have newrow : ∀ G, xs.length + m ≤ G → G ≤ 9223372036854775807 → RowF f i.size (w.drew.alloc (.cells ((cl f xs).toArray ++ (cl f ys).toArray ++ Builtin.zeroCells z.cells (G - (xs.length + m))) e)) w.heap.size (xs.length + m) G e (xs ++ ys) := by
    intro G hG1 hG2
    refine ⟨((cl f xs).toArray ++ (cl f ys).toArray ++ Builtin.zeroCells z.cells (G - (xs.length + m))).toList, ?_, ?_, by simp [hl], hG1, hG2, ?_⟩
    · rw [show w.heap.size = w.drew.heap.size from rfl, heap_alloc_new]
    · rw [Array.toList_append, Array.toList_append, List.toList_toArray, List.toList_toArray]
      have : (cl f xs ++ cl f ys).length = (xs.length + m) * i.size := by rw [List.length_append, cl_len hz, cl_len hz, hl, Nat.add_mul]
      rw [← this, List.take_left, cl_app]
    · rw [Array.toList_append, Array.toList_append, List.length_append, List.length_append, List.toList_toArray, List.toList_toArray, cl_len hz, cl_len hz, Array.length_toList (xs := Builtin.zeroCells _ _), size_zeroCells, hzs, hl, ← Nat.add_mul, ← Nat.add_mul]
      congr 1
      omega
  have newfr : ∀ o, Fr (fun _ => False) w (w.drew.alloc o) := fun o => (Fr.drew _ w).trans (Fr.alloc _ _ _)
  cases β with
  | none =>
    obtain ⟨rfl, rfl⟩ := hv
    have hr := run_append_nil (P := P) w t ty e i z ht hi hzo ad m c (cl f ys) hlm hnews hm (by simp at h63; omega) (by
      simp only [List.length_nil, Nat.zero_add] at hb
      exact Nat.le_trans (Nat.mul_le_mul_right _ (by omega)) hb)
    have hG1 := grownCap_ge w m 0 e
    have hG2 := grownCap_le_maxLen w m 0 e (by unfold maxLen; simp at h63; omega)
    generalize grownCap w m 0 e = G at hr hG1 hG2
    have hn := newrow G (by simpa using hG1) hG2
    simp only [List.length_nil, Nat.zero_add, List.nil_append, cl_nil] at hn ⊢
    refine ⟨_, _, hr, w.heap.size, ⟨G, by rw [hl], ?_⟩, .inr ⟨rfl, newfr _⟩⟩
    rw [hl]
    simpa using hn
  | some g =>
    obtain ⟨cap, rfl, cur, hh, htk, hvl, hnc, hcm, hcs⟩ := hv
    by_cases hroom : xs.length + m ≤ cap
    · have hfit : xs.length * i.size + (cl f ys).length ≤ cur.length := by
        rw [hlm, ← Nat.add_mul, hcs]
        exact Nat.mul_le_mul_right _ hroom
      have hr := run_append_room (P := P) w t ty e i ht hi g xs.length cap cur.toArray hh ad m c (cl f ys) hlm hnews h1 hroom (by simpa using hfit)
      refine ⟨_, _, hr, g, ⟨cap, by simp [hl], ?_⟩, .inl ⟨rfl, Fr.setRow w g _ rfl⟩⟩
      refine ⟨_, setRow_heap w g cur.toArray _ e _ hh, ?_, rfl, by simp [hl]; omega, hcm, ?_⟩
      · rw [List.toList_toArray, htk]
        have : (cl f xs ++ cl f ys).length = (xs ++ ys).length * i.size := by rw [List.length_append, cl_len hz, cl_len hz, List.length_append, Nat.add_mul]
        rw [← this, List.take_left, cl_app]
      · simp only [List.length_append, List.length_take, List.length_drop]
        omega
    · have holds : ∀ j u, (cl f xs)[j]? = some u → w.cell? ((⟨g, 0, none⟩ : Addr).add j) = some u := by
        have := RowF.cells (f := f) (k := i.size) (w := w) (g := g) (N := xs.length) (cap := cap) (e := e) (xs := xs) ⟨cur, hh, htk, hvl, hnc, hcm, hcs⟩ hz 0
        simpa using this
      have hr := run_append_grow (P := P) w t ty e i z ht hi hzo ⟨g, 0, none⟩ xs.length cap (cl f xs) (by rw [cl_len hz]) holds ad m c (cl f ys) hlm hnews (by omega) (by omega) (growslice_fits_wide (by omega) hb)
      have hG1 := grownCap_ge w (xs.length + m) cap e
      have hG2 := grownCap_le_maxLen w (xs.length + m) cap e hmx
      generalize grownCap w (xs.length + m) cap e = G at hr hG1 hG2
      have hn := newrow G hG1 hG2
      refine ⟨_, _, hr, w.heap.size, ⟨G, by simp [hl], ?_⟩, .inr ⟨rfl, newfr _⟩⟩
      rw [List.length_append, hl]
      exact hn

/-- The elements behind place i, moved onto place j (j at most i): append(s[:j], s[i:]...). -/
theorem row_moved {α : Type} {f : α → List Value} {k : Nat} (hz : Sz f k) {P : Program} (w : World) (t ty e : TypeId) (i : TypeInfo) (ht : P.underlying t = some (.slice e)) (hi : P.info? e = some i) (hsz : i.size = k)
    (g N cap d c : Nat) (xs : List α) (h : RowF f k w g N cap e xs) (hd' : d ≤ N) (A : Addr) (hA : N = d ∨ A = ⟨g, d * k, none⟩) :
    ∃ cur : List Value, (Builtin.append_ #[t, t] ty #[.slice (some ⟨g, 0, none⟩) 0 cap, .slice (some A) (N - d) c]).run P w = .ok (.slice (some ⟨g, 0, none⟩) (N - d) cap) (w.setRow g (splice cur 0 (cl f (xs.drop d))).toArray) ∧
      w.heap[g]? = some (.cells cur.toArray e (0, 0)) ∧ cur.length = cap * k := by
  subst hsz
  have hR := h
  obtain ⟨cur, hh, htk, hl, hnc, hcm, hcs⟩ := h
  refine ⟨cur, ?_, hh, hcs⟩
  have hdl : (xs.drop d).length = N - d := by rw [List.length_drop, hl]
  have hlm : (cl f (xs.drop d)).length = (N - d) * i.size := by rw [cl_len hz, hdl]
  have hsrc : ∀ j u, (cl f (xs.drop d))[j]? = some u → w.cell? (A.add j) = some u := by
    rcases hA with hA | rfl
    · intro j u hj
      rw [show xs.drop d = [] from List.drop_eq_nil_of_le (by omega)] at hj
      simp [cl_nil] at hj
    · exact hR.cells hz d
  have hfit : 0 * i.size + (cl f (xs.drop d)).length ≤ cur.toArray.size := by
    rw [hlm, List.size_toArray, hcs, Nat.zero_mul, Nat.zero_add]
    exact Nat.mul_le_mul_right _ (by omega)
  have hr := run_append_room (P := P) w t ty e i ht hi g 0 cap cur.toArray hh A (N - d) c (cl f (xs.drop d)) hlm hsrc (cl_cells hz _) (by omega) hfit
  simpa [splice] using hr

theorem zeros_one {z : Array Value} (h : ∀ v ∈ z, v.oneCell' = true) (d : Nat) : ∀ v ∈ (Builtin.zeroCells z d).toList, v.oneCell' = true := by
  intro v hv
  simp [Builtin.zeroCells] at hv
  obtain ⟨l, hl, rfl⟩ := hv
  have h0 : 0 < z.size := by
    rcases Nat.eq_zero_or_pos z.size with h0 | h0
    · rw [h0] at hl; omega
    · exact h0
  have hm := Nat.mod_lt l h0
  rw [getElem!_pos z _ hm]
  exact h _ (Array.getElem_mem hm)

theorem run_clear {P : Program} (w : World) (t ty e : TypeId) (i : TypeInfo) (z : Value) (ht : P.underlying t = some (.slice e)) (hi : P.info? e = some i) (hz : i.zero = some z) (hzs : z.cells.size = i.size) (h1 : ∀ v ∈ z.cells, v.oneCell' = true)
    (g o d cap : Nat) (cur : List Value) (hg : w.heap[g]? = some (.cells cur.toArray e (0, 0))) (h0 : 0 < d) (hfit : o + d * i.size ≤ cur.length) :
    (Builtin.clear_ #[t] ty #[.slice (some ⟨g, o, none⟩) d cap]).run P w = .ok (.tuple #[]) (w.setRow g (splice cur o (Builtin.zeroCells z.cells d).toList).toArray) := by
  have hl : (Builtin.zeroCells z.cells d).toList.length = d * i.size := by rw [Array.length_toList, size_zeroCells, hzs]
  have hst := run_storeCells_at P g o e (Builtin.zeroCells z.cells d).toList 0 cur.toArray w hg (by rw [hl]; simpa using hfit) (zeros_one h1 d)
  simp only [Nat.add_zero] at hst
  obtain ⟨d, rfl⟩ : ∃ m, d = m + 1 := ⟨d - 1, by omega⟩
  simp [Builtin.clear_, run_underlying ht, zeroValue, typeInfo, hi, hz, hst, splice]

theorem take_splice {L Z : List Value} {m o : Nat} (h : m ≤ o) (ho : o ≤ L.length) : (splice L o Z).take m = L.take m := by
  unfold splice
  rw [List.take_append_of_le_length (by simp; omega), List.take_take, Nat.min_eq_left h]

/-- What append and clear make of a row whose first d elements go. -/
theorem row_cut {α : Type} {f : α → List Value} {k : Nat} (hz : Sz f k) {P : Program} (w : World) (t e : TypeId) (i : TypeInfo) (z : Value) (ht : P.underlying t = some (.slice e)) (hi : P.info? e = some i) (hzo : i.zero = some z) (hsz : i.size = k) (hzs : z.cells.size = k) (h1 : ∀ v ∈ z.cells, v.oneCell' = true)
    (g N cap d : Nat) (xs : List α) (h : RowF f k w g N cap e xs) (h0 : 0 < d) (hdN : d ≤ N) : ∃ w1 w2,
      (∀ ty A c, (N = d ∨ A = ⟨g, d * k, none⟩) → (Builtin.append_ #[t, t] ty #[.slice (some ⟨g, 0, none⟩) 0 cap, .slice (some A) (N - d) c]).run P w = .ok (.slice (some ⟨g, 0, none⟩) (N - d) cap) w1) ∧
      (∀ ty c, (Builtin.clear_ #[t] ty #[.slice (some ⟨g, (N - d) * k, none⟩) d c]).run P w1 = .ok (.tuple #[]) w2) ∧
      RowF f k w2 g (N - d) cap e (xs.drop d) ∧ Fr (· = g) w w2 := by
  have hR := h
  obtain ⟨cur, hh, htk, hl, hnc, hcm, hcs⟩ := h
  subst hsz
  have hdl : (xs.drop d).length = N - d := by rw [List.length_drop, hl]
  have hlm : (cl f (xs.drop d)).length = (N - d) * i.size := by rw [cl_len hz, hdl]
  have hle : (N - d) * i.size ≤ cap * i.size := Nat.mul_le_mul_right _ (by omega)
  have hle2 : (N - d) * i.size + d * i.size ≤ cap * i.size := by rw [← Nat.add_mul]; exact Nat.mul_le_mul_right _ (by omega)
  obtain ⟨c1, hc1⟩ : ∃ c1, c1 = splice cur 0 (cl f (xs.drop d)) := ⟨_, rfl⟩
  have hl1 : c1.length = cap * i.size := by rw [hc1, length_splice _ _ _ (by rw [hlm]; omega), hcs]
  have hg1 : (w.setRow g c1.toArray).heap[g]? = some (.cells c1.toArray e (0, 0)) := setRow_heap w g _ _ e _ hh
  obtain ⟨c2, hc2⟩ : ∃ c2, c2 = splice c1 ((N - d) * i.size) (Builtin.zeroCells z.cells d).toList := ⟨_, rfl⟩
  have hzl : (Builtin.zeroCells z.cells d).toList.length = d * i.size := by rw [Array.length_toList, size_zeroCells, hzs]
  refine ⟨w.setRow g c1.toArray, (w.setRow g c1.toArray).setRow g c2.toArray, ?_, ?_, ⟨c2, setRow_heap _ g _ _ e _ hg1, ?_, hdl, by omega, hcm, ?_⟩, Fr.trans (S := (· = g)) (Fr.setRow _ _ _ rfl) (Fr.setRow _ _ _ rfl)⟩
  · intro ty A c hA
    obtain ⟨cur', h3, h4, -⟩ := row_moved hz w t ty e i ht hi rfl g N cap d c xs hR hdN A hA
    rw [hh] at h4
    have : cur' = cur := by
      injection h4 with h4
      injection h4 with h4
      simpa using h4.symm
    rw [h3, this, hc1]
  · intro ty c
    rw [hc2]
    exact run_clear _ t ty e i z ht hi hzo hzs h1 g _ d c c1 hg1 h0 (by omega)
  · rw [hc2, take_splice (Nat.le_refl _) (by omega), hc1]
    unfold splice
    rw [List.take_zero, List.nil_append, ← hlm, List.take_left]
  · rw [hc2, length_splice _ _ _ (by omega), hl1]

end Go.Proofs.YtilidolbplglcaaGreatDoor
