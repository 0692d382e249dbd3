/-
  Texts put together: Nb Nc Hga.
-/
import Derived.Test.YtfhghijefjhehaaGreatDoorMHza
import Derived.Test.YtfhghijefjhehaaGreatDoorWb
import Derived.Deep.RegionHeld3
import Derived.Laws.StructEq
/-! Nb -/
namespace Go.Proofs.YtfhghijefjhehaaGreatDoor
open Go.RowKit
set_option linter.unusedVariables false

theorem cellsF {w : World} {g : Nat} {a b c d e : Value} {t : TypeId} (h : w.heap[g]? = some (.cells #[a, b, c, d, e] t (0, 0))) :
    (w.cell? ⟨g, 0, none⟩ = some a ∧ w.cell? ⟨g, 1, none⟩ = some b ∧ w.cell? ⟨g, 2, none⟩ = some c ∧ w.cell? ⟨g, 3, none⟩ = some d ∧ w.cell? ⟨g, 4, none⟩ = some e) ∧
    (w.frozen? ⟨g, 0, none⟩ = false ∧ w.frozen? ⟨g, 1, none⟩ = false ∧ w.frozen? ⟨g, 2, none⟩ = false ∧ w.frozen? ⟨g, 3, none⟩ = false ∧ w.frozen? ⟨g, 4, none⟩ = false) := by
  simp [World.cell?, World.frozen?, h]

def set5 (w : World) (g i : Nat) (a b c d e : Int) : World :=
  ((((w.setCell ⟨g, i, none⟩ (.int .i64 a)).setCell ⟨g, i + 1, none⟩ (.int .i64 b)).setCell ⟨g, i + 2, none⟩ (.int .u8 c)).setCell ⟨g, i + 3, none⟩ (.int .i64 d)).setCell ⟨g, i + 4, none⟩ (.int .i64 e)

theorem Fr.set5 (w : World) (g i : Nat) (a b c d e : Int) : Fr (· = g) w (Go.Proofs.YtfhghijefjhehaaGreatDoor.set5 w g i a b c d e) := by
  have h : ∀ (w : World) i u, Fr (· = g) w (w.setCell ⟨g, i, none⟩ u) := fun w i u => Fr.setCell w ⟨g, i, none⟩ u rfl
  exact (h _ _ _).trans ((h _ _ _).trans ((h _ _ _).trans ((h _ _ _).trans (h _ _ _))))

theorem set5_op {w : World} {g : Nat} {x : OpE} (h : w.heap[g]? = some (.cells (opc x).toArray 69 (0, 0))) (a b c d e : Int) : (Go.Proofs.YtfhghijefjhehaaGreatDoor.set5 w g 0 a b c d e).heap[g]? = some (.cells (opc ⟨a, b, c, d, e⟩).toArray 69 (0, 0)) := by
  have u1 := set_row h 0 (.int .i64 a)
  have u2 := set_row u1 1 (.int .i64 b)
  have u3 := set_row u2 2 (.int .u8 c)
  have u4 := set_row u3 3 (.int .i64 d)
  have u5 := set_row u4 4 (.int .i64 e)
  unfold Go.Proofs.YtfhghijefjhehaaGreatDoor.set5
  rw [u5]
  simp [opc]

/-- The operation at block o, the line at block g. -/
def CRel (w wr : World) (g o n c : Nat) (x : OpE) (L : List OpE) : Prop :=
  RowO wr g n c L ∧ wr.heap[o]? = some (.cells (opc x).toArray 69 (0, 0)) ∧ wr.heap[o + 1]? = some (.cells (opc zop).toArray 69 (0, 0)) ∧ Fr (· = g) w wr

def cArr (xs : List OpE) (op : OpE) (f : Bool) (k : Nat) : OpE := (throughP op (xs.take k) f).1
def cLin (xs : List OpE) (op : OpE) (f : Bool) (k : Nat) : List OpE := (throughP op (xs.take k) f).2 ++ xs.drop k

theorem cArr_next (xs : List OpE) (op : OpE) (f : Bool) (k : Nat) (h : k < xs.length) : cArr xs op f (k + 1) = shiftP (cArr xs op f k) xs[k] (!f) := by
  unfold cArr
  rw [List.take_succ_eq_append_getElem h, throughP_snoc]

theorem cLin_len (xs : List OpE) (op : OpE) (f : Bool) (k : Nat) (h : k ≤ xs.length) : (cLin xs op f k).length = xs.length := by
  unfold cLin
  rw [List.length_append, throughP_len]
  simp
  omega

theorem cLin_at (xs : List OpE) (op : OpE) (f : Bool) (k : Nat) (h : k < xs.length) : (cLin xs op f k)[k]? = some xs[k] := by
  unfold cLin
  have hl : (throughP op (xs.take k) f).2.length = k := by rw [throughP_len]; simp; omega
  rw [List.getElem?_append_right (by omega), hl, Nat.sub_self, List.getElem?_drop]
  simp

theorem cLin_next (xs : List OpE) (op : OpE) (f : Bool) (k : Nat) (h : k < xs.length) : cLin xs op f (k + 1) = (cLin xs op f k).set k (shiftP xs[k] (cArr xs op f k) f) := by
  unfold cLin cArr
  have hl : (throughP op (xs.take k) f).2.length = k := by rw [throughP_len]; simp; omega
  rw [List.take_succ_eq_append_getElem h, throughP_snoc, List.set_append_right _ _ (by omega), hl, Nat.sub_self]
  have e : xs.drop k = xs[k] :: xs.drop (k + 1) := List.drop_eq_getElem_cons h
  rw [e, List.set_cons_zero, List.append_assoc]
  rfl

set_option maxRecDepth 100000 in
set_option maxHeartbeats 8000000 in
theorem carry_any (op : OpE) (g n c : Nat) (xs : List OpE) (f : Bool) (w : World) (hT : Table w) (hg0 : 1 < g) (hR : RowO w g n c xs) :
    Calls Tryz.prog 129 #[op.val, .slice (some ⟨g, 0, none⟩) n c, .bool f] w fun e w' =>
      e = .returned (throughP op xs f).1.val ∧ RowO w' g n c (throughP op xs f).2 ∧ Fr (· = g) w w' := by
  have hgl := hR.lt
  have hnc := hR.isO.2.1
  have hc63 := hR.isO.2.2.1
  have HL := hd hR.isO.1
  have HR := hd hR
  have HT := hd hT
  clear hR hT
  have HO : Hid (cArr xs op f 0 = op) := by unfold cArr; rfl
  have HE : Hid (cArr xs op f n = (throughP op xs f).1 ∧ cLin xs op f n = (throughP op xs f).2) := by
    unfold cArr cLin
    have := HL.out
    rw [List.take_of_length_le (by omega), List.drop_of_length_le (by omega), List.append_nil]
    exact ⟨rfl, rfl⟩
  have HS : Hid (∀ j (h : j < n) (hx : j < xs.length), cArr xs op f (j + 1) = shiftP (cArr xs op f j) xs[j] (!f) ∧ cLin xs op f (j + 1) = (cLin xs op f j).set j (shiftP xs[j] (cArr xs op f j) f) ∧ (cLin xs op f j)[j]? = some xs[j] ∧ (cLin xs op f j).length = n) := fun j h hx =>
    ⟨cArr_next xs op f j hx, cLin_next xs op f j hx, cLin_at xs op f j hx, by rw [cLin_len xs op f j (by omega)]; exact HL.out⟩
  have HY0 := hd (show cLin xs op f 0 = xs by unfold cLin; simp [throughP])
  generalize cArr xs op f = X at *
  generalize cLin xs op f = Y at *
  generalize (throughP op xs f).1 = R1 at *
  generalize (throughP op xs f).2 = R2 at *
  obtain ⟨k, p, c', q, s⟩ := op
  obtain ⟨rk, rp, rc, rq, rs⟩ := R1
  simp only [OpE.val]
  go_enter Tryz.func129, Tryz.ntmps129
  go_wp2
  have S0 : Hid (CRel w ((w.alloc (.cells #[.int .i64 k, .int .i64 p, .int .u8 c', .int .i64 q, .int .i64 s] 69)).alloc (.cells #[.int .i64 0, .int .i64 0, .int .u8 0, .int .i64 0, .int .i64 0] 69)) g w.heap.size n c (X 0) (Y 0)) := by
    rw [HO.out, HY0.out]
    refine ⟨(HR.out.fr (S := (· = w.heap.size)) (Fr.alloc _ _ _) (by omega)).fr (S := (· = w.heap.size)) (Fr.alloc _ _ _) (by omega), ?_, ?_, (Fr.alloc _ _ _).trans (Fr.alloc _ _ _)⟩
    · rw [((Below.refl _ _).alloc (Nat.le_refl _) _).block _ (by simp)]
      exact heap_alloc_new w _
    · have := heap_alloc_new (w.alloc (.cells #[.int .i64 k, .int .i64 p, .int .u8 c', .int .i64 q, .int .i64 s] 69)) (.cells #[.int .i64 0, .int .i64 0, .int .u8 0, .int .i64 0, .int .i64 0] 69)
      rw [show (w.alloc (.cells #[.int .i64 k, .int .i64 p, .int .u8 c', .int .i64 q, .int .i64 s] 69)).heap.size = w.heap.size + 1 by simp] at this
      exact this
  clear HR HO HY0
  go_loopw [11] (fun i wr => ∃ j : Nat, j ≤ n ∧ i = .int .i64 j ∧ Hid (CRel w wr g w.heap.size n c (X j) (Y j))) (fun i _ => n - (intOf i).toNat)
  case atStart => exact ⟨0, Nat.zero_le _, rfl, S0⟩
  case round =>
    obtain ⟨j, hj, rfl, hr⟩ := hrel
    clear S0
    obtain ⟨hR, hO, hZ, hF⟩ := hr.out
    by_cases hlt : j < n
    · have jx : j < xs.length := by have := HL.out; omega
      obtain ⟨s1, s2, s3, s4⟩ := HS.out j hlt jx
      have jy : j < (Y j).length := by rw [s4]; exact hlt
      have e5 : (Y j)[j] = xs[j] := by
        have := List.getElem?_eq_getElem jy
        rw [s3] at this
        exact (Option.some.inj this).symm
      obtain ⟨y0, y1, y2, y3, y4⟩ := hR.at j hlt jy
      rw [e5] at y0 y1 y2 y3 y4
      have S1 := hd s1
      have S2 := hd s2
      generalize xs[j] = x at *
      generalize X j = xj at *
      obtain ⟨vk, vp, vc, vq, vs⟩ := xj
      obtain ⟨uk, up, uc, uq, us⟩ := x
      obtain ⟨⟨o0, o1, o2, o3, o4⟩, ⟨of0, of1, of2, of3, of4⟩⟩ := cellsF hO
      have i1 : (j : Int) < (n : Int) := by omega
      have ol := block_lt hO
      have zl := block_lt hZ
      have gl := hR.lt
      have F0 := hd hF
      have R0 := hd hR
      have O0 := hd hO
      have Z0 := hd hZ
      clear hr hR hO hZ hF s1 s2 s3 s4 e5 HS HE jy jx
      obtain ⟨⟨ak, ap, ac, aq, as'⟩, hA⟩ : ∃ A, shiftP ⟨uk, up, uc, uq, us⟩ ⟨vk, vp, vc, vq, vs⟩ f = A := ⟨_, rfl⟩
      obtain ⟨⟨bk, bp, bc, bq, bs⟩, hB⟩ : ∃ A, shiftP ⟨vk, vp, vc, vq, vs⟩ ⟨uk, up, uc, uq, us⟩ (!f) = A := ⟨_, rfl⟩
      rw [hA] at S2
      rw [hB] at S1
      have HA := hd hA
      have HB := hd hB
      clear hA hB
      go_wp2_with fail
      refine (shift_any ⟨uk, up, uc, uq, us⟩ ⟨vk, vp, vc, vq, vs⟩ f _ ?_).mono ?_
      · exact HT.out.below (B := 2) ((F0.out.below (B := 2) (by omega) (fun k h => by omega)).trans (((Below.refl wr.heap.size wr).alloc (Nat.le_refl _) _).mono (by omega))) (by omega)
      rintro e w1 ⟨rfl, b1⟩
      rw [HA.out]
      simp only [OpE.val]
      have b01 : Below wr.heap.size wr w1 := ((Below.refl wr.heap.size wr).alloc (Nat.le_refl _) _).trans (b1.mono (by simp))
      have X1 : w1.heap[wr.heap.size]? = some (.cells #[.int .i64 uk, .int .i64 up, .int .u8 uc, .int .i64 uq, .int .i64 us] 69 (0, 0)) := (b1.block _ (by simp)).trans (heap_alloc_new wr _)
      have O1 : w1.heap[w.heap.size]? = some (.cells #[.int .i64 vk, .int .i64 vp, .int .u8 vc, .int .i64 vq, .int .i64 vs] 69 (0, 0)) := (b01.block _ ol).trans O0.out
      have R1 := R0.out.fr (S := fun _ => False) (Fr.of_below b01) (fun h => h)
      have jy : j < (Y j).length := by rw [R1.isO.1]; exact hlt
      obtain ⟨⟨x0, x1, x2, x3, x4⟩, -⟩ := cellsF X1
      obtain ⟨⟨p0, p1, p2, p3, p4⟩, ⟨pf0, pf1, pf2, pf3, pf4⟩⟩ := cellsF O1
      obtain ⟨q0, q1, q2, q3, q4⟩ := R1.at j hlt jy
      have qf0 := R1.frozen (j * 5)
      have qf1 := R1.frozen (j * 5 + 1)
      have qf2 := R1.frozen (j * 5 + 2)
      have qf3 := R1.frozen (j * 5 + 3)
      have qf4 := R1.frozen (j * 5 + 4)
      generalize (Y j)[j] = yj at *
      have z01 := b1.size
      simp at z01
      have m1 : ¬ (w.heap.size = g) := by omega
      have m2 : ¬ (wr.heap.size = g) := by omega
      have m3 : ¬ (g = w.heap.size) := by omega
      have m4 : ¬ (g = wr.heap.size) := by omega
      have B01 := hd b01
      have HX1 := hd X1
      have HO1 := hd O1
      have HR1 := hd R1
      clear b1 b01 X1 O1 R1 jy y0 y1 y2 y3 y4 o0 o1 o2 o3 o4 of0 of1 of2 of3 of4 z01
      go_wp2_with fail
      obtain ⟨W1, hW1⟩ : ∃ W1, W1 = set5 w1 g (j * 5) ak ap ac aq as' := ⟨_, rfl⟩
      have FW : Fr (· = g) w1 W1 := by
        rw [hW1]
        exact Fr.set5 _ _ _ _ _ _ _ _
      have RW : RowO W1 g n c (Y (j + 1)) := by
        rw [hW1, S2.out]
        exact HR1.out.set5 j ak ap ac aq as' hlt
      have F1 : Fr (· = g) w W1 := (F0.out.trans (Fr.of_below B01.out)).trans FW
      refine (shift_any ⟨vk, vp, vc, vq, vs⟩ ⟨uk, up, uc, uq, us⟩ (!f) (set5 w1 g (j * 5) ak ap ac aq as') ?_).mono ?_
      · rw [← hW1]
        exact HT.out.below (B := 2) (F1.below (B := 2) (by omega) (fun k h => by omega)) (by omega)
      rintro e w2 ⟨rfl, b2⟩
      rw [← hW1] at b2
      rw [HB.out]
      simp only [OpE.val]
      have O2 : w2.heap[w.heap.size]? = some (.cells #[.int .i64 vk, .int .i64 vp, .int .u8 vc, .int .i64 vq, .int .i64 vs] 69 (0, 0)) := (b2.block _ (Nat.lt_of_lt_of_le (block_lt HO1.out) FW.size)).trans (FW.keeps HO1.out m1)
      have Z2 : w2.heap[w.heap.size + 1]? = some (.cells (opc zop).toArray 69 (0, 0)) := by
        have z1 := (B01.out.block _ zl).trans Z0.out
        exact (b2.block _ (Nat.lt_of_lt_of_le (block_lt z1) FW.size)).trans (FW.keeps z1 (by omega))
      have R2' := RW.fr (S := fun _ => False) (Fr.of_below b2) (fun h => h)
      have F2 : Fr (· = g) w w2 := F1.trans (Fr.of_below b2)
      obtain ⟨⟨t0, t1, t2, t3, t4⟩, ⟨tf0, tf1, tf2, tf3, tf4⟩⟩ := cellsF O2
      have G : Hid (CRel w (set5 w2 w.heap.size 0 bk bp bc bq bs) g w.heap.size n c (X (j + 1)) (Y (j + 1))) := by
        rw [S1.out]
        have FO := Fr.set5 w2 w.heap.size 0 bk bp bc bq bs
        exact ⟨R2'.fr FO m3, set5_op (x := ⟨vk, vp, vc, vq, vs⟩) O2 bk bp bc bq bs, FO.keeps Z2 (by omega), F2.next FO (fun k hk h => by omega)⟩
      clear O2 Z2 R2' F2 b2 F1 RW FW hW1 x0 x1 x2 x3 x4 p0 p1 p2 p3 p4 pf0 pf1 pf2 pf3 pf4 q0 q1 q2 q3 q4 qf0 qf1 qf2 qf3 qf4 HR1 HO1 HX1 B01
      go_wp2
      exact ⟨⟨j + 1, by omega, by go_num, G⟩, by simp [intOf]; omega⟩
    · obtain rfl : j = n := by omega
      obtain ⟨e1, e2⟩ := HE.out
      rw [e1] at hO
      rw [e2] at hR
      have o5 := hO
      obtain ⟨⟨o0, o1, o2, o3, o4⟩, -⟩ := cellsF o5
      obtain ⟨⟨z0, z1, z2, z3, z4⟩, ⟨zf0, zf1, zf2, zf3, zf4⟩⟩ := cellsF hZ
      have hz := block_lt hZ
      have G : Hid (∀ W, Fr (· = w.heap.size + 1) wr W → RowO W g j c R2 ∧ Fr (· = g) w W) := fun W h => ⟨hR.fr h (by omega), hF.next h (fun k hk h => by omega)⟩
      clear hr hR hO hZ hF o5 HS HE e1 e2
      go_wp2
      refine bodyPost_ret (v := .agg #[.int .i64 rk, .int .i64 rp, .int .u8 rc, .int .i64 rq, .int .i64 rs]) (by simp [results, Tryz.results129, go_sem, z0, z1, z2, z3, z4]) rfl ?_
      exact ⟨rfl, G.out _ (Fr.set5 wr (w.heap.size + 1) 0 rk rp rc rq rs)⟩
end Go.Proofs.YtfhghijefjhehaaGreatDoor

/-! Nc -/
namespace Go.Proofs.YtfhghijefjhehaaGreatDoor
open Go.RowKit
set_option linter.unusedVariables false

theorem two_of {w w1 : World} {ca cb : Array Value} {t : TypeId} (b : Below ((w.alloc (.cells ca t (0, 0))).alloc (.cells cb t (0, 0))).heap.size ((w.alloc (.cells ca t (0, 0))).alloc (.cells cb t (0, 0))) w1) :
    w1.heap[w.heap.size]? = some (.cells ca t (0, 0)) ∧ w1.heap[w.heap.size + 1]? = some (.cells cb t (0, 0)) ∧ Below w.heap.size w w1 ∧ w.heap.size + 2 ≤ w1.heap.size := by
  have hs : ∀ (w : World) o, (w.alloc o).heap.size = w.heap.size + 1 := fun w o => by simp
  have k : ∀ (w : World) o i, i < w.heap.size → (w.alloc o).heap[i]? = w.heap[i]? := fun w o i hi => ((Below.refl w.heap.size w).alloc (Nat.le_refl _) o).block i hi
  refine ⟨?_, ?_, ?_, ?_⟩
  · rw [b.block _ (by simp only [hs]; omega), k _ _ _ (by simp only [hs]; omega)]
    exact heap_alloc_new w _
  · rw [b.block _ (by simp only [hs]; omega)]
    have := heap_alloc_new (w.alloc (.cells ca t (0, 0))) (.cells cb t (0, 0))
    rwa [hs] at this
  · have b0 : Below w.heap.size w ((w.alloc (.cells ca t (0, 0))).alloc (.cells cb t (0, 0))) := ((Below.refl _ _).alloc (Nat.le_refl _) _).alloc (by simp only [hs]; omega) _
    exact b0.trans (b.mono (by simp only [hs]; omega))
  · have := b.size
    simp only [hs] at this
    omega

set_option maxHeartbeats 4000000 in
theorem through_any (op : OpE) (a : Option Addr) (n c : Nat) (xs : List OpE) (f : Bool) (w : World) (hT : Table w) (hE : IsO w a n c xs) (hn : n ≤ 4096) :
    Calls Tryz.prog 87 #[op.val, .slice a n c, .bool f] w fun e w' => ∃ v, e = .returned (.tuple #[(throughP op xs f).1.val, v, .int .i64 0]) ∧ OwnO w' w.heap.size v (throughP op xs f).2 ∧ Below w.heap.size w w' := by
  have i1 : ¬ (n : Int) > 4096 := by omega
  have HE := hd hE
  have HT := hd hT
  clear hT hE
  obtain ⟨⟨rk, rp, rc, rq, rs⟩, h1⟩ : ∃ R, (throughP op xs f).1 = R := ⟨_, rfl⟩
  obtain ⟨R2, h2⟩ : ∃ R, (throughP op xs f).2 = R := ⟨_, rfl⟩
  have H1 := hd h1
  have H2 := hd h2
  rw [h1, h2]
  clear h1 h2
  obtain ⟨k, p, c', q, s⟩ := op
  simp only [OpE.val]
  go_enter Tryz.func87, Tryz.ntmps87
  go_wp2_with fail
  refine (copied_any a n c xs _ (HE.out.below (((Below.refl _ _).alloc (Nat.le_refl _) _).alloc (by simp) _)) (by omega)).mono ?_
  rintro e w1 ⟨v, rfl, hO, b1⟩
  obtain ⟨hp, hr, hB, hz⟩ := two_of b1
  obtain ⟨g, cg, hg, rfl, hR⟩ := hO
  obtain ⟨⟨p0, p1, p2, p3, p4⟩, -⟩ := cellsF hp
  simp at hg
  rw [HE.out.1] at hR ⊢
  have T1 := hd (HT.out.below hB HT.out.1)
  have HR := hd hR
  have HB := hd hB
  have HZ := hd hr
  have g0 : 1 < g := by have := HT.out.1; omega
  clear hp hr hR hB hz b1
  go_wp2_with fail
  refine (carry_any ⟨k, p, c', q, s⟩ g n cg xs f w1 T1.out g0 HR.out).mono ?_
  rintro e w2 ⟨rfl, hR2, hF2⟩
  rw [H1.out]
  rw [H2.out] at hR2
  simp only [OpE.val]
  have hr2 := hF2.keeps HZ.out (by omega)
  obtain ⟨⟨r0, r1, r2, r3, r4⟩, ⟨f0, f1, f2, f3, f4⟩⟩ := cellsF hr2
  have hl := hR2.isO.1
  have G : Hid (∀ W, Fr (· = w.heap.size + 1) w2 W → OwnO W w.heap.size (.slice (some ⟨g, 0, none⟩) n cg) R2 ∧ Below w.heap.size w W) := fun W h =>
    ⟨⟨g, cg, by omega, by rw [hl], by rw [hl]; exact hR2.fr h (by omega)⟩, (HB.out.trans (hF2.below HB.out.size (fun k h => by omega))).trans (h.below (Nat.le_trans HB.out.size hF2.size) (fun k h => by omega))⟩
  clear hR2 hF2 hr2 hl p0 p1 p2 p3 p4
  go_wp2
  refine bodyPost_ret (v := .tuple #[.agg #[.int .i64 rk, .int .i64 rp, .int .u8 rc, .int .i64 rq, .int .i64 rs], .slice (some ⟨g, 0, none⟩) n cg, .int .i64 0]) (by simp [results, Tryz.results87, go_sem, r0, r1, r2, r3, r4]) rfl ?_
  exact ⟨_, rfl, G.out _ (Fr.set5 w2 (w.heap.size + 1) 0 rk rp rc rq rs)⟩

end Go.Proofs.YtfhghijefjhehaaGreatDoor

/-! Hga -/
namespace Go.Proofs.YtfhghijefjhehaaGreatDoor
open Go.RowKit
set_option linter.unusedVariables false

theorem opFields : Tryz.prog.underlying 69 = some (.struct (Tryz.prog.fieldsOf 69)) := by kernel_rfl
theorem opHeld : Tryz.prog.stoodInHeld 69 = false := by kernel_rfl

theorem opEq (k p c l s k' p' c' l' s' : Int) (W : World) : (Op.equalIn 10000 69 (.agg #[.int .i64 k, .int .i64 p, .int .u8 c, .int .i64 l, .int .i64 s]) (.agg #[.int .i64 k', .int .i64 p', .int .u8 c', .int .i64 l', .int .i64 s'])).run Tryz.prog W =
    .ok (decide (k = k' ∧ p = p' ∧ c = c' ∧ l = l' ∧ s = s')) W := by
  rw [show (10000 : Nat) = 9999 + 1 from rfl, run_equalIn_struct W _ _ _ _ opFields opHeld]
  simp only [Program.fieldsOf, Tryz.underlying69]
  by_cases h0 : k = k' <;> by_cases h1 : p = p' <;> by_cases h2 : c = c' <;> by_cases h3 : l = l' <;> by_cases h4 : s = s' <;>
    simp [Op.eqFields, part, go_sem, h0, h1, h2, h3, h4]
theorem opNe {k p c l s k' p' c' l' s' : Int} (h : (⟨k, p, c, l, s⟩ : OpE) ≠ ⟨k', p', c', l', s'⟩) (W : World) : (Op.equalIn 10000 69 (.agg #[.int .i64 k, .int .i64 p, .int .u8 c, .int .i64 l, .int .i64 s]) (.agg #[.int .i64 k', .int .i64 p', .int .u8 c', .int .i64 l', .int .i64 s'])).run Tryz.prog W = .ok false W := by
  rw [opEq]
  congr 1
  simp only [ne_eq, OpE.mk.injEq] at h
  simpa using h
theorem opSame (k p c l s : Int) (W : World) : (Op.equalIn 10000 69 (.agg #[.int .i64 k, .int .i64 p, .int .u8 c, .int .i64 l, .int .i64 s]) (.agg #[.int .i64 k, .int .i64 p, .int .u8 c, .int .i64 l, .int .i64 s])).run Tryz.prog W = .ok true W := by
  rw [opEq]
  simp
end Go.Proofs.YtfhghijefjhehaaGreatDoor
