/-
  wire.read, of items: a part of the walk.
-/
import Derived.Test.YtibnlfdnnlbeeaaDoorVe
namespace Go.Proofs.YtibnlfdnnlbeeaaDoor
open Go.RowKit
set_option linter.unusedVariables false

set_option maxRecDepth 100000 in
set_option maxHeartbeats 8000000 in
theorem read_bad (a : Option Addr) (n c : Nat) (bs : List Int) (w : World) (hB : IsB w a n c bs) (hR : Rng bs) (hn : n ≤ 140737488351232) (hL : Lims w) (hz : ¬ n = 0) (hkd : nmP (bs.getD 0 0) = 0) :
    Calls Tryd.prog 23 #[.slice a n c, .func (Fn.func 22) #[] #[]] w (ReadO w bs) := by
  suffices h : ∀ Q : Ending → World → Prop, (∀ e w', ReadO w bs e w' → Q e w') → Calls Tryd.prog 23 #[.slice a n c, .func (Fn.func 22) #[] #[]] w Q from h _ (fun _ _ h => h)
  intro Q hQ
  have HQ := hd hQ
  clear hQ
  have bz : Below w.heap.size w (w.alloc (.cells #[.int .i64 0, .int .i64 0, .int .i64 0, .int .i64 0, .int .i64 0, .int .i64 0, .int .i64 0, .int .i64 0, .int .i64 0, .int .i64 0, .int .i64 0, .int .i64 0, .int .i64 0, .int .i64 0] 52)) := (Below.refl _ _).alloc (Nat.le_refl _) _
  have hv : VB (w.alloc (.cells #[.int .i64 0, .int .i64 0, .int .i64 0, .int .i64 0, .int .i64 0, .int .i64 0, .int .i64 0, .int .i64 0, .int .i64 0, .int .i64 0, .int .i64 0, .int .i64 0, .int .i64 0, .int .i64 0] 52)) w.heap.size (fun _ => 0) := heap_alloc_new _ _
  have HL := hd (hL.below bz hL.lt)
  have HB := hd (hB.below bz)
  have BZ := hd bz
  have HV := hd hv
  have HR := hd hR
  have hl0 := hL.lt
  have hbn := hB.1
  have HBN := hd hbn
  have hsz : (w.alloc (.cells #[.int .i64 0, .int .i64 0, .int .i64 0, .int .i64 0, .int .i64 0, .int .i64 0, .int .i64 0, .int .i64 0, .int .i64 0, .int .i64 0, .int .i64 0, .int .i64 0, .int .i64 0, .int .i64 0] 52)).heap.size = w.heap.size + 1 := by simp
  have HKD := hd hkd
  clear bz hv hL hB hR hkd
  go_enter Tryd.func23, Tryd.ntmps23
  have hz' : ¬ (n : Int) = 0 := by omega
  have hne : bs ≠ [] := by rintro rfl; simp at hbn; omega
  obtain ⟨rb, hrb⟩ : ∃ rb, w.heap.size = rb := ⟨_, rfl⟩
  go_wp2_with fail
  generalize w.alloc (.cells #[.int .i64 0, .int .i64 0, .int .i64 0, .int .i64 0, .int .i64 0, .int .i64 0, .int .i64 0, .int .i64 0, .int .i64 0, .int .i64 0, .int .i64 0, .int .i64 0, .int .i64 0, .int .i64 0] 52) = w0 at *
  refine (newReader_any a n c bs _ HB.out hn).mono ?_
  rintro e w1 ⟨r, rfl, hr1, hr2, hrd, b1⟩
  have RD1 : Hid (RD (fun b => w.heap.size < b ∧ b < r) w1 r bs 0 false) := hd (by
    obtain ⟨a', n', c', q1, q2, q3, q4⟩ := hrd
    exact ⟨a', n', c', q1, q2, fun b off e => ⟨(q3 b off e).1, by have := (q3 b off e).2; omega⟩, q4⟩)
  clear hrd
  go_wp2_with fail
  refine (u8_good r bs 0 _ RD1.out (by omega) HR.out).mono ?_
  rintro e w2 ⟨rfl, hg⟩
  rw [be_one bs 0 (by omega)]
  obtain ⟨k0, hk0⟩ : ∃ k0, bs.getD 0 0 = k0 := ⟨_, rfl⟩
  have HK0 := hd hk0
  rw [hk0]
  clear hk0
  have S1 : Hid (∀ w3, Below (w2.heap.size + 1) (w2.alloc (.cells #[.int .i64 k0, .int .i64 0, .int .i64 0, .int .i64 0, .int .i64 0, .int .i64 0, .int .i64 0, .int .i64 0, .int .i64 0, .int .i64 0, .int .i64 0, .int .i64 0, .int .i64 0, .int .i64 0] 52)) w3 →
      RS w (w3.alloc (.cells #[.int .u16 (nmP k0), .bool false] 79)) rb r w2.heap.size w3.heap.size (nmP k0) bs (valsTo (nmP k0) bs 0) (posAt (nmP k0) 0)) := fun w3 b3 => by
    have hw1 := HV.out.below b1
    have hr3 := hg.2.size
    have hw2 := hw1.but hg.2 (by omega)
    have hl2 := (HL.out.below b1 (by omega)).but hg.2 (by omega)
    have bb : Below w2.heap.size w2 (w3.alloc (.cells #[.int .u16 (nmP k0), .bool false] 79)) := by
      have b4 : Below w2.heap.size w2 w3 := ((Below.refl _ _).alloc (Nat.le_refl _) _).trans (b3.mono (by omega))
      exact b4.alloc b4.size _
    have bs3 := b3.size
    simp at bs3
    have hv2 : VB (w2.alloc (.cells #[.int .i64 k0, .int .i64 0, .int .i64 0, .int .i64 0, .int .i64 0, .int .i64 0, .int .i64 0, .int .i64 0, .int .i64 0, .int .i64 0, .int .i64 0, .int .i64 0, .int .i64 0, .int .i64 0] 52)) w2.heap.size (valsTo (nmP k0) bs 0) := by
      refine (heap_alloc_new _ _).trans ?_
      rw [← HK0.out]
      simp [valsTo]
    have hv3 : VB w3 w2.heap.size (valsTo (nmP k0) bs 0) := (b3.block _ (by omega)).trans hv2
    have hrd := hg.1
    rw [Nat.zero_add] at hrd
    rw [← hrb]
    exact ⟨hw2.below bb, hv3.below ((Below.refl _ _).alloc (Nat.le_refl _) _), heap_alloc_new _ _, hl2.below bb (by have := hl2.lt; omega), by simpa [posAt] using hrd.below bb, (BZ.out.trans ((b1.mono (by omega)).trans (hg.2.below (by have := b1.size; omega) (by omega)))).trans (bb.mono (by have := b1.size; omega)), hl0, Nat.le_refl _, by omega, by omega, by omega⟩
  clear hg
  have h00 : (w2.alloc (.cells #[.int .i64 k0, .int .i64 0, .int .i64 0, .int .i64 0, .int .i64 0, .int .i64 0, .int .i64 0, .int .i64 0, .int .i64 0, .int .i64 0, .int .i64 0, .int .i64 0, .int .i64 0, .int .i64 0] 52)).cell? ⟨w2.heap.size, 0, none⟩ = some (.int .i64 k0) := by simp
  have hsz2 : (w2.alloc (.cells #[.int .i64 k0, .int .i64 0, .int .i64 0, .int .i64 0, .int .i64 0, .int .i64 0, .int .i64 0, .int .i64 0, .int .i64 0, .int .i64 0, .int .i64 0, .int .i64 0, .int .i64 0, .int .i64 0] 52)).heap.size = w2.heap.size + 1 := by simp
  go_wp2_with fail
  generalize w2.alloc (.cells #[.int .i64 k0, .int .i64 0, .int .i64 0, .int .i64 0, .int .i64 0, .int .i64 0, .int .i64 0, .int .i64 0, .int .i64 0, .int .i64 0, .int .i64 0, .int .i64 0, .int .i64 0, .int .i64 0] 52) = w2' at *
  refine (layout_any k0 _).mono ?_
  rintro e w3 ⟨rfl, b3⟩
  rw [hsz2] at b3
  have S2 := hd (S1.out w3 b3)
  clear S1 b3 HV HB HL RD1 b1 hr1 hr2
  generalize w2.heap.size = vb at *
  obtain ⟨nm, hnm⟩ : ∃ nm, nmP k0 = nm := ⟨_, rfl⟩
  have HNM : Hid (nmP (bs.getD 0 0) = nm) := hd (by rw [HK0.out]; exact hnm)
  rw [hnm] at S2
  rw [hnm]
  have hcase : nm = 0 := by rw [← hnm, ← HK0.out]; exact HKD.out
  clear hnm
  obtain ⟨l0, l1⟩ := S2.out.l.at
  subst hcase
  go_wp2_with fail
  generalize w3.alloc (.cells #[.int .u16 (0 : Nat), .bool false] 79) = w4 at *
  refine (wrap_new 0 61 _).mono ?_
  rintro e w9 ⟨v, rfl, hF, b9, hb⟩
  have S9 := S2.out.below b9
  have c0 := S9.res.at 0 (by omega)
  have g0 := S9.res.frozen 0
  have c1 := S9.res.at 1 (by omega)
  have g1 := S9.res.frozen 1
  have c2 := S9.res.at 2 (by omega)
  have g2 := S9.res.frozen 2
  have c3 := S9.res.at 3 (by omega)
  have g3 := S9.res.frozen 3
  have c4 := S9.res.at 4 (by omega)
  have g4 := S9.res.frozen 4
  have c5 := S9.res.at 5 (by omega)
  have g5 := S9.res.frozen 5
  have c6 := S9.res.at 6 (by omega)
  have g6 := S9.res.frozen 6
  have c7 := S9.res.at 7 (by omega)
  have g7 := S9.res.frozen 7
  have c8 := S9.res.at 8 (by omega)
  have g8 := S9.res.frozen 8
  have c9 := S9.res.at 9 (by omega)
  have g9 := S9.res.frozen 9
  have c10 := S9.res.at 10 (by omega)
  have g10 := S9.res.frozen 10
  have c11 := S9.res.at 11 (by omega)
  have g11 := S9.res.frozen 11
  have c12 := S9.res.at 12 (by omega)
  have g12 := S9.res.frozen 12
  have c13 := S9.res.at 13 (by omega)
  have g13 := S9.res.frozen 13
  obtain ⟨A1, A2⟩ := S9.res.all (fun _ => 0)
  have R : Hid (Below w.heap.size w ((((((((((((((w9.setCell ⟨rb, 0, none⟩ (.int .i64 0)).setCell ⟨rb, 1, none⟩ (.int .i64 0)).setCell ⟨rb, 2, none⟩ (.int .i64 0)).setCell ⟨rb, 3, none⟩ (.int .i64 0)).setCell ⟨rb, 4, none⟩ (.int .i64 0)).setCell ⟨rb, 5, none⟩ (.int .i64 0)).setCell ⟨rb, 6, none⟩ (.int .i64 0)).setCell ⟨rb, 7, none⟩ (.int .i64 0)).setCell ⟨rb, 8, none⟩ (.int .i64 0)).setCell ⟨rb, 9, none⟩ (.int .i64 0)).setCell ⟨rb, 10, none⟩ (.int .i64 0)).setCell ⟨rb, 11, none⟩ (.int .i64 0)).setCell ⟨rb, 12, none⟩ (.int .i64 0)).setCell ⟨rb, 13, none⟩ (.int .i64 0)) ∧ IsF ((((((((((((((w9.setCell ⟨rb, 0, none⟩ (.int .i64 0)).setCell ⟨rb, 1, none⟩ (.int .i64 0)).setCell ⟨rb, 2, none⟩ (.int .i64 0)).setCell ⟨rb, 3, none⟩ (.int .i64 0)).setCell ⟨rb, 4, none⟩ (.int .i64 0)).setCell ⟨rb, 5, none⟩ (.int .i64 0)).setCell ⟨rb, 6, none⟩ (.int .i64 0)).setCell ⟨rb, 7, none⟩ (.int .i64 0)).setCell ⟨rb, 8, none⟩ (.int .i64 0)).setCell ⟨rb, 9, none⟩ (.int .i64 0)).setCell ⟨rb, 10, none⟩ (.int .i64 0)).setCell ⟨rb, 11, none⟩ (.int .i64 0)).setCell ⟨rb, 12, none⟩ (.int .i64 0)).setCell ⟨rb, 13, none⟩ (.int .i64 0)) v 0 61) := ⟨S9.bel.trans (A2.below S9.bel.size S9.o1), hF.but A2 (u := w4) (block_lt S2.out.res) hb⟩
  have q0 := A1.at 0 (by omega)
  have q1 := A1.at 1 (by omega)
  have q2 := A1.at 2 (by omega)
  have q3 := A1.at 3 (by omega)
  have q4 := A1.at 4 (by omega)
  have q5 := A1.at 5 (by omega)
  have q6 := A1.at 6 (by omega)
  have q7 := A1.at 7 (by omega)
  have q8 := A1.at 8 (by omega)
  have q9 := A1.at 9 (by omega)
  have q10 := A1.at 10 (by omega)
  have q11 := A1.at 11 (by omega)
  have q12 := A1.at 12 (by omega)
  have q13 := A1.at 13 (by omega)
  clear hF b9 hb S9 A1 A2
  go_wp2
  refine bodyPost_ret (v := .tuple #[.agg #[.int .i64 0, .int .i64 0, .int .i64 0, .int .i64 0, .int .i64 0, .int .i64 0, .int .i64 0, .int .i64 0, .int .i64 0, .int .i64 0, .int .i64 0, .int .i64 0, .int .i64 0, .int .i64 0], v]) (by simp [results, Tryd.results23, go_sem, q0, q1, q2, q3, q4, q5, q6, q7, q8, q9, q10, q11, q12, q13]) rfl ?_
  exact HQ.out _ _ ⟨R.out.1, .inr (.inl ⟨hne, HNM.out, v, rfl, R.out.2⟩)⟩

end Go.Proofs.YtibnlfdnnlbeeaaDoor
