/-
  gone: one round (round_step).
-/
import Derived.Test.YtpjnhjijipcjkaaMQ
import Derived.Sort.CutIn
namespace Go.Proofs.Ytpjnhjijipcjkaa
open Go.RowKit
set_option linter.unusedVariables false
attribute [local go_sem] Oper.semAt_some

set_option maxRecDepth 100000 in
set_option maxHeartbeats 4000000 in
theorem round_step {G : Thg} {w0 w : World} {K : Nat → Prop} {x a b r q bx : Nat} {k s nn v : Int} {ia : Option Addr} {il ic : Nat} (N l D : Nat) (hN : 4 ≤ N) (hD : D = w.heap.size + 4) (hl : l = w.heap.size + 5) (lr : Loop) (W : World) (hK : Hid (∀ k, K k → w0.heap.size ≤ k)) (A B : Rb) (m n : Nat) (z : Int) (hL : LB l D lr W) (hG : GS G w0 w K x a b r q bx k s nn v ia il ic (rpopS A) A B m n W) (hh : A.ib.hd = true) (hz : atK A.ib.H (A.c + 1) iz = .int .i64 z) (hc : A.c + 1 ≤ 4096) (hb : n + mea il n A.c ≤ il * 4097 + 4096) (hil : il ≤ ic ∧ ic ≤ 9223372036854775807 ∧ il ≤ 3000000000000) (bb off : Nat) (p : OpV) (hia : ia = some ⟨bb, off, none⟩) (hbb : bb < w0.heap.size) (hop : OpAt w0 bb (off + n * 5) p) (hlt : n < il) (hkd : p.kind ≠ 8) :
    goneBody.wpIn (Fence.wide.inRound l) (N - 1 - 1) Try.prog (outPost l D lr (Gr G w0 w K x a b r q bx k s nn v ia il ic (((A.c + 1 : Nat) : Int), z, mea il n A.c)) (Gx G w0 w K x a b r q bx k s nn v ia il ic)) { tmps := #[pt x, opA k s nn v ia il ic, .func (.func 52) #[] #[.pointer (some ⟨bx, 0, none⟩)], .pointer (some ⟨w.heap.size, 0, none⟩), .pointer (some ⟨w.heap.size + 1, 0, none⟩), undef, .pointer (some ⟨w.heap.size + 2, 0, none⟩), .pointer (some ⟨w.heap.size + 3, 0, none⟩), .int .i64 ((A.c + 1 : Nat) : Int), .int .i64 z, undef, undef, undef, undef, .func (.func 52) #[] #[.pointer (some ⟨bx, 0, none⟩)], .int .i64 ((A.c + 1 : Nat) : Int), .int .i64 z, undef, undef, undef, undef, undef, undef, undef, undef, undef, undef, undef, undef, undef, undef, undef, undef, undef, undef, undef, undef, undef, undef, undef, undef, undef, undef, undef, undef, undef, undef, undef, undef, undef, undef, undef, undef, undef, undef, undef, undef, undef, undef, undef, undef, undef, undef, undef, undef, undef], defers := [] } W := by
  have hn : n ≤ 13000000000000000 := by omega
  have HDL := hd (And.intro hD hl)
  clear hD hl
  have CN := hd (next_any hG.mo hh z hz (by omega))
  have hcp := rpop_c hh
  obtain ⟨e3, e42, e44, e7, f7, f6, ⟨bo6, e6⟩, ls⟩ := hG.cells
  have H0 := hd (And.intro hG hL)
  have HC := hd (And.intro hc (And.intro hb hcp))
  have hfn : Fence.wide.fn 53 := trivial
  have hfs : Fence.wide.fn 26 := trivial
  have hfh : Fence.wide.fn 31 := trivial
  have hfr : Fence.wide.fn 30 := trivial
  have hfg : Fence.wide.fn 32 := trivial
  have hn1 : 1 ≤ N - 1 - 1 := by omega
  clear hG hL hh hz hc hb hcp
  conv => arg 4; whnf
  gi_wp2_with fail
  refine (CallsIn.inRound l (callsIn_wide.2 CN.out)).mono ?_
  clear CN
  rintro e W1 ⟨rfl, mo1, kp1⟩
  have HG1 : Hid (GS G w0 w K x a b r q bx k s nn v ia il ic (rpopS A) (rpopS A) B m n W1 ∧ LB l D lr W1) := hd ⟨H0.out.1.step mo1 H0.out.1.hm kp1, H0.out.2.kp kp1 HDL.out.1 HDL.out.2⟩
  clear H0 mo1 kp1 e3 e42 e44 e7 f7 f6 e6 ls
  obtain ⟨e3, e42, e44, e7, f7, f6, ⟨bo6, e6⟩, ls⟩ := HG1.out.1.cells
  have HKD := hd hkd
  clear hkd
  have i1 : (n : Int) < (il : Int) := by omega
  have i0 : (0 : Int) ≤ (n : Int) := by omega
  obtain ⟨y0, y1, y2, y3, y4⟩ := hop.below HG1.out.1.mo.base hbb
  subst hia
  obtain ⟨pk, psl, pn, pv, pia, pil, pic⟩ := p
  simp only at y0 y1 y2 y3 y4 HKD
  gi_wp2_with fail
  refine (CallsIn.inRound l (callsIn_wide.2 (here_any pk psl pn pv pia pil pic W1))).mono ?_
  rintro e W2 ⟨rfl, b2⟩
  have HG2 : Hid (GS G w0 w K x a b r q bx k s nn v (some ⟨bb, off, none⟩) il ic (rpopS A) (rpopS A) B m n W2 ∧ LB l D lr W2) := hd ⟨HG1.out.1.below b2, HG1.out.2.kp (HG1.out.1.mo.kp b2) HDL.out.1 HDL.out.2⟩
  clear b2 HG1 y0 y1 y2 y3 y4 e3 e42 e44 e7 f7 f6 e6 ls
  obtain ⟨W3, hW3⟩ : ∃ W3, W3 = W2.alloc (.cells #[.int .i64 pk, .int .i64 0, .int .i64 pn, .int .i64 pv, .slice pia pil pic] 56) := ⟨_, rfl⟩
  have b3 : Below W2.heap.size W2 W3 := by rw [hW3]; exact (Below.refl _ _).alloc (Nat.le_refl _) _
  have r3 : W3.heap[W2.heap.size]? = some (.cells #[.int .i64 pk, .int .i64 0, .int .i64 pn, .int .i64 pv, .slice pia pil pic] 56 (0, 0)) := by rw [hW3]; exact heap_alloc_new _ _
  have HG3 : Hid (GS G w0 w K x a b r q bx k s nn v (some ⟨bb, off, none⟩) il ic (rpopS A) (rpopS A) B m n W3 ∧ LB l D lr W3) := hd ⟨HG2.out.1.below b3, HG2.out.2.kp (HG2.out.1.mo.kp b3) HDL.out.1 HDL.out.2⟩
  have HW3 := hd hW3
  have R3 := hd r3
  clear b3 hW3 HG2 r3
  gi_upto_region 10 with fail
  rw [← HW3.out]
  clear HW3
  obtain ⟨e3, e42, e44, e7, f7, f6, ⟨bo6, e6⟩, ls⟩ := HG3.out.1.cells
  have lt3 := block_lt R3.out
  generalize hg10 : W2.heap.size = g10 at *
  clear hg10 W2
  have t0 : W3.cell? ⟨g10, 0, none⟩ = some (.int .i64 pk) := by rw [cell_row R3.out]; rfl
  have t1 : W3.cell? ⟨g10, 1, none⟩ = some (.int .i64 0) := by rw [cell_row R3.out]; rfl
  have t2 : W3.cell? ⟨g10, 2, none⟩ = some (.int .i64 pn) := by rw [cell_row R3.out]; rfl
  have t3 : W3.cell? ⟨g10, 3, none⟩ = some (.int .i64 pv) := by rw [cell_row R3.out]; rfl
  have t4 : W3.cell? ⟨g10, 4, none⟩ = some (.slice pia pil pic) := by rw [cell_row R3.out]; rfl
  have hk8 : (pk == 8) = false := by simpa using HKD.out
  have CS := hd (step_k HG3.out.1.mo (K6_base hK.out HG3.out.1.w0w) HG3.out.1.hm pk 0 pn pv pia pil pic)
  gi_wp2_with fail
  refine (CallsIn.inRound l (callsIn_wide.2 CS.out)).mono ?_
  clear CS
  rintro e W5 ⟨rfl, A2, B2, m2, hm5, pb5, kp5⟩
  have HG : Hid (GS G w0 w K x a b r q bx k s nn v (some ⟨bb, off, none⟩) il ic A2 A2 B2 m2 n W5 ∧ LB l D lr W5) := hd ⟨HG3.out.1.step pb5 hm5 kp5, HG3.out.2.kp kp5 HDL.out.1 HDL.out.2⟩
  have HM : Hid (mea il (n + 1) A2.c < mea il n A.c) := hd (mea_step hlt HG.out.1.ok.c2)
  have HN : Hid (n + 1 + mea il (n + 1) A2.c ≤ il * 4097 + 4096) := hd (by have := HM.out; have := HC.out.2.1; omega)
  clear HG3 pb5 kp5 hm5 R3 t0 t1 t2 t3 t4 e3 e42 e44 e7 f7 f6 e6 ls i1 i0 lt3 hbb hlt HC hil
  clear hfn hfs hfh hfr hfg
  obtain ⟨e3, e42, e44, e7, f7, f6, ⟨bo6, e6⟩, ls⟩ := HG.out.1.cells
  have hw1 : wrap64 ((n : Int) + 1) = (n : Int) + 1 := by unfold wrap64; omega
  have F7 : Fr (fun k => k = w.heap.size + 3) W5 (W5.setCell ⟨w.heap.size + 3, 0, none⟩ (.int .i64 ((n : Int) + 1))) := Fr.setCell W5 _ _ rfl
  have G7 : GS G w0 w K x a b r q bx k s nn v (some ⟨bb, off, none⟩) il ic A2 A2 B2 m2 (n + 1) (W5.setCell ⟨w.heap.size + 3, 0, none⟩ (.int .i64 ((n : Int) + 1))) := HG.out.1.set7 (n + 1)
  have L7 := HG.out.2.fr F7 (by omega) HDL.out.1 HDL.out.2
  by_cases he : (n : Int) + 1 = nn
  · subst he
    have G6 := G7.set6 true
    have F6 : Fr (fun k => k = w.heap.size + 2) (W5.setCell ⟨w.heap.size + 3, 0, none⟩ (.int .i64 ((n : Int) + 1))) ((W5.setCell ⟨w.heap.size + 3, 0, none⟩ (.int .i64 ((n : Int) + 1))).setCell ⟨w.heap.size + 2, 0, none⟩ (.bool true)) := Fr.setCell _ _ _ rfl
    have Z := hd (And.intro (L7.fr F6 (by omega) HDL.out.1 HDL.out.2) G6)
    clear HG F7 G7 L7 F6 G6
    gi_wp2_with fail
    exact ⟨Z.out.1, rfl, ⟨_, _, _, _, Z.out.2.1⟩, Z.out.2.2⟩
  · have he2 : ((n : Int) + 1 == nn) = false := by simpa using he
    have Z := hd (And.intro L7 G7)
    clear HG F7 G7 L7
    gi_wp2_with fail
    exact ⟨Z.out.1, _, HM.out, A2, B2, m2, n + 1, Z.out.2, rfl, HN.out⟩

end Go.Proofs.Ytpjnhjijipcjkaa
