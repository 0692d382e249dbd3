/-
  through, become, Cross, Look.
-/
import Derived.Test.YtmbnimlibnheeabDoorSf
import Derived.Test.YtmbnimlibnheeabDoorMN
namespace Go.Proofs.YtmbnimlibnheeabDoor
open Go.RowKit
set_option linter.unusedVariables false

set_option maxRecDepth 100000 in
set_option maxHeartbeats 4000000 in
theorem sthrough_bad (x : Nat) (p : Sp) (o : OpE) (S : Nat → Prop) (w : World) (h : SpAt w x p S) (ho : OkOp o) (hv : validP o ≠ 0) :
    Calls Tryd.prog 36 #[.pointer (some ⟨x, 0, none⟩), o.val] w fun e w' => e = .returned (.tuple #[zop.val, .slice none 0 0, .int .i64 (validP o)]) ∧ Below w.heap.size w w' := by
  obtain ⟨k, ps, c, q, s⟩ := o
  obtain ⟨V, hV⟩ : ∃ V, validP ⟨k, ps, c, q, s⟩ = V := ⟨_, rfl⟩
  have HC := hd ho
  have HV := hd hV
  rw [hV] at hv
  have hv' : (V == 0) = false := by simpa using hv
  simp only [OpE.val, zop]
  rw [hV]
  clear h ho hV
  go_enter Tryd.func36, Tryd.ntmps36
  go_wp2_with fail
  refine (valid_any k ps c q s _ HC.out.1 HC.out.2).mono ?_
  rintro e w1 ⟨rfl, hb⟩
  obtain ⟨hp, hr, hB, hz⟩ := two_of hb
  obtain ⟨⟨r0, r1, r2, r3, r4⟩, ⟨f0, f1, f2, f3, f4⟩⟩ := cells5 hr
  have HB := hd hB
  have HZ := hd hz
  rw [HV.out]
  clear hb hp hr hB
  go_wp2
  refine bodyPost_ret (v := .tuple #[.agg #[.int .i64 0, .int .i64 0, .int .u8 0, .int .i64 0, .int .i64 0], .slice none 0 0, .int .i64 V]) (by simp [results, Tryd.results36, go_sem, r0, r1, r2, r3, r4]) rfl ?_
  exact ⟨rfl, HB.out.trans ((Fr.set5 w1 (w.heap.size + 1) 0 0 0 0 0 0).below HB.out.size (fun k h => by omega))⟩

set_option maxRecDepth 100000 in
set_option maxHeartbeats 4000000 in
theorem sthrough_good (x : Nat) (p : Sp) (o : OpE) (S : Nat → Prop) (w : World) (h : SpAt w x p S) (hT : Table w) (ho : OkOp o) (hv : validP o = 0) :
    Calls Tryd.prog 36 #[.pointer (some ⟨x, 0, none⟩), o.val] w fun e w' => ∃ a n c, e = .returned (.tuple #[(thrQ o p.q p.f).1.val, .slice a n c, .int .i64 0]) ∧ OwnO w' w.heap.size (.slice a n c) ((thrQ o p.q p.f).2.map (·.2)) ∧ Below w.heap.size w w' := by
  obtain ⟨⟨vm, vo, βm, βo, hK, hSx, hSm, hSo, hS⟩, hok⟩ := h
  have hro : SO w βo vo p.os := hK.ro
  obtain ⟨ao, co, rfl, hI⟩ := hro.form
  have n4 : p.os.length ≤ 4096 := by rw [Sp.os_len]; have := hok.n; have := hok.m; omega
  have c1 := cell_row hK.box 1
  have c2 := cell_row hK.box 2
  simp at c1 c2
  have hxl := block_lt hK.box
  have HI := hd hI
  have HT := hd hT
  have HC := hd ho
  have HV := hd hv
  rw [thrQ_1, thrQ_2]
  change Calls Tryd.prog 36 #[.pointer (some ⟨x, 0, none⟩), o.val] w fun e w' => ∃ a n c, e = .returned (.tuple #[(throughP o p.os p.f).1.val, .slice a n c, .int .i64 0]) ∧ OwnO w' w.heap.size (.slice a n c) (throughP o p.os p.f).2 ∧ Below w.heap.size w w'
  obtain ⟨n, hn⟩ : ∃ n, p.os.length = n := ⟨_, rfl⟩
  rw [hn] at HI c1 n4
  obtain ⟨f, hf⟩ : ∃ f, p.f = f := ⟨_, rfl⟩
  rw [hf] at c2
  rw [hf]
  generalize p.os = os at *
  obtain ⟨⟨rk, rp, rc, rq, rs⟩, h1⟩ : ∃ R, (throughP o os f).1 = R := ⟨_, rfl⟩
  obtain ⟨R2, h2⟩ : ∃ R, (throughP o os f).2 = R := ⟨_, rfl⟩
  have H1 := hd h1
  have H2 := hd h2
  rw [h1, h2]
  clear h1 h2
  obtain ⟨k, ps, c, q, s⟩ := o
  simp only [OpE.val]
  clear hK hSx hSm hSo hS hok hI hT ho hv hn hf hro
  go_enter Tryd.func36, Tryd.ntmps36
  go_wp2_with fail
  refine (valid_any k ps c q s _ HC.out.1 HC.out.2).mono ?_
  rintro e w1 ⟨rfl, hb⟩
  obtain ⟨hp, hr, hB, hz⟩ := two_of hb
  obtain ⟨⟨p0, p1, p2, p3, p4⟩, -⟩ := cells5 hp
  have x1 := (hB.cell (p := ⟨x, 1, none⟩) hxl).trans c1
  have x2 := (hB.cell (p := ⟨x, 2, none⟩) hxl).trans c2
  rw [HV.out]
  have C : Hid (∀ U, Below w1.heap.size w1 U → Calls Tryd.prog 46 #[.agg #[.int .i64 k, .int .i64 ps, .int .u8 c, .int .i64 q, .int .i64 s], .slice ao n co, .bool f] U fun e w' => ∃ a m cc, e = .returned (.tuple #[.agg #[.int .i64 rk, .int .i64 rp, .int .u8 rc, .int .i64 rq, .int .i64 rs], .slice a m cc, .int .i64 0]) ∧ OwnO w' w.heap.size (.slice a m cc) R2 ∧ Below w.heap.size w w' ∧ w'.heap[w.heap.size + 1]? = some (.cells #[.int .i64 0, .int .i64 0, .int .u8 0, .int .i64 0, .int .i64 0] 37 (0, 0)) ∧ ∀ W, Fr (· = w.heap.size + 1) w' W → OwnO W w.heap.size (.slice a m cc) R2 ∧ Below w.heap.size w W) := by
    intro U hU
    have bU : Below w.heap.size w U := hB.trans (hU.mono hB.size)
    refine (through_any ⟨k, ps, c, q, s⟩ ao n co os f U (HT.out.below bU HT.out.1) (HI.out.below bU) n4).mono ?_
    rintro e w' ⟨v, rfl, hO, b2⟩
    rw [H1.out]
    rw [H2.out] at hO
    obtain ⟨g, cg, hg, rfl, hR⟩ := hO
    have hsz := hU.size
    have hz1 := hB.size
    have X := (b2.block _ (by omega)).trans ((hU.block _ (by omega)).trans hr)
    have BW : Below w.heap.size w w' := bU.trans (b2.mono bU.size)
    refine ⟨_, _, _, rfl, ⟨g, cg, by omega, rfl, hR⟩, BW, X, fun W hW => ⟨⟨g, cg, by omega, rfl, hR.fr hW (by omega)⟩, BW.trans (hW.below BW.size (fun k h => by omega))⟩⟩
  have hzl := hz
  have hxl1 : x < w1.heap.size := by omega
  clear hb hp hr hB hz c1 c2
  go_wp2_with fail
  go_region_law (first | (go_simp; go_at_call 46; refine (C.out _ (by repeat (first | exact Below.refl _ _ | refine Below.drew ?_ | refine below_drewN ?_ _))).mono ?_; rintro ex w4 ⟨a4, n4', c4, rfl, g1, g2, g3, g4⟩; obtain ⟨⟨r0, r1, r2, r3, r4⟩, ⟨f0, f1, f2, f3, f4⟩⟩ := cells5 g3; have Z4 := hd g4; clear g1 g2 g3 g4))
  all_goals go_wp2
  all_goals refine bodyPost_ret (v := .tuple #[.agg #[.int .i64 rk, .int .i64 rp, .int .u8 rc, .int .i64 rq, .int .i64 rs], .slice a4 n4' c4, .int .i64 0]) (by simp [results, Tryd.results36, go_sem, r0, r1, r2, r3, r4]) rfl ?_
  all_goals exact ⟨_, _, _, rfl, Z4.out _ (Fr.set5 _ (w.heap.size + 1) 0 rk rp rc rq rs)⟩

end Go.Proofs.YtmbnimlibnheeabDoor
