/-
  Texts put together: Sg Sh Ka.
-/
import Derived.Test.YtilidolbplglcaaGreatDoorMSc
import Derived.Test.YtilidolbplglcaaGreatDoorMNb
import Derived.Test.YtilidolbplglcaaGreatDoorMDi
import Derived.Maps.RangeWalk
import Derived.Maps.Own
import Derived.DeepKeys4
/-! Sg -/
namespace Go.Proofs.YtilidolbplglcaaGreatDoor
open Go.RowKit
set_option linter.unusedVariables false

set_option maxRecDepth 100000 in
set_option maxHeartbeats 4000000 in
theorem sthrough_bad (x : Nat) (p : Sp) (o : OpE) (S : Nat → Prop) (w : World) (h : SpAt w x p S) (ho : OkOp o) (hv : validP o ≠ 0) :
    Calls Tryz.prog 66 #[.pointer (some ⟨x, 0, none⟩), o.val] w fun e w' => e = .returned (.tuple #[zop.val, .slice none 0 0, .int .i64 (validP o)]) ∧ Below w.heap.size w w' := by
  obtain ⟨k, ps, c, q, s⟩ := o
  obtain ⟨V, hV⟩ : ∃ V, validP ⟨k, ps, c, q, s⟩ = V := ⟨_, rfl⟩
  have HC := hd ho
  have HV := hd hV
  rw [hV] at hv
  have hv' : (V == 0) = false := by simpa using hv
  simp only [OpE.val, zop]
  rw [hV]
  clear h ho hV
  go_enter Tryz.func66, Tryz.ntmps66
  go_wp2_with fail
  refine (valid_any k ps c q s _ HC.out.1 HC.out.2).mono ?_
  rintro e w1 ⟨rfl, hb⟩
  obtain ⟨hp, hr, hB, hz⟩ := two_of hb
  obtain ⟨⟨r0, r1, r2, r3, r4⟩, ⟨f0, f1, f2, f3, f4⟩⟩ := cells5 hr
  have HB := hd hB
  have HZ := hd hz
  rw [HV.out]
  clear hb hp hr hB
  go_wp2
  refine bodyPost_ret (v := .tuple #[.agg #[.int .i64 0, .int .i64 0, .int .u8 0, .int .i64 0, .int .i64 0], .slice none 0 0, .int .i64 V]) (by simp [results, Tryz.results66, go_sem, r0, r1, r2, r3, r4]) rfl ?_
  exact ⟨rfl, HB.out.trans ((Fr.set5 w1 (w.heap.size + 1) 0 0 0 0 0 0).below HB.out.size (fun k h => by omega))⟩

set_option maxRecDepth 100000 in
set_option maxHeartbeats 4000000 in
theorem sthrough_good (x : Nat) (p : Sp) (o : OpE) (S : Nat → Prop) (w : World) (h : SpAt w x p S) (hT : Table w) (ho : OkOp o) (hv : validP o = 0) :
    Calls Tryz.prog 66 #[.pointer (some ⟨x, 0, none⟩), o.val] w fun e w' => ∃ a n c, e = .returned (.tuple #[(thrQ o p.q p.f).1.val, .slice a n c, .int .i64 0]) ∧ OwnO w' w.heap.size (.slice a n c) ((thrQ o p.q p.f).2.map (·.2)) ∧ Below w.heap.size w w' := by
  obtain ⟨⟨vm, vo, βm, βo, hK, hSx, hSm, hSo, hS⟩, hok⟩ := h
  have hro : SO w βo vo p.os := hK.ro
  obtain ⟨ao, co, rfl, hI⟩ := hro.form
  have n4 : p.os.length ≤ 4096 := by rw [Sp.os_len]; have := hok.n; have := hok.m; omega
  have c1 := cell_row hK.box 1
  have c2 := cell_row hK.box 2
  simp at c1 c2
  have hxl := block_lt hK.box
  have HI := hd hI
  have HT := hd hT
  have HC := hd ho
  have HV := hd hv
  rw [thrQ_1, thrQ_2]
  change Calls Tryz.prog 66 #[.pointer (some ⟨x, 0, none⟩), o.val] w fun e w' => ∃ a n c, e = .returned (.tuple #[(throughP o p.os p.f).1.val, .slice a n c, .int .i64 0]) ∧ OwnO w' w.heap.size (.slice a n c) (throughP o p.os p.f).2 ∧ Below w.heap.size w w'
  obtain ⟨n, hn⟩ : ∃ n, p.os.length = n := ⟨_, rfl⟩
  rw [hn] at HI c1 n4
  obtain ⟨f, hf⟩ : ∃ f, p.f = f := ⟨_, rfl⟩
  rw [hf] at c2
  rw [hf]
  generalize p.os = os at *
  obtain ⟨⟨rk, rp, rc, rq, rs⟩, h1⟩ : ∃ R, (throughP o os f).1 = R := ⟨_, rfl⟩
  obtain ⟨R2, h2⟩ : ∃ R, (throughP o os f).2 = R := ⟨_, rfl⟩
  have H1 := hd h1
  have H2 := hd h2
  rw [h1, h2]
  clear h1 h2
  obtain ⟨k, ps, c, q, s⟩ := o
  simp only [OpE.val]
  clear hK hSx hSm hSo hS hok hI hT ho hv hn hf hro
  go_enter Tryz.func66, Tryz.ntmps66
  go_wp2_with fail
  refine (valid_any k ps c q s _ HC.out.1 HC.out.2).mono ?_
  rintro e w1 ⟨rfl, hb⟩
  obtain ⟨hp, hr, hB, hz⟩ := two_of hb
  obtain ⟨⟨p0, p1, p2, p3, p4⟩, -⟩ := cells5 hp
  have x1 := (hB.cell (p := ⟨x, 1, none⟩) hxl).trans c1
  have x2 := (hB.cell (p := ⟨x, 2, none⟩) hxl).trans c2
  rw [HV.out]
  have C : Hid (∀ U, Below w1.heap.size w1 U → Calls Tryz.prog 79 #[.agg #[.int .i64 k, .int .i64 ps, .int .u8 c, .int .i64 q, .int .i64 s], .slice ao n co, .bool f] U fun e w' => ∃ a m cc, e = .returned (.tuple #[.agg #[.int .i64 rk, .int .i64 rp, .int .u8 rc, .int .i64 rq, .int .i64 rs], .slice a m cc, .int .i64 0]) ∧ OwnO w' w.heap.size (.slice a m cc) R2 ∧ Below w.heap.size w w' ∧ w'.heap[w.heap.size + 1]? = some (.cells #[.int .i64 0, .int .i64 0, .int .u8 0, .int .i64 0, .int .i64 0] 46 (0, 0)) ∧ ∀ W, Fr (· = w.heap.size + 1) w' W → OwnO W w.heap.size (.slice a m cc) R2 ∧ Below w.heap.size w W) := by
    intro U hU
    have bU : Below w.heap.size w U := hB.trans (hU.mono hB.size)
    refine (through_any ⟨k, ps, c, q, s⟩ ao n co os f U (HT.out.below bU HT.out.1) (HI.out.below bU) n4).mono ?_
    rintro e w' ⟨v, rfl, hO, b2⟩
    rw [H1.out]
    rw [H2.out] at hO
    obtain ⟨g, cg, hg, rfl, hR⟩ := hO
    have hsz := hU.size
    have hz1 := hB.size
    have X := (b2.block _ (by omega)).trans ((hU.block _ (by omega)).trans hr)
    have BW : Below w.heap.size w w' := bU.trans (b2.mono bU.size)
    refine ⟨_, _, _, rfl, ⟨g, cg, by omega, rfl, hR⟩, BW, X, fun W hW => ⟨⟨g, cg, by omega, rfl, hR.fr hW (by omega)⟩, BW.trans (hW.below BW.size (fun k h => by omega))⟩⟩
  have hzl := hz
  have hxl1 : x < w1.heap.size := by omega
  clear hb hp hr hB hz c1 c2
  go_wp2_with fail
  go_region_law (first | (go_simp; go_at_call 79; refine (C.out _ (by repeat (first | exact Below.refl _ _ | refine Below.drew ?_ | refine below_drewN ?_ _))).mono ?_; rintro ex w4 ⟨a4, n4', c4, rfl, g1, g2, g3, g4⟩; obtain ⟨⟨r0, r1, r2, r3, r4⟩, ⟨f0, f1, f2, f3, f4⟩⟩ := cells5 g3; have Z4 := hd g4; clear g1 g2 g3 g4))
  all_goals go_wp2
  all_goals refine bodyPost_ret (v := .tuple #[.agg #[.int .i64 rk, .int .i64 rp, .int .u8 rc, .int .i64 rq, .int .i64 rs], .slice a4 n4' c4, .int .i64 0]) (by simp [results, Tryz.results66, go_sem, r0, r1, r2, r3, r4]) rfl ?_
  all_goals exact ⟨_, _, _, rfl, Z4.out _ (Fr.set5 _ (w.heap.size + 1) 0 rk rp rc rq rs)⟩

end Go.Proofs.YtilidolbplglcaaGreatDoor

/-! Sh -/
namespace Go.Proofs.YtilidolbplglcaaGreatDoor
open Go.RowKit
set_option linter.unusedVariables false

theorem become_any (x : Nat) (f : Bool) (ms : List Int) (os : List OpE) (last : Int) (vm vo : Value) (βm βo : Option Nat) (a : Option Addr) (n c : Nat) (w : World) (h : SK w x f ms os last vm vo βm βo) :
    Calls Tryz.prog 67 #[.pointer (some ⟨x, 0, none⟩), .slice a n c] w fun e w' => e = .returned (.tuple #[]) ∧ w' = w.setCell ⟨x, 1, none⟩ (.slice a n c) := by
  have c1 := cell_row h.box 1
  have f1 := frozen_row h.box 1
  simp at c1
  clear h
  go_enter Tryz.func67, Tryz.ntmps67
  go_wp2
  refine bodyPost_end (v := .tuple #[]) (by simp [results, Tryz.results67, go_sem]) rfl ?_
  exact ⟨rfl, rfl⟩

theorem crossS_good {p : Sp} {o : OpE} (h : validP o = 0) : crossS p o = ⟨p.f, (thrQ o p.q p.f).2, p.last⟩ ∧ crossO p o = (thrQ o p.q p.f).1 := by
  simp [crossS, crossO, h]
theorem crossS_bad {p : Sp} {o : OpE} (h : validP o ≠ 0) : crossS p o = p ∧ crossO p o = zop := by
  simp [crossS, crossO, h]

set_option maxRecDepth 100000 in
set_option maxHeartbeats 4000000 in
set_option maxRecDepth 100000 in
set_option maxHeartbeats 4000000 in
theorem cross_bad (x : Nat) (p : Sp) (o : OpE) (S : Nat → Prop) (w : World) (h : SpAt w x p S) (ho : OkOp o) (hv : validP o ≠ 0) :
    Calls Tryz.prog 49 #[.pointer (some ⟨x, 0, none⟩), o.val] w fun e w' => e = .returned (.tuple #[zop.val, .int .i64 (validP o)]) ∧ Below w.heap.size w w' := by
  have C : Hid (∀ U, Below w.heap.size w U → Calls Tryz.prog 66 #[.pointer (some ⟨x, 0, none⟩), o.val] U fun e w' => e = .returned (.tuple #[zop.val, .slice none 0 0, .int .i64 (validP o)]) ∧ Below U.heap.size U w') := by
    intro U hU
    exact sthrough_bad x p o S U (h.below hU) ho hv
  have hv' : (validP o == 0) = false := by simpa using hv
  generalize validP o = V at *
  obtain ⟨k, ps, c, q, s⟩ := o
  simp only [OpE.val, zop] at C ⊢
  clear h ho
  go_enter Tryz.func49, Tryz.ntmps49
  go_wp2_with fail
  refine (C.out _ (((Below.refl _ _).alloc (Nat.le_refl _) _).alloc (by simp) _)).mono ?_
  rintro e w1 ⟨rfl, hb⟩
  obtain ⟨hp, hr, hB, hz⟩ := two_of hb
  obtain ⟨⟨r0, r1, r2, r3, r4⟩, ⟨f0, f1, f2, f3, f4⟩⟩ := cells5 hr
  have m1 : w.heap.size + 1 < w1.heap.size := by omega
  have HB := hd hB
  have n1 : ¬ (w1.heap.size = w.heap.size + 1) := by omega
  have n2 : ¬ (w.heap.size + 1 = w1.heap.size) := by omega
  have B5 : Hid (∀ W, Fr (· = w.heap.size + 1) w1 W → Below w.heap.size w (W.alloc (.cells #[.int .i64 0, .int .i64 0, .int .u8 0, .int .i64 0, .int .i64 0] 46))) := fun W h => (hB.trans (h.below hB.size (fun k h => by omega))).alloc (Nat.le_trans hB.size h.size) _
  clear hb hp hr hB hz C HB
  go_wp2
  refine bodyPost_ret (v := .tuple #[.agg #[.int .i64 0, .int .i64 0, .int .u8 0, .int .i64 0, .int .i64 0], .int .i64 V]) (by simp [results, Tryz.results49, go_sem, r0, r1, r2, r3, r4, m1]) rfl ?_
  exact ⟨rfl, B5.out _ (Fr.set5 w1 (w.heap.size + 1) 0 0 0 0 0 0)⟩

/-- A new row of operations, with the blocks told. -/
theorem now_opsX {w w' : World} {x : Nat} {f : Bool} {ms : List Int} {os : List OpE} {last : Int} {vm vo : Value} {βm βo : Option Nat} {v' : Value} {os' : List OpE} {g' : Nat} (h : SK w x f ms os last vm vo βm βo)
    (h1 : SF opc 5 w' 46 (some g') v' os') (h2 : w.heap.size ≤ g') (h3 : Below w.heap.size w w') : RAt (w'.setCell ⟨x, 1, none⟩ v') x f ms os' last (fun k => k = x ∨ k = g' ∨ βm = some k) := by
  have hxu : x < w.heap.size := block_lt h.box
  have hK := h.below h3
  have hF : Fr (· = x) w' (w'.setCell ⟨x, 1, none⟩ v') := Fr.setCell _ _ _ rfl
  have hsz3 := hF.size
  have hsz := h3.size
  refine ⟨vm, v', βm, some g', ⟨?_, hK.rm.fr hF (fun g hg he => h.m_ne (he ▸ hg)), h1.fr hF (fun g hg => by injection hg with hg; omega)⟩, .inl rfl, fun g hg => .inr (.inr hg), fun g hg => by injection hg with hg; exact .inr (.inl hg.symm), ?_⟩
  · have := set_row hK.box 1 v'
    simpa using this
  · rintro k (rfl | rfl | hk)
    · omega
    · have := h1.lt _ rfl; omega
    · have := hK.rm.lt _ hk; omega

set_option maxRecDepth 100000 in
set_option maxHeartbeats 4000000 in
theorem cross_good (x : Nat) (p : Sp) (o : OpE) (S : Nat → Prop) (w : World) (h : SpAt w x p S) (hT : Table w) (ho : OkOp o) (hv : validP o = 0) :
    Calls Tryz.prog 49 #[.pointer (some ⟨x, 0, none⟩), o.val] w fun e w' => e = .returned (.tuple #[(thrQ o p.q p.f).1.val, .int .i64 0]) ∧ Now w w' x ⟨p.f, (thrQ o p.q p.f).2, p.last⟩ S := by
  have HOK := hd (crossS_ok h.2 o)
  rw [(crossS_good hv).1] at HOK
  have hms : (thrQ o p.q p.f).2.map (·.1) = p.ms := thrQ_m _ _ _
  obtain ⟨L2, hL2⟩ : ∃ L, (thrQ o p.q p.f).2.map (·.2) = L := ⟨_, rfl⟩
  have C : Hid (∀ U, Below w.heap.size w U → Calls Tryz.prog 66 #[.pointer (some ⟨x, 0, none⟩), o.val] U fun e w' => ∃ a n c, e = .returned (.tuple #[(thrQ o p.q p.f).1.val, .slice a n c, .int .i64 0]) ∧ OwnO w' U.heap.size (.slice a n c) L2 ∧ Below U.heap.size U w') := by
    intro U hU
    rw [← hL2]
    exact sthrough_good x p o S U (h.below hU) (hT.below hU hT.1) ho hv
  have HH := hd h
  have HMS := hd (And.intro hms hL2)
  generalize (thrQ o p.q p.f).2 = R2 at *
  generalize (thrQ o p.q p.f).1 = R at *
  obtain ⟨rk, rp, rc, rq, rs⟩ := R
  obtain ⟨k, ps, c, q, s⟩ := o
  simp only [OpE.val] at C ⊢
  clear h hT ho hv hms hL2
  go_enter Tryz.func49, Tryz.ntmps49
  go_wp2_with fail
  refine (C.out _ (((Below.refl _ _).alloc (Nat.le_refl _) _).alloc (by simp) _)).mono ?_
  rintro e w1 ⟨a, n, c', rfl, hO, hb⟩
  obtain ⟨hp, hr, hB, hz⟩ := two_of hb
  obtain ⟨g, cg, hg, hsl, hRow⟩ := hO
  have hg2 : w.heap.size + 2 ≤ g := by simpa using hg
  injection hsl with e1 e2 e3
  subst e1
  subst e3
  obtain ⟨⟨vm, vo, βm, βo, hK, hSx, hSm, hSo, hS⟩, hok⟩ := HH.out
  have bA : Below w.heap.size w (w1.alloc (.cells #[.int .i64 rk, .int .i64 rp, .int .u8 rc, .int .i64 rq, .int .i64 rs] 46)) := hB.alloc hB.size _
  have RA : RowO (w1.alloc (.cells #[.int .i64 rk, .int .i64 rp, .int .u8 rc, .int .i64 rq, .int .i64 rs] 46)) g L2.length c' L2 := hRow.fr (S := fun _ => False) (Fr.alloc _ w1 _) (fun h => h)
  have X := now_opsX (v' := .slice (some ⟨g, 0, none⟩) n c') (os' := L2) hK ⟨c', by rw [e2], RA⟩ (by omega) bA
  have hxl := block_lt hK.box
  have hFx : Fr (· = x) (w1.alloc (.cells #[.int .i64 rk, .int .i64 rp, .int .u8 rc, .int .i64 rq, .int .i64 rs] 46)) ((w1.alloc (.cells #[.int .i64 rk, .int .i64 rp, .int .u8 rc, .int .i64 rq, .int .i64 rs] 46)).setCell ⟨x, 1, none⟩ (.slice (some ⟨g, 0, none⟩) n c')) := Fr.setCell _ _ _ rfl
  obtain ⟨W2, hW2⟩ : ∃ W, W = (w1.alloc (.cells #[.int .i64 rk, .int .i64 rp, .int .u8 rc, .int .i64 rq, .int .i64 rs] 46)).setCell ⟨x, 1, none⟩ (.slice (some ⟨g, 0, none⟩) n c') := ⟨_, rfl⟩
  rw [← hW2] at X hFx
  have rA : (w1.alloc (.cells #[.int .i64 rk, .int .i64 rp, .int .u8 rc, .int .i64 rq, .int .i64 rs] 46)).heap[w.heap.size + 1]? = some (.cells #[.int .i64 0, .int .i64 0, .int .u8 0, .int .i64 0, .int .i64 0] 46 (0, 0)) := (((Below.refl w1.heap.size w1).alloc (Nat.le_refl _) _).block _ (by omega)).trans hr
  have rB := hFx.keeps rA (by omega)
  have qB := hFx.keeps (heap_alloc_new w1 (.cells #[.int .i64 rk, .int .i64 rp, .int .u8 rc, .int .i64 rq, .int .i64 rs] 46)) (by omega)
  obtain ⟨⟨r0, r1, r2, r3, r4⟩, ⟨f0, f1, f2, f3, f4⟩⟩ := cells5 rB
  obtain ⟨⟨q0, q1, q2, q3, q4⟩, -⟩ := cells5 qB
  have Z : Hid (∀ W, Fr (· = w.heap.size + 1) W2 W → Now w W x ⟨p.f, R2, p.last⟩ S) := by
    intro W hW
    have X2 := X.fr hW (fun k hk => by
      rcases hk with rfl | rfl | hk
      · omega
      · omega
      · have := hS k (hSm k hk); omega)
    have hF2 : Fr S w W2 := (Fr.of_below bA).trans (hFx.mono (fun k _ hk => by rw [hk]; exact hSx))
    refine ⟨fun k => k = x ∨ k = g ∨ βm = some k, ⟨?_, HOK.out⟩, fun k hk => ?_, hF2.next hW (fun k hk h => by omega)⟩
    · show RAt W x p.f (R2.map (·.1)) (R2.map (·.2)) p.last _
      rw [HMS.out.1, HMS.out.2]
      exact X2
    · rcases hk with rfl | rfl | hk
      · exact .inl hSx
      · exact .inr (by omega)
      · exact .inl (hSm k hk)
  have KA := hd (hK.below bA)
  have HCL := hd (And.intro (And.intro r0 (And.intro r1 (And.intro r2 (And.intro r3 r4)))) (And.intro (And.intro f0 (And.intro f1 (And.intro f2 (And.intro f3 f4)))) (And.intro q0 (And.intro q1 (And.intro q2 (And.intro q3 q4))))))
  have HW2 := hd hW2
  have n1 : ¬ (w1.heap.size = w.heap.size + 1) := by omega
  have n2 : ¬ (w.heap.size + 1 = w1.heap.size) := by omega
  clear hb hp hr hB hz C hRow hK hSx hSm hSo hS hok bA RA X hFx hW2 rA rB qB r0 r1 r2 r3 r4 f0 f1 f2 f3 f4 q0 q1 q2 q3 q4 hg hg2 e2 hxl
  go_wp2_with fail
  refine (become_any x _ _ _ _ _ _ _ _ _ _ _ _ KA.out).mono ?_
  rintro e w2 ⟨rfl, hw2⟩
  rw [← HW2.out] at hw2
  subst hw2
  obtain ⟨⟨r0, r1, r2, r3, r4⟩, ⟨f0, f1, f2, f3, f4⟩, q0, q1, q2, q3, q4⟩ := HCL.out
  clear HCL KA
  go_wp2
  refine bodyPost_ret (v := .tuple #[.agg #[.int .i64 rk, .int .i64 rp, .int .u8 rc, .int .i64 rq, .int .i64 rs], .int .i64 0]) (by simp [results, Tryz.results49, go_sem, r0, r1, r2, r3, r4]) rfl ?_
  exact ⟨rfl, Z.out _ (Fr.set5 _ (w.heap.size + 1) 0 rk rp rc rq rs)⟩

theorem cross_any (x : Nat) (p : Sp) (o : OpE) (S : Nat → Prop) (w : World) (h : SpAt w x p S) (hT : Table w) (ho : OkOp o) :
    Calls Tryz.prog 49 #[.pointer (some ⟨x, 0, none⟩), o.val] w fun e w' => e = .returned (.tuple #[(crossO p o).val, .int .i64 (validP o)]) ∧ Now w w' x (crossS p o) S := by
  by_cases hv : validP o = 0
  · rw [(crossS_good hv).1, (crossS_good hv).2, hv]
    exact cross_good x p o S w h hT ho hv
  · rw [(crossS_bad hv).1, (crossS_bad hv).2]
    refine (cross_bad x p o S w h ho hv).mono ?_
    rintro e w' ⟨rfl, b⟩
    exact ⟨rfl, Now.of_below h b⟩

section
variable {w0 w w' : World} {K : Nat → Prop} {F : Nat → Thg} {x : Nat} {p : Sp}
theorem MO.table (h : MO w0 w K F) (hT : Table w0) : Table w := hT.below h.base hT.1
theorem mo_cross (h : MO w0 w K F) (i : Nat) (hi : F i = spO x p) (hT : Table w0) (o : OpE) (ho : OkOp o) : Calls Tryz.prog 49 #[.pointer (some ⟨x, 0, none⟩), o.val] w fun e w' => e = .returned (.tuple #[(crossO p o).val, .int .i64 (validP o)]) ∧ MO w0 w' K (setO F i (spO x (crossS p o))) ∧ KP K w w' := by
  obtain ⟨S, h1, h2⟩ := h.now i
  rw [hi] at h1
  refine (cross_any x p o S w h1 (h.table hT) ho).mono ?_
  rintro e w' ⟨rfl, S', h3, h4, h5⟩
  exact ⟨rfl, h2 _ w' S' (frm_sp _ _) h3 h4 h5⟩

end

end Go.Proofs.YtilidolbplglcaaGreatDoor

/-! Ka -/
namespace Go.Proofs.YtilidolbplglcaaGreatDoor
open Go.RowKit Go.Maps Go.ChangeMaps Go.MapKept Go.WideMaps
set_option linter.unusedVariables false

set_option maxRecDepth 100000 in
set_option maxHeartbeats 4000000 in
theorem growth_any (a : Option Addr) (n c : Nat) (os : List OpE) (w : World) (hE : IsO w a n c os) (hn : n ≤ 100000) :
    Calls Tryz.prog 61 #[.slice a n c] w fun e w' => e = .returned (.int .i64 (grL os)) ∧ Below w.heap.size w w' := by
  have HE := hd hE
  have HL := hd hE.1
  clear hE
  go_enter Tryz.func61, Tryz.ntmps61
  go_wp2_with fail
  go_loopw [3, 8] (fun v i wr => ∃ q : Nat, q ≤ n ∧ v = .int .i64 (grL (os.take q)) ∧ i = .int .i64 (q : Int) ∧ Hid (Below w.heap.size w wr)) (fun _ i _ => n - (intOf i).toNat)
  case atStart => exact ⟨0, Nat.zero_le _, by simp [grL_nil], rfl, Below.refl _ _⟩
  case round =>
    obtain ⟨q, hq, rfl, rfl, HB⟩ := hrel
    by_cases hql : q < n
    · have hqf : q < os.length := by have := HL.out; omega
      obtain ⟨bF, oF, haF, lbF⟩ := HE.out.addr (by omega)
      subst haF
      have hcs := (HE.out.fr (Fr.of_below (S := fun _ => False) (HB.out.mono (Nat.le_refl _))) (fun _ _ _ _ h => h)).at q hql hqf
      have hg1 := grL_take hqf
      have hg2 := grL_take_le os q
      obtain ⟨⟨xk, xp, xc, xl, xs⟩, hx⟩ : ∃ x, os[q] = x := ⟨_, rfl⟩
      rw [hx] at hcs hg1
      obtain ⟨x0, x1, x2, x3, x4⟩ := hcs
      simp only at x0 x1 x2 x3 x4
      rw [HL.out] at hg2
      obtain ⟨ga, hga⟩ : ∃ z, grL (os.take q) = z := ⟨_, rfl⟩
      rw [hga] at hg1 hg2 ⊢
      have i1 : (q : Int) < (n : Int) := by omega
      have hw1 : wrap64 (ga + 1) = ga + 1 := by rw [wrap64]; omega
      have hw2 : wrap64 (ga - 1) = ga - 1 := by rw [wrap64]; omega
      have hmeas : n - (q + 1) < n - q := by omega
      have HG := hd hg1
      have HB2 := hd (HB.out.alloc HB.out.size (.cells #[.int .i64 xk, .int .i64 xp, .int .u8 xc, .int .i64 xl, .int .i64 xs] 46))
      clear hx hga hg1
      by_cases k1 : xk = 1
      · subst k1
        go_wp2_with fail
        exact ⟨⟨q + 1, by omega, by rw [HG.out]; simp [gr], by go_num, HB2⟩, by simp [intOf]; omega⟩
      · by_cases k2 : xk = 2
        · subst k2
          go_wp2_with fail
          exact ⟨⟨q + 1, by omega, by rw [HG.out]; simp [gr]; omega, by go_num, HB2⟩, by simp [intOf]; omega⟩
        · have e1 : (xk == 1) = false := by simpa using k1
          have e2 : (xk == 2) = false := by simpa using k2
          go_wp2_with fail
          exact ⟨⟨q + 1, by omega, by rw [HG.out]; simp [gr, k1, k2], by go_num, HB2⟩, by simp [intOf]; omega⟩
    · obtain rfl : q = n := by omega
      have i1 : ¬ ((q : Int) < (q : Int)) := by omega
      have e : os.take q = os := List.take_of_length_le (by have := HL.out; omega)
      rw [e]
      go_wp2_with fail
      go_ret
      exact ⟨rfl, HB.out⟩

end Go.Proofs.YtilidolbplglcaaGreatDoor
