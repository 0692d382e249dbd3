/-
  SpaceLooks: the walk.
-/
import Derived.Test.YtmbnimlibnheeaaDoorSh
namespace Go.Proofs.YtmbnimlibnheeaaDoor
open Go.RowKit
set_option linter.unusedVariables false

section
variable {w0 w w' : World} {K : Nat → Prop} {F : Nat → Thg} {x : Nat} {p : Sp}
theorem mb_queue (h : MO w0 w K F) (i : Nat) (hi : F i = spO x p) : Calls Tryd.prog 10 #[.pointer (some ⟨x, 0, none⟩)] w fun e w' => ∃ u, e = .returned u ∧ ML w' w.heap.size u p.q ∧ Below w.heap.size w w' := by
  obtain ⟨S, h1, -⟩ := h.now i
  rw [hi] at h1
  exact queue_any x p S w h1
theorem mb_look (h : MO w0 w K F) (i : Nat) (hi : F i = spO x p) (hT : Table w0) (o : OpE) (ho : OkOp o) : Calls Tryd.prog 18 #[.pointer (some ⟨x, 0, none⟩), o.val] w fun e w' => e = .returned (.tuple #[(crossO p o).val, .int .i64 (validP o)]) ∧ Below w.heap.size w w' := by
  obtain ⟨S, h1, -⟩ := h.now i
  rw [hi] at h1
  exact look_any x p o S w h1 (h.table hT) ho
end

theorem shiftP_tag (a b : OpE) (f : Bool) : (shiftP a b f).cl = a.cl ∧ (shiftP a b f).sq = a.sq := by
  unfold shiftP
  repeat' split
  all_goals exact ⟨rfl, rfl⟩
theorem thrQ_get (l : List (Int × OpE)) : ∀ o f i (h : i < l.length) (h' : i < (thrQ o l f).2.length), ((thrQ o l f).2[i]).1 = l[i].1 ∧ ((thrQ o l f).2[i]).2.cl = l[i].2.cl ∧ ((thrQ o l f).2[i]).2.sq = l[i].2.sq := by
  induction l with
  | nil => intro o f i h; simp at h
  | cons x l ih =>
    intro o f i h h'
    cases i with
    | zero => simp only [thrQ, List.getElem_cons_zero]; exact ⟨trivial, (shiftP_tag _ _ _).1, (shiftP_tag _ _ _).2⟩
    | succ i =>
      simp only [thrQ, List.getElem_cons_succ]
      exact ih _ _ _ _ _
/-- A space of n marks 3, 6, .. -/
def Lk (n : Nat) (p : Sp) : Prop := p.q.length = n ∧ p.last = 3 * (n : Int) ∧ ∀ i (h : i < p.q.length), (p.q[i]).1 = 3 * ((i : Int) + 1)
theorem Lk.cross {n : Nat} {p : Sp} (h : Lk n p) (o : OpE) : Lk n (crossS p o) ∧ ∀ i (h1 : i < (crossS p o).q.length) (h2 : i < p.q.length), ((crossS p o).q[i]).2.cl = p.q[i].2.cl ∧ ((crossS p o).q[i]).2.sq = p.q[i].2.sq := by
  by_cases hv : validP o = 0
  · rw [(crossS_good hv).1]
    have hl : (thrQ o p.q p.f).2.length = p.q.length := thrQ_len _ _ _
    refine ⟨⟨hl.trans h.1, h.2.1, fun i hi => ?_⟩, fun i h1 h2 => (thrQ_get p.q o p.f i h2 h1).2⟩
    have hi2 : i < p.q.length := by simp only at hi; omega
    exact ((thrQ_get p.q o p.f i hi2 hi).1).trans (h.2.2 i hi2)
  · rw [(crossS_bad hv).1]
    exact ⟨h, fun i h1 h2 => ⟨rfl, rfl⟩⟩
theorem Lk.fill (f : Bool) (L : List OpE) : Lk L.length (fillP f 3 L) := by
  refine ⟨qOf_len _ _ _, by simp [fillP]; omega, fun i h => ?_⟩
  simp only [fillP]
  rw [qOf_get]
  simp
  omega

set_option maxRecDepth 100000 in
set_option maxHeartbeats 8000000 in
theorem spaceLooks_any (f : Bool) (a : Option Addr) (N c : Nat) (a2 : Option Addr) (N2 c2 : Nat) (xs ys : List OpE) (w : World) (hT : Table w) (hE : IsO w a N c xs) (hO : OkO xs) (hE2 : IsO w a2 N2 c2 ys) (hO2 : OkO ys) :
    Calls Tryd.prog 5 #[.bool f, .slice a N c, .slice a2 N2 c2] w fun e w' => e = .returned (.bool true) ∧ Below w.heap.size w w' := by
  have HT := hd hT
  have HE := hd hE
  have HO := hd hO
  have HE2 := hd hE2
  have HO2 := hd hO2
  have HN2 := hd hE2.1
  have hc1 : N2 ≤ c2 := hE2.2.1
  have hc2 : c2 ≤ 9223372036854775807 := hE2.2.2.1
  clear hT hE hO hE2 hO2
  go_enter Tryd.func5, Tryd.ntmps5
  go_wp2_with fail
  refine (filled_3 0 f a N c xs (MO.nil w) HE.out HO.out).mono ?_
  rintro e w1 ⟨x, n, L, rfl, hn, hn6, -, hM1, -⟩
  have S0 : Hid (∃ p, MO w w1 NoK (setO (fun _ => noObj) 0 (spO x p)) ∧ Lk n p) := ⟨_, hM1, by rw [hn]; exact Lk.fill f L⟩
  clear HE HO hM1 hn
  go_wp2
  go_loopw [10] (fun u wr => ∃ j : Nat, j ≤ N2 ∧ j ≤ 60 ∧ u = .int .i64 j ∧ Hid (∃ p, MO w wr NoK (setO (fun _ => noObj) 0 (spO x p)) ∧ Lk n p)) (fun u _ => N2 - (intOf u).toNat)
  case atStart => exact ⟨0, Nat.zero_le _, by omega, rfl, S0⟩
  case round =>
    obtain ⟨j, hj, hj6, rfl, hr⟩ := hrel
    clear S0
    by_cases hlt : j < N2 ∧ j < 60
    · obtain ⟨hlt, hlt6⟩ := hlt
      obtain ⟨p, hM, hLk⟩ := hr.out
      have jx : j < ys.length := by have := HN2.out; omega
      obtain ⟨b, off, rfl, hbl⟩ := HE2.out.addr (by omega)
      have hok := HO2.out ys[j] (List.getElem_mem jx)
      have HC : Hid (∀ W, Below w.heap.size w W → W.cell? ⟨b, off + j * 5, none⟩ = some (.int .i64 ys[j].kind) ∧ W.cell? ⟨b, off + j * 5 + 1, none⟩ = some (.int .i64 ys[j].pos) ∧ W.cell? ⟨b, off + j * 5 + 2, none⟩ = some (.int .u8 ys[j].ch) ∧ W.cell? ⟨b, off + j * 5 + 3, none⟩ = some (.int .i64 ys[j].cl) ∧ W.cell? ⟨b, off + j * 5 + 4, none⟩ = some (.int .i64 ys[j].sq)) :=
        fun W hW => (HE2.out.fr (S := fun _ => False) ⟨hW.os, hW.tape, hW.output, hW.size, fun k hk _ => hW.block k hk⟩ (fun _ _ _ _ h => h)).at j hlt jx
      have HK := hd hok
      obtain ⟨hLk2, htag⟩ := hLk.cross ys[j]
      have HM := hd hM
      have HL1 := hd hLk
      have HL2 := hd hLk2
      have HTG := hd htag
      have CL : Hid (∀ W, MO w W NoK (setO (fun _ => noObj) 0 (spO x p)) → Calls Tryd.prog 18 #[.pointer (some ⟨x, 0, none⟩), ys[j].val] W fun e w' => e = .returned (.tuple #[(crossO p ys[j]).val, .int .i64 (validP ys[j])]) ∧ Below W.heap.size W w') := fun W hW => mb_look hW 0 (setO_same _ _ _) HT.out ys[j] hok
      have CC : Hid (∀ W K, MO w W K (setO (fun _ => noObj) 0 (spO x p)) → Calls Tryd.prog 12 #[.pointer (some ⟨x, 0, none⟩), ys[j].val] W fun e w' => e = .returned (.tuple #[(crossO p ys[j]).val, .int .i64 (validP ys[j])]) ∧ MO w w' K (setO (fun _ => noObj) 0 (spO x (crossS p ys[j]))) ∧ KP K W w') := fun W K hW => by
        refine (mo_cross hW 0 (setO_same _ _ _) HT.out ys[j] hok).mono ?_
        rintro e w' ⟨rfl, h1, h2⟩
        rw [setO_twice] at h1
        exact ⟨rfl, h1, h2⟩
      have CV : Hid (∀ W, Calls Tryd.prog 13 #[ys[j].val] W fun e w' => e = .returned (.int .i64 (validP ys[j])) ∧ Below W.heap.size W w') := fun W => valid_any _ _ _ _ _ W hok.1 hok.2
      have HBD : Hid (validP ys[j] ≠ 0 → crossS p ys[j] = p ∧ crossO p ys[j] = zop) := fun h => crossS_bad h
      clear hr hM hLk hLk2 htag hok
      generalize validP ys[j] = V at *
      generalize crossS p ys[j] = p2 at *
      generalize crossO p ys[j] = R at *
      generalize ys[j] = z at *
      obtain ⟨zk, zp, zc, zl, zs⟩ := z
      obtain ⟨rk, rp, rc, rq, rs⟩ := R
      simp only [OpE.val] at CL CC CV HC
      have i1 : (j : Int) < (N2 : Int) := by omega
      have i2 : (j : Int) < 60 := by omega
      clear jx HK
      go_wp2_with fail
      refine (mb_queue HM.out 0 (setO_same _ _ _)).mono ?_
      rintro e wA ⟨u, rfl, hA, bA⟩
      obtain ⟨gb, cb, rfl, hRb, hgb, hcb1, hcb2⟩ := hA.form
      rw [HL1.out.1] at hRb hcb2 ⊢
      have HRb := hd hRb
      have HGb := hd hgb
      have MA := hd (HM.out.below bA)
      have BA := hd bA
      obtain ⟨p0, p1, p2', p3, p4⟩ := HC.out wA (HM.out.base.trans (bA.mono HM.out.base.size))
      clear hA bA hRb hgb
      go_wp2_with fail
      refine (CL.out wA MA.out).mono ?_
      rintro e wB ⟨rfl, bB⟩
      have bB2 : Below wA.heap.size wA (wB.alloc (.cells #[.int .i64 rk, .int .i64 rp, .int .u8 rc, .int .i64 rq, .int .i64 rs] 29)) := bB.alloc bB.size _
      have X12 := heap_alloc_new wB (.cells #[.int .i64 rk, .int .i64 rp, .int .u8 rc, .int .i64 rq, .int .i64 rs] 29)
      have MB := hd (MA.out.below bB2)
      have BB := hd (BA.out.trans (bB2.mono BA.out.size))
      have HB12 : Hid (wr.heap.size ≤ wB.heap.size) := Nat.le_trans BA.out.size bB.size
      have RB := hd (HRb.out.fr (S := fun _ => False) (Fr.of_below bB2) (fun h => h))
      have HX12 := hd X12
      clear bB bB2 X12 p0 p1 p2' p3 p4 HRb MA BA CL
      go_wp2_with fail
      refine (mb_queue MB.out 0 (setO_same _ _ _)).mono ?_
      rintro e wC ⟨u, rfl, hA, bC⟩
      obtain ⟨gc, cc, rfl, hRc, -, hcc1, hcc2⟩ := hA.form
      rw [HL1.out.1] at hRc hcc2 ⊢
      have CQ : Hid (Calls Tryd.prog 15 #[.slice (some ⟨gc, 0, none⟩) n cc, .slice (some ⟨gb, 0, none⟩) n cb] wC fun e w' => e = .returned (.bool true) ∧ Below wC.heap.size wC w') := queues_true _ _ n cc cb p.q wC hRc.isK ((RB.out.fr (S := fun _ => False) (Fr.of_below bC) (fun h => h)).isK)
      have MC := hd (MB.out.below bC)
      have BC := hd (BB.out.trans (bC.mono BB.out.size))
      have RC := hd (RB.out.fr (S := fun _ => False) (Fr.of_below bC) (fun h => h))
      have XC := hd ((bC.block _ (by simp)).trans HX12.out)
      clear hA bC hRc MB BB RB HX12
      go_wp2_with fail
      refine CQ.out.mono ?_
      rintro e wD ⟨rfl, bD⟩
      have BD := hd (BC.out.trans (bD.mono BC.out.size))
      have RD := hd (RC.out.fr (S := fun _ => False) (Fr.of_below bD) (fun h => h))
      have XD := hd ((bD.block _ (block_lt XC.out)).trans XC.out)
      have MD := hd (HM.out.adds (K' := fun k => wr.heap.size ≤ k ∧ k < wD.heap.size) BD.out (fun k hk => .inr hk.1) (fun k hk => hk.2))
      have hB12 : wr.heap.size ≤ wB.heap.size := HB12.out
      obtain ⟨p0, p1, p2', p3, p4⟩ := HC.out wD (HM.out.base.trans (BD.out.mono HM.out.base.size))
      have BDb := hd (HM.out.base.trans (BD.out.mono HM.out.base.size))
      clear bD CQ MC BC RC XC
      go_wp2_with fail
      refine (CC.out wD _ MD.out).mono ?_
      rintro e wE ⟨rfl, hME, kE⟩
      have hgE : wE.heap[gb]? = wD.heap[gb]? := kE gb ⟨HGb.out, RD.out.lt⟩
      have RE0 : RowF mkd 6 wE gb n cb 39 p.q := by
        obtain ⟨cur, hh, r⟩ := RD.out
        exact ⟨cur, hgE.trans hh, r⟩
      have XE0 := (kE wB.heap.size ⟨hB12, block_lt XD.out⟩).trans XD.out
      have bE : Below wE.heap.size wE (wE.alloc (.cells #[.int .i64 rk, .int .i64 rp, .int .u8 rc, .int .i64 rq, .int .i64 rs] 29)) := (Below.refl _ _).alloc (Nat.le_refl _) _
      have ME := hd ((hME.less (K' := NoK) (fun k hk => hk.elim)).below bE)
      have RE := hd (RE0.fr (S := fun _ => False) (Fr.of_below bE) (fun h => h))
      have XE := hd ((bE.block _ (block_lt XE0)).trans XE0)
      have YE := hd (heap_alloc_new wE (.cells #[.int .i64 rk, .int .i64 rp, .int .u8 rc, .int .i64 rq, .int .i64 rs] 29))
      clear hME kE hgE RE0 XE0 bE p0 p1 p2' p3 p4 MD BD RD XD CC HM hB12 HGb
      go_wp2_with fail
      refine (mb_queue ME.out 0 (setO_same _ _ _)).mono ?_
      rintro e wF ⟨u, rfl, hA, bF⟩
      obtain ⟨ga, ca, rfl, hRa, -, hca1, hca2⟩ := hA.form
      rw [HL2.out.1] at hRa hca2 ⊢
      have MF := hd (ME.out.below bF)
      have RF := hd (RE.out.fr (S := fun _ => False) (Fr.of_below bF) (fun h => h))
      have XF := hd ((bF.block _ (block_lt XE.out)).trans XE.out)
      have YF := hd ((bF.block _ (block_lt YE.out)).trans YE.out)
      have AF := hd hRa
      obtain ⟨p0, p1, p2', p3, p4⟩ := HC.out wF MF.out.base
      clear hA bF hRa ME RE XE YE
      go_wp2_with fail
      refine (CV.out wF).mono ?_
      rintro e wG ⟨rfl, bG⟩
      have MG := hd (MF.out.below bG)
      have RG := hd (RF.out.fr (S := fun _ => False) (Fr.of_below bG) (fun h => h))
      have AG := hd (AF.out.fr (S := fun _ => False) (Fr.of_below bG) (fun h => h))
      have XG := (bG.block _ (block_lt XF.out)).trans XF.out
      have YG := (bG.block _ (block_lt YF.out)).trans YF.out
      obtain ⟨⟨a0, a1, a2', a3, a4⟩, -⟩ := cells5 XG
      obtain ⟨⟨b0, b1, b2', b3, b4⟩, -⟩ := cells5 YG
      have HXG := hd XG
      clear bG XG YG MF RF AF XF YF p0 p1 p2' p3 p4 CV HC
      go_wp2_with fail
      refine (one_true ⟨rk, rp, rc, rq, rs⟩ wG).mono ?_
      rintro e wH ⟨rfl, bH⟩
      have MH := hd (MG.out.below bH)
      have RH := hd (RG.out.fr (S := fun _ => False) (Fr.of_below bH) (fun h => h))
      have AH := hd (AG.out.fr (S := fun _ => False) (Fr.of_below bH) (fun h => h))
      have XH := (bH.block _ (block_lt HXG.out)).trans HXG.out
      obtain ⟨⟨d0, d1, d2', d3, d4⟩, -⟩ := cells5 XH
      have hAB : Hid (∀ k (h1 : k < p.q.length) (h2 : k < p2.q.length), p2.q[k].1 = 3 * ((k : Int) + 1) ∧ p2.q[k].2.cl = p.q[k].2.cl ∧ p2.q[k].2.sq = p.q[k].2.sq) := fun k h1 h2 => ⟨HL2.out.2.2 k h2, HTG.out k h2 h1⟩
      clear bH XH MG RG AG HXG a0 a1 a2' a3 a4 b0 b1 b2' b3 b4 HTG
      by_cases hv : V = 0
      · subst hv
        have MX := MH
        have RX := RH
        have AX := AH
        clear d0 d1 d2' d3 d4 HBD MH RH AH
        go_wp2
        go_loopw [17] (fun u wq => ∃ k : Nat, k ≤ n ∧ u = .int .i64 k ∧ Hid (Below wH.heap.size wH wq)) (fun u _ => n - (intOf u).toNat)
        case atStart => exact ⟨0, Nat.zero_le _, rfl, Below.refl _ _⟩
        case round =>
          obtain ⟨k, hk, rfl, HB⟩ := hrel
          by_cases hkn : k < n
          · have k1 : k < p.q.length := by have := HL1.out.1; omega
            have k2 : k < p2.q.length := by have := HL2.out.1; omega
            obtain ⟨t1, t2, t3⟩ := hAB.out k k1 k2
            have Rq := RX.out.fr (S := fun _ => False) (Fr.of_below HB.out) (fun h => h)
            have Aq := AX.out.fr (S := fun _ => False) (Fr.of_below HB.out) (fun h => h)
            have s0 := Aq.cell sz_mkd k 0 k2 (by omega)
            have s4 := Aq.cell sz_mkd k 4 k2 (by omega)
            have s5 := Aq.cell sz_mkd k 5 k2 (by omega)
            have u4 := Rq.cell sz_mkd k 4 k1 (by omega)
            have u5 := Rq.cell sz_mkd k 5 k1 (by omega)
            simp [mkd] at s0 s4 s5 u4 u5
            rw [t1] at s0
            rw [t2] at s4
            rw [t3] at s5
            generalize p.q[k] = pk at *
            obtain ⟨pm, qk, qp, qc, ql, qs⟩ := pk
            simp only at s0 s4 s5 u4 u5
            have i3 : (k : Int) < (n : Int) := by omega
            clear k1 k2 t1 t2 t3 Rq Aq
            go_wp2_with fail
            go_quiet (fail)
            go_wp2
            exact ⟨⟨k + 1, by omega, by go_num, by repeat (first | exact HB.out | refine Below.drew ?_ | refine below_drewN ?_ _)⟩, by simp [intOf]; omega⟩
          · have i3 : ¬ (k : Int) < (n : Int) := by omega
            have Z : Hid (∃ p, MO w wr NoK (setO (fun _ => noObj) 0 (spO x p)) ∧ Lk n p) := ⟨p2, MX.out.below HB.out, HL2.out⟩
            go_wp2
            exact ⟨⟨j + 1, by omega, by omega, by go_num, Z⟩, by simp [intOf]; omega⟩
      · have hv' : (V == 0) = false := by simpa using hv
        obtain ⟨e1, e2⟩ := HBD.out hv
        simp only [zop, OpE.mk.injEq] at e2
        obtain ⟨rfl, rfl, rfl, rfl, rfl⟩ := e2
        have CQ : Hid (Calls Tryd.prog 15 #[.slice (some ⟨gb, 0, none⟩) n cb, .slice (some ⟨ga, 0, none⟩) n ca] wH fun e w' => e = .returned (.bool true) ∧ Below wH.heap.size wH w') := queues_true _ _ n cb ca p.q wH RH.out.isK (by have := AH.out.isK; rwa [e1] at this)
        clear HBD e1
        go_wp2_with fail
        refine CQ.out.mono ?_
        rintro e wI ⟨rfl, bI⟩
        have hs : wB.heap.size < wH.heap.size := cell_in d0
        have cI : ∀ o, wI.cell? ⟨wB.heap.size, o, none⟩ = wH.cell? ⟨wB.heap.size, o, none⟩ := fun o => bI.cell (p := ⟨wB.heap.size, o, none⟩) hs
        rw [← cI] at d0 d1 d2' d3 d4
        have MI := hd (MH.out.below bI)
        have RI := hd (RH.out.fr (S := fun _ => False) (Fr.of_below bI) (fun h => h))
        have AI := hd (AH.out.fr (S := fun _ => False) (Fr.of_below bI) (fun h => h))
        clear bI cI hs CQ MH RH AH
        go_wp2_with fail
        refine (one_true ⟨0, 0, 0, 0, 0⟩ wI).mono ?_
        rintro e wJ ⟨rfl, bJ⟩
        have MX := hd (MI.out.below bJ)
        have RX := hd (RI.out.fr (S := fun _ => False) (Fr.of_below bJ) (fun h => h))
        have AX := hd (AI.out.fr (S := fun _ => False) (Fr.of_below bJ) (fun h => h))
        clear bJ MI RI AI d0 d1 d2' d3 d4
        go_wp2
        go_loopw [17] (fun u wq => ∃ k : Nat, k ≤ n ∧ u = .int .i64 k ∧ Hid (Below wJ.heap.size wJ wq)) (fun u _ => n - (intOf u).toNat)
        case atStart => exact ⟨0, Nat.zero_le _, rfl, Below.refl _ _⟩
        case round =>
          obtain ⟨k, hk, rfl, HB⟩ := hrel
          by_cases hkn : k < n
          · have k1 : k < p.q.length := by have := HL1.out.1; omega
            have k2 : k < p2.q.length := by have := HL2.out.1; omega
            obtain ⟨t1, t2, t3⟩ := hAB.out k k1 k2
            have Rq := RX.out.fr (S := fun _ => False) (Fr.of_below HB.out) (fun h => h)
            have Aq := AX.out.fr (S := fun _ => False) (Fr.of_below HB.out) (fun h => h)
            have s0 := Aq.cell sz_mkd k 0 k2 (by omega)
            have s4 := Aq.cell sz_mkd k 4 k2 (by omega)
            have s5 := Aq.cell sz_mkd k 5 k2 (by omega)
            have u4 := Rq.cell sz_mkd k 4 k1 (by omega)
            have u5 := Rq.cell sz_mkd k 5 k1 (by omega)
            simp [mkd] at s0 s4 s5 u4 u5
            rw [t1] at s0
            rw [t2] at s4
            rw [t3] at s5
            generalize p.q[k] = pk at *
            obtain ⟨pm, qk, qp, qc, ql, qs⟩ := pk
            simp only at s0 s4 s5 u4 u5
            have i3 : (k : Int) < (n : Int) := by omega
            clear k1 k2 t1 t2 t3 Rq Aq
            go_wp2_with fail
            go_quiet (fail)
            go_wp2
            exact ⟨⟨k + 1, by omega, by go_num, by repeat (first | exact HB.out | refine Below.drew ?_ | refine below_drewN ?_ _)⟩, by simp [intOf]; omega⟩
          · have i3 : ¬ (k : Int) < (n : Int) := by omega
            have Z : Hid (∃ p, MO w wr NoK (setO (fun _ => noObj) 0 (spO x p)) ∧ Lk n p) := ⟨p2, MX.out.below HB.out, HL2.out⟩
            go_wp2
            exact ⟨⟨j + 1, by omega, by omega, by go_num, Z⟩, by simp [intOf]; omega⟩
    · obtain ⟨p, hM, hLk⟩ := hr.out
      have HM := hd hM
      have HL := hd hLk
      clear hr hM hLk HE2 HO2
      rcases (by omega : (¬ (j : Int) < (N2 : Int)) ∨ ((j : Int) < (N2 : Int) ∧ ¬ (j : Int) < 60)) with i1 | ⟨i1, i2⟩ <;>
      · clear hlt
        go_wp2_with fail
        refine (mo_last HM.out 0 (setO_same _ _ _)).mono ?_
        rintro e w3 ⟨rfl, hw3⟩
        subst hw3
        rw [HL.out.2.1]
        go_wp2
        go_ret
        exact ⟨rfl, HM.out.base⟩

end Go.Proofs.YtmbnimlibnheeaaDoor
