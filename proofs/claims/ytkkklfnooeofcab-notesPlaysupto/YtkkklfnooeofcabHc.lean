/-
  At, walked.
-/
import Derived.Test.YtkkklfnooeofcabHb
namespace Go.Proofs.Ytkkklfnooeofcab
open Go.RowKit Go.Maps Go.ChangeMaps Go.MapKept Go.WideMaps
set_option linter.unusedVariables false

set_option maxRecDepth 100000 in
set_option maxHeartbeats 4000000 in
theorem at_any (O : Nat → Prop) (r g : Nat) (Ns : List Nt) (w : World) (h : BD w O r g Ns) (a : Option Addr) (N c : Nat) (xs : List El) (hE : IsE w a N c xs) (hwf : ∀ x ∈ xs, wfE x) (pos : Int) :
    Calls Try.prog 24 #[.pointer (some ⟨r, 0, none⟩), .slice a N c, .int .i64 pos] w fun e w' => ∃ v β, e = .returned v ∧ SF ic 1 w' 3 β v (atP xs pos Ns) ∧ (∀ k, β = some k → w.heap.size ≤ k) ∧ Below w.heap.size w w' := by
  obtain ⟨b, ps, rfl, hK⟩ := h
  have HO := hd hK.old
  have HLE := hd (Nat.le_trans hK.len hK.le)
  have HK := hd hK
  clear hK
  go_enter Try.func24, Try.ntmps24
  go_wp2_with fail
  refine (spots_any a N c xs w hE hwf).mono ?_
  rintro e w1 ⟨mb, rfl, hM, hmb, b1⟩
  have HK1 := hd (HK.out.below b1)
  have HM1 := hd hM
  have HB1 := hd b1
  have LMB := hd hM.lt
  obtain ⟨D, hown, hDs, hD⟩ := HK1.out.mp.md
  have HD := hd hD
  have HDS := hd hDs
  have r0 := cell_row HK1.out.box 0
  simp at r0
  clear hM b1 hD hDs HK
  go_wp2_with (at_range; refine wpList_range_own _ rfl _ _ rfl 3 73 law Try.underlying51 RV b ps.length D rfl hown ?_; intro w2 hrg hg2 hs2)
  have b2 := below_grown hg2
  have I0 : Hid (AtS w w2 O r b g mb w1.heap.size ps xs pos D (Maps.has D) (Maps.size D) none (.slice none 0 0) []) := by
    refine ⟨hrg, ⟨rfl, rfl⟩, fun k hk => (by cases hk), fun p hp _ => ⟨fun h => (by cases h), fun hf => ?_⟩, fun z hz => (by cases hz), List.nodup_nil, by rw [HDS.out]; simp, HK1.out.below b2, HM1.out.below b2, HB1.out.trans (b2.mono HB1.out.size), HB1.out.size⟩
    rw [Maps.has_true_of_atKey (HD.out.2.1 p hp)] at hf
    cases hf
  clear hrg hg2 hs2 hown b2 r0 HK1 HM1
  generalize hit : w1.heap.size = it at *
  have HIT := hd (show mb ≠ it by have := LMB.out; omega)
  clear hit HB1 LMB hmb
  go_frame
  go_loopw [7] (fun v wr => ∃ left cnt β A, Hid (AtS w wr O r b g mb it ps xs pos D left cnt β v A)) (fun _ wr => wr.rangeLeft b it)
  case atStart => exact ⟨_, _, _, _, I0⟩
  case round =>
    obtain ⟨left, cnt, β, A, HR⟩ := hrel
    clear I0
    obtain ⟨a3, c3, rfl, -, -⟩ := HR.out.row.form
    go_wp2_with (at_next; refine wpList_next_held _ rfl _ rfl b it ps.length D left cnt rfl HR.out.rg ?_ ?_)
    · intro h0 hl0
      have CS := hd (sortI_any wr β _ A HR.out.row (by have := HR.out.len; have := HLE.out; omega))
      have EL := hd (at_list HR.out hl0)
      clear h0 hl0
      go_wp2_with fail
      refine CS.out.mono ?_
      rintro e w3 ⟨rfl, hS3, hF3⟩
      rw [EL.out] at hS3
      have Z : Hid (SF ic 1 w3 3 β (.slice a3 A.length c3) (atP xs pos (ps.map NB.n)) ∧ (∀ k, β = some k → w.heap.size ≤ k) ∧ Below w.heap.size w w3) := ⟨hS3, fun k hk => (HR.out.new k hk).1, HR.out.low.trans (hF3.below HR.out.low.size (fun k hk => (HR.out.new k hk).1))⟩
      clear hS3 hF3 CS HR EL
      go_wp2
      go_ret
      exact ⟨_, _, rfl, Z.out⟩
    · intro key fv kl w3 cnt1 hk hl hat hr hlt hg hsz hen
      obtain ⟨p, rfl, rfl, hM3⟩ := HR.out.more HD.out HO.out HIT.out hk hl hat hr hlt hg
      have HCT := hd (show cnt1 < cnt ∧ wr.rangeLeft b it = cnt from ⟨hlt, HR.out.rg.left_eq⟩)
      have H3 := hd hM3
      have CR := hd (reach_any p mb xs w3 (hM3.bk.nk p hM3.mem) hM3.sm)
      clear hk hl hat hr hlt hg hsz hM3 HR
      go_wp2_with fail
      refine CR.out.mono ?_
      rintro e w4 ⟨rfl, b4⟩
      have hcv : Hid (cov xs pos p.n = (!p.n.sh && (decide (((reachP xs p.n.el).1 : Int) ≤ pos) && decide (pos < ((reachP xs p.n.el).2 : Int))))) := rfl
      generalize reachP xs p.n.el = rp at *
      obtain ⟨rf, rt⟩ := rp
      simp only at hcv ⊢
      have bA : Below w4.heap.size w4 (w4.alloc (.cells #[.int .i64 (rf : Int), .int .i64 (rt : Int)] 98)) := (Below.refl _ _).alloc (Nat.le_refl _) _
      have hA := heap_alloc_new w4 (.cells #[.int .i64 (rf : Int), .int .i64 (rt : Int)] 98)
      have H5 := hd (H3.out.below (b4.trans (bA.mono b4.size)))
      clear CR H3 b4 bA hen
      go_upto_region 7 with fail
      generalize w4.alloc (.cells #[.int .i64 (rf : Int), .int .i64 (rt : Int)] 98) = w5 at *
      have y0 := cell_row hA 0; have y1 := cell_row hA 1
      have c6 := cell_row (H5.out.bk.nk p H5.out.mem).box 6
      simp [ntc] at c6 y0 y1
      clear hA
      obtain ⟨w6, rfl⟩ : ∃ u, u = w5 := ⟨w5, rfl⟩
      go_cut [44] (fun b wx => b = .bool (cov xs pos p.n) ∧ wx = w6)
      case first =>
        cases hsh : p.n.sh with
        | true =>
          rw [hsh] at c6
          go_wp2
          go_meet
          exact ⟨congrArg Value.bool (show false = cov xs pos p.n by rw [hcv.out, hsh]; rfl), rfl⟩
        | false =>
          rw [hsh] at c6
          by_cases h1 : (rf : Int) ≤ pos
          · go_wp2
            go_meet
            exact ⟨congrArg Value.bool (show _ = cov xs pos p.n by rw [hcv.out, hsh]; simp [h1]), rfl⟩
          · go_wp2
            go_meet
            exact ⟨congrArg Value.bool (show _ = cov xs pos p.n by rw [hcv.out, hsh]; simp; omega), rfl⟩
      case rest =>
        obtain ⟨rfl, rfl⟩ := hcut
        obtain ⟨w6, rfl⟩ : ∃ u, u = wc := ⟨wc, rfl⟩
        clear y0 y1 c6
        cases hc : cov xs pos p.n with
        | true =>
          obtain ⟨v', w', β', hrun, hAt⟩ := H5.out.push hc HLE.out HO.out
          have Z := hd hAt
          have ZL := hAt.rg.left_eq
          have ZM : Hid (w'.rangeLeft b it < wr.rangeLeft b it) := by rw [Hid, ZL, HCT.out.2]; exact HCT.out.1
          clear hAt ZL H5 HCT hcv
          go_wp2_with (at_builtin; refine wpList_append_k _ rfl _ _ 59 59 rfl _ _ rfl rfl (hrun _) ?_)
          exact ⟨⟨_, _, _, _, Z⟩, ZM.out⟩
        | false =>
          have Z := hd (H5.out.skip hc)
          have ZL := Z.out.rg.left_eq
          have ZM : Hid (w6.rangeLeft b it < wr.rangeLeft b it) := by rw [Hid, ZL, HCT.out.2]; exact HCT.out.1
          clear ZL H5 HCT hcv
          go_wp2
          exact ⟨⟨_, _, _, _, Z⟩, ZM.out⟩

end Go.Proofs.Ytkkklfnooeofcab
