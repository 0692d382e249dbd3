/-
  NotesFollow, walked.
-/
import Derived.Test.YtkkklfnooeofcaaFf
namespace Go.Proofs.Ytkkklfnooeofcaa
open Go.RowKit Go.Maps Go.ChangeMaps Go.MapKept Go.WideMaps
set_option linter.unusedVariables false

set_option maxRecDepth 100000 in
set_option maxHeartbeats 4000000 in
theorem notesFollow_any (x0 x1 x2 : Int) (a : Option Addr) (nT cT : Nat) (ts : List (Bool × Int)) (w : World) (hT : IsT w a nT cT ts) :
    Calls Try.prog 6 #[.int .i64 x0, .int .i64 x1, .int .i64 x2, .slice a nT cT] w fun e w' => e = .returned (.bool true) ∧ Below w.heap.size w w' := by
  have HT := hd hT
  have HTL := hd hT.1
  have hTc := hT.2.1
  have hT63 := hT.2.2.1
  clear hT
  go_enter Try.func6, Try.ntmps6
  go_wp2_with fail
  refine (lwithin_any x0 1 2048 _ (by omega) (by omega) (by omega)).mono ?_
  rintro e w' ⟨n0, rfl, hn0, rfl⟩
  obtain ⟨n, rfl⟩ : ∃ n : Nat, n0 = n := ⟨n0.toNat, by have := hn0.1; omega⟩
  have hn1 : 1 ≤ n := by have := hn0.1; omega
  have hn2 : n ≤ 2048 := by have := hn0.2.1; omega
  clear hn0
  go_wp2_with fail
  refine (lwithin_any x1 0 ((n : Int) - 1) _ (by omega) (by omega) (by omega)).mono ?_
  rintro e w1 ⟨f0, rfl, hf0, rfl⟩
  obtain ⟨f, rfl⟩ : ∃ f : Nat, f0 = f := ⟨f0.toNat, by have := hf0.1; omega⟩
  have hf2 : f < n := by have := hf0.2.1; omega
  clear hf0
  go_wp2_with fail
  refine (lwithin_any x2 ((f : Int) + 1) (n : Int) _ (by omega) (by omega) (by omega)).mono ?_
  rintro e w2 ⟨t0, rfl, ht0, rfl⟩
  obtain ⟨t, rfl⟩ : ∃ t : Nat, t0 = t := ⟨t0.toNat, by have := ht0.1; omega⟩
  have ht1 : f < t := by have := ht0.1; omega
  have ht2 : t ≤ n := by have := ht0.2.1; omega
  clear ht0
  go_wp2_with fail
  refine (text_any n _ hn2).mono ?_
  rintro e w3 ⟨v, rfl, β, hS, hβ, b3⟩
  have HS := hd hS
  have HB3 := hd b3
  have HZ3 := hd b3.size
  have HBE := hd hβ
  obtain ⟨av, cv, hv, -, -⟩ := hS.form
  rw [txt_len] at hv
  subst hv
  clear hS hβ b3
  go_wp2_with fail
  refine (new_any w3).mono ?_
  rintro e w4 ⟨r, O, rfl, hD, hO, b4⟩
  obtain ⟨a', c', hv', hI', hb'⟩ := (sf_se HS.out).form
  have hI4 : IsE w4 av n cv (txt n) := by
    rw [txt_len] at hv' hI'
    injection hv' with e1 e2 e3
    subst e1
    subst e3
    exact hI'.below b4
  have CP := hd (put_good O r 0 [] w4 hD av n cv (txt n) hI4 (wf_txt n (by omega)) f t ht1 ht2 7 hereB say_here (by decide) (by omega) (by unfold roomy; omega))
  have HS4 := hd (HS.out.fr (S := fun _ => False) (Fr.of_below b4) (fun _ _ h => h))
  have HB4 := hd (HB3.out.trans (b4.mono HB3.out.size))
  have HO := hd hO
  have HSL := hd (HS.out.lt)
  clear hD hO b4 hI4 hv' hI' hb' HS HB3
  go_wp2_with fail
  refine CP.out.mono ?_
  rintro e w5 ⟨rfl, O5, hD5, hO5, hF5⟩
  have hS5 := HS4.out.fr hF5 (fun k hk ho => by have := HO.out k ho; have := HSL.out k hk; omega)
  have hB5 := HB4.out.trans (hF5.below HB4.out.size (fun k hk => by have := HO.out k hk; have := HZ3.out; omega))
  obtain ⟨i0, hi0, hz0, hz1, hz2⟩ := info_parts Try.infoB
  have HD5 : Hid (BD w5 O5 r 1 ([] ++ ntF (rng n f t) :: [])) := hD5
  have HS5 := hd (sf_se hS5)
  have HB5 := hd hB5
  clear hD5 hS5 hB5 hO5 hF5 CP HS4 HB4 HO HSL HZ3 HBE
  go_upto_region 11 with fail
  go_wp2_with (at_make; refine wpList_make_k _ rfl _ _ 60 rfl 4 i0 _ Try.underlying60 hi0 hz0 _ _ _ _ n n rfl rfl rfl rfl (Nat.le_refl _) (by rw [hz2]; omega) (by omega) ?_; intro w6 cur hg6 hcur hb6)
  have M6 : Hid (FmI w2 w6 r w5.heap.size n f f (.slice av n cv) (txt n) (rng n f t)) := by
    refine fm_start HD5.out HS5.out HB5.out hg6.out ?_ hb6.out
    have := hcur.out
    rw [hz1] at this
    exact this
  clear HD5 HS5 HB5 hg6 hcur hb6 hi0 hz0 hz1 hz2
  generalize w5.heap.size = g at *
  go_loopw [14] (fun i wr => ∃ j : Nat, f ≤ j ∧ j ≤ t ∧ i = .int .i64 j ∧ Hid (FmI w2 wr r g n f j (.slice av n cv) (txt n) (rng n f t))) (fun i _ => t - (intOf i).toNat)
  case atStart => exact ⟨f, Nat.le_refl _, by omega, rfl, M6⟩
  case round =>
    obtain ⟨j, hj1, hj2, rfl, HM⟩ := hrel
    clear M6
    by_cases hlt : j < t
    · obtain ⟨⟨b, cj⟩, zj⟩ := HM.out.cell (show j < n by omega)
      have hjn : (j : Int) < (n : Int) := by omega
      have Z := hd (HM.out.set hj1 (show j < n by omega))
      clear HM
      go_wp2
      exact ⟨⟨j + 1, by omega, by omega, by trivial, Z⟩, by simp [intOf]; omega⟩
    · obtain rfl : j = t := by omega
      have HF := hd (HM.out.fo hn2)
      clear HM
      obtain ⟨w7, rfl⟩ : ∃ u, u = wr := ⟨wr, rfl⟩
      go_wp2_with fail
      have I0 : Hid (FoI w2 w7 r (.slice av n cv) (.slice (some ⟨g, 0, none⟩) n n) (txt n) (rng n f j) (mkL n f j) ∧ Mk (txt n) (rng n f j) (mkL n f j) ∧ (txt n).length ≤ 2048 + 0 ∧ ∀ x ∈ txt n, wfE x) := ⟨HF.out, mk_start (by omega) ht2, by rw [txt_len]; omega, wf_txt n (by omega)⟩
      have HNEW := hd (fun k => rng_new (n := n) (f := f) (t := j) (k := k) (by omega) ht2 hn2)
      clear HF
      generalize rng n f j = es at *
      go_loopw [9, 13, 15] (fun v m i wx => ∃ k : Nat, k ≤ nT ∧ k ≤ 2048 ∧ i = .int .i64 k ∧ ∃ xs bs, Hid (FoI w2 wx r v m xs es bs ∧ Mk xs es bs ∧ List.length xs ≤ 2048 + k ∧ ∀ x ∈ xs, wfE x)) (fun _ _ i _ => nT - (intOf i).toNat)
      case atStart => exact ⟨0, Nat.zero_le _, by omega, rfl, _, _, I0⟩
      case round =>
        obtain ⟨k, hk, hk2, rfl, xs, bs, HI⟩ := hrel
        clear I0
        by_cases hlt : k < nT
        · by_cases hlt2 : k < 2048
          · have hkt : k < ts.length := by rw [HTL.out]; exact hlt
            obtain ⟨ab, off, rfl, hab, p0, p1⟩ := HT.out.at k hkt
            have BL := HI.out.1.2.2.2
            have p0 := (BL.cell (p := ⟨ab, off + k * 2, none⟩) hab).trans p0
            have p1 := (BL.cell (p := ⟨ab, off + k * 2 + 1, none⟩) hab).trans p1
            generalize ts[k] = tk at *
            obtain ⟨out, N⟩ := tk
            simp only at p0 p1
            obtain ⟨βd, hSd⟩ := HI.out.1.2.1
            obtain ⟨βm, hSm⟩ := HI.out.1.2.2.1
            obtain ⟨ad, cd, hvd, hEd, -⟩ := hSd.form
            obtain ⟨am, cm, hvm, hm1, hm2⟩ := hSm.form
            subst hvd
            subst hvm
            have CT := hd (turned_any ad xs.length cd xs out N k wr hEd (by have := HI.out.2.2.1; omega) (by omega))
            clear hSd hSm hEd BL
            have I1 := HI
            clear HI
            go_wp2_with fail
            refine CT.out.mono ?_
            rintro e w8 ⟨v8, pos, del, ys, rfl, hO8, hTu, -, b8⟩
            have I8 := hd (I1.out.1.below b8)
            have HMK := hd (I1.out.2.1.step hTu (HNEW.out k))
            have HYL := hd (show ys.length ≤ 2048 + (k + 1) by have := hTu.len; have := I1.out.2.2.1; omega)
            have HYW := hd (hTu.wf (by omega) I1.out.2.2.2)
            have HML := hd I1.out.2.1.1
            have HXL := hd I1.out.2.2.1
            obtain ⟨p, rfl, hp⟩ := hTu
            have hp1 : p ≤ bs.length ∧ (del = true → p < bs.length) := by
              have := HML.out
              rcases hp with ⟨-, h1, -⟩ | ⟨h0, h1, -⟩
              · exact ⟨by omega, fun _ => by omega⟩
              · exact ⟨by omega, fun h => by rw [h0] at h; cases h⟩
            rw [Int.toNat_natCast] at HMK
            obtain ⟨gd, cd8, -, hv8, hR8⟩ := hO8.form
            subst hv8
            have HR8 := hd hR8
            obtain ⟨βm, hSm⟩ := I8.out.2.2.1
            have CF := hd (follow_any βm _ bs p del w8 hSm hp1.1 hp1.2 (by have := HML.out; have := HXL.out; omega))
            have q1 : ¬ (bs.length : Int) < (p : Int) := by have := hp1.1; omega
            have q2 : del = true → ¬ (bs.length : Int) ≤ (p : Int) := fun h => by have := hp1.2 h; omega
            clear hO8 hR8 hSm CT b8 hp hp1 I1
            go_upto_region 20 with fail
            go_cut [104] (fun b wx => b = .bool false ∧ wx = w8)
            case first =>
              cases del with
              | false =>
                clear q2
                go_wp2
                go_meet
                exact ⟨congrArg Value.bool (by simp; omega), rfl⟩
              | true =>
                have q3 := q2 rfl
                clear q2
                go_wp2
                go_meet
                exact ⟨congrArg Value.bool (by simp; omega), rfl⟩
            case rest =>
              obtain ⟨rfl, rfl⟩ := hcut
              clear q1 q2
              go_wp2_with fail
              refine CF.out.mono ?_
              rintro e w9 ⟨m9, rfl, βm9, hS9, hβ9, b9⟩
              have I9 := hd (I8.out.below b9)
              have HR9 := hd ((HR8.out.isE).below b9)
              have HY9 := hd (HR8.out.fr (S := fun _ => False) (Fr.of_below b9) (fun h => h))
              have HS9 := hd hS9
              obtain ⟨O9, hD9⟩ := I9.out.1
              have CL := hd (look_good O9 r 1 [] [] (ntF es) w9 hD9 _ _ _ ys HR9.out HYW.out (show roomy 0 24 from ⟨by decide, by decide⟩))
              clear hS9 hD9 b9 CF I8 HR8 hβ9
              obtain ⟨am9, cm9, hvm9, -, -⟩ := HS9.out.form
              subst hvm9
              go_wp2_with fail
              refine CL.out.mono ?_
              rintro e w10 ⟨ul, βl, rfl, hSl, -, b10⟩
              obtain ⟨al, cl', hvl, -, -⟩ := hSl.form
              subst hvl
              have I10 := hd (I9.out.below b10)
              have HY10 := hd (HY9.out.fr (S := fun _ => False) (Fr.of_below b10) (fun h => h))
              have HS10 := hd (HS9.out.fr (S := fun _ => False) (Fr.of_below b10) (fun _ _ h => h))
              clear hSl b10 CL I9 HR9 HY9 HS9
              simp only [ntA, ntF, hereB]
              generalize hrp : reachP ys es = rp at *
              have HRP := hd hrp
              clear hrp
              obtain ⟨rf, rt⟩ := rp
              simp only []
              go_upto_region 25 with fail
              have bA : Below w10.heap.size w10 (w10.alloc (.cells #[.int .i64 1, .int .i64 7, .string ⟨#[104, 101, 114, 101]⟩, .int .i64 (rf : Int), .int .i64 (rt : Int), .bool ((rf : Int) == (rt : Int)), .bool false, .slice al 0 cl'] 37)) := (Below.refl _ _).alloc (Nat.le_refl _) _
              have hbA := heap_alloc_new w10 (.cells #[.int .i64 1, .int .i64 7, .string ⟨#[104, 101, 114, 101]⟩, .int .i64 (rf : Int), .int .i64 (rt : Int), .bool ((rf : Int) == (rt : Int)), .bool false, .slice al 0 cl'] 37)
              have I11 := hd (I10.out.below bA)
              have HY11 := hd (HY10.out.fr (S := fun _ => False) (Fr.of_below bA) (fun h => h))
              have hS11 := HS10.out.fr (S := fun _ => False) (Fr.of_below bA) (fun _ _ h => h)
              have CW := hd (where_any βm9 _ _ _ hS11)
              have HS11 := hd hS11
              clear bA I10 HY10 HS10 hS11
              generalize w10.alloc (.cells #[.int .i64 1, .int .i64 7, .string ⟨#[104, 101, 114, 101]⟩, .int .i64 (rf : Int), .int .i64 (rt : Int), .bool ((rf : Int) == (rt : Int)), .bool false, .slice al 0 cl'] 37) = w11 at *
              have y1 := cell_row hbA 1; have y2 := cell_row hbA 2; have y3 := cell_row hbA 3; have y4 := cell_row hbA 4; have y5 := cell_row hbA 5; have y6 := cell_row hbA 6
              simp at y1 y2 y3 y4 y5 y6
              clear hbA
              go_wp2_with fail
              refine CW.out.mono ?_
              rintro e w12 ⟨⟨wf, wt, wg, rfl, hwh⟩, rfl⟩
              obtain ⟨hr1, hr2⟩ := HMK.out.rc hwh
              rw [HRP.out] at hr1
              injection hr1 with hr3 hr4
              subst hr3
              subst hr4
              subst hr2
              have Z : Hid (FoI w2 w12 r (.slice (some ⟨gd, 0, none⟩) ys.length cd8) (.slice am9 (followP bs p del).length cm9) ys es (followP bs p del) ∧ Mk ys es (followP bs p del) ∧ ys.length ≤ 2048 + (k + 1) ∧ ∀ x ∈ ys, wfE x) := ⟨⟨I11.out.1, ⟨some gd, cd8, rfl, HY11.out⟩, ⟨βm9, HS11.out⟩, I11.out.2.2.2⟩, HMK.out, HYL.out, HYW.out⟩
              clear CW hwh I11 HY11 HS11 HRP HMK HYL HYW
              generalize ((rf : Int) == (rt : Int)) = gq at *
              cases gq with
              | false =>
                go_wp2
                exact ⟨⟨k + 1, hlt, hlt2, rfl, ys, _, Z⟩, by simp [intOf]; omega⟩
              | true =>
                go_wp2
                exact ⟨⟨k + 1, hlt, hlt2, rfl, ys, _, Z⟩, by simp [intOf]; omega⟩
          · have Z := hd HI.out.1.2.2.2
            clear HI
            go_wp2
            go_ret
            exact ⟨rfl, Z.out⟩
        · have Z := hd HI.out.1.2.2.2
          clear HI
          go_wp2
          go_ret
          exact ⟨rfl, Z.out⟩

end Go.Proofs.Ytkkklfnooeofcaa
