/-
  replies: a list of answers that was handed out is marked, kept, lengthened, and kept again.
-/
import Derived.Test.YtkkklfnooeofcabXc
namespace Go.Proofs.Ytkkklfnooeofcab
open Go.RowKit
set_option linter.unusedVariables false

set_option maxRecDepth 100000 in
set_option maxHeartbeats 16000000 in
theorem replies_any (X off : Nat) (K : Nat → Prop) (m : Nat) (a : Option Addr) (n c : Nat) (xs : List (Int × ByteArray)) (β : Option Nat) (w : World) (h : PP rpc 2 90 45 w X (off + 4) K m) (hs : SF rpc 2 w 90 β (.slice a n c) xs) (hβ : ∀ g, β = some g → ¬ K g) (hn : n ≤ 500000) (hm : m ≤ 1000000000000) :
    Calls Try.prog 18 #[.pointer (some ⟨X, off, none⟩), .slice a n c] w fun ex w' => ex = .returned (.tuple #[]) ∧ InO rpc 2 90 45 w w' X (off + 4) K β m := by
  have hxn : xs.length = n := by obtain ⟨a', c', hv, -, -⟩ := hs.form; exact (Value.slice.inj hv).2.1.symm
  have hcn : n ≤ c ∧ c ≤ 9223372036854775807 := by obtain ⟨a', c', hv, h1, h2⟩ := hs.form; obtain ⟨-, -, rfl⟩ := Value.slice.inj hv; exact ⟨by omega, h2⟩
  obtain ⟨vL, vW, hC⟩ := CH.start h (β := β) (fun g hg => ⟨hβ g hg, hs.lt g hg, fun hX => by
    subst hg
    subst hX
    obtain ⟨cur, q1⟩ := hs.blk
    obtain ⟨v1, b1, S1, v2, b2, S2, E, hP, -⟩ := h
    obtain ⟨cs, q2, -⟩ := hP.box
    rw [q1] at q2
    injection q2 with q
    injection q with q3 q4 q5
    exact absurd q4 (by decide)⟩)
  obtain ⟨⟨aL, cL, rfl, hL1, hL2⟩, aW, cW, rfl, hW1, hW2⟩ := hC.len
  simp only [List.length_nil, Nat.add_zero] at hC hL1 hW1 ⊢
  obtain ⟨c0, -, hX⟩ := hC.cells
  have HC := hd hC
  have HX := hd hX
  have HN := hd hxn
  obtain ⟨z, hz⟩ : ∃ z : Int, -1 - (m : Int) = z := ⟨_, rfl⟩
  obtain ⟨q, hq⟩ : ∃ q : Int × ByteArray, (z, (⟨#[]⟩ : ByteArray)) = q := ⟨_, rfl⟩
  have F1 : Fr (fun _ => False) w (w.alloc (.cells #[.int .i64 z, .string ⟨#[]⟩] 90)) := Fr.alloc _ _ _
  have HM : Hid (SF rpc 2 (w.alloc (.cells #[.int .i64 z, .string ⟨#[]⟩] 90)) 90 (some w.heap.size) (.slice (some ⟨w.heap.size, 0, none⟩) 1 1) [q]) := by
    refine ⟨1, rfl, [.int .i64 z, .string ⟨#[]⟩], heap_alloc_new w _, ?_, rfl, Nat.le_refl _, by omega, rfl⟩
    rw [← hq]
    rfl
  have S0 : Hid (SF rpc 2 (w.alloc (.cells #[.int .i64 z, .string ⟨#[]⟩] 90)) 90 β (.slice a n c) (mkC q xs 0) ∧ Fr (fun j => β = some j) (w.alloc (.cells #[.int .i64 z, .string ⟨#[]⟩] 90)) (w.alloc (.cells #[.int .i64 z, .string ⟨#[]⟩] 90))) := ⟨by rw [mkC_zero]; exact hs.fr F1 (fun _ _ h => h), Fr.refl _ _⟩
  have HC1 := hd (hC.new F1)
  have HβM : Hid (∀ g, β = some g → g ≠ w.heap.size) := fun g hg e => by have := hs.lt g hg; omega
  clear h hs hβ hC hxn hX F1 HC
  go_enter Try.func18, Try.ntmps18
  go_wp2
  generalize w.alloc (.cells #[.int .i64 z, .string ⟨#[]⟩] 90) = w1 at *
  go_loopw [5] (fun iv wr => ∃ k : Nat, iv = .int .i64 k ∧ k ≤ n ∧ Hid (SF rpc 2 wr 90 β (.slice a n c) (mkC q xs k) ∧ Fr (fun j => β = some j) w1 wr)) (fun iv _ => n - (intOf iv).toNat)
  case atStart => exact ⟨0, rfl, Nat.zero_le _, S0⟩
  case round =>
    obtain ⟨k, rfl, hk, hS⟩ := hrel
    clear S0
    by_cases hlt : k < n
    · have kx : k < xs.length := by rw [HN.out]; exact hlt
      have hml := mkC_len q xs k (by omega)
      obtain ⟨hS1, hS2⟩ := hS.out
      obtain ⟨g, rfl⟩ : ∃ g, β = some g := by
        cases β with
        | none =>
          have := hS1.2
          rw [this] at hml
          simp at hml
          omega
        | some g => exact ⟨g, rfl⟩
      have hS1c : ∃ cap, (Value.slice a n c) = Value.slice (some ⟨g, 0, none⟩) (mkC q xs k).length cap := by obtain ⟨cap, hv, -⟩ := hS1; exact ⟨cap, hv⟩
      obtain ⟨cap, hv⟩ := hS1c
      obtain ⟨rfl, -, -⟩ := Value.slice.inj hv
      have MS := HM.out.fr hS2 (fun j hj hb => HβM.out j hb (by injection hj with hj; exact hj.symm))
      have m0 := MS.cell sz_rpc 0 0 (by simp) (by omega)
      have m1 := MS.cell sz_rpc 0 1 (by simp) (by omega)
      rw [← hq] at m0 m1
      simp only [List.getElem_cons_zero, rpc, List.getElem?_cons_zero, List.getElem?_cons_succ, Nat.zero_mul, Nat.zero_add] at m0 m1
      have f0 := hS1.frozen (k * 2)
      have f1 := hS1.frozen (k * 2 + 1)
      have x0 := hS1.cell sz_rpc k 0 (by omega) (by omega)
      have y0 := hS1.cell sz_rpc k 1 (by omega) (by omega)
      simp only [rpc, List.getElem?_cons_zero, List.getElem?_cons_succ, Nat.add_zero] at x0 y0
      have x1 : ∃ v, wr.cell? ⟨g, k * 2, none⟩ = some v := ⟨_, x0⟩
      have y1 : ∃ v, wr.cell? ⟨g, k * 2 + 1, none⟩ = some v := ⟨_, y0⟩
      obtain ⟨v0, x1⟩ := x1
      obtain ⟨v1, y1⟩ := y1
      have ST := (hS1.setk sz_rpc k 0 (.int .i64 z) (z, ((mkC q xs k)[k]'(by omega)).2) (by omega) (by omega) rfl).setk sz_rpc k 1 (.string ⟨#[]⟩) q (by rw [List.length_set]; omega) (by omega) (by rw [List.getElem_set_self]; exact (congrArg rpc hq.symm).trans rfl)
      rw [List.set_set, mkC_set q xs k kx, Nat.add_zero] at ST
      have ST := hd (And.intro ST (hS2.trans ((Fr.setCell (S := fun j => some g = some j) wr ⟨g, k * 2, none⟩ (.int .i64 z) rfl).trans (Fr.setCell (S := fun j => some g = some j) _ ⟨g, k * 2 + 1, none⟩ (.string ⟨#[]⟩) rfl))))
      have i1 : (k : Int) < (n : Int) := by omega
      clear hS hS1 hS2 x0 y0 hv hml MS
      go_wp2
      exact ⟨⟨k + 1, by go_num, by omega, ST⟩, by simp only [intOf]; omega⟩
    · obtain rfl : k = n := by omega
      obtain ⟨hS1, hS2⟩ := hS.out
      have CM := HC1.out.mark hS2
      have MS := HM.out.fr hS2 (fun j hj hb => HβM.out j hb (by injection hj with hj; exact hj.symm))
      obtain ⟨ys, hys⟩ : ∃ ys, mkC q xs k = ys := ⟨_, rfl⟩
      have hyl : ys.length = k := by rw [← hys]; exact (mkC_len q xs k (by rw [HN.out]; exact Nat.le_refl _)).trans HN.out
      rw [hys] at hS1
      obtain ⟨cr0, -, -⟩ := CM.cells
      obtain ⟨a7, c7, w7, hr7, cL7, f7, C7, F7⟩ := CM.pushL Try.underlying29 Try.infoRs (by decide) (by simp; omega) ⟨a, k, c⟩
      have S7 := CM.keep F7 (by decide) (by decide) hS1
      have M7 := CM.keep F7 (by decide) (by decide) MS
      have M7 := hd M7
      simp only [List.length_nil, Nat.add_zero, List.nil_append] at hr7 C7 S7
      have C7 := hd C7
      have S7 := hd S7
      have HY := hd hyl
      clear hS hS1 hS2 CM hys hyl F7 MS
      go_upto_region 6 with (at_builtin; refine wpList_append_k _ rfl (.tmp 28) (.tmp 30) 29 29 rfl _ _ rfl rfl (hr7 _) ?_)
      clear hr7 cL7 f7 cr0 c0
      generalize w7.setCell ⟨X, off + 4, none⟩ (.slice a7 (m + 1) c7) = w8 at *
      go_cut [] (fun wx => ∃ aW' cW', Hid (CH rpc 2 90 45 w wx X (off + 4) K β m [⟨a, k, c⟩] [ys] (.slice a7 (m + 1) c7) (.slice aW' (m + 1) cW') ∧ SF rpc 2 wx 90 β (.slice a k c) ys ∧ SF rpc 2 wx 90 (some w.heap.size) (.slice (some ⟨w.heap.size, 0, none⟩) 1 1) [q]))
      case first =>
        have kW8 : w8.cell? ⟨X, off + 5, none⟩ = some (.slice aW m cW) := C7.out.cells.2.1
        have kW8a := fun o => (((Below.refl w8.heap.size w8).alloc (Nat.le_refl _) o).cell (p := ⟨X, off + 5, none⟩) C7.out.cells.2.2).trans kW8
        have HJ8 : Hid (HJ rpc 2 90 w8 (fun j => β = some j) ⟨a, k, c⟩ ys) := S7.out.hj (fun b hb => hb)
        have CC := hd (fun U9 w10 gv g' s F9 hgv hS hg' F10 => C7.out.copy (U9 := U9) (w10 := w10) (gv := gv) (g' := g') (s := s) (xs := ys) Try.underlying29 Try.infoRs (by decide) (by simp; omega) F9 hgv hS hg' F10)
        simp only [List.length_nil, Nat.add_zero, List.nil_append] at CC
        have KK := hd (fun u' hF => C7.out.keep (u' := u') hF (by decide) (by decide) S7.out)
        have KM := hd (fun u' hF => C7.out.keep (u' := u') hF (by decide) (by decide) M7.out)
        have hR8 := roomy24 k (by omega)
        have HR8 := hd hR8
        clear C7 S7 M7 hR8
        go_region_law (first | (refine step_pushA sz_rpc Try.underlying45 Try.infoR rfl rfl (.tmp 39) (.tmp 40) rfl w8.heap.size ⟨a, k, c⟩ (by simp [Act.eval]) (by simp [Act.eval]) (heap_alloc_new _ _) (fun j => β = some j) ys (HJ8.out.fr (T := fun _ => False) (by repeat (first | exact Fr.refl _ _ | refine Fr.trans ?_ (Fr.alloc _ _ _) | refine Fr.trans ?_ (Fr.drew _ _) | refine Fr.trans ?_ (Fr.drewN _ _ _))) (fun _ _ h => h)) HR8.out ?_; intro t w10 g' hS10 hg' hF10; obtain ⟨Y1, Y2, Y3⟩ := CC.out _ w10 w8.heap.size g' t (by repeat (first | exact Fr.refl _ _ | refine Fr.trans ?_ (Fr.alloc _ _ _) | refine Fr.trans ?_ (Fr.drew _ _) | refine Fr.trans ?_ (Fr.drewN _ _ _))) (Nat.le_refl _) hS10 hg' hF10; obtain ⟨ta, tn, tc⟩ := t; simp only at Y3 ⊢; have kW10 : w10.cell? ⟨X, off + 5, none⟩ = some (.slice aW m cW) := Y1; have kW10a := fun o => (((Below.refl w10.heap.size w10).alloc (Nat.le_refl _) o).cell (p := ⟨X, off + 5, none⟩) Y2).trans kW10; have HY3 := hd Y3; clear hS10 hg' hF10 Y1 Y2 Y3) | (refine step_pushV rfl (.tmp 38) (.tmp 42) rfl (.slice aW m cW) w10.heap.size _ (by simp [Act.eval]) (by simp [Act.eval]) (HY3.out _ _ (by repeat (first | exact Fr.refl _ _ | refine Fr.trans ?_ (Fr.alloc _ _ _) | refine Fr.trans ?_ (Fr.drew _ _) | refine Fr.trans ?_ (Fr.drewN _ _ _))) (heap_alloc_new _ _)) ?_; intro a11 c11 w11 hQ; obtain ⟨kW11, fW11, hQ3⟩ := hQ; have HQ3 := hd hQ3; clear hQ3))
        all_goals
          go_wp2_with fail
          go_meet
          have HU := HQ3.out _ (by repeat (first | exact Below.refl _ _ | refine Below.drew ?_ | refine below_drewN ?_ _))
          exact ⟨a11, c11, hd ⟨HU.1, KK.out _ HU.2, KM.out _ HU.2⟩⟩
      case rest =>
        obtain ⟨aW2, cW2, HCS⟩ := hcut
        obtain ⟨C9, S9, M9⟩ := HCS.out
        have m0 := M9.cell sz_rpc 0 0 (by simp) (by omega)
        have m1 := M9.cell sz_rpc 0 1 (by simp) (by omega)
        rw [← hq] at m0 m1
        simp only [List.getElem_cons_zero, rpc, List.getElem?_cons_zero, List.getElem?_cons_succ, Nat.zero_mul, Nat.zero_add] at m0 m1
        have F9 : Fr (fun _ => False) wc (wc.alloc (.cells #[.int .i64 z, .string ⟨#[]⟩, .int .i64 z, .string ⟨#[]⟩] 90)) := Fr.alloc _ _ _
        obtain ⟨v12, w12, hr12, N12⟩ := push_two sz_rpc Try.underlying45 Try.infoR rfl (wc.alloc (.cells #[.int .i64 z, .string ⟨#[]⟩, .int .i64 z, .string ⟨#[]⟩] 90)) β (.slice a k c) ys (S9.fr F9 (fun _ _ h => h)) wc.heap.size q q (by rw [← hq]; exact heap_alloc_new _ _) (roomy24 _ (by rw [HY.out]; omega))
        have J12 := (S9.fr F9 (fun _ _ h => h)).grown sz_rpc N12 (fun b hb => hb)
        obtain ⟨a12, c12, rfl⟩ := N12.slice
        have e12 : (ys ++ [q, q]).length = k + 2 := by rw [List.length_append, HY.out]; rfl
        rw [e12] at hr12 N12
        obtain ⟨g12, S12, hg12, F12⟩ := now_out N12
        have C12 := (C9.new F9).mark F12
        have hG : Hid (β = some g12 ∨ w.heap.size ≤ g12) := by
          rcases hg12 with h | h
          · exact .inl h
          · have := C9.fr.size
            have := F9.size
            exact .inr (by omega)
        obtain ⟨cr12, -, -⟩ := C12.cells
        obtain ⟨a13, c13, w13, hr13, cL13, f13, C13, F13⟩ := C12.pushL Try.underlying29 Try.infoRs (by decide) (by simp; omega) ⟨a12, k + 2, c12⟩
        have S13 := C12.keep F13 (by decide) (by decide) S12
        have J13 := C12.keepJ F13 (by decide) (by decide) J12
        simp only [List.length_cons, List.length_nil, Nat.zero_add, List.cons_append, List.nil_append] at hr13 C13 S13 J13
        have C13 := hd C13
        have S13 := hd S13
        have J13 := hd J13
        clear HCS C9 S9 M9 F9 N12 J12 S12 hg12 F12 C12 F13 e12
        go_upto_region 8 with (at_builtin; refine wpList_append_k _ rfl (.tmp 46) (.tmp 49) 45 45 rfl _ _ rfl rfl (hr12 _) ?_)
        clear hr12
        go_upto_region 9 with (at_builtin; refine wpList_append_k _ rfl (.tmp 55) (.tmp 57) 29 29 rfl _ _ rfl rfl (hr13 _) ?_)
        clear hr13 cL13 f13 cr12
        generalize w13.setCell ⟨X, off + 4, none⟩ (.slice a13 (m + 1 + 1) c13) = w14 at *
        have kW8 : w14.cell? ⟨X, off + 5, none⟩ = some (.slice aW2 (m + 1) cW2) := C13.out.cells.2.1
        have kW8a := fun o => (((Below.refl w14.heap.size w14).alloc (Nat.le_refl _) o).cell (p := ⟨X, off + 5, none⟩) C13.out.cells.2.2).trans kW8
        have HJ8 : Hid (HJ rpc 2 90 w14 (fun j => some g12 = some j) ⟨a12, k + 2, c12⟩ (ys ++ [q, q])) := S13.out.hj (fun b hb => hb)
        have CC := hd (fun U9 w10 gv g' s F9 hgv hS hg' F10 => C13.out.copy (U9 := U9) (w10 := w10) (gv := gv) (g' := g') (s := s) (xs := ys ++ [q, q]) Try.underlying29 Try.infoRs (by decide) (by simp; omega) F9 hgv hS hg' F10)
        simp only [List.length_cons, List.length_nil, Nat.zero_add, List.cons_append, List.nil_append] at CC
        have KK := hd (fun u' hF => C13.out.keepJ (u' := u') hF (by decide) (by decide) J13.out)
        have KG := hd (fun u' hF => C13.out.keep (u' := u') hF (by decide) (by decide) S13.out)
        have HR8 := hd (roomy24 (k + 2) (by omega))
        clear C13 S13 J13
        go_region_law (first | (refine step_pushA sz_rpc Try.underlying45 Try.infoR rfl rfl (.tmp 66) (.tmp 67) rfl w14.heap.size ⟨a12, k + 2, c12⟩ (by simp [Act.eval]) (by simp [Act.eval]) (heap_alloc_new _ _) (fun j => some g12 = some j) (ys ++ [q, q]) (HJ8.out.fr (T := fun _ => False) (by repeat (first | exact Fr.refl _ _ | refine Fr.trans ?_ (Fr.alloc _ _ _) | refine Fr.trans ?_ (Fr.drew _ _) | refine Fr.trans ?_ (Fr.drewN _ _ _))) (fun _ _ h => h)) HR8.out ?_; intro t w10 g' hS10 hg' hF10; obtain ⟨Y1, Y2, Y3⟩ := CC.out _ w10 w14.heap.size g' t (by repeat (first | exact Fr.refl _ _ | refine Fr.trans ?_ (Fr.alloc _ _ _) | refine Fr.trans ?_ (Fr.drew _ _) | refine Fr.trans ?_ (Fr.drewN _ _ _))) (Nat.le_refl _) hS10 hg' hF10; obtain ⟨ta, tn, tc⟩ := t; simp only at Y3 ⊢; have kW10 : w10.cell? ⟨X, off + 5, none⟩ = some (.slice aW2 (m + 1) cW2) := Y1; have kW10a := fun o => (((Below.refl w10.heap.size w10).alloc (Nat.le_refl _) o).cell (p := ⟨X, off + 5, none⟩) Y2).trans kW10; have HY3 := hd Y3; clear hS10 hg' hF10 Y1 Y2 Y3) | (refine step_pushV rfl (.tmp 65) (.tmp 69) rfl (.slice aW2 (m + 1) cW2) w10.heap.size _ (by simp [Act.eval]) (by simp [Act.eval]) (HY3.out _ _ (by repeat (first | exact Fr.refl _ _ | refine Fr.trans ?_ (Fr.alloc _ _ _) | refine Fr.trans ?_ (Fr.drew _ _) | refine Fr.trans ?_ (Fr.drewN _ _ _))) (heap_alloc_new _ _)) ?_; intro a11 c11 w11 hQ; obtain ⟨kW11, fW11, hQ3⟩ := hQ; have HQ3 := hd hQ3; clear hQ3))
        all_goals
          go_wp2
          refine bodyPost_end (results_none rfl _ _ _) rfl ?_
          have HU := HQ3.out _ (by repeat (first | exact Below.refl _ _ | refine Below.drew ?_ | refine below_drewN ?_ _))
          refine ⟨rfl, HU.1.close ((KK.out _ HU.2).more (fun j h => .inl h)) ((KG.out _ HU.2).hj (fun b hb => ?_)) HX.out⟩
          injection hb with hb
          subst hb
          exact hG.out

end Go.Proofs.Ytkkklfnooeofcab
