/-
  ints: a list of numbers that was handed out is marked, kept, lengthened, and kept again.
-/
import Derived.Test.YtkkklfnooeofcabMXa
import Derived.Test.YtkkklfnooeofcabHb
import Derived.Test.YtkkklfnooeofcabJe
import Derived.Deep.DeepCutAuto
namespace Go.Proofs.Ytkkklfnooeofcab
open Go.RowKit
set_option linter.unusedVariables false

/-- append of two marks. -/
theorem push_two {α : Type} {f : α → List Value} {k : Nat} (hz : Sz f k) {t e : TypeId} {z : Value} {bytes : Nat} (ht : Try.prog.underlying t = some (.slice e)) (hinf : (Try.prog.info? e).map (fun i => (i.zero, i.size, i.bytes)) = some (some z, k, bytes)) (hzs : z.cells.size = k)
    (w : World) (β : Option Nat) (v : Value) (xs : List α) (hv : SF f k w e β v xs) (b : Nat) (x y : α) (hb : w.heap[b]? = some (.cells (f x ++ f y).toArray e (0, 0))) (hl : roomy (xs.length + 2) bytes) :
    ∃ v' w', (∀ ty, (Builtin.append_ #[t, t] ty #[v, .slice (some ⟨b, 0, none⟩) 2 2]).run Try.prog w = .ok v' w') ∧ NowF f k w w' e β v' (xs ++ [x, y]) := by
  obtain ⟨i0, hi0, hz0, hz1, hz2⟩ := info_parts hinf
  obtain ⟨v', w', hr, hN⟩ := run_pushF hz (P := Try.prog) w t 0 e i0 _ bytes ht hi0 hz0 hz1 hzs hz2 β v xs hv ⟨b, 0, none⟩ 2 2 [x, y] rfl (fun j u hj => by
    rw [add_lit, Nat.zero_add, cell_row hb]
    simpa [cl] using hj) (by omega) hl.2 hl.1
  exact ⟨v', w', fun ty => hr, hN⟩
theorem roomy8 (n : Nat) (h : n ≤ 1000000) : roomy n 8 := by constructor <;> omega
theorem roomy24 (n : Nat) (h : n ≤ 1000000) : roomy n 24 := by constructor <;> omega

set_option maxRecDepth 100000 in
set_option maxHeartbeats 16000000 in
theorem ints_any (X off : Nat) (K : Nat → Prop) (m : Nat) (a : Option Addr) (n c : Nat) (xs : List Int) (β : Option Nat) (w : World) (h : PP ic 1 3 59 w X (off + 2) K m) (hs : SF ic 1 w 3 β (.slice a n c) xs) (hβ : ∀ g, β = some g → ¬ K g) (hn : n ≤ 500000) (hm : m ≤ 1000000000000) :
    Calls Try.prog 25 #[.pointer (some ⟨X, off, none⟩), .slice a n c] w fun ex w' => ex = .returned (.tuple #[]) ∧ InO ic 1 3 59 w w' X (off + 2) K β m := by
  have hxn : xs.length = n := by obtain ⟨a', c', hv, -, -⟩ := hs.form; exact (Value.slice.inj hv).2.1.symm
  have hcn : n ≤ c ∧ c ≤ 9223372036854775807 := by obtain ⟨a', c', hv, h1, h2⟩ := hs.form; obtain ⟨-, -, rfl⟩ := Value.slice.inj hv; exact ⟨by omega, h2⟩
  obtain ⟨vL, vW, hC⟩ := CH.start h (β := β) (fun g hg => ⟨hβ g hg, hs.lt g hg, fun hX => by
    subst hg
    subst hX
    obtain ⟨cur, q1⟩ := hs.blk
    obtain ⟨v1, b1, S1, v2, b2, S2, E, hP, -⟩ := h
    obtain ⟨cs, q2, -⟩ := hP.box
    rw [q1] at q2
    injection q2 with q
    injection q with q3 q4 q5
    exact absurd q4 (by decide)⟩)
  obtain ⟨⟨aL, cL, rfl, hL1, hL2⟩, aW, cW, rfl, hW1, hW2⟩ := hC.len
  simp only [List.length_nil, Nat.add_zero] at hC hL1 hW1 ⊢
  obtain ⟨c0, -, hX⟩ := hC.cells
  have HC := hd hC
  have HX := hd hX
  have HN := hd hxn
  obtain ⟨z, hz⟩ : ∃ z : Int, -1 - (m : Int) = z := ⟨_, rfl⟩
  have S0 : Hid (SF ic 1 w 3 β (.slice a n c) (mkC z xs 0) ∧ Fr (fun j => β = some j) w w) := ⟨by rw [mkC_zero]; exact hs, Fr.refl _ _⟩
  clear h hs hβ hC hxn hX
  go_enter Try.func25, Try.ntmps25
  go_wp2
  go_loopw [5] (fun iv wr => ∃ k : Nat, iv = .int .i64 k ∧ k ≤ n ∧ Hid (SF ic 1 wr 3 β (.slice a n c) (mkC z xs k) ∧ Fr (fun j => β = some j) w wr)) (fun iv _ => n - (intOf iv).toNat)
  case atStart => exact ⟨0, rfl, Nat.zero_le _, S0⟩
  case round =>
    obtain ⟨k, rfl, hk, hS⟩ := hrel
    clear S0
    by_cases hlt : k < n
    · have kx : k < xs.length := by rw [HN.out]; exact hlt
      have hml := mkC_len z xs k (by omega)
      obtain ⟨hS1, hS2⟩ := hS.out
      obtain ⟨g, rfl⟩ : ∃ g, β = some g := by
        cases β with
        | none =>
          have := hS1.2
          rw [this] at hml
          simp at hml
          omega
        | some g => exact ⟨g, rfl⟩
      have hS1c : ∃ cap, (Value.slice a n c) = Value.slice (some ⟨g, 0, none⟩) (mkC z xs k).length cap := by obtain ⟨cap, hv, -⟩ := hS1; exact ⟨cap, hv⟩
      obtain ⟨cap, hv⟩ := hS1c
      obtain ⟨rfl, -, -⟩ := Value.slice.inj hv
      have f0 := hS1.frozen k
      have x0 := hS1.cell sz_ic k 0 (by omega) (by omega)
      rw [Nat.mul_one, Nat.add_zero] at x0
      have x1 : ∃ v, wr.cell? ⟨g, k, none⟩ = some v := ⟨_, x0⟩
      obtain ⟨v0, x1⟩ := x1
      have ST := hS1.setk sz_ic k 0 (.int .i64 z) z (by omega) (by omega) rfl
      rw [mkC_set z xs k kx, Nat.mul_one, Nat.add_zero] at ST
      have ST := hd (And.intro ST (hS2.trans (Fr.setCell (S := fun j => some g = some j) wr ⟨g, k, none⟩ (.int .i64 z) rfl)))
      have i1 : (k : Int) < (n : Int) := by omega
      clear hS hS1 hS2 x0 hv hml
      go_wp2
      exact ⟨⟨k + 1, by go_num, by omega, ST⟩, by simp only [intOf]; omega⟩
    · obtain rfl : k = n := by omega
      obtain ⟨hS1, hS2⟩ := hS.out
      have CM := HC.out.mark hS2
      obtain ⟨ys, hys⟩ : ∃ ys, mkC z xs k = ys := ⟨_, rfl⟩
      have hyl : ys.length = k := by rw [← hys]; exact (mkC_len z xs k (by rw [HN.out]; exact Nat.le_refl _)).trans HN.out
      rw [hys] at hS1
      obtain ⟨cr0, -, -⟩ := CM.cells
      obtain ⟨a7, c7, w7, hr7, cL7, f7, C7, F7⟩ := CM.pushL Try.underlying28 Try.infoIs (by decide) (by simp; omega) ⟨a, k, c⟩
      have S7 := CM.keep F7 (by decide) (by decide) hS1
      simp only [List.length_nil, Nat.add_zero, List.nil_append] at hr7 C7 S7
      have C7 := hd C7
      have S7 := hd S7
      have HY := hd hyl
      clear hS hS1 hS2 CM hys hyl F7
      go_upto_region 6 with (at_builtin; refine wpList_append_k _ rfl (.tmp 27) (.tmp 29) 28 28 rfl _ _ rfl rfl (hr7 _) ?_)
      clear hr7 cL7 f7 cr0 c0
      generalize w7.setCell ⟨X, off + 2, none⟩ (.slice a7 (m + 1) c7) = w8 at *
      go_cut [] (fun wx => ∃ aW' cW', Hid (CH ic 1 3 59 w wx X (off + 2) K β m [⟨a, k, c⟩] [ys] (.slice a7 (m + 1) c7) (.slice aW' (m + 1) cW') ∧ SF ic 1 wx 3 β (.slice a k c) ys))
      case first =>
        have kW8 : w8.cell? ⟨X, off + 3, none⟩ = some (.slice aW m cW) := C7.out.cells.2.1
        have kW8a := fun o => (((Below.refl w8.heap.size w8).alloc (Nat.le_refl _) o).cell (p := ⟨X, off + 3, none⟩) C7.out.cells.2.2).trans kW8
        have HJ8 : Hid (HJ ic 1 3 w8 (fun j => β = some j) ⟨a, k, c⟩ ys) := S7.out.hj (fun b hb => hb)
        have CC := hd (fun U9 w10 gv g' s F9 hgv hS hg' F10 => C7.out.copy (U9 := U9) (w10 := w10) (gv := gv) (g' := g') (s := s) (xs := ys) Try.underlying28 Try.infoIs (by decide) (by simp; omega) F9 hgv hS hg' F10)
        simp only [List.length_nil, Nat.add_zero, List.nil_append] at CC
        have KK := hd (fun u' hF => C7.out.keep (u' := u') hF (by decide) (by decide) S7.out)
        have hR8 := roomy8 k (by omega)
        have HR8 := hd hR8
        clear C7 S7 hR8
        go_region_law (first | (refine step_pushA sz_ic Try.underlying59 Try.infoI rfl rfl (.tmp 38) (.tmp 39) rfl w8.heap.size ⟨a, k, c⟩ (by simp [Act.eval]) (by simp [Act.eval]) (heap_alloc_new _ _) (fun j => β = some j) ys (HJ8.out.fr (T := fun _ => False) (by repeat (first | exact Fr.refl _ _ | refine Fr.trans ?_ (Fr.alloc _ _ _) | refine Fr.trans ?_ (Fr.drew _ _) | refine Fr.trans ?_ (Fr.drewN _ _ _))) (fun _ _ h => h)) HR8.out ?_; intro t w10 g' hS10 hg' hF10; obtain ⟨Y1, Y2, Y3⟩ := CC.out _ w10 w8.heap.size g' t (by repeat (first | exact Fr.refl _ _ | refine Fr.trans ?_ (Fr.alloc _ _ _) | refine Fr.trans ?_ (Fr.drew _ _) | refine Fr.trans ?_ (Fr.drewN _ _ _))) (Nat.le_refl _) hS10 hg' hF10; obtain ⟨ta, tn, tc⟩ := t; simp only at Y3 ⊢; have kW10 : w10.cell? ⟨X, off + 3, none⟩ = some (.slice aW m cW) := Y1; have kW10a := fun o => (((Below.refl w10.heap.size w10).alloc (Nat.le_refl _) o).cell (p := ⟨X, off + 3, none⟩) Y2).trans kW10; have HY3 := hd Y3; clear hS10 hg' hF10 Y1 Y2 Y3) | (refine step_pushV rfl (.tmp 37) (.tmp 41) rfl (.slice aW m cW) w10.heap.size _ (by simp [Act.eval]) (by simp [Act.eval]) (HY3.out _ _ (by repeat (first | exact Fr.refl _ _ | refine Fr.trans ?_ (Fr.alloc _ _ _) | refine Fr.trans ?_ (Fr.drew _ _) | refine Fr.trans ?_ (Fr.drewN _ _ _))) (heap_alloc_new _ _)) ?_; intro a11 c11 w11 hQ; obtain ⟨kW11, fW11, hQ3⟩ := hQ; have HQ3 := hd hQ3; clear hQ3))
        all_goals
          go_wp2_with fail
          go_meet
          have HU := HQ3.out _ (by repeat (first | exact Below.refl _ _ | refine Below.drew ?_ | refine below_drewN ?_ _))
          exact ⟨a11, c11, hd ⟨HU.1, KK.out _ HU.2⟩⟩
      case rest =>
        obtain ⟨aW2, cW2, HCS⟩ := hcut
        obtain ⟨C9, S9⟩ := HCS.out
        have F9 : Fr (fun _ => False) wc (wc.alloc (.cells #[.int .i64 z, .int .i64 z] 3)) := Fr.alloc _ _ _
        obtain ⟨v12, w12, hr12, N12⟩ := push_two sz_ic Try.underlying59 Try.infoI rfl (wc.alloc (.cells #[.int .i64 z, .int .i64 z] 3)) β (.slice a k c) ys (S9.fr F9 (fun _ _ h => h)) wc.heap.size z z (heap_alloc_new _ _) (roomy8 _ (by rw [HY.out]; omega))
        have J12 := (S9.fr F9 (fun _ _ h => h)).grown sz_ic N12 (fun b hb => hb)
        obtain ⟨a12, c12, rfl⟩ := N12.slice
        have e12 : (ys ++ [z, z]).length = k + 2 := by rw [List.length_append, HY.out]; rfl
        rw [e12] at hr12 N12
        obtain ⟨g12, S12, hg12, F12⟩ := now_out N12
        have C12 := (C9.new F9).mark F12
        have hG : Hid (β = some g12 ∨ w.heap.size ≤ g12) := by
          rcases hg12 with h | h
          · exact .inl h
          · have := C9.fr.size
            have := F9.size
            exact .inr (by omega)
        obtain ⟨cr12, -, -⟩ := C12.cells
        obtain ⟨a13, c13, w13, hr13, cL13, f13, C13, F13⟩ := C12.pushL Try.underlying28 Try.infoIs (by decide) (by simp; omega) ⟨a12, k + 2, c12⟩
        have S13 := C12.keep F13 (by decide) (by decide) S12
        have J13 := C12.keepJ F13 (by decide) (by decide) J12
        simp only [List.length_cons, List.length_nil, Nat.zero_add, List.cons_append, List.nil_append] at hr13 C13 S13 J13
        have C13 := hd C13
        have S13 := hd S13
        have J13 := hd J13
        clear HCS C9 S9 F9 N12 J12 S12 hg12 F12 C12 F13 e12
        go_upto_region 8 with (at_builtin; refine wpList_append_k _ rfl (.tmp 45) (.tmp 48) 59 59 rfl _ _ rfl rfl (hr12 _) ?_)
        clear hr12
        go_upto_region 9 with (at_builtin; refine wpList_append_k _ rfl (.tmp 54) (.tmp 56) 28 28 rfl _ _ rfl rfl (hr13 _) ?_)
        clear hr13 cL13 f13 cr12
        generalize w13.setCell ⟨X, off + 2, none⟩ (.slice a13 (m + 1 + 1) c13) = w14 at *
        have kW8 : w14.cell? ⟨X, off + 3, none⟩ = some (.slice aW2 (m + 1) cW2) := C13.out.cells.2.1
        have kW8a := fun o => (((Below.refl w14.heap.size w14).alloc (Nat.le_refl _) o).cell (p := ⟨X, off + 3, none⟩) C13.out.cells.2.2).trans kW8
        have HJ8 : Hid (HJ ic 1 3 w14 (fun j => some g12 = some j) ⟨a12, k + 2, c12⟩ (ys ++ [z, z])) := S13.out.hj (fun b hb => hb)
        have CC := hd (fun U9 w10 gv g' s F9 hgv hS hg' F10 => C13.out.copy (U9 := U9) (w10 := w10) (gv := gv) (g' := g') (s := s) (xs := ys ++ [z, z]) Try.underlying28 Try.infoIs (by decide) (by simp; omega) F9 hgv hS hg' F10)
        simp only [List.length_cons, List.length_nil, Nat.zero_add, List.cons_append, List.nil_append] at CC
        have KK := hd (fun u' hF => C13.out.keepJ (u' := u') hF (by decide) (by decide) J13.out)
        have KG := hd (fun u' hF => C13.out.keep (u' := u') hF (by decide) (by decide) S13.out)
        have HR8 := hd (roomy8 (k + 2) (by omega))
        clear C13 S13 J13
        go_region_law (first | (refine step_pushA sz_ic Try.underlying59 Try.infoI rfl rfl (.tmp 65) (.tmp 66) rfl w14.heap.size ⟨a12, k + 2, c12⟩ (by simp [Act.eval]) (by simp [Act.eval]) (heap_alloc_new _ _) (fun j => some g12 = some j) (ys ++ [z, z]) (HJ8.out.fr (T := fun _ => False) (by repeat (first | exact Fr.refl _ _ | refine Fr.trans ?_ (Fr.alloc _ _ _) | refine Fr.trans ?_ (Fr.drew _ _) | refine Fr.trans ?_ (Fr.drewN _ _ _))) (fun _ _ h => h)) HR8.out ?_; intro t w10 g' hS10 hg' hF10; obtain ⟨Y1, Y2, Y3⟩ := CC.out _ w10 w14.heap.size g' t (by repeat (first | exact Fr.refl _ _ | refine Fr.trans ?_ (Fr.alloc _ _ _) | refine Fr.trans ?_ (Fr.drew _ _) | refine Fr.trans ?_ (Fr.drewN _ _ _))) (Nat.le_refl _) hS10 hg' hF10; obtain ⟨ta, tn, tc⟩ := t; simp only at Y3 ⊢; have kW10 : w10.cell? ⟨X, off + 3, none⟩ = some (.slice aW2 (m + 1) cW2) := Y1; have kW10a := fun o => (((Below.refl w10.heap.size w10).alloc (Nat.le_refl _) o).cell (p := ⟨X, off + 3, none⟩) Y2).trans kW10; have HY3 := hd Y3; clear hS10 hg' hF10 Y1 Y2 Y3) | (refine step_pushV rfl (.tmp 64) (.tmp 68) rfl (.slice aW2 (m + 1) cW2) w10.heap.size _ (by simp [Act.eval]) (by simp [Act.eval]) (HY3.out _ _ (by repeat (first | exact Fr.refl _ _ | refine Fr.trans ?_ (Fr.alloc _ _ _) | refine Fr.trans ?_ (Fr.drew _ _) | refine Fr.trans ?_ (Fr.drewN _ _ _))) (heap_alloc_new _ _)) ?_; intro a11 c11 w11 hQ; obtain ⟨kW11, fW11, hQ3⟩ := hQ; have HQ3 := hd hQ3; clear hQ3))
        all_goals
          go_wp2
          refine bodyPost_end (results_none rfl _ _ _) rfl ?_
          have HU := HQ3.out _ (by repeat (first | exact Below.refl _ _ | refine Below.drew ?_ | refine below_drewN ?_ _))
          refine ⟨rfl, HU.1.close ((KK.out _ HU.2).more (fun j h => .inl h)) ((KG.out _ HU.2).hj (fun b hb => ?_)) HX.out⟩
          injection hb with hb
          subst hb
          exact hG.out

end Go.Proofs.Ytkkklfnooeofcab
