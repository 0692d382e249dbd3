/-
  Line: a refused one.
-/
import Derived.Test.YtplmhilkehkeiaaDoorSm
namespace Go.Proofs.YtplmhilkehkeiaaDoor
open Go.RowKit
set_option linter.unusedVariables false

theorem most_tail (K : Int) (s : Bs) : (spl (mostP (formP K) - 1) s).tail = tailG K s := by
  unfold mostP tailG
  rw [flF_form]
  by_cases h : K = 1
  · rw [if_pos ((form_one K).2 h), if_pos h]
  · rw [if_neg (fun x => h ((form_one K).1 x)), if_neg h]
    congr 2
    omega

theorem meas_err {fs : List Fl} {ws : List Bs} {x : Int} (h : measP fs ws = .error x) : x ≠ 0 := by
  unfold measP at h
  split at h
  · cases h; decide
  · cases hv : valsP fs ws with
    | error e =>
      rw [hv] at h
      simp only at h
      cases h
      have : ∀ (fs : List Fl) (ws : List Bs) (e : Int), valsP fs ws = .error e → e ≠ 0 := by
        intro fs
        induction fs with
        | nil => intro ws e h; cases ws <;> cases h
        | cons f fs ih =>
          intro ws e h
          cases ws with
          | nil => cases h
          | cons w ws =>
            rw [vals_step] at h
            rcases val_cases f.place w with ⟨v, hv, -⟩ | ⟨y, hy, hy'⟩
            · rw [hv] at h
              simp only at h
              cases hr : valsP fs ws with
              | error z => rw [hr] at h; simp only at h; cases h; exact ih ws _ hr
              | ok z => rw [hr] at h; simp only at h; cases h
            · rw [hy] at h
              simp only at h
              cases h
              omega
      exact this _ _ _ hv
    | ok vs =>
      rw [hv] at h
      simp only at h
      split at h
      · cases h
      · cases h; decide

theorem line_tail (s : Bs) (K : Int) (hK : kindP (verbP s) = K) (h0 : K ≠ 0) : lineP s = restP K (tailG K s) := by
  unfold lineP
  rw [hK, if_neg h0, rest_tail]

set_option maxRecDepth 100000 in
set_option maxHeartbeats 8000000 in
theorem line_err (s : ByteArray) (w : World) (K x : Int) (hz : s.size ≤ 2000000) (hV : Verbs w) (hK : kindP (verbP (tl s)) = K) (h0 : kindP (verbP (tl s)) ≠ 0) (hme : measP (fl K) (tailG K (tl s)) = .error x) :
    Calls Tryd.prog 9 #[.string s] w fun e w' => LR w w' (lineP (tl s)) e := by
  have hL : lineP (tl s) = { kind := K, err := x } := by
    rw [line_tail _ K hK (by rw [← hK]; exact h0), rest_meas, hme]
  rw [hL]
  clear hL
  have hx0 : ¬ x = 0 := meas_err hme
  have hl := tl_size s
  have hk0 := (kind_bd (verbP (tl s))).1
  have hk13 := (kind_bd (verbP (tl s))).2
  have hpos1 := verb_pos h0
  rw [hK] at h0 hk0 hk13
  have h1 : 1 ≤ s.size := by omega
  have HV := hd hV
  have HK := hd hK
  have HME := hd hme
  clear hl hV hK hme hpos1
  obtain ⟨M, hM⟩ : ∃ M, formP K = M := ⟨_, rfl⟩
  have hm0 := (form_bd K).1
  have hm7 := (form_bd K).2
  rw [hM] at hm0 hm7
  have HM := hd hM
  clear hM
  have x0 : EZ (w.alloc (.cells #[.int .i64 0, .int .i64 0, .int .i64 0, .int .i64 0, .int .i64 0, .int .u8 0, .slice none 0 0, .int .i64 0] 25)) w.heap.size := heap_alloc_new _ _
  have bz : Below w.heap.size w (w.alloc (.cells #[.int .i64 0, .int .i64 0, .int .i64 0, .int .i64 0, .int .i64 0, .int .u8 0, .slice none 0 0, .int .i64 0] 25)) := (Below.refl _ _).alloc (Nat.le_refl _) _
  have hpos : 0 < w.heap.size := by obtain ⟨t, fr, h⟩ := HV.out; exact block_lt h
  have sz : w.heap.size < (w.alloc (.cells #[.int .i64 0, .int .i64 0, .int .i64 0, .int .i64 0, .int .i64 0, .int .u8 0, .slice none 0 0, .int .i64 0] 25)).heap.size := by simp
  have HX := hd x0
  have BZ := hd bz
  have SZ := hd sz
  clear x0 bz sz
  go_enter Tryd.func9, Tryd.ntmps9
  go_wp2_with fail
  generalize w.alloc (.cells #[.int .i64 0, .int .i64 0, .int .i64 0, .int .i64 0, .int .i64 0, .int .u8 0, .slice none 0 0, .int .i64 0] 25) = w0 at *
  go_wp2_with (first
    | (go_at_call 20; refine (cut_any s _ hz).mono ?_; rintro e w1 ⟨a, b, f, rfl, ha, nq, rfl⟩; have HA := hd ha; have HX1 := hd (show EZ (w0.drewN nq) w.heap.size from HX.out); have BZ1 := hd (below_drewN BZ.out nq); have SZ1 := hd (show w.heap.size < (w0.drewN nq).heap.size from SZ.out); clear ha HX BZ SZ; generalize w0.drewN nq = w1 at *)
    | (go_at_call 21; refine (kindOf_any a _ (HV.out.below BZ1.out hpos)).mono ?_; rintro e w' ⟨rfl, rfl⟩; rw [HA.out, HK.out])
    | (go_at_call 22; refine (formOf_any K _ hk0 hk13).mono ?_; rintro e w' ⟨rfl, rfl⟩; rw [HM.out])
    | (go_at_call 23; refine (wordsOf_any s M _ hz h1 hm0 hm7).mono ?_; rintro e w2 ⟨ws, vw, rfl, hW, hws, hwz, hB2⟩; have HW := hd hW; have HWS := hd hws; have HWZ := hd hwz; have HB2 := hd hB2; clear hW hws hwz hB2)
    | (go_at_call 24; refine (fieldsOf_any M _ hm0 hm7).mono ?_; rintro e w3 ⟨vf, rfl, hF, hB3⟩; have HF := hd hF; have HB3 := hd hB3; clear hF hB3)
    | (go_at_call 25; refine (measure_any (flF M) ws vw vf _ _ w3 (HW.out.below HB3.out (Nat.le_refl _)) HF.out (flF_le M) HWZ.out).mono ?_; rintro e w4 ⟨hB4, hres⟩; rw [HWS.out, show flF M = fl K from (by rw [← HM.out, flF_form]), show (spl (mostP M - 1) (tl s)).tail = tailG K (tl s) from (by rw [← HM.out]; exact most_tail K _), HME.out] at hres; obtain rfl := hres; have HB4 := hd hB4; have BA := hd (HB2.out.trans ((HB3.out.trans (HB4.out.mono HB3.out.size)).mono HB2.out.size)); have XA := hd (HX1.out.below BA.out SZ1.out); have BW := hd (BZ1.out.trans (BA.out.mono BZ1.out.size)); clear hB4; obtain ⟨⟨c0, c1, c2, c3⟩, c4, c5, c6, c7⟩ := en_cells XA.out; obtain ⟨⟨f0, f1, f2, f3⟩, f4, f5, f6, f7⟩ := en_frozen XA.out; simp only at c0 c1 c2 c3 c4 c5 c6 c7; have hlt := block_lt XA.out))
  obtain ⟨P1, P2⟩ := put8_heap (E := { kind := K, err := x }) (v := .slice none 0 0) XA.out
  unfold put8 at P1 P2
  simp only at P1 P2
  have BF : Below w.heap.size w ((((((((w4.setCell ⟨w.heap.size, 0, none⟩ (.int .i64 K)).setCell ⟨w.heap.size, 1, none⟩ (.int .i64 0)).setCell ⟨w.heap.size, 2, none⟩ (.int .i64 0)).setCell ⟨w.heap.size, 3, none⟩ (.int .i64 0)).setCell ⟨w.heap.size, 4, none⟩ (.int .i64 0)).setCell ⟨w.heap.size, 5, none⟩ (.int .u8 0)).setCell ⟨w.heap.size, 6, none⟩ (.slice none 0 0)).setCell ⟨w.heap.size, 7, none⟩ (.int .i64 x)) := BW.out.trans (P2.below BW.out.size (fun k hk => by omega))
  have BB := hd BF
  have PH := hd P1
  clear P1 P2 BF c0 c1 c2 c3 c4 c5 c6 c7 f0 f1 f2 f3 f4 f5 f6 f7
  generalize ((((((((w4.setCell ⟨w.heap.size, 0, none⟩ (.int .i64 K)).setCell ⟨w.heap.size, 1, none⟩ (.int .i64 0)).setCell ⟨w.heap.size, 2, none⟩ (.int .i64 0)).setCell ⟨w.heap.size, 3, none⟩ (.int .i64 0)).setCell ⟨w.heap.size, 4, none⟩ (.int .i64 0)).setCell ⟨w.heap.size, 5, none⟩ (.int .u8 0)).setCell ⟨w.heap.size, 6, none⟩ (.slice none 0 0)).setCell ⟨w.heap.size, 7, none⟩ (.int .i64 x)) = W at *
  obtain ⟨⟨q0, q1, q2, q3⟩, q4, q5, q6, q7⟩ := en_cells PH.out
  simp only at q0 q1 q2 q3 q4 q5 q6 q7
  refine bodyPost_ret (v := .agg (ecell { kind := K, err := x } (.slice none 0 0))) (by simp [results, Tryd.results9, go_sem, q0, q1, q2, q3, q4, q5, q6, q7, ecell]) rfl ?_
  exact ⟨_, rfl, NL.nil _ _, BB.out⟩

end Go.Proofs.YtplmhilkehkeiaaDoor
