/-
  OutboxApart.
-/
import Derived.Test.YtocpfioifamkmaaSb
import Derived.Deep.DeepCutAuto
import Derived.Laws.BytesArg
namespace Go.Proofs.Ytocpfioifamkmaa
open Go.RowKit
set_option linter.unusedVariables false

theorem conv_one (w : World) (x : Int) : (convert 56 9 (.slice (some ⟨w.heap.size, 0, none⟩) 1 1)).run Try.prog (w.alloc (.cells #[.int .u8 x] 5)) = .ok (.string (strOfNums [x])) (w.alloc (.cells #[.int .u8 x] 5)) :=
  run_convert_bytes_arg _ 56 5 Try.underlying56 Try.underlying5 w.heap.size 0 1 1 [x] rfl (fun i hi => by
    obtain rfl : i = 0 := by omega
    rw [cell_row (heap_alloc_new _ _)]
    rfl) 9 Try.underlying9

theorem leftL_short (p : St) (h : p.ok) : (leftL p).length ≤ 100000 := by
  have := h.few
  unfold leftL
  rw [items_len]
  omega
theorem dueL_short (p : St) (h : p.ok) : (dueL p).length ≤ 100000 := by
  have := h.w2
  unfold dueL
  rw [items_len]
  simp [dueN]
  omega

theorem LR.cells {w0 w : World} {F : Nat → Thg} {β : Option Nat} {a : Option Addr} {N c : Nat} {ops : List OpV} (h : LR w0 w F β (.slice a N c) ops) (hN : ops.length = N) (i : Nat) (hi : i < N) :
    ∃ γ, a = some ⟨γ, 0, none⟩ ∧ β = some γ ∧ ∀ w', KP (fun k => β = some k) w w' → w'.cell? ⟨γ, i * 3, none⟩ = some (.int .i64 (ops[i]'(by omega)).kind) ∧ w'.cell? ⟨γ, i * 3 + 1, none⟩ = some (.int .i64 (ops[i]'(by omega)).site) ∧ w'.cell? ⟨γ, i * 3 + 2, none⟩ = some (.int .i64 (ops[i]'(by omega)).n) := by
  have hil : i < ops.length := by omega
  have hr := h.row
  cases β with
  | none =>
    have := hr.2
    rw [this] at hil
    simp at hil
  | some γ =>
    obtain ⟨cap, e1, e2⟩ := hr
    injection e1 with e1 e3 e4
    refine ⟨γ, e1, rfl, fun w' hw => ?_⟩
    have e5 : RowF eo 3 w' γ ops.length cap 32 ops := by
      obtain ⟨cur, hh, r⟩ := e2
      exact ⟨cur, (hw γ rfl).trans hh, r⟩
    refine ⟨?_, ?_, ?_⟩
    · have := e5.cell sz_eo i 0 hil (by omega)
      simpa [eo] using this
    · have := e5.cell sz_eo i 1 hil (by omega)
      simpa [eo] using this
    · have := e5.cell sz_eo i 2 hil (by omega)
      simpa [eo] using this

set_option maxRecDepth 100000 in
set_option maxHeartbeats 32000000 in
theorem outboxApart_any (a0 : Option Addr) (n0 c0 : Nat) (X : Nat → Int) (a1 : Option Addr) (n1 c1 : Nat) (O : Nat → OpV) (w : World) (hI : IsI w a0 n0 c0 X) (hS : IsS w a1 n1 c1 O) (hn1 : n1 * 24 ≤ 140737488351232) :
    Calls Try.prog 7 #[.slice a0 n0 c0, .slice a1 n1 c1] w fun e w' => e = .returned (.bool true) ∧ Below w.heap.size w w' := by
  have HI := hd hI
  have HS := hd hS
  have n0c := hI.1
  have n0m := hI.2.1
  have n1c := hS.1
  have n1m := hS.2.1
  clear hI hS
  go_enter Try.func7, Try.ntmps7
  go_wp2_with fail
  refine (new_good 3 w (by omega) (by omega)).mono ?_
  rintro e w1 ⟨xa, rfl, S1, h1, h2, h3⟩
  have M1 := hd ((MO.nil w).put 0 (frm_box xa ⟨3, 0, 0, []⟩) h1 h2 h3)
  clear h1 h2 h3
  go_wp2_with fail
  refine (new_good 7 w1 (by omega) (by omega)).mono ?_
  rintro e w2 ⟨xb, rfl, S2, h1, h2, h3⟩
  have M2 := hd (M1.out.put 1 (frm_box xb ⟨7, 0, 0, []⟩) h1 h2 h3)
  clear h1 h2 h3 M1
  go_wp2_with fail
  refine (snew_any w2).mono ?_
  rintro e w3 ⟨xc, rfl, S3, h1, h2, h3⟩
  have M3 := hd (M2.out.put 2 (frm_str xc) h1 h2 h3)
  clear h1 h2 h3 M2
  go_wp2_with fail
  refine (new_good 3 w3 (by omega) (by omega)).mono ?_
  rintro e w4 ⟨xd, rfl, S4, h1, h2, h3⟩
  have M4 := hd (M3.out.put 3 (frm_box xd ⟨3, 0, 0, []⟩) h1 h2 h3)
  clear h1 h2 h3 M3
  have L0 : Hid (∃ β, LR w w4 (FA xa xb xc xd ⟨3, 0, 0, []⟩ ⟨7, 0, 0, []⟩ ⟨3, 0, 0, []⟩) β (.slice none 0 0) (pushes X 0)) := ⟨none, ⟨M4.out.less (fun k hk => by cases hk), ⟨rfl, rfl⟩, fun g hg => by cases hg⟩⟩
  clear M4
  go_wp2_with fail
  refine (num_any 0 w4).mono ?_
  rintro e w5 ⟨rfl, hw5⟩
  subst hw5
  go_wp2_with fail
  refine (num_any 0 w5).mono ?_
  rintro e w6 ⟨rfl, hw5⟩
  subst hw5
  go_wp2_with fail
  refine (num_any 0 w6).mono ?_
  rintro e w7 ⟨rfl, hw5⟩
  subst hw5
  go_wp2_with fail
  refine (num_any 0 w7).mono ?_
  rintro e w8 ⟨rfl, hw5⟩
  subst hw5
  go_wp2_with fail
  go_loopw [13, 14] (fun vl vi wr => ∃ i : Nat, i ≤ n0 ∧ i ≤ 4096 ∧ vi = .int .i64 i ∧ Hid (∃ β, LR w wr (FA xa xb xc xd ⟨3, 0, 0, []⟩ ⟨7, 0, 0, []⟩ ⟨3, 0, 0, []⟩) β vl (pushes X i))) (fun _ vi _ => 4096 - (intOf vi).toNat)
  case atStart => exact ⟨0, Nat.zero_le _, by omega, rfl, L0⟩
  case round =>
    obtain ⟨i, hi, hi4, rfl, HT⟩ := hrel
    clear L0
    go_upto_region 9 with fail
    go_cut [74] (fun v wx => v = .bool (decide ((i : Int) < (n0 : Int) ∧ (i : Int) < 4096)) ∧ wx = wr)
    case first =>
      clear HT HI HS
      by_cases i1 : (i : Int) < (n0 : Int) <;> by_cases i2 : (i : Int) < 4096
      all_goals
        go_wp2_with fail
        go_meet
        refine ⟨?_, rfl⟩
        simp at i1 i2
        simp
        try omega
    case rest =>
    obtain ⟨rfl, hwc⟩ := hcut
    subst hwc
    obtain ⟨β, hL⟩ := HT.out
    by_cases hlt : i < n0 ∧ i < 4096
    · rw [decide_eq_true (by omega)]
      obtain ⟨b, off, rfl, -, hc⟩ := (HI.out.below hL.mo.base (Nat.le_refl _)).2.2 (by omega)
      have ck := hc i hlt.1
      obtain ⟨v', w', hr, g', hL'⟩ := lr_push hL 1 0 (X i) (by rw [pushes_len]; omega)
      rw [← pushes_succ] at hL'
      have Z : Hid (∃ β, LR w w' (FA xa xb xc xd ⟨3, 0, 0, []⟩ ⟨7, 0, 0, []⟩ ⟨3, 0, 0, []⟩) β v' (pushes X (i + 1))) := ⟨_, hL'⟩
      generalize X i = y at ck hr
      obtain ⟨ap, cp, rfl, -⟩ := hL.row.form
      have i1 : (i : Int) < (n0 : Int) := by omega
      have i3 : i < n0 := hlt.1
      clear hL hL' hc HT
      go_wp2_with (at_builtin; refine wpList_append_k _ rfl _ _ 23 23 rfl _ _ rfl rfl (hr _) ?_)
      exact ⟨⟨i + 1, by omega, by omega, by go_num, Z⟩, by simp [intOf]; omega⟩
    · rw [decide_eq_false (by omega)]
      obtain ⟨v', w', hr, β', hL'⟩ := lr_script hL a1 n1 c1 O (HS.out.below hL.mo.base (Nat.le_refl _)) (by rw [pushes_len]; omega) hn1
      obtain ⟨ap, cp, rfl, -⟩ := hL.row.form
      obtain ⟨k0, hk0⟩ : ∃ k0, k0 = i := ⟨_, rfl⟩
      subst hk0
      have hk4 := hi4
      have hk0 : k0 = n0 ∨ k0 = 4096 := by omega
      obtain ⟨ops, hops⟩ : ∃ ops, ops = pushes X k0 ++ opsOf O n1 := ⟨_, rfl⟩
      rw [← hops] at hL'
      obtain ⟨N, hN⟩ : ∃ N, ops.length = N := ⟨_, rfl⟩
      obtain ⟨al, cl, rfl, hNc, hcm⟩ := hL'.row.form
      rw [hN] at hL' hr hNc
      have HO := hd hops
      have HN := hd hN
      have L0 : Hid (LR w w' (FA xa xb xc xd (runO 0 ⟨3, 0, 0, []⟩ (ops.take 0)) (runO 1 ⟨7, 0, 0, []⟩ (ops.take 0)) ⟨3, 0, 0, []⟩) β' (.slice al N cl) ops) := hL'
      clear hL hL' HT HI HS hops hN hlt
      go_wp2_with (at_builtin; refine wpList_append_k _ rfl _ _ 23 23 rfl _ _ rfl rfl (hr _) ?_)
      clear hr
      go_loopw [15] (fun vi wr => ∃ i : Nat, i ≤ N ∧ vi = .int .i64 i ∧ Hid (LR w wr (FA xa xb xc xd (runO 0 ⟨3, 0, 0, []⟩ (ops.take i)) (runO 1 ⟨7, 0, 0, []⟩ (ops.take i)) ⟨3, 0, 0, []⟩) β' (.slice al N cl) ops)) (fun vi _ => N - (intOf vi).toNat)
      case atStart => exact ⟨0, Nat.zero_le _, rfl, L0⟩
      case round =>
        obtain ⟨i, hi, rfl, HT⟩ := hrel
        clear L0
        by_cases hlt : i < N
        · have i1 : (i : Int) < (N : Int) := by omega
          obtain ⟨γ, rfl, rfl, hcs⟩ := HT.out.cells HN.out i hlt
          have hil : i < ops.length := by have := HN.out; omega
          have hra := runO_take 0 ⟨3, 0, 0, []⟩ ops i hil
          have hrb := runO_take 1 ⟨7, 0, 0, []⟩ ops i hil
          obtain ⟨o, ho⟩ : ∃ o, ops[i] = o := ⟨_, rfl⟩
          simp only [ho] at hcs hra hrb
          obtain ⟨ko, so, no⟩ := o
          simp only at hcs hra hrb
          obtain ⟨q0, q1, q2⟩ := hcs wr (KP.refl _ _)
          have HC := hd hcs
          have HR := hd (And.intro hra hrb)
          clear hcs hra hrb ho hil
          go_wp2_with fail
          refine (site_any so wr).mono ?_
          rintro e w2 ⟨rfl, hw2⟩
          subst hw2
          rcases (by omega : so % 2 = 1 ∨ so % 2 = 0) with hs | hs
          · rw [hs]
            go_wp2_with fail
            refine (mo_act HT.out.mo 1 rfl ko so no).mono ?_
            rintro e w3 ⟨rfl, h1, h2⟩
            rw [FA_setb] at h1
            have Z : Hid (LR w w3 (FA xa xb xc xd (runO 0 ⟨3, 0, 0, []⟩ (ops.take (i + 1))) (runO 1 ⟨7, 0, 0, []⟩ (ops.take (i + 1))) ⟨3, 0, 0, []⟩) (some γ) (.slice (some ⟨γ, 0, none⟩) N cl) ops) := by
              rw [HR.out.1, HR.out.2, if_neg (by omega), if_pos hs]
              exact HT.out.step h1 h2
            clear h1 h2 HT HC HR q0 q1 q2
            go_wp2_with fail
            exact ⟨⟨i + 1, by omega, by go_num, Z⟩, by simp [intOf]; omega⟩
          · rw [hs]
            go_wp2_with fail
            refine (mo_act HT.out.mo 0 rfl ko so no).mono ?_
            rintro e w3 ⟨rfl, h1, h2⟩
            rw [FA_seta] at h1
            obtain ⟨q0, q1, q2⟩ := HC.out w3 h2
            have LL : Hid (LR w w3 (FA xa xb xc xd (runO 0 ⟨3, 0, 0, []⟩ (ops.take (i + 1))) (runO 1 ⟨7, 0, 0, []⟩ (ops.take (i + 1))) ⟨3, 0, 0, []⟩) (some γ) (.slice (some ⟨γ, 0, none⟩) N cl) ops) := by
              rw [HR.out.1, HR.out.2, if_pos hs, if_neg (by omega)]
              exact HT.out.step h1 h2
            clear h1 h2 HT HC HR
            by_cases hk1 : ko = 1
            · subst hk1
              have cv := conv_one w3 (no % 256)
              go_wp2_with fail
              refine (mo_spush (LL.out.mo.below ?_) 2 rfl _).mono ?_
              · repeat (first | exact Below.refl _ _ | refine Below.alloc ?_ (by simp) _)
              rintro e w4 ⟨⟨r1, r2, rfl⟩, h1, h2⟩
              have LL : Hid (LR w w4 (FA xa xb xc xd (runO 0 ⟨3, 0, 0, []⟩ (ops.take (i + 1))) (runO 1 ⟨7, 0, 0, []⟩ (ops.take (i + 1))) ⟨3, 0, 0, []⟩) (some γ) (.slice (some ⟨γ, 0, none⟩) N cl) ops) := by
                refine LL.out.step h1 (KP.trans (LL.out.mo.kp ?_) h2)
                repeat (first | exact Below.refl _ _ | refine Below.alloc ?_ (by simp) _)
              clear h1 h2 q0 q1 q2 cv
              by_cases hA : i + 1 = n0
              · have eA : (i : Int) + 1 = (n0 : Int) := by omega
                by_cases hB : (i : Int) < 4096
                · have hfst := run_first X k0 hk4 (opsOf O n1) (i + 1) (by omega)
                  go_wp2_with fail
                  refine (mo_last LL.out.mo 0 rfl).mono ?_
                  rintro e wa ⟨rfl, h1, h2⟩
                  have L1 := hd (LL.out.step h1 h2)
                  clear h1 h2
                  rw [show (runO 0 ⟨3, 0, 0, []⟩ (ops.take (i + 1))).last = i + 1 by rw [HO.out]; exact hfst.1]
                  clear LL
                  have ecast : ((i + 1 : Nat) : Int) = (i : Int) + 1 := by omega
                  rw [ecast]
                  go_wp2_with fail
                  refine (mo_last L1.out.mo 1 rfl).mono ?_
                  rintro e wb ⟨rfl, h1, h2⟩
                  have Z := hd (L1.out.step h1 h2)
                  clear h1 h2
                  rw [show (runO 1 ⟨7, 0, 0, []⟩ (ops.take (i + 1))).last = 0 by rw [HO.out, hfst.2]; rfl]
                  clear L1 hfst ecast
                  go_wp2_with fail
                  exact ⟨⟨i + 1, by omega, by go_num, Z⟩, by simp [intOf]; omega⟩
                · have Z := LL
                  clear LL
                  go_wp2_with fail
                  exact ⟨⟨i + 1, by omega, by go_num, Z⟩, by simp [intOf]; omega⟩
              · have eA : ¬ (i : Int) + 1 = (n0 : Int) := by omega
                have Z := LL
                clear LL
                go_wp2_with fail
                exact ⟨⟨i + 1, by omega, by go_num, Z⟩, by simp [intOf]; omega⟩
            · clear q1 q2
              by_cases hA : i + 1 = n0
              · have eA : (i : Int) + 1 = (n0 : Int) := by omega
                by_cases hB : (i : Int) < 4096
                · have hfst := run_first X k0 hk4 (opsOf O n1) (i + 1) (by omega)
                  go_wp2_with fail
                  refine (mo_last LL.out.mo 0 rfl).mono ?_
                  rintro e wa ⟨rfl, h1, h2⟩
                  have L1 := hd (LL.out.step h1 h2)
                  clear h1 h2
                  rw [show (runO 0 ⟨3, 0, 0, []⟩ (ops.take (i + 1))).last = i + 1 by rw [HO.out]; exact hfst.1]
                  clear LL
                  have ecast : ((i + 1 : Nat) : Int) = (i : Int) + 1 := by omega
                  rw [ecast]
                  go_wp2_with fail
                  refine (mo_last L1.out.mo 1 rfl).mono ?_
                  rintro e wb ⟨rfl, h1, h2⟩
                  have Z := hd (L1.out.step h1 h2)
                  clear h1 h2
                  rw [show (runO 1 ⟨7, 0, 0, []⟩ (ops.take (i + 1))).last = 0 by rw [HO.out, hfst.2]; rfl]
                  clear L1 hfst ecast
                  go_wp2_with fail
                  exact ⟨⟨i + 1, by omega, by go_num, Z⟩, by simp [intOf]; omega⟩
                · have Z := LL
                  clear LL
                  go_wp2_with fail
                  exact ⟨⟨i + 1, by omega, by go_num, Z⟩, by simp [intOf]; omega⟩
              · have eA : ¬ (i : Int) + 1 = (n0 : Int) := by omega
                have Z := LL
                clear LL
                go_wp2_with fail
                exact ⟨⟨i + 1, by omega, by go_num, Z⟩, by simp [intOf]; omega⟩
        · have i1 : ¬ (i : Int) < (N : Int) := by omega
          obtain rfl : i = N := by omega
          have htk : ops.take i = ops := List.take_of_length_le (by rw [HN.out]; exact Nat.le_refl _)
          have HT2 := HT.out
          rw [htk] at HT2
          obtain ⟨pa, hpa⟩ : ∃ pa, runO 0 ⟨3, 0, 0, []⟩ ops = pa := ⟨_, rfl⟩
          obtain ⟨pb, hpb⟩ : ∃ pb, runO 1 ⟨7, 0, 0, []⟩ ops = pb := ⟨_, rfl⟩
          rw [hpa, hpb] at HT2
          have L0 : Hid (LR w wr (FA xa xb xc xd pa pb (runO 0 ⟨3, 0, 0, []⟩ (ops.take 0))) β' (.slice al i cl) ops) := HT2
          have HPA := hd hpa
          have HTK := hd htk
          clear HT HT2 hpa hpb htk HO
          go_wp2_with fail
          go_loopw [16] (fun vi wr => ∃ j : Nat, j ≤ i ∧ vi = .int .i64 j ∧ Hid (LR w wr (FA xa xb xc xd pa pb (runO 0 ⟨3, 0, 0, []⟩ (ops.take j))) β' (.slice al i cl) ops)) (fun vi _ => i - (intOf vi).toNat)
          case atStart => exact ⟨0, Nat.zero_le _, rfl, L0⟩
          case round =>
            obtain ⟨j, hj, rfl, HT⟩ := hrel
            clear L0
            by_cases hlt : j < i
            · have i2 : (j : Int) < (i : Int) := by omega
              obtain ⟨γ, rfl, rfl, hcs⟩ := HT.out.cells HN.out j hlt
              have hil : j < ops.length := by have := HN.out; omega
              have hra := runO_take 0 ⟨3, 0, 0, []⟩ ops j hil
              obtain ⟨o, ho⟩ : ∃ o, ops[j] = o := ⟨_, rfl⟩
              simp only [ho] at hcs hra
              obtain ⟨ko, so, no⟩ := o
              simp only at hcs hra
              obtain ⟨q0, q1, q2⟩ := hcs wr (KP.refl _ _)
              have HR := hd hra
              clear hcs hra ho hil
              go_wp2_with fail
              refine (site_any so wr).mono ?_
              rintro e w2 ⟨rfl, hw2⟩
              subst hw2
              rcases (by omega : so % 2 = 0 ∨ so % 2 = 1) with hs | hs
              · rw [hs]
                go_wp2_with fail
                refine (mo_act HT.out.mo 3 rfl ko so no).mono ?_
                rintro e w3 ⟨rfl, h1, h2⟩
                rw [FA_setd] at h1
                have Z : Hid (LR w w3 (FA xa xb xc xd pa pb (runO 0 ⟨3, 0, 0, []⟩ (ops.take (j + 1)))) (some γ) (.slice (some ⟨γ, 0, none⟩) i cl) ops) := by
                  rw [HR.out, if_pos hs]
                  exact HT.out.step h1 h2
                clear h1 h2 HT HR q0 q1 q2
                go_wp2_with fail
                exact ⟨⟨j + 1, by omega, by go_num, Z⟩, by simp [intOf]; omega⟩
              · rw [hs]
                have Z : Hid (LR w w2 (FA xa xb xc xd pa pb (runO 0 ⟨3, 0, 0, []⟩ (ops.take (j + 1)))) (some γ) (.slice (some ⟨γ, 0, none⟩) i cl) ops) := by
                  rw [HR.out, if_neg (by omega)]
                  exact HT.out
                clear HT HR q0 q1 q2
                go_wp2_with fail
                exact ⟨⟨j + 1, by omega, by go_num, Z⟩, by simp [intOf]; omega⟩
            · have i2 : ¬ (j : Int) < (i : Int) := by omega
              obtain rfl : j = i := by omega
              have HT2 := HT.out.mo
              rw [HTK.out, HPA.out] at HT2
              have M := hd HT2
              have OK := hd (mo_ok HT2 0 rfl)
              clear HT HT2 HPA HTK HN
              go_wp2_with fail
              refine (mo_acked M.out 0 rfl).mono ?_
              rintro e wa ⟨rfl, hwa⟩
              subst hwa
              go_wp2_with fail
              refine (mo_acked M.out 3 rfl).mono ?_
              rintro e wb ⟨rfl, hwa⟩
              subst hwa
              go_wp2_with fail
              refine (mo_sent M.out 0 rfl).mono ?_
              rintro e wa ⟨rfl, hwa⟩
              subst hwa
              go_wp2_with fail
              refine (mo_sent M.out 3 rfl).mono ?_
              rintro e wb ⟨rfl, hwa⟩
              subst hwa
              go_wp2_with fail
              refine (mo_last M.out 0 rfl).mono ?_
              rintro e wa ⟨rfl, h1, -⟩
              have M1 := hd h1
              clear h1 M
              go_wp2_with fail
              refine (mo_last M1.out 3 rfl).mono ?_
              rintro e wb ⟨rfl, h1, -⟩
              have M2 := hd h1
              clear h1 M1
              go_wp2_with fail
              refine (mo_left M2.out 0 rfl).mono ?_
              rintro e wc2 ⟨u, rfl, h1, h2, -⟩
              obtain ⟨gu, cu, rfl, -⟩ := h1.form
              have M3 := hd (And.intro h1 h2)
              clear h1 h2 M2
              go_wp2_with fail
              refine (mo_left M3.out.2 3 rfl).mono ?_
              rintro e wd ⟨u, rfl, h1, h2, h3⟩
              have I1 := M3.out.1.kp (w' := wd) (fun k h4 h5 => h3 k (.inr ⟨h4, h5⟩))
              have C := hd (sameList_true _ _ _ _ _ wd I1 h1 (leftL_short _ OK.out))
              obtain ⟨gv, cv, rfl, -⟩ := h1.form
              have M4 := hd h2
              clear h1 h2 h3 I1 M3
              go_wp2_with fail
              refine C.out.mono ?_
              rintro e we ⟨rfl, hb⟩
              have M5 := hd (M4.out.below hb)
              clear hb M4 C
              go_wp2_with fail
              refine (mo_due M5.out 0 rfl).mono ?_
              rintro e wf ⟨u, rfl, h1, h2, -⟩
              obtain ⟨gu2, cu2, rfl, -⟩ := h1.form
              have M6 := hd (And.intro h1 h2)
              clear h1 h2 M5
              go_wp2_with fail
              refine (mo_due M6.out.2 3 rfl).mono ?_
              rintro e wg ⟨u, rfl, h1, h2, h3⟩
              have I1 := M6.out.1.kp (w' := wg) (fun k h4 h5 => h3 k (.inr ⟨h4, h5⟩))
              have C := hd (sameList_true _ _ _ _ _ wg I1 h1 (dueL_short _ OK.out))
              obtain ⟨gv2, cv2, rfl, -⟩ := h1.form
              have M7 := hd h2.base
              clear h1 h2 h3 I1 M6
              go_wp2_with fail
              refine C.out.mono ?_
              rintro e wh ⟨rfl, hb⟩
              have Z : Hid (Below w.heap.size w wh) := M7.out.trans (hb.mono M7.out.size)
              clear hb M7 C
              go_wp2
              go_ret
              exact ⟨rfl, Z.out⟩

end Go.Proofs.Ytocpfioifamkmaa
