/-
  NotesNumbers, walked.
-/
import Derived.Test.YtkkklfnooeofcaaNa
namespace Go.Proofs.Ytkkklfnooeofcaa
open Go.RowKit Go.Maps Go.ChangeMaps Go.MapKept Go.WideMaps
set_option linter.unusedVariables false

theorem ids_no {u : World} {O : Nat → Prop} {r k : Nat} {Ns : List Nt} {m : Nt} (h : BD u O r k (Ns ++ [m])) : ∀ n ∈ Ns, (n.id : Int) ≠ ((m.id : Nat) : Int) := by
  intro n hn
  have := (List.pairwise_append.1 h.ids.1).2.2 n hn m (by simp)
  omega

set_option maxRecDepth 100000 in
set_option maxHeartbeats 8000000 in
theorem numbers_any (a : Option Addr) (nT cT : Nat) (ts : List Bool) (w : World) (hT : IsO Value.bool w a nT cT ts) :
    Calls Try.prog 7 #[.slice a nT cT] w fun e w' => e = .returned (.bool true) ∧ Below w.heap.size w w' := by
  have HT := hd hT
  have HTL := hd hT.1
  have hTc := hT.2.1
  have hT63 := hT.2.2.1
  clear hT
  go_enter Try.func7, Try.ntmps7
  go_wp2_with fail
  refine (new_any w).mono ?_
  rintro e w1 ⟨r, O, rfl, hD, hO, b1⟩
  have HD1 := hd hD
  have HO1 := hd hO
  have HB1 := hd b1
  clear hD hO b1
  go_wp2_with fail
  refine (text_any 3 w1 (by omega)).mono ?_
  rintro e w2 ⟨v, rfl, β, hS, hβ, b2⟩
  obtain ⟨av, cv, hv, -, -⟩ := hS.form
  rw [txt_len] at hv
  subst hv
  have I0 : Hid (NuS w w2 O r 0 β (.slice av 3 cv) (txt 3) [] ∧ opn []) := ⟨⟨HD1.out.below b2, sf_se hS, fun k hk ho => by have := hβ k hk; have := HD1.out.old k ho; omega, HO1.out, HB1.out.trans (b2.mono HB1.out.size)⟩, fun n hn => by cases hn⟩
  obtain ⟨bv, ov, rfl, -⟩ := (se_isE I0.out.1.se).addr (by omega)
  have hcv := (se_isE I0.out.1.se).2.1
  have hcv63 := (se_isE I0.out.1.se).2.2.1
  clear hS hβ b2 HD1 HO1 HB1
  go_wp2_with fail
  go_loopw [5, 6] (fun t i wr => ∃ k : Nat, k ≤ 256 ∧ i = .int .i64 ((k : Int) + 1) ∧ ∃ O Ns, t = .int .i64 (Ns.length : Int) ∧ Hid (NuS w wr O r k β (.slice (some ⟨bv, ov, none⟩) 3 cv) (txt 3) Ns ∧ opn Ns)) (fun _ i _ => 258 - (intOf i).toNat)
  case atStart => exact ⟨0, by omega, rfl, _, _, rfl, I0⟩
  case round =>
    obtain ⟨k, hk, rfl, O, Ns, rfl, HI⟩ := hrel
    clear I0
    by_cases hlt : k < 256
    · have CP := hd (show Calls Try.prog 24 #[.pointer (some ⟨r, 0, none⟩), .slice (some ⟨bv, ov, none⟩) 3 cv, .int .i64 0, .int .i64 2, .int .i64 1, .string ⟨#[110]⟩] wr _ from put_good O r k Ns wr HI.out.1.bd _ 3 cv (txt 3) (se_isE HI.out.1.se) (wf_txt 3 (by omega)) 0 2 (by omega) (by omega) 1 nB say_n (by decide) hlt (show roomy 2 24 from ⟨by decide, by decide⟩))
      have hNsl : Ns.length ≤ 256 := by
        obtain ⟨b, ps, e, hK⟩ := HI.out.1.bd
        rw [e, List.length_map]
        exact Nat.le_trans hK.len hK.le
      go_wp2_with fail
      refine CP.out.mono ?_
      rintro e w5 ⟨rfl, hN⟩
      obtain ⟨O5, hS5⟩ := HI.out.1.now hN
      have H5 : Hid (NuS w w5 O5 r (k + 1) β (.slice (some ⟨bv, ov, none⟩) 3 cv) (txt 3) (Ns ++ [ntU (k + 1) false])) := hS5
      have HOP := hd HI.out.2
      have ek : ((k + 1 : Nat) : Int) = (k : Int) + 1 := by omega
      rw [ek]
      have BL := hd H5.out.low
      clear hN hS5 CP HI ek
      go_upto_region 13 with fail
      obtain ⟨w6, rfl⟩ : ∃ u, u = w5 := ⟨w5, rfl⟩
      go_cut [46] (fun b wx => (∃ q, b = .bool q) ∧ wx = w6)
      case first =>
        by_cases hkn : k < nT
        · obtain ⟨ab, off, rfl, hab, p0⟩ := HT.out.at k (by rw [HTL.out]; exact hkn)
          have p0 := (BL.out.cell (p := ⟨ab, off + k, none⟩) hab).trans p0
          generalize ts[k]'(by rw [HTL.out]; exact hkn) = tk at *
          have g1 : (k : Int) + 1 ≤ (nT : Int) := by omega
          go_wp2
          go_meet
          exact ⟨⟨_, rfl⟩, rfl⟩
        · have g1 : ¬ (k : Int) + 1 ≤ (nT : Int) := by omega
          go_wp2
          go_meet
          exact ⟨⟨_, rfl⟩, rfl⟩
      case rest =>
        obtain ⟨⟨q, rfl⟩, rfl⟩ := hcut
        obtain ⟨w6, rfl⟩ : ∃ u, u = wc := ⟨wc, rfl⟩
        clear HT HTL BL
        cases q with
        | false =>
          have CA := hd (all_any O5 r (k + 1) _ w6 H5.out.bd _ 3 cv (txt 3) (se_isE H5.out.se) (wf_txt 3 (by omega)) (HOP.out.snoc (k + 1)).room)
          go_wp2_with fail
          refine CA.out.mono ?_
          rintro e w7 ⟨v7, rfl, hA, b7⟩
          obtain ⟨a7, c7, rfl⟩ := all_len hA
          have Z : Hid (NuS w w7 O5 r (k + 1) β (.slice (some ⟨bv, ov, none⟩) 3 cv) (txt 3) (Ns ++ [ntU (k + 1) false]) ∧ opn (Ns ++ [ntU (k + 1) false])) := ⟨H5.out.below b7, HOP.out.snoc _⟩
          have el : Hid ((Ns ++ [ntU (k + 1) false]).length = Ns.length + 1) := by simp [Hid]
          rw [el.out]
          clear CA H5 HOP hA b7
          go_wp2
          exact ⟨⟨k + 1, by omega, congrArg (Value.int .i64) (by omega), O5, _, congrArg (Value.int .i64) (by rw [el.out]; omega), Z⟩, by simp [intOf]; omega⟩
        | true =>
          have CS := hd (show Calls Try.prog 13 #[.pointer (some ⟨r, 0, none⟩), .int .i64 ((k : Int) + 1)] w6 _ from shut_good O5 r (k + 1) Ns [] (ntU (k + 1) false) w6 H5.out.bd rfl)
          go_wp2_with fail
          refine CS.out.mono ?_
          rintro e w7 ⟨rfl, hN⟩
          obtain ⟨O7, hS7⟩ := H5.out.now hN
          have H7 : Hid (NuS w w7 O7 r (k + 1) β (.slice (some ⟨bv, ov, none⟩) 3 cv) (txt 3) (Ns ++ [ntU (k + 1) true])) := hS7
          have CW := hd (sweep_any O7 r (k + 1) _ w7 H7.out.bd _ 3 cv (txt 3) (se_isE H7.out.se) (wf_txt 3 (by omega)))
          rw [HOP.out.sweep1 (k + 1), Nat.sub_self] at CW
          clear hN hS7 CS H5
          go_wp2_with fail
          refine CW.out.mono ?_
          rintro e w8 ⟨rfl, hN⟩
          obtain ⟨O8, hS8⟩ := H7.out.now hN
          have H8 := hd hS8
          have CW2 := hd (show Calls Try.prog 27 #[.pointer (some ⟨r, 0, none⟩), .slice (some ⟨bv, ov + 6, none⟩) 1 (cv - 2)] w8 _ from sweep_any O8 r (k + 1) _ w8 hS8.bd _ 1 (cv - 2) ((txt 3).drop 2) ((se_isE hS8.se).drop 2 (by omega)) (fun x hx => wf_txt 3 (by omega) x (List.mem_of_mem_drop hx)))
          rw [HOP.out.sweep2 (k + 1), List.length_append, List.length_singleton, Nat.add_sub_cancel_left] at CW2
          have g1 : ¬ cv = 2 := by omega
          have g2 : 2 ≤ cv := by omega
          clear hN hS8 CW H7
          go_wp2_with fail
          refine CW2.out.mono ?_
          rintro e w9 ⟨rfl, hN⟩
          obtain ⟨O9, hS9⟩ := H8.out.now hN
          have H9 := hd hS9
          have HNO := hd (ids_no H8.out.bd)
          have HNK : Hid (∀ n ∈ Ns, (n.id : Int) ≠ (k : Int) + 1) := fun n hn => by have := HNO.out n hn; simpa [ntU] using this
          have CL := hd (look_none O9 r (k + 1) Ns (.slice (some ⟨bv, ov, none⟩) 3 cv) ((k : Int) + 1) w9 H9.out.bd (by omega) HNK.out)
          clear hN hS9 CW2 H8 HNO
          go_wp2_with fail
          refine CL.out.mono ?_
          rintro e w10 ⟨rfl, b10⟩
          have bA : Below w10.heap.size w10 (w10.alloc (.cells #[.int .i64 0, .int .i64 0, .string ⟨#[]⟩, .int .i64 0, .int .i64 0, .bool false, .bool false, .slice none 0 0] 37)) := (Below.refl _ _).alloc (Nat.le_refl _) _
          have H11 := hd (H9.out.below (b10.trans (bA.mono b10.size)))
          clear bA b10 CL H9
          go_upto_region 18 with fail
          generalize w10.alloc (.cells #[.int .i64 0, .int .i64 0, .string ⟨#[]⟩, .int .i64 0, .int .i64 0, .bool false, .bool false, .slice none 0 0] 37) = w11 at *
          have C1 := hd (shut_none O9 r (k + 1) Ns ((k : Int) + 1) w11 H11.out.bd (by omega) HNK.out)
          have C2 := hd (reply_none O9 r (k + 1) Ns ((k : Int) + 1) 1 ⟨#[114]⟩ w11 H11.out.bd (by omega) HNK.out)
          have CA := hd (all_any O9 r (k + 1) Ns w11 H11.out.bd _ 3 cv (txt 3) (se_isE H11.out.se) (wf_txt 3 (by omega)) HOP.out.room)
          go_wp2_with fail
          refine C1.out.mono ?_
          rintro e w12 ⟨rfl, rfl⟩
          obtain ⟨w11, rfl⟩ : ∃ u, u = w12 := ⟨w12, rfl⟩
          clear C1
          go_wp2_with fail
          refine C2.out.mono ?_
          rintro e w12 ⟨rfl, rfl⟩
          obtain ⟨w11, rfl⟩ : ∃ u, u = w12 := ⟨w12, rfl⟩
          clear C2
          go_wp2_with fail
          refine CA.out.mono ?_
          rintro e w13 ⟨v7, rfl, hA, b7⟩
          obtain ⟨a7, c7, rfl⟩ := all_len hA
          have Z : Hid (NuS w w13 O9 r (k + 1) β (.slice (some ⟨bv, ov, none⟩) 3 cv) (txt 3) Ns ∧ opn Ns) := ⟨H11.out.below b7, HOP.out⟩
          clear CA H11 HOP hA b7 HNK
          go_wp2
          exact ⟨⟨k + 1, by omega, congrArg (Value.int .i64) (by omega), O9, _, rfl, Z⟩, by simp [intOf]; omega⟩
    · obtain rfl : k = 256 := by omega
      obtain ⟨w5, rfl⟩ : ∃ u, u = wr := ⟨wr, rfl⟩
      have HOP := hd HI.out.2
      have CP := hd (show Calls Try.prog 24 #[.pointer (some ⟨r, 0, none⟩), .slice (some ⟨bv, ov, none⟩) 3 cv, .int .i64 0, .int .i64 2, .int .i64 1, .string ⟨#[110]⟩] w5 _ from put_full O r Ns w5 HI.out.1.bd _ 3 cv 0 2 (by omega) (by omega) 1 nB say_n (by decide))
      clear HT HTL
      go_wp2_with fail
      refine CP.out.mono ?_
      rintro e w6 ⟨rfl, rfl⟩
      obtain ⟨w5, rfl⟩ : ∃ u, u = w6 := ⟨w6, rfl⟩
      have CW := hd (sweep_any O r 256 Ns w5 HI.out.1.bd none 0 0 [] ⟨rfl, by omega, by omega, fun h => by omega⟩ (fun x hx => by cases hx))
      rw [HOP.out.keep, Nat.sub_self] at CW
      clear CP
      go_wp2_with fail
      refine CW.out.mono ?_
      rintro e w7 ⟨rfl, hN⟩
      obtain ⟨O7, hS7⟩ := HI.out.1.now hN
      have H7 := hd hS7
      have CP := hd (show Calls Try.prog 24 #[.pointer (some ⟨r, 0, none⟩), .slice (some ⟨bv, ov, none⟩) 3 cv, .int .i64 0, .int .i64 2, .int .i64 1, .string ⟨#[110]⟩] w7 _ from put_full O7 r Ns w7 H7.out.bd _ 3 cv 0 2 (by omega) (by omega) 1 nB say_n (by decide))
      have CA := hd (all_any O7 r 256 Ns w7 H7.out.bd none 0 0 [] ⟨rfl, by omega, by omega, fun h => by omega⟩ (fun x hx => by cases hx) HOP.out.room)
      clear hN hS7 CW HI
      go_wp2_with fail
      refine CP.out.mono ?_
      rintro e w8 ⟨rfl, rfl⟩
      obtain ⟨w7, rfl⟩ : ∃ u, u = w8 := ⟨w8, rfl⟩
      clear CP
      go_wp2_with fail
      refine CA.out.mono ?_
      rintro e w9 ⟨v9, rfl, hA, b9⟩
      obtain ⟨a9, c9, rfl⟩ := all_len hA
      have Z := hd (H7.out.low.trans (b9.mono H7.out.low.size))
      clear CA H7 HOP hA b9
      go_wp2
      go_ret
      exact ⟨rfl, Z.out⟩

end Go.Proofs.Ytkkklfnooeofcaa
