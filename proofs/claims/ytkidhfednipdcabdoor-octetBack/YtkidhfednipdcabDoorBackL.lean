/-
  OctetBack: the walk.
-/
import Derived.Test.YtkidhfednipdcabDoorBack
import Derived.Test.YtkidhfednipdcabDoorStays
namespace Go.Proofs.YtkidhfednipdcabDoor
open Go.RowKit

/-- The slice value holds the operations that K, N, U and Wh tell. -/
def OpsF (w : World) (a : Option Addr) (n c : Nat) (K N U : Nat → Int) (Wh : Nat → Bool) : Prop :=
  n ≤ c ∧ c ≤ 9223372036854775807 ∧
  (0 < n → ∃ b off, a = some ⟨b, off, none⟩ ∧ b < w.heap.size ∧ ∀ i, i < n → (0 ≤ U i ∧ U i < 18446744073709551616) ∧
    w.cell? ⟨b, off + i * 4, none⟩ = some (.int .i64 (K i)) ∧ w.cell? ⟨b, off + i * 4 + 1, none⟩ = some (.bool (Wh i)) ∧ w.cell? ⟨b, off + i * 4 + 2, none⟩ = some (.int .i64 (N i)) ∧ w.cell? ⟨b, off + i * 4 + 3, none⟩ = some (.int .u64 (U i)))

def L1 (w wr : World) (p : Value) (m : Nat) (zs : List Int) : Prop := ∃ ap cp, p = .slice ap m cp ∧ IsB wr ap m cp zs ∧ Below w.heap.size w wr

theorem isB_nil (w : World) : IsB w none 0 0 [] := ⟨rfl, Nat.le_refl _, by omega, fun h => by omega⟩

theorem drop_pre (xs ys : List Int) (m n : Nat) (hx : xs.length = m) (hy : ys.length = n) : ((xs ++ ys).drop m).take n = ys := by
  subst hx
  subst hy
  rw [List.drop_left]
  exact List.take_length ..


set_option maxRecDepth 100000 in
set_option maxHeartbeats 4000000 in
theorem backA (a : Option Addr) (n c : Nat) (xs : List Int) (al : Option Addr) (nl cl : Nat) (K Nf U : Nat → Int) (Wh : Nat → Bool) (w : World) (h : IsB w a n c xs) (hrg : Rng xs) (hl : OpsF w al nl cl K Nf U Wh) (hg : Handle w) (hnl : nl ≤ 600) :
    Calls Tryd.prog 4 #[.slice al nl cl, .slice a n c] w fun e w' => e = .returned (.bool true) ∧ Below w.heap.size w w' := by
  obtain ⟨l1, l2, l3⟩ := hl
  have L3 := hd l3
  have HG := hd hg
  have HH := hd h
  have HC := hd (h.take (min n 600) (by omega))
  have HRG := hd (hrg.take (min n 600))
  have hlen : (xs.take (min n 600)).length = min n 600 := HC.out.1
  have hN : min n 600 ≤ 600 := by omega
  clear h l3 hg hrg
  go_enter Tryd.func4, Tryd.ntmps4
  go_wp2_with fail
  refine (cut_any a n c xs _ HH.out).mono ?_
  rintro e w1 ⟨rfl, rfl⟩
  generalize xs.take (min n 600) = ys at HC hlen HRG
  generalize min n 600 = N at *
  have S0 : Hid (L1 w w (.slice none 0 0) 0 (pre K U 0)) := ⟨none, 0, rfl, isB_nil w, Below.refl _ _⟩
  go_wp2
  go_loopw [5, 6, 7] (fun p nv i wr => ∃ k m : Nat, k ≤ nl ∧ m ≤ 4 * k ∧ i = .int .i64 k ∧ nv = .int .i64 m ∧ Hid (L1 w wr p m (pre K U k))) (fun _ _ i _ => nl - (intOf i).toNat)
  case atStart => exact ⟨0, 0, by omega, by omega, rfl, rfl, S0⟩
  case round =>
    obtain ⟨k, m, hk, hm, rfl, rfl, hr⟩ := hrel
    clear S0
    by_cases hlt : k < nl
    · obtain ⟨b, off, rfl, hb, hc⟩ := L3.out (by omega)
      obtain ⟨hu, c0, c1, c2, c3⟩ := hc k (by omega)
      obtain ⟨ap, cp, rfl, hB, hbl⟩ := hr.out
      have d0 := (hbl.cell (p := ⟨b, off + k * 4, none⟩) hb).trans c0
      have d1 := (hbl.cell (p := ⟨b, off + k * 4 + 1, none⟩) hb).trans c1
      have d2 := (hbl.cell (p := ⟨b, off + k * 4 + 2, none⟩) hb).trans c2
      have d3 := (hbl.cell (p := ⟨b, off + k * 4 + 3, none⟩) hb).trans c3
      have hb1 : b < wr.heap.size := Nat.lt_of_lt_of_le hb hbl.size
      have hi : (k : Int) < (nl : Int) := by omega
      have hi6 : (k : Int) < 600 := by omega
      have HP := hd hB
      have HL := hd hbl
      have hps := hd (pre_succ K U k)
      have hel := encL_len (K k) (U k)
      have hml : Hid (m = (pre K U k).length) := hB.1.symm
      clear hc c0 c1 c2 c3 hB hbl hr hb L3
      generalize K k = kind at *
      generalize U k = num at *
      generalize Nf k = N1 at *
      generalize Wh k = which at *
      go_wp2_with fail
      refine (lawPut ap m cp kind num N1 which _ _ HP.out (by omega) hu).mono ?_
      rintro e w2 ⟨a3, n3, c3, rfl, hg3, hn3, hb3⟩
      have f0 := (hb3.cell (p := ⟨b, off + k * 4, none⟩) hb1).trans d0
      have f1 := (hb3.cell (p := ⟨b, off + k * 4 + 1, none⟩) hb1).trans d1
      have f2 := (hb3.cell (p := ⟨b, off + k * 4 + 2, none⟩) hb1).trans d2
      have f3 := (hb3.cell (p := ⟨b, off + k * 4 + 3, none⟩) hb1).trans d3
      rw [putL_enc, ← hps.out] at hg3
      have hn4 : n3 = m + (encL kind num).length := by
        have := hg3.1
        rw [hps.out, List.length_append, ← hml.out] at this
        exact this.symm
      subst hn4
      have HG3 := hd hg3
      have HB3 := hd hb3
      clear d0 d1 d2 d3 hg3 hb3 HP
      go_wp2_with fail
      refine (width_any kind N1 num which _).mono ?_
      rintro e w3 ⟨rfl, hb4⟩
      have S1 : Hid (L1 w w3 (.slice a3 (m + (encL kind num).length) c3) (m + (encL kind num).length) (pre K U (k + 1))) :=
        ⟨a3, c3, rfl, HG3.out.below hb4, HL.out.trans ((HB3.out.mono HL.out.size).trans (hb4.mono (Nat.le_trans HL.out.size HB3.out.size)))⟩
      clear f0 f1 f2 f3 hb4 HG3 HB3 HL
      generalize (encL kind num).length = el at *
      go_wp2
      exact ⟨⟨k + 1, m + el, by omega, by omega, by go_num, by go_num, S1⟩, by simp [intOf]; omega⟩
    · obtain rfl : nl = k := by omega
      obtain ⟨ap, cp, rfl, hB, hbl⟩ := hr.out
      have hml : Hid (m = (pre K U nl).length) := hB.1.symm
      have T0 : Hid (L1 w wr (.slice ap (m + 0) cp) (m + 0) (pre K U nl ++ ys.take 0)) := ⟨ap, cp, rfl, by simpa using hB, hbl⟩
      have HPR := hd (pre_rng K U nl)
      clear hB hbl hr
      have hi : ¬ (nl : Int) < (nl : Int) := by omega
      go_wp2
      go_loopw [5, 8] (fun p i wr => ∃ j : Nat, j ≤ N ∧ i = .int .i64 j ∧ Hid (L1 w wr p (m + j) (pre K U nl ++ ys.take j))) (fun _ i _ => N - (intOf i).toNat)
      case atStart => exact ⟨0, Nat.zero_le _, rfl, T0⟩
      case round =>
        obtain ⟨j, hj, rfl, hr⟩ := hrel
        clear T0
        by_cases hlt2 : j < N
        · obtain ⟨b, off, rfl, hb, hc⟩ := HC.out.2.2.2 (by omega)
          obtain ⟨ap2, cp2, rfl, hB, hbl⟩ := hr.out
          have e1 := (hbl.cell (p := ⟨b, off + j, none⟩) hb).trans (hc j hlt2)
          have hxr := HRG.out.get j
          have hts := hd (take_snoc ys j (by omega))
          have HP := hd hB
          have HL := hd hbl
          have hij : (j : Int) < (N : Int) := by omega
          clear hc hB hbl hr hb
          generalize ys.getD j 0 = x at *
          have hx0 := hxr.1
          have hx1 := hxr.2
          clear hxr
          go_wp2_with fail
          refine (prog1 ap2 (m + j) cp2 x _ _ HP.out (by omega) (by omega)).mono ?_
          rintro e w4 ⟨v, rfl, hown, hb5⟩
          obtain ⟨a5, c5, rfl, hB5⟩ := hown.isB
          rw [bytes1, Int.emod_eq_of_lt hx0 (by omega), List.append_assoc, ← hts.out] at hB5
          have S2 : Hid (L1 w w4 (.slice a5 (m + j + 1) c5) (m + (j + 1)) (pre K U nl ++ ys.take (j + 1))) := ⟨a5, c5, rfl, hB5, HL.out.trans (hb5.mono HL.out.size)⟩
          clear hown hB5 hb5 HP HL
          go_wp2
          exact ⟨⟨j + 1, by omega, by go_num, S2⟩, by simp [intOf]; omega⟩
        · obtain rfl : N = j := by omega
          rw [List.take_of_length_le (show ys.length ≤ N by omega)] at hr
          obtain ⟨ap2, cp2, rfl, hB, hbl⟩ := hr.out
          have hij : ¬ (N : Int) < (N : Int) := by omega
          have HP := hd hB
          have HL := hd hbl
          have hPl : (pre K U nl ++ ys).length = m + N := hB.1
          have HPr : Hid (Rng (pre K U nl ++ ys)) := by
            intro x hx
            rcases List.mem_append.1 hx with h | h
            · exact HPR.out x h
            · exact HRG.out x h
          clear hB hbl hr
          go_wp2_with fail
          refine (newReader_any ap2 (m + N) cp2 _ _ HP.out (by omega)).mono ?_
          rintro e w5 ⟨r, rfl, hrw, hrd, hbel⟩
          have HR : Hid (w.heap.size ≤ r) := Nat.le_trans HL.out.size hrw
          have U0 : Hid (0 = (pre K U 0).length ∧ RD w5 r (pre K U nl ++ ys) 0 false ∧ Below w.heap.size w w5) := ⟨rfl, hrd, HL.out.trans (hbel.mono HL.out.size)⟩
          clear hrw hrd hbel HP HL
          go_wp2
          go_loopw [10, 11] (fun at_ i wr => ∃ k q : Nat, k ≤ nl ∧ q ≤ 4 * k ∧ i = .int .i64 k ∧ at_ = .int .i64 q ∧ Hid (q = (pre K U k).length ∧ RD wr r (pre K U nl ++ ys) q false ∧ Below w.heap.size w wr)) (fun _ i _ => nl - (intOf i).toNat)
          case atStart => exact ⟨0, 0, by omega, by omega, rfl, rfl, U0⟩
          case round =>
            obtain ⟨k, q, hk3, hq3, rfl, rfl, hr⟩ := hrel
            clear U0
            by_cases hlt3 : k < nl
            · obtain ⟨b, off, rfl, hb, hc⟩ := L3.out (by omega)
              obtain ⟨hu, c0, c1, c2, c3⟩ := hc k (by omega)
              obtain ⟨hq, hrd, hbl⟩ := hr.out
              have hmid := pre_mid K U k nl hlt3 ys
              rw [← hq] at hmid
              have HMID := hd hmid
              have hps := hd (pre_succ K U k)
              have hel := encL_len (K k) (U k)
              have C0 := hd c0
              have C1 := hd c1
              have C2 := hd c2
              have C3 := hd c3
              have HBB := hd hb
              have RD0 := hd hrd
              have HL := hd hbl
              have HQ := hd hq
              have hi : (k : Int) < (nl : Int) := by omega
              have hi6 : (k : Int) < 600 := by omega
              clear hc c0 c1 c2 c3 hb hrd hbl hq hr hmid
              generalize K k = kind at *
              generalize U k = num at *
              generalize Nf k = N1 at *
              generalize Wh k = which at *
              go_wp2_with fail
              refine (at_any r _ q false _ RD0.out).mono ?_
              rintro e w6 ⟨rfl, rfl⟩
              go_wp2_with fail
              refine (left_len r _ q (m + N) false _ RD0.out hPl).mono ?_
              rintro e w6 ⟨rfl, m6, rfl⟩
              have RD1 := hd (RD0.out.drewN m6)
              have HL1 := hd (below_drewN HL.out m6)
              clear RD0 HL
              generalize wr.drewN m6 = w6 at *
              have d0 := (HL1.out.cell (p := ⟨b, off + k * 4, none⟩) HBB.out).trans C0.out
              have d1 := (HL1.out.cell (p := ⟨b, off + k * 4 + 1, none⟩) HBB.out).trans C1.out
              have d2 := (HL1.out.cell (p := ⟨b, off + k * 4 + 2, none⟩) HBB.out).trans C2.out
              have d3 := (HL1.out.cell (p := ⟨b, off + k * 4 + 3, none⟩) HBB.out).trans C3.out
              go_wp2_with fail
              refine (back_any r _ q kind num N1 which _ RD1.out HPr.out hu HMID.out.1 HMID.out.2).mono ?_
              rintro e w7 ⟨rfl, hrd, hbut⟩
              have RD2 := hd hrd
              have HL2 := hd (below_but2 HL1.out hbut HR.out)
              clear hrd hbut RD1 HL1 d0 d1 d2 d3
              have d0 := (HL2.out.cell (p := ⟨b, off + k * 4, none⟩) HBB.out).trans C0.out
              have d1 := (HL2.out.cell (p := ⟨b, off + k * 4 + 1, none⟩) HBB.out).trans C1.out
              have d2 := (HL2.out.cell (p := ⟨b, off + k * 4 + 2, none⟩) HBB.out).trans C2.out
              have d3 := (HL2.out.cell (p := ⟨b, off + k * 4 + 3, none⟩) HBB.out).trans C3.out
              go_wp2_with fail
              refine (width_any kind N1 num which _).mono ?_
              rintro e w8 ⟨rfl, hb8⟩
              have S3 : Hid (q + (encL kind num).length = (pre K U (k + 1)).length ∧ RD w8 r (pre K U nl ++ ys) (q + (encL kind num).length) false ∧ Below w.heap.size w w8) :=
                ⟨by rw [hps.out, List.length_append, ← HQ.out], RD2.out.below hb8, HL2.out.trans (hb8.mono HL2.out.size)⟩
              clear hb8 RD2 HL2 d0 d1 d2 d3 HMID
              generalize (encL kind num).length = el at *
              go_wp2
              exact ⟨⟨k + 1, q + el, by omega, by omega, by go_num, by go_num, S3⟩, by simp [intOf]; omega⟩
            · obtain rfl : nl = k := by omega
              obtain ⟨hq, hrd, hbl⟩ := hr.out
              obtain rfl : m = q := by rw [hq, ← hml.out]
              have hi : ¬ (nl : Int) < (nl : Int) := by omega
              have RD0 := hd hrd
              have HL := hd hbl
              clear hrd hbl hq hr
              go_wp2_with fail
              refine (take_good r _ m N _ RD0.out (by omega)).mono ?_
              rintro e w9 ⟨v, rfl, hown, hgood⟩
              rw [drop_pre _ ys m N hml.out.symm hlen] at hown
              obtain ⟨at9, ct9, rfl, ht9⟩ := hown.isB
              have T1 := hd ht9
              have RD1 := hd hgood.1
              have HL1 := hd (below_but2 HL.out hgood.2 HR.out)
              have T2 := hd (HC.out.below HL1.out)
              clear hown hgood ht9 RD0 HL
              go_wp2_with fail
              refine (same_true at9 a N ct9 c _ _ T1.out T2.out).mono ?_
              rintro e w10 ⟨rfl, m10, rfl⟩
              have RD2 := hd (RD1.out.drewN m10)
              have HL2 := hd (below_drewN HL1.out m10)
              clear RD1 HL1 T1 T2
              generalize w9.drewN m10 = w10 at *
              go_wp2_with fail
              refine (left_len r _ (m + N) (m + N) false _ RD2.out hPl).mono ?_
              rintro e w11 ⟨rfl, m11, rfl⟩
              have RD3 := hd (RD2.out.drewN m11)
              have HL3 := hd (below_drewN HL2.out m11)
              clear RD2 HL2
              generalize w10.drewN m11 = w11 at *
              go_wp2_with fail
              refine (at_any r _ (m + N) false _ RD3.out).mono ?_
              rintro e w12 ⟨rfl, rfl⟩
              go_wp2_with fail
              refine (err_none r _ (m + N) _ RD3.out).mono ?_
              rintro e w12 ⟨rfl, rfl⟩
              go_wp2_with fail
              refine (u16_bad r _ (m + N) false _ RD3.out (by omega)).mono ?_
              rintro e w12 ⟨rfl, hbad⟩
              have RD4 := hd hbad.1
              have HL4 := hd (below_but2 HL3.out hbad.2 HR.out)
              clear hbad RD3 HL3
              go_wp2_with fail
              refine (err_some r _ (m + N) _ RD4.out).mono ?_
              rintro e w13 ⟨rfl, rfl⟩
              go_wp2_with fail
              refine (told10 _ _ (HG.out.below HL4.out HG.out.pos)).mono ?_
              rintro e w13 ⟨rfl, hbel⟩
              have RD5 := hd (RD4.out.below hbel)
              have HL5 := hd (HL4.out.trans (hbel.mono HL4.out.size))
              clear hbel RD4 HL4
              go_wp2_with fail
              refine (at_any r _ (m + N) true _ RD5.out).mono ?_
              rintro e w14 ⟨rfl, rfl⟩
              go_wp2
              go_ret
              exact ⟨rfl, HL5.out⟩

end Go.Proofs.YtkidhfednipdcabDoor
