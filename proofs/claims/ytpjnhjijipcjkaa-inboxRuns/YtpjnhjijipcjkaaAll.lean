/-
  InboxAll.
-/
import Derived.Test.YtpjnhjijipcjkaaMb
namespace Go.Proofs.Ytpjnhjijipcjkaa
open Go.RowKit
set_option linter.unusedVariables false

/-- What InboxAll puts: numbers up to n, each with three times itself. -/
structure AI (n : Nat) (p : Ib) : Prop where
  val : ∀ q ∈ p.H, q.1 ≤ n ∧ q.2 = .int .i64 (3 * (q.1 : Int))
  cum : p.c ≤ n

theorem AI.put {n m : Nat} {p : Ib} (h : AI n p) (hm : m ≤ n) : AI n (iputS p m (.int .i64 (3 * (m : Int)))) ∧ (iputS p m (.int .i64 (3 * (m : Int)))).c = p.c ∧ (iputS p m (.int .i64 (3 * (m : Int)))).R = p.R := by
  unfold iputS
  split
  · refine ⟨⟨fun q hq => ?_, h.cum⟩, rfl, rfl⟩
    simp at hq
    rcases hq with hq | rfl
    · exact h.val q hq
    · exact ⟨hm, rfl⟩
  · exact ⟨h, rfl, rfl⟩
theorem put_has {p : Ib} (n : Int) (v : Value) {k : Nat} (h : hasK p.H k = true) : hasK (iputS p n v).H k = true := by
  unfold iputS
  split
  · simp only [hasK_snoc, h, Bool.true_or]
  · exact h
theorem put_next {p : Ib} (h : p.ok) (v : Value) (hc : p.c + 1 ≤ 4096) : hasK (iputS p ((p.c + 1 : Nat) : Int) v).H (p.c + 1) = true := by
  cases hh : hasK p.H (p.c + 1)
  · have hr := h.r1
    have hE : iputE p ((p.c + 1 : Nat) : Int) = 0 := by
      unfold iputE
      rw [if_neg (by omega), Int.toNat_natCast, if_neg (by rw [hh]; simp; omega), if_neg (by omega)]
    rw [iputS, if_pos hE, Int.toNat_natCast]
    simp [hasK_snoc]
  · exact put_has _ _ hh
theorem AI.pop {n : Nat} {p : Ib} (h : AI n p) (hh : p.hd = true) : AI n (ipopS p) ∧ (ipopS p).c = p.c + 1 ∧ p.c + 1 ≤ n ∧ atK p.H (p.c + 1) iz = .int .i64 (3 * ((p.c : Int) + 1)) := by
  have hm := atK_mem (z := iz) hh
  obtain ⟨h1, h2⟩ := h.val _ hm
  simp only at h1 h2
  rw [ipopS, if_pos hh]
  refine ⟨⟨fun q hq => h.val q (cut_mem hq).1, h1⟩, rfl, h1, ?_⟩
  rw [h2, Int.natCast_add, Int.natCast_one]
theorem itossE_of {p : Ib} (h : p.hd = true) : itossE p = 0 := by rw [itossE, if_pos h]

theorem cum_cell {w0 w : World} {x : Nat} {p : Ib} {K : Nat → Prop} (h : IX w0 w x p K) : w.cell? ⟨x, 1, none⟩ = some (.int .i64 p.c) := by
  obtain ⟨S, h1, -⟩ := MO.now h 0
  rw [setO_same] at h1
  obtain ⟨⟨b, hK, -⟩, -⟩ := h1
  have := cell_row hK.box 1
  simpa using this
def cumAt (w : World) (x : Nat) : Nat := (intOf ((w.cell? ⟨x, 1, none⟩).getD undef)).toNat
theorem cumAt_of {w0 w : World} {x : Nat} {p : Ib} {K : Nat → Prop} (h : IX w0 w x p K) : cumAt w x = p.c := by
  unfold cumAt
  rw [cum_cell h]
  simp [intOf]

/-- A list of numbers that came in. -/
theorem isI_cell {w : World} {a : Option Addr} {n c : Nat} {X : Nat → Int} (h : IsI w a n c X) {i : Nat} (hi : i < n) : ∃ b off, a = some ⟨b, off, none⟩ ∧ w.cell? ⟨b, off + i, none⟩ = some (.int .i64 (X i)) := by
  obtain ⟨-, -, h3⟩ := h
  obtain ⟨b, off, rfl, -, hc⟩ := h3 (by omega)
  exact ⟨b, off, rfl, hc i hi⟩

def AH (w0 w : World) (x R n c : Nat) (Q : Ib → Prop) : Prop := ∃ p, IX w0 w x p NoK ∧ AI n p ∧ p.R = R ∧ p.c = c ∧ Q p

set_option maxRecDepth 100000 in
set_option maxHeartbeats 16000000 in
theorem inboxAll_any (x0 x1 : Int) (a2 : Option Addr) (n2 c2 : Nat) (X : Nat → Int) (w : World) (hI : IsI w a2 n2 c2 X) :
    Calls Try.prog 4 #[.int .i64 x0, .int .i64 x1, .slice a2 n2 c2] w fun e w' => e = .returned (.bool true) ∧ RowKit.Below w.heap.size w w' := by
  have HI := hd hI
  have n2c := hI.1
  have n2m := hI.2.1
  clear hI
  go_enter Try.func4, Try.ntmps4
  go_wp2_with fail
  refine (within_any x0 1 4096 w (by omega) (by omega)).mono ?_
  rintro e w1 ⟨R, rfl, hR1, hR2, rfl⟩
  go_wp2_with fail
  refine (within_any x1 1 4096 w1 (by omega) (by omega)).mono ?_
  rintro e w2 ⟨n, rfl, hn1, hn2, rfl⟩
  go_wp2_with fail
  refine (ix_new R w2 hR1 hR2).mono ?_
  rintro e w3 ⟨x, rfl, h3⟩
  have S0 : Hid (AH w2 w3 x R n 0 (fun _ => True)) := ⟨_, h3, ⟨by simp, by simp⟩, rfl, rfl, trivial⟩
  clear h3
  go_wp2_with fail
  go_loopw [10] (fun v wr => ∃ i : Nat, i ≤ n ∧ v = .int .i64 i ∧ ∃ c, i ≤ c ∧ c ≤ n ∧ Hid (AH w2 wr x R n c (fun _ => True))) (fun v _ => n - (intOf v).toNat)
  case atStart => exact ⟨0, Nat.zero_le _, rfl, 0, Nat.le_refl _, by omega, S0⟩
  case round =>
    obtain ⟨i, hi, rfl, c, hic, hcn, HA⟩ := hrel
    clear S0
    by_cases hlt : i < n
    · have i1 : (i : Int) < (n : Int) := by omega
      go_wp2_with fail
      go_loopw [11] (fun v wr => ∃ j : Nat, j ≤ n2 ∧ v = .int .i64 j ∧ Hid (AH w2 wr x R n c (fun _ => True))) (fun v _ => n2 - (intOf v).toNat)
      case atStart => exact ⟨0, Nat.zero_le _, rfl, HA⟩
      case round =>
        rename_i wr0
        clear HA
        obtain ⟨j, hj, rfl, HA⟩ := hrel
        by_cases hjl : j < n2
        · have j1 : (j : Int) < (n2 : Int) := by omega
          obtain ⟨p, hX, hA, hR, hc, -⟩ := HA.out
          obtain ⟨b, off, rfl, hcell⟩ := isI_cell (HI.out.below hX.base (Nat.le_refl _)) hjl
          generalize X j = y at hcell
          have HX := hd (And.intro hX (And.intro hA (And.intro hR hc)))
          clear hX hA hR hc HA
          go_wp2_with fail
          refine (within_any y 1 n _ hn1 hn2).mono ?_
          rintro e w5 ⟨m, rfl, hm1, hm2, rfl⟩
          have hw : IntKind.i64.wrap (3 * (m : Int)) = 3 * (m : Int) := by rw [IntKind.wrap_i64]; omega
          go_wp2_with fail
          refine (ix_put HX.out.1 m (3 * (m : Int))).mono ?_
          rintro e w6 ⟨rfl, h6, -⟩
          obtain ⟨q1, q2, q3⟩ := HX.out.2.1.put hm2
          have Z : Hid (AH w2 w6 x R n c (fun _ => True)) := ⟨_, h6, q1, q3.trans HX.out.2.2.1, q2.trans HX.out.2.2.2, trivial⟩
          clear h6 q1 q2 q3 HX hcell
          go_wp2_with fail
          exact ⟨⟨j + 1, by omega, by go_num, Z⟩, by simp [intOf]; omega⟩
        · have j1 : ¬ (j : Int) < (n2 : Int) := by omega
          have S3 : Hid (AH w2 wr x R n c (fun p => n < p.c + 1 → c < n → hasK p.H (c + 1) = true)) := by
            obtain ⟨p, h1, h2, h3, h4, -⟩ := HA.out
            exact ⟨p, h1, h2, h3, h4, fun h => by omega⟩
          clear HA
          go_wp2_with fail
          go_loopw [13] (fun v wr => ∃ m : Nat, m ≤ n ∧ v = .int .i64 m ∧ Hid (AH w2 wr x R n c (fun p => m < p.c + 1 → c < n → hasK p.H (c + 1) = true))) (fun v _ => (intOf v).toNat)
          case atStart => exact ⟨n, Nat.le_refl _, rfl, S3⟩
          case round =>
            clear S3
            obtain ⟨m, hm, rfl, HB⟩ := hrel
            by_cases hm1 : 1 ≤ m
            · have m1 : (1 : Int) ≤ (m : Int) := by omega
              have hw : IntKind.i64.wrap (3 * (m : Int)) = 3 * (m : Int) := by rw [IntKind.wrap_i64]; omega
              obtain ⟨p, hX, hA, hR, hc, hQ⟩ := HB.out
              have HX := hd (And.intro hX (And.intro hA (And.intro hR (And.intro hc hQ))))
              clear hX hA hR hc hQ HB
              go_wp2_with fail
              refine (ix_put HX.out.1 m (3 * (m : Int))).mono ?_
              rintro e w6 ⟨rfl, h6, -⟩
              have Z : Hid (AH w2 w6 x R n c (fun p => m - 1 < p.c + 1 → c < n → hasK p.H (c + 1) = true)) := by
                obtain ⟨hX, hA, hR, hc, hQ⟩ := HX.out
                obtain ⟨q1, q2, q3⟩ := hA.put hm
                refine ⟨_, h6, q1, q3.trans hR, q2.trans hc, fun hl hcn' => ?_⟩
                by_cases he : m = p.c + 1
                · have := put_next (ix_ok hX).1 (.int .i64 (3 * (m : Int))) (by omega)
                  rw [← he] at this
                  rw [← hc, ← he]
                  exact this
                · exact put_has _ _ (hQ (by omega) hcn')
              clear h6 HX
              go_wp2_with fail
              exact ⟨⟨m - 1, by omega, by go_num, Z⟩, by simp [intOf]; omega⟩
            · have m1 : ¬ (1 : Int) ≤ (m : Int) := by omega
              obtain ⟨p, hX, hA, hR, hc, hQ⟩ := HB.out
              have HX := hd (And.intro hX (And.intro hA (And.intro hR (And.intro hc (fun hcn' => hQ (by omega) hcn')))))
              clear hX hA hR hc hQ HB
              go_wp2_with fail
              refine (ix_cum HX.out.1).mono ?_
              rintro e w6 ⟨rfl, rfl⟩
              rw [HX.out.2.2.2.1]
              go_wp2_with fail
              refine (ix_head HX.out.1).mono ?_
              rintro e w7 ⟨rfl, h7, -⟩
              have S4 : Hid (∃ p', IX w2 w7 x p' NoK ∧ AI n p' ∧ p'.R = R ∧ c ≤ p'.c ∧ (c < n → p'.hd = true ∨ c < p'.c) ∧ atK p.H (p.c + 1) iz = atK p'.H (p'.c + 1) iz ∧ p.hd = p'.hd) := by
                obtain ⟨hX, hA, hR, hc, hQ⟩ := HX.out
                refine ⟨p, h7, hA, hR, by omega, fun hcn' => .inl ?_, rfl, rfl⟩
                unfold Ib.hd
                rw [hc]
                exact hQ hcn'
              clear h7 HX
              generalize atK p.H (p.c + 1) iz = hv at S4
              generalize p.hd = hb at S4
              obtain ⟨y, rfl⟩ : ∃ y : Int, hv = .int .i64 y := by
                obtain ⟨p', h1, h2, h3, h4, h5, rfl, rfl⟩ := S4.out
                cases hh : p'.hd
                · exact ⟨0, atK_none hh⟩
                · exact ⟨_, (h2.pop hh).2.2.2⟩
              go_wp2_with fail
              go_loopw [15, 16] (fun v b wr => ∃ (y : Int) (hb : Bool), v = .int .i64 y ∧ b = .bool hb ∧ Hid (∃ p', IX w2 wr x p' NoK ∧ AI n p' ∧ p'.R = R ∧ c ≤ p'.c ∧ (c < n → p'.hd = true ∨ c < p'.c) ∧ .int .i64 y = atK p'.H (p'.c + 1) iz ∧ hb = p'.hd)) (fun _ _ wr => 4097 - cumAt wr x)
              case atStart => exact ⟨y, hb, rfl, rfl, S4⟩
              case round =>
                clear S4
                obtain ⟨y, hb, rfl, rfl, HC⟩ := hrel
                cases hb
                · have Z : Hid (∃ p', IX w2 wr x p' NoK ∧ AI n p' ∧ p'.R = R ∧ (c < n → c < p'.c) ∧ c ≤ p'.c) := by
                    obtain ⟨p', h1, h2, h3, h4, h5, -, h6⟩ := HC.out
                    exact ⟨p', h1, h2, h3, fun h => (h5 h).resolve_left (by rw [← h6]; simp), h4⟩
                  clear HC
                  obtain ⟨p', h1, h2, h3, h4, h5⟩ := Z.out
                  obtain ⟨d, hd'⟩ : ∃ d, p'.c = d := ⟨_, rfl⟩
                  have hdn : d ≤ n := hd' ▸ h2.cum
                  have hcd : c < n → c < d := hd' ▸ h4
                  have hcd2 : c ≤ d := hd' ▸ h5
                  have H1 := hd h1
                  have Y : Hid (AH w2 wr x R n d (fun _ => True)) := ⟨p', h1, h2, h3, hd', trivial⟩
                  have HD := hd hd'
                  clear h1 h2 h3 h4 h5 Z hd'
                  go_wp2_with fail
                  refine (ix_cum H1.out).mono ?_
                  rintro e w8 ⟨rfl, rfl⟩
                  rw [HD.out]
                  clear H1
                  by_cases hdc : d = c
                  · subst hdc
                    have g1 : ¬ ((d : Int) < (n : Int)) := by omega
                    go_wp2_with fail
                    exact ⟨⟨i + 1, by omega, by go_num, d, by omega, by omega, Y⟩, by simp [intOf]; omega⟩
                  · have g1 : ¬ ((d : Int) = (c : Int)) := by omega
                    go_wp2_with fail
                    exact ⟨⟨i + 1, by omega, by go_num, d, by omega, by omega, Y⟩, by simp [intOf]; omega⟩
                · obtain ⟨p', h1, h2, h3, h4, h5, h6, h7⟩ := HC.out
                  obtain ⟨q1, q2, q3, q4⟩ := h2.pop h7.symm
                  rw [q4] at h6
                  injection h6 with h6a h6b
                  subst h6b
                  have H1 := hd (And.intro h1 (And.intro q1 (And.intro q2 (And.intro h3 (And.intro h4 h7)))))
                  obtain ⟨d, hd'⟩ : ∃ d, p'.c = d := ⟨_, rfl⟩
                  have hcum := cumAt_of h1
                  have hdn : d + 1 ≤ n := hd' ▸ q3
                  have HD := hd hd'
                  have HU := hd (And.intro hcum hcum)
                  have hw : IntKind.i64.wrap (3 * ((d : Int) + 1)) = 3 * ((d : Int) + 1) := by rw [IntKind.wrap_i64]; omega
                  rw [hd']
                  clear h1 h2 h3 h4 h5 h7 q1 q2 q3 q4 HC hd' hcum
                  go_wp2_with fail
                  refine (ix_cum H1.out.1).mono ?_
                  rintro e w8 ⟨rfl, rfl⟩
                  rw [HD.out]
                  go_wp2_with fail
                  refine (ix_pop H1.out.1).mono ?_
                  rintro e w9 ⟨rfl, h9, -⟩
                  rw [itossE_of H1.out.2.2.2.2.2.symm]
                  have H9 := hd h9
                  clear h9
                  go_wp2_with fail
                  refine (ix_head H9.out).mono ?_
                  rintro e w10 ⟨rfl, h10, -⟩
                  have hcum2 := cumAt_of h10
                  have Z : Hid (∃ p2, IX w2 w10 x p2 NoK ∧ AI n p2 ∧ p2.R = R ∧ c ≤ p2.c ∧ (c < n → p2.hd = true ∨ c < p2.c) ∧ atK (ipopS p').H ((ipopS p').c + 1) iz = atK p2.H (p2.c + 1) iz ∧ (ipopS p').hd = p2.hd) := by
                    obtain ⟨h1, q1, q2, h3, h4, h7⟩ := H1.out
                    refine ⟨_, h10, q1, ?_, by rw [q2]; omega, fun _ => .inr (by rw [q2]; omega), rfl, rfl⟩
                    rw [ipopS, if_pos h7.symm]
                    exact h3
                  have M : Hid (4097 - cumAt w10 x < 4097 - cumAt w8 x) := by
                    show _ < _
                    rw [hcum2, HU.out.1, H1.out.2.2.1, HD.out]
                    omega
                  clear h10 H1 H9 hcum2 HU HD
                  generalize atK (ipopS p').H ((ipopS p').c + 1) iz = hv at Z
                  generalize (ipopS p').hd = hb at Z
                  obtain ⟨y, rfl⟩ : ∃ y : Int, hv = .int .i64 y := by
                    obtain ⟨p', h1, h2, h3, h4, h5, rfl, rfl⟩ := Z.out
                    cases hh : p'.hd
                    · exact ⟨0, atK_none hh⟩
                    · exact ⟨_, (h2.pop hh).2.2.2⟩
                  go_wp2_with fail
                  exact ⟨⟨y, hb, rfl, rfl, Z⟩, M.out⟩
    · have i1 : ¬ (i : Int) < (n : Int) := by omega
      obtain rfl : c = n := by omega
      obtain ⟨p, hX, hA, hR, hc, -⟩ := HA.out
      have hL : heldL p = [] := by
        have : p.H = [] := by
          refine List.eq_nil_iff_forall_not_mem.2 fun q hq => ?_
          have h1 := (hA.val q hq).1
          have h2 := (ix_ok hX).1.key q hq
          omega
        unfold heldL
        rw [this]
        simp
      have HX := hd hX
      have HL := hd hL
      have HC := hd hc
      clear hX hA hR hc HA hL
      go_wp2_with fail
      refine (ix_cum HX.out).mono ?_
      rintro e w6 ⟨rfl, rfl⟩
      rw [HC.out]
      go_wp2_with fail
      refine (ix_held HX.out).mono ?_
      rintro e w7 ⟨v, rfl, h7, h8, -⟩
      rw [HL.out] at h7
      have Z := hd h8.base
      obtain ⟨a, k, rfl, -⟩ := h7.isL
      simp only [List.length_nil]
      clear h7 h8 HX
      go_wp2_with fail
      go_ret
      exact ⟨rfl, Z.out⟩

end Go.Proofs.Ytpjnhjijipcjkaa
