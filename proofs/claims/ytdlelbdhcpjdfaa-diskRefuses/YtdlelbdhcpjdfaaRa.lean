/-
  DiskRefuses: the walk.
-/
import Derived.Test.YtdlelbdhcpjdfaaWants
import Derived.Test.YtdlelbdhcpjdfaaOpen
import Derived.Test.YtdlelbdhcpjdfaaLd
namespace Go.Proofs.Ytdlelbdhcpjdfaa
open Go.RowKit
set_option linter.unusedVariables false

theorem step_refuses (o : OpV) (B : List Int) (s : Nat) (h : ¬ (stepP o B s).e = 0) : (stepP o B s).B = B ∧ (stepP o B s).s = s := by
  have happ : ∀ xs : List Int, ¬ (appP xs B s).e = 0 → (appP xs B s).B = B ∧ (appP xs B s).s = s := by
    intro xs
    unfold appP
    split
    · intro h
      exact absurd rfl h
    · exact fun _ => ⟨rfl, rfl⟩
  revert h
  unfold stepP
  split
  · exact happ _
  · split
    · exact happ _
    · split
      · intro h
        exact absurd rfl h
      · split
        · unfold cutP
          split
          · intro h
            exact absurd rfl h
          · exact fun _ => ⟨rfl, rfl⟩
        · split
          · unfold crashP
            split
            · exact fun _ => ⟨rfl, rfl⟩
            · split
              · intro h
                exact absurd rfl h
              · split
                · intro h
                  exact absurd rfl h
                · exact fun _ => ⟨rfl, rfl⟩
          · exact fun _ => ⟨rfl, rfl⟩

theorem op_cells {w : World} {P : Nat} {v0 v1 v2 v3 v4 v5 : Value} (h : w.heap[P]? = some (.cells #[v0, v1, v2, v3, v4, v5] 48 (0, 0))) :
    w.cell? ⟨P, 0, none⟩ = some v0 ∧ w.cell? ⟨P, 1, none⟩ = some v1 ∧ w.cell? ⟨P, 2, none⟩ = some v2 ∧ w.cell? ⟨P, 3, none⟩ = some v3 ∧ w.cell? ⟨P, 4, none⟩ = some v4 ∧ w.cell? ⟨P, 5, none⟩ = some v5 := by
  refine ⟨?_, ?_, ?_, ?_, ?_, ?_⟩ <;> (rw [cell_row h]; rfl)

/-- What holds at the head of a round. -/
def FRel (w wr : World) (r : Nat) : Prop := ∃ ρ B s, DN wr w.heap.size r ρ B s ∧ Below w.heap.size w wr

set_option maxRecDepth 100000 in
set_option maxHeartbeats 4000000 in
theorem refuses_in (a : Option Addr) (n c : Nat) (xs : List Int) (al : Option Addr) (nl cl : Nat) (O : Nat → OpV) (A : Nat → Option Addr) (N C : Nat → Nat) (w : World) (hx : IsB w a n c xs) (hb : n ≤ 262144) (hl : IsOps w al nl cl O A N C) :
    Calls Try.prog 8 #[.slice a n c, .slice al nl cl] w fun x w' => x = .returned (.bool true) ∧ Below w.heap.size w w' := by
  obtain ⟨l1, l2, l3⟩ := hl
  have L3 := hd l3
  have X := hd hx
  have hxl := hx.1
  have j1 : ¬ (262144 : Int) < (n : Int) := by omega
  clear hx l3
  go_enter Try.func8, Try.ntmps8
  go_wp2_with fail
  refine (born_any a n c xs _ X.out hb).mono ?_
  rintro e w1 ⟨r, ρ, rfl, hD, hb1⟩
  have S0 : Hid (FRel w w1 r) := ⟨ρ, xs, n, hD, hb1⟩
  clear hD hb1
  go_wp2
  go_loopw [7] (fun i wr => ∃ k : Nat, k ≤ nl ∧ i = .int .i64 k ∧ Hid (FRel w wr r)) (fun i _ => nl - (intOf i).toNat)
  case atStart => exact ⟨0, Nat.zero_le _, rfl, S0⟩
  case round =>
    obtain ⟨k, hk, rfl, hr⟩ := hrel
    clear S0
    by_cases hlt : k < nl
    · obtain ⟨b, off, rfl, hbb, hc⟩ := L3.out (by omega)
      obtain ⟨c0, c1, c2, c3, c4, c5, hX, hXn⟩ := hc k hlt
      obtain ⟨ρ1, B1, s1, hD1, hbl⟩ := hr.out
      have d0 := (hbl.cell (p := ⟨b, off + k * 6, none⟩) hbb).trans c0
      have d1 := (hbl.cell (p := ⟨b, off + k * 6 + 1, none⟩) hbb).trans c1
      have d2 := (hbl.cell (p := ⟨b, off + k * 6 + 2, none⟩) hbb).trans c2
      have d3 := (hbl.cell (p := ⟨b, off + k * 6 + 3, none⟩) hbb).trans c3
      have d4 := (hbl.cell (p := ⟨b, off + k * 6 + 4, none⟩) hbb).trans c4
      have d5 := (hbl.cell (p := ⟨b, off + k * 6 + 5, none⟩) hbb).trans c5
      have XO := hd (hX.below hbl)
      have hb1 : b < wr.heap.size := Nat.lt_of_lt_of_le hbb hbl.size
      have i1 : (k : Int) < (nl : Int) := by omega
      clear hc c0 c1 c2 c3 c4 c5 hX hbb hr
      generalize O k = o at *
      generalize A k = xa at *
      generalize N k = xn at *
      generalize C k = xc at *
      obtain ⟨kind, site, oa, ob, oc, ys⟩ := o
      simp only [] at d0 d1 d2 d3 d4
      have al1 : Below wr.heap.size wr (wr.alloc (.cells #[.int .i64 kind, .int .i64 site, .int .i64 oa, .int .i64 ob, .int .i64 oc, .slice xa xn xc] 48)) := (Below.refl _ _).alloc (Nat.le_refl _) _
      have D1 := hd (hD1.below al1)
      have XO1 := hd (XO.out.below al1)
      have B2 := hd (hbl.trans (al1.mono hbl.size))
      have O1 : Hid ((wr.alloc (.cells #[.int .i64 kind, .int .i64 site, .int .i64 oa, .int .i64 ob, .int .i64 oc, .slice xa xn xc] 48)).heap[wr.heap.size]? = some (.cells #[.int .i64 kind, .int .i64 site, .int .i64 oa, .int .i64 ob, .int .i64 oc, .slice xa xn xc] 48 (0, 0))) := heap_alloc_new _ _
      have lt1 := hd hD1.1.lt
      have hsl := hD1.1.size_le
      clear hD1 hbl al1 XO
      go_wp2_with fail
      refine (bytes_any r ρ1 B1 s1 _ D1.out.1).mono ?_
      rintro e w2 ⟨v, rfl, hN, hb2⟩
      obtain ⟨g2, rfl, hg2, hG2⟩ := hN.isB (by omega)
      have D2 := hd (D1.out.below hb2)
      have B3 := hd (B2.out.trans (hb2.mono B2.out.size))
      have O2 := hd ((Fr.of_below hb2 : Fr (fun _ => False) _ _).keeps O1.out (fun h => h))
      have XO2 := hd (XO1.out.below hb2)
      have HG2 := hd hG2
      have SEP : Hid (¬ Own r ρ1 g2) := fun hk => by
        have h1 := D1.out.1.lt g2 hk
        omega
      obtain ⟨p0, p1, p2, p3, p4, p5⟩ := op_cells O2.out
      clear hN hb2 hG2 D1 B2 O1 XO1 hg2 d0 d1 d2 d3 d4 d5
      go_wp2_with fail
      refine (size_any r ρ1 B1 s1 _ D2.out.1).mono ?_
      rintro e w3 ⟨rfl, rfl⟩
      go_wp2_with fail
      refine (synced_any r ρ1 B1 s1 _ D2.out.1).mono ?_
      rintro e w3 ⟨rfl, rfl⟩
      go_wp2_with fail
      refine (act_any r ρ1 B1 s1 ⟨kind, site, oa, ob, oc, ys⟩ xa xn xc _ D2.out.1 XO2.out (by omega)).mono ?_
      rintro e w3 ⟨rfl, hnow⟩
      have hyn : ys.length = xn := XO2.out.1
      have WA := hd (fun wx => wants_any B1 B1.length s1 ⟨kind, site, oa, ob, oc, ys⟩ xa xn xc wx rfl hsl.2 hsl.1 hyn hXn)
      have REF := hd (step_refuses ⟨kind, site, oa, ob, oc, ys⟩ B1 s1)
      obtain ⟨ρ3, hD3, hM3, hF3, hB3⟩ := D2.out.now B3.out.size hnow
      generalize stepP ⟨kind, site, oa, ob, oc, ys⟩ B1 s1 = T at *
      obtain ⟨te, tB, ts⟩ := T
      simp only [] at hD3 REF
      have hO : Hid (¬ Own r ρ1 wr.heap.size) := fun hk => Nat.lt_irrefl _ (lt1.out _ hk)
      have O3 := hd (hF3.keeps O2.out hO.out)
      have HG3 : Hid (IsB w3 (some ⟨g2, 0, none⟩) B1.length B1.length B1) := HG2.out.fr hF3 (fun _ b off e hk => by
        have e2 := Option.some.inj e
        simp at e2
        exact SEP.out (e2.1 ▸ hk))
      have D3 := hd hD3
      have B4 := hd (B3.out.trans hB3)
      clear p0 p1 p2 p3 p4 p5
      obtain ⟨p0, p1, p2, p3, p4, p5⟩ := op_cells O3.out
      clear hnow hD3 hM3 hF3 hB3 D2 B3 O2 O3 XO2 HG2 hO SEP
      go_wp2_with fail
      refine (WA.out _).mono ?_
      rintro e w4 ⟨rfl, hb4⟩
      have D4 := hd (D3.out.below hb4)
      have B5 := hd (B4.out.trans (hb4.mono B4.out.size))
      have HG4 := hd (HG3.out.below hb4)
      clear hb4 D3 B4 HG3 WA p0 p1 p2 p3 p4 p5
      by_cases ht : te = 0
      · subst ht
        have S9 : Hid (FRel w w4 r) := ⟨ρ3, tB, ts, D4.out, B5.out⟩
        clear D4 B5 HG4
        go_wp2
        exact ⟨⟨k + 1, by omega, by go_num, S9⟩, by simp [intOf]; omega⟩
      · obtain ⟨hBe, hse⟩ := REF.out ht
        subst hBe
        subst hse
        have htb : (te != 0) = true := by simpa using ht
        go_wp2_with fail
        refine (size_any r ρ3 tB ts _ D4.out.1).mono ?_
        rintro e w5 ⟨rfl, rfl⟩
        go_wp2_with fail
        refine (synced_any r ρ3 tB ts _ D4.out.1).mono ?_
        rintro e w5 ⟨rfl, rfl⟩
        go_wp2_with fail
        refine (bytes_any r ρ3 tB ts _ D4.out.1).mono ?_
        rintro e w5 ⟨v, rfl, hN, hb5⟩
        obtain ⟨g5, rfl, hg5, hG5⟩ := hN.isB (by omega)
        have D5 := hd (D4.out.below hb5)
        have B6 := hd (B5.out.trans (hb5.mono B5.out.size))
        have HG5 := hd hG5
        have HH5 := hd (HG4.out.below hb5)
        clear hN hb5 hG5 D4 B5 HG4 hg5
        go_wp2_with fail
        refine (same_true _ _ tB.length _ _ tB _ HG5.out HH5.out).mono ?_
        rintro e w6 ⟨rfl, m6, rfl⟩
        have S9 : Hid (FRel w (w5.drewN m6) r) := ⟨ρ3, tB, ts, D5.out.drewN m6, below_drewN B6.out m6⟩
        clear D5 B6 HG5 HH5
        generalize w5.drewN m6 = w6 at *
        go_wp2
        exact ⟨⟨k + 1, by omega, by go_num, S9⟩, by simp [intOf]; omega⟩
    · have i1 : ¬ (k : Int) < (nl : Int) := by omega
      go_wp2
      go_ret
      obtain ⟨_, _, _, _, h4⟩ := hr.out
      exact ⟨rfl, h4⟩

set_option maxRecDepth 100000 in
theorem refuses_big (a : Option Addr) (n c : Nat) (al : Option Addr) (nl cl : Nat) (w : World) (hb : 262144 < n) :
    Calls Try.prog 8 #[.slice a n c, .slice al nl cl] w fun x w' => x = .returned (.bool true) ∧ Below w.heap.size w w' := by
  have j1 : (262144 : Int) < (n : Int) := by omega
  go_enter Try.func8, Try.ntmps8
  go_wp2
  go_ret
  exact ⟨rfl, Below.refl _ _⟩

end Go.Proofs.Ytdlelbdhcpjdfaa
