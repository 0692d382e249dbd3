/-
  The law Plays, walked.
-/
import Derived.Test.YtlmgogonghafeabQj
namespace Go.Proofs.Ytlmgogonghafeab
open Go.RowKit Go.Lib
set_option linter.unusedVariables false

/-- One call of the script. -/
structure LO where
  kd : Int
  wh : Bool
  ok : Int
  op : Int
  oc : Int
  ol : Int
  oq : Int
  s : ByteArray
  b : ByteArray
  nn : Int
  cl : Int
def lopC (o : LO) : List Value := [.int .i64 o.kd, .bool o.wh, .int .i64 o.ok, .int .i64 o.op, .int .u8 o.oc, .int .i64 o.ol, .int .i64 o.oq, .string o.s, .string o.b, .int .i64 o.nn, .int .i64 o.cl]
def lopP (o : LO) : Prop := 0 ≤ o.oc ∧ o.oc ≤ 255 ∧ o.s.size ≤ 9223372036854775807 ∧ o.b.size ≤ 9223372036854775807 ∧ o.nn ≤ 9223372036854775807
theorem sz_lop : Sz lopC 11 := fun x => ⟨rfl, fun v hv => by simp [lopC] at hv; rcases hv with rfl | rfl | rfl | rfl | rfl | rfl | rfl | rfl | rfl | rfl | rfl <;> rfl⟩
/-- The script in memory. -/
def IsSc (w : World) (a : Option Addr) (n c : Nat) (os : List LO) : Prop :=
  os.length = n ∧ n ≤ c ∧ c ≤ 9223372036854775807 ∧ (∀ o ∈ os, lopP o) ∧ (0 < n → ∃ b off, a = some ⟨b, off, none⟩ ∧ b < w.heap.size ∧ ∀ j v, (cl lopC os)[j]? = some v → w.cell? ⟨b, off + j, none⟩ = some v)

/-- Between two calls. -/
def PlI (w : World) (x y v q n n2 k : Nat) (wr : World) : Prop :=
  ∃ D1 D2 xs ys, PS wr D1 x y xs ∧ PS wr D2 v q ys ∧ Chs xs ∧ Chs ys ∧ xs.length ≤ n + k ∧ ys.length ≤ n2 + k ∧ (∀ k, D1 k → ¬ D2 k) ∧ (∀ k, D1 k → w.heap.size ≤ k) ∧ (∀ k, D2 k → w.heap.size ≤ k) ∧ Below w.heap.size w wr
theorem PS.lt {w : World} {D : Nat → Prop} {x y : Nat} {xs : List El} (h : PS w D x y xs) : ∀ k, D k → k < w.heap.size := by
  obtain ⟨Ox, Oy, h1, h2, h3, h4, h5, h6⟩ := h
  exact h6

theorem PlI.one {w wr W1 w2 : World} {x y v q n n2 k : Nat} {D1 D2 : Nat → Prop} {xs ys xs' : List El} (h2 : PS wr D2 v q ys) (k2 : Chs ys) (l1 : xs.length ≤ n + k) (l2 : ys.length ≤ n2 + k) (dj : ∀ k, D1 k → ¬ D2 k) (g1 : ∀ k, D1 k → w.heap.size ≤ k) (g2 : ∀ k, D2 k → w.heap.size ≤ k) (hB : Below w.heap.size w wr)
    (b1 : Below wr.heap.size wr W1) (hP : PS w2 (grw D1 W1 w2) x y xs') (hch : Chs xs') (hlen : xs'.length ≤ xs.length + 1) (hF : Fr D1 W1 w2) : PlI w x y v q n n2 (k + 1) w2 := by
  have s1 := hB.size
  have s2 := b1.size
  have bl := h2.lt
  refine ⟨grw D1 W1 w2, D2, xs', ys, hP, (h2.below b1).fr hF (fun k hk h => dj k h hk), hch, k2, by omega, by omega, fun k hk h => ?_, fun k hk => ?_, g2, ?_⟩
  · rcases hk with hk | hk
    · exact dj k hk h
    · have := bl k h
      omega
  · rcases hk with hk | hk
    · exact g1 k hk
    · omega
  · exact (hB.trans (b1.mono hB.size)).trans (hF.below (Nat.le_trans s1 s2) g1)
theorem PlI.two {w wr W1 w2 : World} {x y v q n n2 k : Nat} {D1 D2 : Nat → Prop} {xs ys ys' : List El} (h1 : PS wr D1 x y xs) (k1 : Chs xs) (l1 : xs.length ≤ n + k) (l2 : ys.length ≤ n2 + k) (dj : ∀ k, D1 k → ¬ D2 k) (g1 : ∀ k, D1 k → w.heap.size ≤ k) (g2 : ∀ k, D2 k → w.heap.size ≤ k) (hB : Below w.heap.size w wr)
    (b1 : Below wr.heap.size wr W1) (hP : PS w2 (grw D2 W1 w2) v q ys') (hch : Chs ys') (hlen : ys'.length ≤ ys.length + 1) (hF : Fr D2 W1 w2) : PlI w x y v q n n2 (k + 1) w2 := by
  have s1 := hB.size
  have s2 := b1.size
  have bl := h1.lt
  refine ⟨D1, grw D2 W1 w2, xs, ys', (h1.below b1).fr hF (fun k hk h => dj k hk h), hP, k1, hch, by omega, by omega, fun k h hk => ?_, g1, fun k hk => ?_, ?_⟩
  · rcases hk with hk | hk
    · exact dj k h hk
    · have := bl k h
      omega
  · rcases hk with hk | hk
    · exact g2 k hk
    · omega
  · exact (hB.trans (b1.mono hB.size)).trans (hF.below (Nat.le_trans s1 s2) g2)

set_option maxRecDepth 100000 in
set_option maxHeartbeats 16000000 in
theorem plays_law (a a2 a3 : Option Addr) (n c n2 c2 n3 c3 : Nat) (xs ys : List El) (os : List LO) (w : World) (hE : IsE w a n c xs) (hE2 : IsE w a2 n2 c2 ys) (hS : IsSc w a3 n3 c3 os) (hc : Chs xs) (hc2 : Chs ys) (hn : n ≤ 380000) (hn2 : n2 ≤ 380000) :
    Calls Try.prog 4 #[.slice a n c, .slice a2 n2 c2, .slice a3 n3 c3] w fun e w' => e = .returned (.bool true) ∧ Below w.heap.size w w' := by
  have HL1 : Hid (xs.length = n) := hE.1
  have HL2 : Hid (ys.length = n2) := hE2.1
  have C1 := hd (rnew_any a n c xs w hE (by omega))
  have C2 := hd (fun W (hW : Below w.heap.size w W) => rnew_any a2 n2 c2 ys W (hE2.below hW) (by omega))
  have C3 := hd (fun W (hW : Below w.heap.size w W) => new_own a n c xs W (hE.below hW) (by omega))
  have C4 := hd (fun W (hW : Below w.heap.size w W) => new_own a2 n2 c2 ys W (hE2.below hW) (by omega))
  have HS := hd hS
  have HC1 := hd hc
  have HC2 := hd hc2
  clear hE hE2 hS hc hc2
  go_enter Try.func4, Try.ntmps4
  go_upto_region 2 with (go_at_call 17; refine C1.out.mono ?_; rintro e w1 ⟨y, rfl, hR1, hb1⟩)
  have B1 := hd hb1
  have R1 := hd hR1
  clear hb1 hR1 C1
  go_upto_region 3 with (go_at_call 17; refine (C2.out _ B1.out).mono ?_; rintro e w2 ⟨q, rfl, hR2, hb2⟩)
  have B2 := hd (B1.out.trans (hb2.mono B1.out.size))
  have R1b := hd (R1.out.below hb2)
  have R2 := hd hR2
  have Z2 := hd hb2.size
  clear hb2 hR2 C2 R1
  go_upto_region 4 with (go_at_call 7; refine (C3.out _ B2.out).mono ?_; rintro e w3 ⟨x, rfl, hI1, hx, hb3⟩)
  have B3 := hd (B2.out.trans (hb3.mono B2.out.size))
  have R1c := hd (R1b.out.below hb3)
  have R2b := hd (R2.out.below hb3)
  have I1 := hd hI1
  have Z3 := hd hb3.size
  clear hb3 hI1 hx C3 R1b R2
  go_upto_region 5 with (go_at_call 7; refine (C4.out _ B3.out).mono ?_; rintro e w4 ⟨v, rfl, hI2, hv, hb4⟩)
  have S0 : Hid (PlI w x y v q n n2 0 w4) := by
    have s1 := B1.out.size
    have s2 := Z2.out
    have s3 := Z3.out
    have s4 := hb4.size
    refine ⟨fun k => (w.heap.size ≤ k ∧ k < w1.heap.size) ∨ (w2.heap.size ≤ k ∧ k < w3.heap.size), fun k => (w1.heap.size ≤ k ∧ k < w2.heap.size) ∨ (w3.heap.size ≤ k ∧ k < w4.heap.size), xs, ys,
      ⟨_, _, I1.out.below hb4, R1c.out.below hb4, fun k hk => .inr hk, fun k hk => .inl hk, fun k h1 h2 => by omega, fun k hk => by omega⟩,
      ⟨_, _, hI2, R2b.out.below hb4, fun k hk => .inr hk, fun k hk => .inl hk, fun k h1 h2 => by omega, fun k hk => by omega⟩,
      HC1.out, HC2.out, by rw [HL1.out]; exact Nat.le_refl _, by rw [HL2.out]; exact Nat.le_refl _, fun k h1 h2 => by omega, fun k h => by omega, fun k h => by omega, B3.out.trans (hb4.mono B3.out.size)⟩
  clear hI2 hv hb4 C4 R1c R2b I1 Z2 Z3 B1 B2 B3 HC1 HC2
  obtain ⟨hol, hoc, hoc2, hop, hos⟩ := HS.out
  have HOL := hd hol
  have HOP := hd hop
  have HOS := hd hos
  clear hol hop hos HS
  go_wp2
  go_loopw [11] (fun iv wr => ∃ k : Nat, iv = .int .i64 k ∧ k ≤ n3 ∧ k ≤ 120 ∧ Hid (PlI w x y v q n n2 k wr)) (fun iv _ => n3 - (intOf iv).toNat)
  case atStart => exact ⟨0, rfl, Nat.zero_le _, by omega, S0⟩
  case round =>
    obtain ⟨k, rfl, hk, hk2, hS⟩ := hrel
    clear S0
    by_cases hlt : k < n3
    · by_cases hlt2 : k < 120
      · have hol : k < os.length := by rw [HOL.out]; exact hlt
        obtain ⟨b, off, rfl, hb, hcs⟩ := HOS.out (by omega)
        have hB : Below w.heap.size w wr := by obtain ⟨D1, D2, xs, ys, h⟩ := hS.out; exact h.2.2.2.2.2.2.2.2.2
        have cell : ∀ r u, (lopC os[k])[r]? = some u → r < 11 → wr.cell? ⟨b, off + (k * 11 + r), none⟩ = some u := by
          intro r u hu hr
          rw [hB.cell (p := ⟨b, off + (k * 11 + r), none⟩) hb]
          refine hcs _ _ ?_
          rw [cl_get sz_lop os k r hol hr]
          exact hu
        have hPr := HOP.out _ (List.getElem_mem hol)
        generalize os[k] = o at *
        obtain ⟨kd, wh, ok, op, oc, ol, oq, s, bb, nn, cl⟩ := o
        obtain ⟨p1, p2, p3, p4, p5⟩ := hPr
        simp only at p1 p2 p3 p4 p5
        have c0 := cell 0 _ rfl (by omega)
        have c1 := cell 1 _ rfl (by omega)
        have c2 := cell 2 _ rfl (by omega)
        have c3 := cell 3 _ rfl (by omega)
        have c4 := cell 4 _ rfl (by omega)
        have c5 := cell 5 _ rfl (by omega)
        have c6 := cell 6 _ rfl (by omega)
        have c7 := cell 7 _ rfl (by omega)
        have c8 := cell 8 _ rfl (by omega)
        have c9 := cell 9 _ rfl (by omega)
        have c10 := cell 10 _ rfl (by omega)
        simp only [← Nat.add_assoc, Nat.add_zero] at c0 c1 c2 c3 c4 c5 c6 c7 c8 c9 c10
        have i1 : (k : Int) < (n3 : Int) := by omega
        have i2 : (k : Int) < 120 := by omega
        have hbw : ¬ b = wr.heap.size := by have := hB.size; omega
        clear cell hcs hB
        go_upto_region 11 with fail
        obtain ⟨D1, D2, xs', ys', h1, h2, k1, k2, l1, l2, dj, g1, g2, hB⟩ := hS.out
        have b1 : Below wr.heap.size wr (wr.alloc (.cells #[.int .i64 kd, .bool wh, .int .i64 ok, .int .i64 op, .int .u8 oc, .int .i64 ol, .int .i64 oq, .string s, .string bb, .int .i64 nn, .int .i64 cl] 53)) := (Below.refl _ _).alloc (Nat.le_refl _) _
        have hn0 := heap_alloc_new wr (.cells #[.int .i64 kd, .bool wh, .int .i64 ok, .int .i64 op, .int .u8 oc, .int .i64 ol, .int .i64 oq, .string s, .string bb, .int .i64 nn, .int .i64 cl] 53)
        cases wh with
        | false =>
          have CS := hd (step_any kd x y D1 xs' false ok op oc ol oq s bb nn cl _ (h1.below b1) k1 (by omega) p1 p2 p3 p4 p5)
          have HZ := hd (fun w2 xs'' hP hch hlen hF => PlI.one (x := x) (y := y) (w2 := w2) (xs' := xs'') h2 k2 l1 l2 dj g1 g2 hB b1 hP hch hlen hF)
          have HBX : Hid (∀ w2, Fr D1 (wr.alloc (.cells #[.int .i64 kd, .bool false, .int .i64 ok, .int .i64 op, .int .u8 oc, .int .i64 ol, .int .i64 oq, .string s, .string bb, .int .i64 nn, .int .i64 cl] 53)) w2 → w2.cell? ⟨wr.heap.size, 1, none⟩ = some (.bool false)) := by
            intro w2 hF
            rw [hF.cell (p := ⟨wr.heap.size, 1, none⟩) (block_lt hn0) (fun h => Nat.lt_irrefl _ (h1.lt _ h)), cell_row hn0]
            rfl
          simp only [lopV] at CS
          clear hS h1 h2 k1 k2 l1 l2 dj g1 g2 hB b1 hn0
          go_wp2_with (go_at_call 18; refine CS.out.mono ?_; rintro e w5 ⟨rfl, xs2, hP, hch, hlen, hF⟩; have z1 := HBX.out _ hF)
          exact ⟨⟨k + 1, by go_num, by omega, by omega, HZ.out _ _ hP hch hlen hF⟩, by simp only [intOf]; omega⟩
        | true =>
          have CS := hd (step_any kd v q D2 ys' true ok op oc ol oq s bb nn cl _ (h2.below b1) k2 (by omega) p1 p2 p3 p4 p5)
          have HZ := hd (fun w2 ys'' hP hch hlen hF => PlI.two (v := v) (q := q) (w2 := w2) (ys' := ys'') h1 k1 l1 l2 dj g1 g2 hB b1 hP hch hlen hF)
          simp only [lopV] at CS
          clear hS h1 h2 k1 k2 l1 l2 dj g1 g2 hB b1 hn0
          go_wp2_with (go_at_call 18; refine CS.out.mono ?_; rintro e w5 ⟨rfl, xs2, hP, hch, hlen, hF⟩)
          exact ⟨⟨k + 1, by go_num, by omega, by omega, HZ.out _ _ hP hch hlen hF⟩, by simp only [intOf]; omega⟩
      · have i1 : (k : Int) < (n3 : Int) := by omega
        have i2 : ¬ (k : Int) < 120 := by omega
        obtain ⟨D1, D2, xs', ys', h1, h2, k1, k2, l1, l2, dj, g1, g2, hB⟩ := hS.out
        have T1 : (tB xs').length = xs'.length := by simp [tB]
        have T2 : (tB ys').length = ys'.length := by simp [tB]
        obtain ⟨O1, r1⟩ := h1.ri
        obtain ⟨O2, r2⟩ := h2.ri
        have C1 := hd (itext_any x (tB xs') wr h1.ix (by omega))
        have C2 := hd (fun W (hW : Below wr.heap.size wr W) => ritext_any y O1 xs' W (r1.below hW) (by omega))
        have C3 := hd (fun W (hW : Below wr.heap.size wr W) => itext_any v (tB ys') W (h2.ix.below hW) (by omega))
        have C4 := hd (fun W (hW : Below wr.heap.size wr W) => ritext_any q O2 ys' W (r2.below hW) (by omega))
        have HB := hd hB
        clear hS h1 h2 k1 k2 l1 l2 dj g1 g2 hB T1 T2 r1 r2
        generalize bsA (tB xs') = TX at *
        generalize bsA (tB ys') = TY at *
        go_wp2_with (first
          | (go_at_call 10; refine C1.out.mono ?_; rintro e w5 ⟨rfl, hb5⟩; clear C1)
          | (go_at_call 19; refine (C2.out _ hb5).mono ?_; rintro e w6 ⟨rfl, hb6⟩; have b6 := hb5.trans (hb6.mono hb5.size); clear hb6 C2)
          | (go_at_call 10; refine (C3.out _ b6).mono ?_; rintro e w7 ⟨rfl, hb7⟩; have b7 := b6.trans (hb7.mono b6.size); clear hb7 C3)
          | (go_at_call 19; refine (C4.out _ b7).mono ?_; rintro e w8 ⟨rfl, hb8⟩; have b8 := b7.trans (hb8.mono b7.size); clear hb8 C4))
        go_ret
        exact ⟨by simp, HB.out.trans (b8.mono HB.out.size)⟩
    · have i1 : ¬ (k : Int) < (n3 : Int) := by omega
      obtain ⟨D1, D2, xs', ys', h1, h2, k1, k2, l1, l2, dj, g1, g2, hB⟩ := hS.out
      have T1 : (tB xs').length = xs'.length := by simp [tB]
      have T2 : (tB ys').length = ys'.length := by simp [tB]
      obtain ⟨O1, r1⟩ := h1.ri
      obtain ⟨O2, r2⟩ := h2.ri
      have C1 := hd (itext_any x (tB xs') wr h1.ix (by omega))
      have C2 := hd (fun W (hW : Below wr.heap.size wr W) => ritext_any y O1 xs' W (r1.below hW) (by omega))
      have C3 := hd (fun W (hW : Below wr.heap.size wr W) => itext_any v (tB ys') W (h2.ix.below hW) (by omega))
      have C4 := hd (fun W (hW : Below wr.heap.size wr W) => ritext_any q O2 ys' W (r2.below hW) (by omega))
      have HB := hd hB
      clear hS h1 h2 k1 k2 l1 l2 dj g1 g2 hB T1 T2 r1 r2
      generalize bsA (tB xs') = TX at *
      generalize bsA (tB ys') = TY at *
      go_wp2_with (first
        | (go_at_call 10; refine C1.out.mono ?_; rintro e w5 ⟨rfl, hb5⟩; clear C1)
        | (go_at_call 19; refine (C2.out _ hb5).mono ?_; rintro e w6 ⟨rfl, hb6⟩; have b6 := hb5.trans (hb6.mono hb5.size); clear hb6 C2)
        | (go_at_call 10; refine (C3.out _ b6).mono ?_; rintro e w7 ⟨rfl, hb7⟩; have b7 := b6.trans (hb7.mono b6.size); clear hb7 C3)
        | (go_at_call 19; refine (C4.out _ b7).mono ?_; rintro e w8 ⟨rfl, hb8⟩; have b8 := b7.trans (hb8.mono b7.size); clear hb8 C4))
      go_ret
      exact ⟨by simp, HB.out.trans (b8.mono HB.out.size)⟩
end Go.Proofs.Ytlmgogonghafeab
