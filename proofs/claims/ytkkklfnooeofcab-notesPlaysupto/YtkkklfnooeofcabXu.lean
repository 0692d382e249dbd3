/-
  The law's asks: Look, walked.
-/
import Derived.Test.YtkkklfnooeofcabXt
namespace Go.Proofs.Ytkkklfnooeofcab
open Go.RowKit
set_option linter.unusedVariables false

/-- A told note in a variable: its block, its answers' block. -/
structure NV (w wx : World) (id cl : Int) (wo : ByteArray) (p q : Int) (go sh : Bool) (sd : List (Int × ByteArray)) (z : Nat) (ra : Option Addr) (rc : Nat) (β : Option Nat) : Prop where
  lo : w.heap.size ≤ z
  bx : wx.heap[z]? = some (.cells (nvA id cl wo p q go sh (.slice ra sd.length rc)) 47 (0, 0))
  sf : SF rpc 2 wx 90 β (.slice ra sd.length rc) sd
  nw : ∀ k, β = some k → w.heap.size ≤ k
theorem NV.fr {w wx wy : World} {id cl : Int} {wo : ByteArray} {p q : Int} {go sh : Bool} {sd : List (Int × ByteArray)} {z : Nat} {ra : Option Addr} {rc : Nat} {β : Option Nat} {T : Nat → Prop} (h : NV w wx id cl wo p q go sh sd z ra rc β) (hF : Fr T wx wy) (h1 : ¬ T z) (h2 : ∀ j, β = some j → ¬ T j) : NV w wy id cl wo p q go sh sd z ra rc β :=
  ⟨h.lo, hF.keeps h.bx h1, h.sf.fr hF h2, h.nw⟩
theorem NV.below {w wx wy : World} {id cl : Int} {wo : ByteArray} {p q : Int} {go sh : Bool} {sd : List (Int × ByteArray)} {z : Nat} {ra : Option Addr} {rc : Nat} {β : Option Nat} (h : NV w wx id cl wo p q go sh sd z ra rc β) (hb : Below wx.heap.size wx wy) : NV w wy id cl wo p q go sh sd z ra rc β :=
  h.fr (T := fun _ => False) (Fr.of_below hb) (fun h => h) (fun _ _ h => h)
theorem NV.lt {w wx : World} {id cl : Int} {wo : ByteArray} {p q : Int} {go sh : Bool} {sd : List (Int × ByteArray)} {z : Nat} {ra : Option Addr} {rc : Nat} {β : Option Nat} (h : NV w wx id cl wo p q go sh sd z ra rc β) : z < wx.heap.size ∧ (∀ j, β = some j → j < wx.heap.size) ∧ β ≠ some z :=
  ⟨block_lt h.bx, h.sf.lt, h.sf.ne_blk h.bx (by decide)⟩

set_option maxRecDepth 100000 in
set_option maxHeartbeats 16000000 in
theorem asks_look (X off k : Nat) (D : Nat → Prop) (sl id0 f t cc : Int) (s : ByteArray) (a : Option Addr) (n c : Nat) (xs : List El) (w : World) (h : PI w X off D k) (hE : IsE w a n c xs) (hwf : ∀ x ∈ xs, wfE x) (ha : 0 < n → ∀ b o, a = some ⟨b, o, none⟩ → ¬ D b ∧ b ≠ X) (hn : n ≤ 900000) (hid : -9223372036854775808 ≤ id0 ∧ id0 ≤ 9223372036854775807) (hk : k ≤ 400000) :
    Calls Try.prog 9 #[.pointer (some ⟨X, off, none⟩), .agg (lopA 4 sl id0 f t cc s a n c)] w fun e w' => e = .returned (.bool true) ∧ StO w w' X off D (k + 1) := by
  obtain ⟨r, q, O, Oq, K1, K2, g, Ns, m1, m2, hP, hD, hsd, hm1, hm2⟩ := h
  obtain ⟨id, cl, wo, p, qq, go, sh, er, sd, CR, CP, hsdl⟩ := look_both g Ns n xs id0 k hwf hsd hk hid
  have AS := hd (fun w3 gd cd hg hS hb => AW.start (w3 := w3) (gd := gd) (cd := cd) hP hE hD ha (lopA 4 sl id0 f t cc s a n c) hg hS hb)
  have CRM := hd (room_any a n c xs (w.alloc (.cells (lopA 4 sl id0 f t cc s a n c) 36)) (hE.below ((Below.refl _ _).alloc (Nat.le_refl _) _)) hn)
  have FIN := hd (fun wx wy K1n K2n n1 n2 bcs gd cd h => AW.fin (w := w) (X := X) (off := off) (r := r) (q := q) (g := g) (wx := wx) (wy := wy) (K1n := K1n) (K2n := K2n) (n1 := n1) (n2 := n2) (bcs := bcs) (a := a) (n := n) (c := c) (xs := xs) (gd := gd) (cd := cd) hD hsd h)
  have HXN := hd hE.1
  have HM := hd (And.intro hm1 hm2)
  have HCR0 := hd CR
  have HCP0 := hd CP
  have HSDL := hd (show sd.length ≤ 500000 by omega)
  clear hP hD hsd hm1 hm2 hE ha CR CP
  unfold lopA at AS CRM ⊢
  go_enter Try.func9, Try.ntmps9
  go_upto_region 2 with (go_at_call 16; refine CRM.out.mono ?_; rintro e w3 ⟨gd, cd, rfl, hgd, hSd, hb3⟩)
  have A3 := AS.out w3 gd cd hgd hSd hb3
  have hcd : n + 2 ≤ cd ∧ cd ≤ 9223372036854775807 := by
    obtain ⟨a', d', hv, h1, h2⟩ := hSd.form
    obtain ⟨-, -, rfl⟩ := Value.slice.inj hv
    rw [mkR_len, HXN.out] at h1
    exact ⟨h1, h2⟩
  clear AS CRM hgd hSd hb3
  obtain ⟨c0, c1⟩ := A3.pk.heads
  have x0 := A3.box 0; have x2 := A3.box 2; have x7 := A3.box 7
  simp at x0 x2 x7
  obtain ⟨hX1, hB1, hG1⟩ := A3.size
  have i1 : (n : Int) ≤ (cd : Int) := by omega
  have i2 : (0 : Int) ≤ (n : Int) := by omega
  have HA3 := hd A3
  clear A3
  go_upto_region 6 with fail
  have HCR := hd (fun W (hW : Below w3.heap.size w3 W) => HCR0.out W Oq q a c (HA3.out.pk.d.below hW) (HA3.out.ie.below hW))
  go_cut [8, 9] (fun v0 v1 wx => ∃ z ra rc β, v0 = .pointer (some ⟨z, 0, none⟩) ∧ v1 = .int .i64 er ∧ Hid (NV w3 wx id cl wo p qq go sh sd z ra rc β ∧ Below w3.heap.size w3 wx))
  case first =>
    refine regAA _ w3 X off w.heap.size r q n c 0 0 a id0 id cl wo p qq go sh er sd hX1 hB1 x2 x7 c1 HCR.out (by simp) rfl rfl ?_
    intro L val u hL hW hV
    obtain ⟨W1, W2, W3, W4, W5⟩ := hW
    obtain ⟨x, hx1, β, hx2, hx3⟩ := W2 (hL 8 (by omega))
    obtain ⟨z, hz1, hz2, -, hz4⟩ := W5 (hL 12 (by omega))
    obtain ⟨y, hy1, hy2⟩ := hz4 (hL 13 (by omega))
    have exy : y = x := by
      rw [hx1] at hy1
      simpa [nvA] using hy1.symm
    subst exy
    obtain ⟨ra, rc, rfl, -, -⟩ := hx2.form
    have v1 : val 14 = .int .i64 er := by
      rcases hV 14 with h | h | h
      · cases h
      · exact (Option.some.inj h).symm
      · exact absurd (by decide) h
    have Z : Hid (NV w3 u id cl wo p qq go sh sd z ra rc β ∧ Below w3.heap.size w3 u) := ⟨⟨hz2, hy2, hx2, hx3⟩, W1⟩
    clear W1 W2 W3 W4 W5 hV hL hx1 hx2 hx3 hz2 hz4 hy1 hy2
    simp only [slAA, DAA, List.getD_cons_zero, List.getD_cons_succ, List.map_cons, List.map_nil, puts, List.foldl_cons, List.foldl_nil, Act.put, List.setIfInBounds_toArray, List.set_cons_succ, List.set_cons_zero]
    rw [v1, hz1]
    go_wp2_with fail
    go_meet
    exact ⟨z, ra, rc, β, rfl, rfl, Z⟩
  case rest =>
    obtain ⟨z1, ra1, rc1, β1, rfl, rfl, HZ⟩ := hcut
    obtain ⟨hn1, hb⟩ := HZ.out
    have HA4 := hd (HA3.out.below hb)
    have HS3 := hd hb.size
    have HN1 := hd hn1
    have HL1 := hd hn1.lt
    clear HCR HZ c0 c1 x0 x2 x7 hX1 hB1 hG1 hn1 hb HCR0
    generalize wc = w4 at *
    obtain ⟨c0, c1⟩ := HA4.out.pk.heads
    have x2 := HA4.out.box 2
    simp at x2
    obtain ⟨hX1, hB1, hG1⟩ := HA4.out.size
    go_upto_region 7 with fail
    have HCR := hd (fun W (hW : Below w4.heap.size w4 W) => HCP0.out W O r (some ⟨gd, 0, none⟩) cd (HA4.out.pk.b.below hW) ((room_isE HA4.out.rm HXN.out).below hW))
    go_cut [10, 11] (fun v0 v1 wx => ∃ z ra rc β, v0 = .pointer (some ⟨z, 0, none⟩) ∧ v1 = .int .i64 er ∧ Hid (NV w4 wx id cl wo p qq go sh sd z ra rc β ∧ Below w4.heap.size w4 wx))
    case first =>
      refine regAB _ w4 X off w.heap.size r q n c gd cd a id0 id cl wo p qq go sh er sd hX1 hB1 x2 c0 HCR.out (by simp) rfl rfl rfl ?_
      intro L val u hL hW hV
      obtain ⟨W1, W2, W3, W4, W5⟩ := hW
      obtain ⟨x, hx1, β, hx2, hx3⟩ := W2 (hL 7 (by omega))
      obtain ⟨z, hz1, hz2, -, hz4⟩ := W5 (hL 11 (by omega))
      obtain ⟨y, hy1, hy2⟩ := hz4 (hL 12 (by omega))
      have exy : y = x := by
        rw [hx1] at hy1
        simpa [nvA] using hy1.symm
      subst exy
      obtain ⟨ra, rc, rfl, -, -⟩ := hx2.form
      have v1 : val 13 = .int .i64 er := by
        rcases hV 13 with h | h | h
        · cases h
        · exact (Option.some.inj h).symm
        · exact absurd (by decide) h
      have Z : Hid (NV w4 u id cl wo p qq go sh sd z ra rc β ∧ Below w4.heap.size w4 u) := ⟨⟨hz2, hy2, hx2, hx3⟩, W1⟩
      clear W1 W2 W3 W4 W5 hV hL hx1 hx2 hx3 hz2 hz4 hy1 hy2
      simp only [slAB, DAB, List.getD_cons_zero, List.getD_cons_succ, List.map_cons, List.map_nil, puts, List.foldl_cons, List.foldl_nil, Act.put, List.setIfInBounds_toArray, List.set_cons_succ, List.set_cons_zero]
      rw [v1, hz1]
      go_wp2_with fail
      go_meet
      exact ⟨z, ra, rc, β, rfl, rfl, Z⟩
    case rest =>
      obtain ⟨z2, ra2, rc2, β2, rfl, rfl, HZ⟩ := hcut
      obtain ⟨hn2, hb⟩ := HZ.out
      have HA5 := hd (HA4.out.below hb)
      have HS4 := hd hb.size
      have HN15 := hd (HN1.out.below hb)
      have HN2 := hd hn2
      have HL2 := hd hn2.lt
      clear HCR HZ c0 c1 x2 hX1 hB1 hG1 hn2 hb HN1 HA4
      generalize wc = w5 at *
      obtain ⟨c0, c1⟩ := HA5.out.pk.heads
      have x2 := HA5.out.box 2
      simp at x2
      obtain ⟨hX1, hB1, hG1⟩ := HA5.out.size
      go_upto_region 8 with fail
      have HCR := hd (fun W (hW : Below w5.heap.size w5 W) => HCP0.out W O r (some ⟨gd, 0, none⟩) cd (HA5.out.pk.b.below hW) ((room_isE HA5.out.rm HXN.out).below hW))
      go_cut [12, 13] (fun v0 v1 wx => ∃ z ra rc β, v0 = .pointer (some ⟨z, 0, none⟩) ∧ v1 = .int .i64 er ∧ Hid (NV w5 wx id cl wo p qq go sh sd z ra rc β ∧ Below w5.heap.size w5 wx))
      case first =>
        refine regAC _ w5 X off w.heap.size r q n c gd cd a id0 id cl wo p qq go sh er sd hX1 hB1 x2 c0 HCR.out (by simp) rfl rfl rfl ?_
        intro L val u hL hW hV
        obtain ⟨W1, W2, W3, W4, W5⟩ := hW
        obtain ⟨x, hx1, β, hx2, hx3⟩ := W2 (hL 7 (by omega))
        obtain ⟨z, hz1, hz2, -, hz4⟩ := W5 (hL 11 (by omega))
        obtain ⟨y, hy1, hy2⟩ := hz4 (hL 12 (by omega))
        have exy : y = x := by
          rw [hx1] at hy1
          simpa [nvA] using hy1.symm
        subst exy
        obtain ⟨ra, rc, rfl, -, -⟩ := hx2.form
        have v1 : val 13 = .int .i64 er := by
          rcases hV 13 with h | h | h
          · cases h
          · exact (Option.some.inj h).symm
          · exact absurd (by decide) h
        have Z : Hid (NV w5 u id cl wo p qq go sh sd z ra rc β ∧ Below w5.heap.size w5 u) := ⟨⟨hz2, hy2, hx2, hx3⟩, W1⟩
        clear W1 W2 W3 W4 W5 hV hL hx1 hx2 hx3 hz2 hz4 hy1 hy2
        simp only [slAC, DAC, List.getD_cons_zero, List.getD_cons_succ, List.map_cons, List.map_nil, puts, List.foldl_cons, List.foldl_nil, Act.put, List.setIfInBounds_toArray, List.set_cons_succ, List.set_cons_zero]
        rw [v1, hz1]
        go_wp2_with fail
        go_meet
        exact ⟨z, ra, rc, β, rfl, rfl, Z⟩
      case rest =>
        obtain ⟨z3, ra3, rc3, β3, rfl, rfl, HZ⟩ := hcut
        obtain ⟨hn3, hb⟩ := HZ.out
        have HA6 := hd (HA5.out.below hb)
        have HS5 := hd hb.size
        have HN16 := hd (HN15.out.below hb)
        have HN26 := hd (HN2.out.below hb)
        have HN36 := hd hn3
        have HL3 := hd hn3.lt
        clear HCR HZ c0 c1 x2 hX1 hB1 hG1 hn3 hb HN15 HN2 HA5 HCP0
        generalize wc = w6 at *
        -- eqNote(n, m)
        have CE := hd (eqNote_gen id cl wo p qq go sh sd (.slice ra2 sd.length rc2) (.slice ra1 sd.length rc1) β2 β1 w6 HN26.out.sf HN16.out.sf)
        simp only [nvA] at CE
        have p0 := cell_row HN16.out.bx 0
        have p1 := cell_row HN16.out.bx 1
        have p2 := cell_row HN16.out.bx 2
        have p3 := cell_row HN16.out.bx 3
        have p4 := cell_row HN16.out.bx 4
        have p5 := cell_row HN16.out.bx 5
        have p6 := cell_row HN16.out.bx 6
        have p7 := cell_row HN16.out.bx 7
        simp [nvA] at p0 p1 p2 p3 p4 p5 p6 p7
        have u0 := cell_row HN26.out.bx 0
        have u1 := cell_row HN26.out.bx 1
        have u2 := cell_row HN26.out.bx 2
        have u3 := cell_row HN26.out.bx 3
        have u4 := cell_row HN26.out.bx 4
        have u5 := cell_row HN26.out.bx 5
        have u6 := cell_row HN26.out.bx 6
        have u7 := cell_row HN26.out.bx 7
        simp [nvA] at u0 u1 u2 u3 u4 u5 u6 u7
        go_upto_region 10 with (go_at_call 12; refine CE.out.mono ?_; rintro e w7 ⟨rfl, hb7⟩)
        have HA7 := hd (HA6.out.below hb7)
        have HN17 := hd (HN16.out.below hb7)
        have HN27 := hd (HN26.out.below hb7)
        have HN37 := hd (HN36.out.below hb7)
        have HS6 := hd hb7.size
        clear CE p0 p1 p2 p3 p4 p5 p6 p7 u0 u1 u2 u3 u4 u5 u6 u7 hb7 HN16 HN26 HN36 HA6
        have ob2 : ∀ j, β2 = some j → w.heap.size < j ∧ j ≠ gd ∧ ¬ K1 j ∧ ¬ K2 j := by
          intro j hj
          have h1 := HN27.out.nw j hj
          have h2 := HS3.out
          have h4 := HA3.out.size
          exact ⟨by omega, by omega, fun hK => by have := HA3.out.old j (.inr (.inr (.inl hK))); omega, fun hK => by have := HA3.out.old j (.inr (.inr (.inr (.inl hK)))); omega⟩
        have CI := hd (replies_any X off K2 m2 ra2 sd.length rc2 sd β2 w7 HA7.out.pk.p2 HN27.out.sf (fun j hj => (ob2 j hj).2.2.2) HSDL.out (by have := HM.out.2; omega))
        have u7 := cell_row HN27.out.bx 7
        simp [nvA] at u7
        have HOB2 := hd ob2
        clear ob2
        go_upto_region 11 with (go_at_call 18; refine CI.out.mono ?_; rintro e w8 ⟨rfl, hO8⟩)
        obtain ⟨K8, k1, k2, k3, k4⟩ := hO8
        have hA8 := HA7.out.repl (Pn := fun j => β2 = some j) (Qn := fun j => β2 = some j) k1 k2 k3 k4 (fun j hj => HOB2.out j (by rcases hj with h | h <;> exact h))
        have HA8 := hd hA8
        have ng : ∀ j, w3.heap.size ≤ j → β2 ≠ some j → ¬ (K2 j ∨ β2 = some j ∨ j = X) := by
          intro j hj hb hT
          have h4 := HA3.out.size
          rcases hT with h | h | h
          · have := HA3.out.old j (.inr (.inr (.inr (.inl h)))); omega
          · exact hb h
          · omega
        have d12 : ∀ j, β1 = some j → β2 ≠ some j := fun j h1 h2 => by
          have := HL1.out.2.1 j h1; have := HN27.out.nw j h2; omega
        have d32 : ∀ j, β3 = some j → β2 ≠ some j := fun j h1 h2 => by
          have := HL2.out.2.1 j h2; have := HN37.out.nw j h1; omega
        have e12 : β2 ≠ some z1 := fun h => by have := HL1.out.1; have := HN27.out.nw z1 h; omega
        have e32 : β2 ≠ some z3 := fun h => by have := HL2.out.2.1 z3 h; have := HN37.out.lo; omega
        have HN18 := hd (HN17.out.fr k3 (ng z1 HN17.out.lo e12) (fun j hj => ng j (HN17.out.nw j hj) (d12 j hj)))
        have HN38 := hd (HN37.out.fr k3 (ng z3 (by have := HN37.out.lo; have := HS3.out; have := HS4.out; omega) e32) (fun j hj => ng j (by have := HN37.out.nw j hj; have := HS3.out; have := HS4.out; omega) (d32 j hj)))
        have ob3 : ∀ j, β3 = some j → w.heap.size < j ∧ j ≠ gd ∧ ¬ K1 j ∧ ¬ K8 j := by
          intro j hj
          have h1 := HN37.out.nw j hj
          have h1' := HL3.out.2.1 j hj
          have h2 := HS3.out
          have h2' := HS4.out
          have h2'' := HS6.out
          have h4 := HA3.out.size
          refine ⟨by omega, by omega, fun hK => by have := HA3.out.old j (.inr (.inr (.inl hK))); omega, fun hK => ?_⟩
          rcases k2 j hK with h | h | h
          · have := HA3.out.old j (.inr (.inr (.inr (.inl h)))); omega
          · exact d32 j hj h
          · omega
        have HOB3 := hd ob3
        clear CI u7 HA7 HN17 HN27 HN37 k1 k2 k3 k4 hA8 ng d12 d32 e12 e32 ob3
        have CE := hd (eqNote_gen id cl wo p qq go sh sd (.slice ra3 sd.length rc3) (.slice ra1 sd.length rc1) β3 β1 w8 HN38.out.sf HN18.out.sf)
        simp only [nvA] at CE
        have p0 := cell_row HN18.out.bx 0
        have p1 := cell_row HN18.out.bx 1
        have p2 := cell_row HN18.out.bx 2
        have p3 := cell_row HN18.out.bx 3
        have p4 := cell_row HN18.out.bx 4
        have p5 := cell_row HN18.out.bx 5
        have p6 := cell_row HN18.out.bx 6
        have p7 := cell_row HN18.out.bx 7
        simp [nvA] at p0 p1 p2 p3 p4 p5 p6 p7
        have u0 := cell_row HN38.out.bx 0
        have u1 := cell_row HN38.out.bx 1
        have u2 := cell_row HN38.out.bx 2
        have u3 := cell_row HN38.out.bx 3
        have u4 := cell_row HN38.out.bx 4
        have u5 := cell_row HN38.out.bx 5
        have u6 := cell_row HN38.out.bx 6
        have u7 := cell_row HN38.out.bx 7
        simp [nvA] at u0 u1 u2 u3 u4 u5 u6 u7
        go_upto_region 12 with (go_at_call 12; refine CE.out.mono ?_; rintro e w9 ⟨rfl, hb9⟩)
        have HA9 := hd (HA8.out.below hb9)
        have HN39 := hd (HN38.out.below hb9)
        clear CE p0 p1 p2 p3 p4 p5 p6 p7 u0 u1 u2 u3 u4 u5 u6 u7 hb9 HN18 HN38 HA8
        have CI := hd (replies_any X off K8 (m2 + 2) ra3 sd.length rc3 sd β3 w9 HA9.out.pk.p2 HN39.out.sf (fun j hj => (HOB3.out j hj).2.2.2) HSDL.out (by have := HM.out.2; omega))
        have u7 := cell_row HN39.out.bx 7
        simp [nvA] at u7
        go_upto_region 33 with (go_at_call 18; refine CI.out.mono ?_; rintro e w10 ⟨rfl, hO10⟩)
        obtain ⟨K10, k1, k2, k3, k4⟩ := hO10
        have hA10 := HA9.out.repl (Pn := fun j => β3 = some j) (Qn := fun j => β3 = some j) k1 k2 k3 k4 (fun j hj => HOB3.out j (by rcases hj with h | h <;> exact h))
        have CK := hd (kept_any gd cd (n + 2) a n c xs w10 hA10.ie hn hA10.rm)
        have x7 := hA10.box 7
        simp at x7
        have Z := hd (fun wy hF => FIN.out w10 wy K1 K10 m1 (m2 + 2 + 2) _ gd cd hA10 (by have := HM.out.1; omega) (by have := HM.out.2; omega) hF)
        clear CI HA9 HN39 u7 k1 k2 k3 k4 hA10 FIN
        go_wp2_with (go_at_call 26; refine CK.out.mono ?_; rintro e w11 ⟨rfl, hF11⟩)
        go_ret
        exact ⟨rfl, Z.out _ hF11⟩
end Go.Proofs.Ytkkklfnooeofcab
