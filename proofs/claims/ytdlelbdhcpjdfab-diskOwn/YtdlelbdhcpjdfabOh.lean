/-
  DiskOwn: the walk.
-/
import Derived.Test.YtdlelbdhcpjdfabOg
namespace Go.Proofs.Ytdlelbdhcpjdfab
open Go.RowKit
set_option linter.unusedVariables false

theorem news3 (w : World) : ∀ j u, (ints [250, 251, 252])[j]? = some u → (w.alloc (.cells #[.int .u8 250, .int .u8 251, .int .u8 252] 5)).cell? ((⟨w.heap.size, 0, none⟩ : Addr).add j) = some u := by
  intro j u hj
  have hlt : j < 3 := (List.getElem?_eq_some_iff.1 hj).1
  have ea : (⟨w.heap.size, 0, none⟩ : Addr).add j = ⟨w.heap.size, j, none⟩ := by
    by_cases h0 : j = 0
    · subst h0; simp [Addr.add]
    · simp [Addr.add, h0]
  rw [ea, cell_row (heap_alloc_new _ _)]
  rw [← hj]
  simp [ints]

theorem isB3 (w : World) : IsB (w.alloc (.cells #[.int .u8 250, .int .u8 251, .int .u8 252] 5)) (some ⟨w.heap.size, 0, none⟩) 3 3 [250, 251, 252] := by
  have := isB_of_block (R := [250, 251, 252]) (show (w.alloc (.cells #[.int .u8 250, .int .u8 251, .int .u8 252] 5)).heap[w.heap.size]? = some (.cells (ints [250, 251, 252]).toArray 5 (0, 0)) from heap_alloc_new _ _) 0 3 3 (by simp) (Nat.le_refl _) (by omega)
  simpa using this

theorem drop3 (xs : List Int) (n : Nat) (h : xs.length = n) : ((xs ++ [250, 251, 252]).drop n).take 3 = [250, 251, 252] := by
  subst h
  rw [List.drop_left]
  rfl

set_option maxRecDepth 100000 in
set_option maxHeartbeats 8000000 in
theorem own_in (a : Option Addr) (n c : Nat) (xs : List Int) (al : Option Addr) (nl cl : Nat) (O : Nat → OpV) (A : Nat → Option Addr) (N C : Nat → Nat) (w : World) (hx : IsB w a n c xs) (hb : n ≤ 262144) (hl : IsOps w al nl cl O A N C) (hnl : nl ≤ 2199023255488) :
    Calls Try.prog 4 #[.slice a n c, .slice al nl cl] w fun x w' => x = .returned (.bool true) ∧ Below w.heap.size w w' := by
  obtain ⟨i0, hi, hz0, hz1, hz2⟩ := info_parts Try.info5
  obtain ⟨l1, l2, l3⟩ := hl
  have L3 := hd l3
  have X := hd hx
  have j1 : ¬ (262144 : Int) < (n : Int) := by omega
  clear hx l3
  go_enter Try.func4, Try.ntmps4
  go_wp2_with fail
  refine (born_any a n c xs _ X.out hb).mono ?_
  rintro e w1 ⟨rd, ρd, rfl, hD, hb1⟩
  have D1 := hd hD
  have B1 := hd hb1
  clear hD hb1
  go_wp2_with fail
  refine (born_any a n c xs _ (X.out.below B1.out) hb).mono ?_
  rintro e w2 ⟨rx, ρx, rfl, hD, hb2⟩
  have S0 : Hid (OS w (w2.alloc (.cells #[.slice none 0 0, .slice none 0 0] 38)) w2.heap.size rd rx 0) := by
    have al : Below w2.heap.size w2 (w2.alloc (.cells #[.slice none 0 0, .slice none 0 0] 38)) := (Below.refl _ _).alloc (Nat.le_refl _) _
    have q1 : DN w2 w.heap.size rd ρd xs n := D1.out.below hb2
    have q2 : DN w2 w.heap.size rx ρx xs n := ⟨hD.1, fun k hk => Nat.le_trans B1.out.size (hD.2 k hk)⟩
    have bb := B1.out.trans (hb2.mono B1.out.size)
    obtain ⟨tag, hK⟩ := KSt.first (w := w) (K := w2.heap.size) (td := ⟨xs, n⟩) (tw := ⟨xs, n⟩) (heap_alloc_new w2 _) (bb.trans (al.mono bb.size)) bb.size (q1.below al) (q2.below al) (Dis.fresh (base := 0) D1.out.1 hD.2).symm (fun hk => Nat.lt_irrefl _ (q1.1.lt _ hk)) (fun hk => Nat.lt_irrefl _ (q2.1.lt _ hk))
    exact ⟨_, _, _, _, _, _, _, _, _, _, hK, rfl, Nat.le_refl _⟩
  clear hD hb2 D1 B1
  go_wp2
  generalize w2.heap.size = K at *
  go_loopw [9] (fun i wr => ∃ k : Nat, k ≤ nl ∧ i = .int .i64 k ∧ Hid (OS w wr K rd rx (4 * k))) (fun i _ => nl - (intOf i).toNat)
  case atStart => exact ⟨0, Nat.zero_le _, rfl, S0⟩
  case round =>
    obtain ⟨k, hk, rfl, hr⟩ := hrel
    clear S0
    by_cases hlt : k < nl
    · have hbl := hr.out.below
      obtain ⟨b, off, rfl, hbb, hc⟩ := L3.out (by omega)
      obtain ⟨c0, c1, c2, c3, c4, c5, hX, hXn⟩ := hc k hlt
      have d0 := (hbl.cell (p := ⟨b, off + k * 6, none⟩) hbb).trans c0
      have d1 := (hbl.cell (p := ⟨b, off + k * 6 + 1, none⟩) hbb).trans c1
      have d2 := (hbl.cell (p := ⟨b, off + k * 6 + 2, none⟩) hbb).trans c2
      have d3 := (hbl.cell (p := ⟨b, off + k * 6 + 3, none⟩) hbb).trans c3
      have d4 := (hbl.cell (p := ⟨b, off + k * 6 + 4, none⟩) hbb).trans c4
      have d5 := (hbl.cell (p := ⟨b, off + k * 6 + 5, none⟩) hbb).trans c5
      have XO := hd hX
      have hb1 : b < wr.heap.size := Nat.lt_of_lt_of_le hbb hbl.size
      have i1 : (k : Int) < (nl : Int) := by omega
      clear hc c0 c1 c2 c3 c4 c5 hX hbl hbb
      generalize O k = o at *
      generalize A k = xa at *
      generalize N k = xn at *
      generalize C k = xc at *
      obtain ⟨kind, site, oa, ob, oc, ys⟩ := o
      simp only [] at d0 d1 d2 d3 d4 XO
      obtain ⟨ρ1, ρ2, βL, βW, t, Lv, Wv, LL, WW, tag, hK, hlen, hM⟩ := hr.out
      have al1 : Below wr.heap.size wr (wr.alloc (.cells #[.int .i64 kind, .int .i64 site, .int .i64 oa, .int .i64 ob, .int .i64 oc, .slice xa xn xc] 29)) := (Below.refl _ _).alloc (Nat.le_refl _) _
      obtain ⟨tq, hKq, oldq, newq⟩ := hK.bel2 al1
      have KQ := hd hKq
      have TQ : Hid (tq wr.heap.size = 6) := newq _ (Nat.le_refl _)
      have OQ : Hid ((wr.alloc (.cells #[.int .i64 kind, .int .i64 site, .int .i64 oa, .int .i64 ob, .int .i64 oc, .slice xa xn xc] 29)).heap[wr.heap.size]? = some (.cells #[.int .i64 kind, .int .i64 site, .int .i64 oa, .int .i64 ob, .int .i64 oc, .slice xa xn xc] 29 (0, 0))) := heap_alloc_new _ _
      have HL0 := hd (And.intro hlen hM)
      have hzt := hK.dd.size_le
      clear hr hK hlen hM al1 hKq oldq newq
      have hw17 : IntKind.i64.wrap (17 * (k : Int)) = 17 * (k : Int) := by
        rw [IntKind.wrap_i64]
        omega
      have hw29 : IntKind.i64.wrap (29 * (k : Int)) = 29 * (k : Int) := by
        rw [IntKind.wrap_i64]
        omega
      have hw31 : IntKind.i64.wrap (31 * (k : Int)) = 31 * (k : Int) := by
        rw [IntKind.wrap_i64]
        omega
      by_cases k3 : kind = 3
      · subst k3
        have hyl : ys.length = xn := XO.out.1
        have HYL : Hid ((ints ys).length = xn) := (ints_len ys).trans hyl
        go_wp2_with fail
        refine (copied_any xa xn xc ys _ (XO.out.below KQ.out.below) (by omega)).mono ?_
        rintro e w3 ⟨u3, rfl, hN3, hb3⟩
        obtain ⟨g3, rfl, -, -⟩ := hN3.isB (by omega)
        obtain ⟨t3, hK3, old3, new3⟩ := KQ.out.bel2 hb3
        have R3 := hd (newB_rowB hN3 (by omega)).1
        have T3 : Hid (t3 wr.heap.size = 6 ∧ t3 g3 = 6 ∧ w.heap.size ≤ g3 ∧ wr.heap.size < g3) := by
          have h1 := (newB_rowB hN3 (by omega)).2
          have h2 := KQ.out.below.size
          have h3 : wr.heap.size < (wr.alloc (.cells #[.int .i64 3, .int .i64 site, .int .i64 oa, .int .i64 ob, .int .i64 oc, .slice xa xn xc] 29)).heap.size := by simp
          exact ⟨(old3 _ h3).trans TQ.out, new3 _ h1, by omega, by omega⟩
        have O3 := hd ((Fr.of_below hb3 : Fr (fun _ => False) _ _).keeps OQ.out (fun s => s))
        obtain ⟨t3a, hK3a, old3a, -⟩ := hK3.bel2 (show Below w3.heap.size w3 (w3.alloc (.cells #[.int .u8 250, .int .u8 251, .int .u8 252] 5)) from (Below.refl _ _).alloc (Nat.le_refl _) _)
        have K3 := hd hK3a
        have R3a := hd (R3.out.fr (Fr.of_below (show Below w3.heap.size w3 (w3.alloc (.cells #[.int .u8 250, .int .u8 251, .int .u8 252] 5)) from (Below.refl _ _).alloc (Nat.le_refl _) _) : Fr (fun _ => False) _ _) (fun s => s))
        have O3a := hd ((Fr.of_below (show Below w3.heap.size w3 (w3.alloc (.cells #[.int .u8 250, .int .u8 251, .int .u8 252] 5)) from (Below.refl _ _).alloc (Nat.le_refl _) _) : Fr (fun _ => False) _ _).keeps O3.out (fun s => s))
        have T3a : Hid (t3a wr.heap.size = 6 ∧ t3a g3 = 6 ∧ w.heap.size ≤ g3 ∧ wr.heap.size < g3) := by
          have h1 := T3.out
          have h2 := R3.out.lt
          exact ⟨(old3a _ (by omega)).trans h1.1, (old3a _ h2).trans h1.2.1, h1.2.2⟩
        have SV : Hid (SRow (w3.alloc (.cells #[.int .u8 250, .int .u8 251, .int .u8 252] 5)) 5 (some g3) (.slice (some ⟨g3, 0, none⟩) xn xn) (ints ys)) := ⟨xn, by rw [HYL.out], by rw [HYL.out]; exact R3a.out.rowV⟩
        have NW := hd (news3 w3)
        clear hN3 hb3 hK3 old3 new3 KQ OQ TQ d0 d1 d2 d3 d4 d5 hK3a old3a T3 O3 R3
        go_wp2_with (at_builtin; refine wpList_push _ rfl (.tmp 55) (.tmp 56) 22 rfl 5 i0 (.int .u8 0) 1 Try.underlying22 hi hz0 hz1 rfl hz2 (some g3) (.slice (some ⟨g3, 0, none⟩) xn xn) (ints ys) xn HYL rfl SV ⟨w3.heap.size, 0, none⟩ 3 3 (ints [250, 251, 252]) rfl rfl NW (ints_one _) (by decide) (by omega) (by omega) ?_; intro g4 cap4 w4 P4; obtain ⟨t4, hK4, old4, six4, ge4⟩ := K3.out.app3 T3a.out.2.1 T3a.out.2.2.1 R3a.out.lt P4.out; have K4 := hd hK4; have R4 : Hid (RowB w4 g4 (xn + 3) cap4 (ys ++ [250, 251, 252])) := (by have h1 := P4.out.1; rw [show ints ys ++ ints [250, 251, 252] = ints (ys ++ [250, 251, 252]) from by simp [ints]] at h1; exact h1.rowB); have hcap4 : xn + 3 ≤ cap4 ∧ cap4 ≤ 9223372036854775807 := (by obtain ⟨_, _, _, _, h1, h2, _⟩ := R4.out; exact ⟨h1, h2⟩); have O4 := hd (P4.out.fr.keeps O3a.out (fun e => by have h1 := Option.some.inj e; have h2 := T3a.out; omega)); have T4 : Hid (t4 wr.heap.size = 6 ∧ t4 g4 = 6 ∧ w.heap.size ≤ g4 ∧ wr.heap.size < g4) := ⟨(old4 _ (by have h1 := R3a.out.lt; have h2 := T3a.out; omega)).trans T3a.out.1, six4, ge4, (by rcases P4.out.ge with e | e; exact (Option.some.inj e) ▸ T3a.out.2.2.2; have h1 := R3a.out.lt; have h2 := T3a.out; omega)⟩; obtain ⟨p0, p1, p2, p3, p4, p5⟩ := op_cells' O4.out; have j3 : (xn : Int) ≤ (cap4 : Int) := (by omega); have j4 : ¬ cap4 = xn := (by omega); have j5 : (xn : Int) ≤ (xn : Int) + 3 := (by omega); clear hK4 old4 six4 ge4)
        have RS4 : Hid (RowB w4 g4 xn cap4 ys) := by
          have := R4.out.shorter xn (by omega)
          rwa [show List.take xn (ys ++ [250, 251, 252]) = ys from by rw [← hyl, List.take_left]] at this
        go_wp2_with fail
        refine (append_any rd ρ1 t.B t.s _ xn cap4 ys _ K4.out.dd (rowB_isB' RS4.out) (fun _ b off e hk => by
          have e2 := Option.some.inj e
          simp at e2
          have h1 := (K4.out.tagd g4 (.inl (e2.1.trans hk))).1
          have h2 := T4.out
          omega)).mono ?_
        rintro e w5 ⟨rfl, hnow⟩
        have hFd : Fr (Own rd ρ1) w4 w5 := by
          obtain ⟨_, _, _, hF⟩ := hnow
          exact hF
        have O5 : Hid (w5.heap[wr.heap.size]? = some (.cells #[.int .i64 3, .int .i64 site, .int .i64 oa, .int .i64 ob, .int .i64 oc, .slice xa xn xc] 29 (0, 0))) := hFd.keeps O4.out (fun hk => by have h1 := (K4.out.tagd _ hk).1; have h2 := T4.out; omega)
        have R5 := hd (R4.out.fr hFd (fun hk => by have h1 := (K4.out.tagd _ hk).1; have h2 := T4.out; omega))
        obtain ⟨ρ5, t5, hK5, old5⟩ := K4.out.dact hnow
        have K5 := hd hK5
        have T5 : Hid (t5 wr.heap.size = 6 ∧ t5 g4 = 6 ∧ w.heap.size ≤ g4 ∧ wr.heap.size < g4) := by
          have h1 := T4.out
          have h2 := R4.out.lt
          exact ⟨(old5 _ (by omega)).trans h1.1, (old5 _ h2).trans h1.2.1, h1.2.2⟩
        clear hnow hFd hK5 old5 K4 O4 T4 R4 RS4 p0 p1 p2 p3 p4 p5 P4 K3 R3a O3a T3a SV NW
        obtain ⟨p0, p1, p2, p3, p4, p5⟩ := op_cells' O5.out
        have RS5 : Hid (RowB w5 g4 xn cap4 ys) := by
          have := R5.out.shorter xn (by omega)
          rwa [show List.take xn (ys ++ [250, 251, 252]) = ys from by rw [← hyl, List.take_left]] at this
        go_wp2_with fail
        refine (num_any _ _).mono ?_
        rintro e w6 ⟨rfl, rfl⟩
        go_wp2_with fail
        refine (same_true _ xa xn cap4 xc ys _ (rowB_isB' RS5.out) (XO.out.below K5.out.below)).mono ?_
        rintro e w6 ⟨rfl, m6, rfl⟩
        obtain ⟨t6, hK6, old6, -⟩ := K5.out.bel2 (below_drewN (Below.refl _ _) m6)
        have R6 := hd (R5.out.fr (Fr.drewN (fun _ => False) w5 m6) (fun s => s))
        have O6 := hd ((Fr.drewN (fun _ => False) w5 m6).keeps O5.out (fun s => s))
        have T6 : Hid (t6 wr.heap.size = 6 ∧ t6 g4 = 6 ∧ w.heap.size ≤ g4 ∧ wr.heap.size < g4) := by
          have h1 := T5.out
          have h2 := R5.out.lt
          exact ⟨(old6 _ (by omega)).trans h1.1, (old6 _ h2).trans h1.2.1, h1.2.2⟩
        have K6 := hd hK6
        clear hK6 old6 K5 R5 RS5 O5 T5 p0 p1 p2 p3 p4 p5
        generalize w5.drewN m6 = w6 at *
        obtain ⟨p0, p1, p2, p3, p4, p5⟩ := op_cells' O6.out
        obtain ⟨t6a, hK6a, old6a, -⟩ := K6.out.bel2 (show Below w6.heap.size w6 (w6.alloc (.cells #[.int .u8 250, .int .u8 251, .int .u8 252] 5)) from (Below.refl _ _).alloc (Nat.le_refl _) _)
        have R6a := hd (R6.out.fr (Fr.of_below (show Below w6.heap.size w6 (w6.alloc (.cells #[.int .u8 250, .int .u8 251, .int .u8 252] 5)) from (Below.refl _ _).alloc (Nat.le_refl _) _) : Fr (fun _ => False) _ _) (fun s => s))
        have TL : Hid (IsB (w6.alloc (.cells #[.int .u8 250, .int .u8 251, .int .u8 252] 5)) (some ⟨g4, xn, none⟩) 3 (cap4 - xn) [250, 251, 252]) := by
          have := R6a.out.isB xn 3 (cap4 - xn) (by omega) (by omega) (by omega)
          rwa [drop3 ys xn hyl] at this
        have T3l := hd (isB3 w6)
        go_wp2_with fail
        refine (same_true _ _ 3 _ _ _ _ TL.out T3l.out).mono ?_
        rintro e w7 ⟨rfl, m7, rfl⟩
        obtain ⟨t7, hK7, old7, -⟩ := hK6a.bel2 (below_drewN (Below.refl _ _) m7)
        have RS7 : Hid (RowB ((w6.alloc (.cells #[.int .u8 250, .int .u8 251, .int .u8 252] 5)).drewN m7) g4 xn cap4 ys) := by
          have := (R6a.out.fr (Fr.drewN (fun _ => False) (w6.alloc (.cells #[.int .u8 250, .int .u8 251, .int .u8 252] 5)) m7) (fun s => s)).shorter xn (by omega)
          rwa [show List.take xn (ys ++ [250, 251, 252]) = ys from by rw [← hyl, List.take_left]] at this
        have O7 : Hid (((w6.alloc (.cells #[.int .u8 250, .int .u8 251, .int .u8 252] 5)).drewN m7).heap[wr.heap.size]? = some (.cells #[.int .i64 3, .int .i64 site, .int .i64 oa, .int .i64 ob, .int .i64 oc, .slice xa xn xc] 29 (0, 0))) := (Fr.drewN (fun _ => False) (w6.alloc (.cells #[.int .u8 250, .int .u8 251, .int .u8 252] 5)) m7).keeps ((Fr.of_below (show Below w6.heap.size w6 (w6.alloc (.cells #[.int .u8 250, .int .u8 251, .int .u8 252] 5)) from (Below.refl _ _).alloc (Nat.le_refl _) _) : Fr (fun _ => False) _ _).keeps O6.out (fun s => s)) (fun s => s)
        have T7 : Hid (t7 wr.heap.size = 6 ∧ t7 g4 = 6 ∧ w.heap.size ≤ g4 ∧ wr.heap.size < g4) := by
          have h1 := T6.out
          have h2 := R6.out.lt
          have h3 := R6a.out.lt
          exact ⟨(old7 _ (by omega)).trans ((old6a _ (by omega)).trans h1.1), (old7 _ h3).trans ((old6a _ h2).trans h1.2.1), h1.2.2⟩
        have K7 := hd hK7
        clear hK7 old7 hK6a old6a K6 R6 R6a O6 T6 TL T3l p0 p1 p2 p3 p4 p5
        generalize (w6.alloc (.cells #[.int .u8 250, .int .u8 251, .int .u8 252] 5)).drewN m7 = w7 at *
        go_wp2_with fail
        refine (marked_any g4 xn cap4 ys _ _ K7.out HL0.out.1 (by have := HL0.out.2; omega) RS7.out T7.out.2.1 T7.out.2.2.1 hXn).mono ?_
        rintro e w8 ⟨⟨vv, rfl⟩, βL8, βW8, Lv8, Wv8, LL8, WW8, t8, hK8, hl8, hl8', hM8⟩
        have O8 := hd (hM8.1.keeps O7.out (fun s => by have h1 := T7.out; rcases s with s | s <;> omega))
        have K8 := hd hK8
        have HLN : Hid (LL8.length = WW8.length ∧ LL8.length ≤ 4 * k + 4) := ⟨hl8, by have := HL0.out.2; omega⟩
        obtain ⟨p0, p1, p2, p3, p4, p5⟩ := op_cells' O8.out
        clear hK8 hl8 hl8' hM8 K7 RS7 O7 T7
        go_wp2_with fail
        refine (act_any rx ρ2 t.B t.s ⟨3, site, oa, ob, oc, ys⟩ xa xn xc _ K8.out.ww (XO.out.below K8.out.below) (by omega)).mono ?_
        rintro e w9 ⟨rfl, hnow⟩
        rw [stepP_app 3 site oa ob oc ys t.B t.s rfl] at hnow ⊢
        obtain ⟨ρ9, t9, hK9⟩ := K8.out.wact hnow
        have KF := hd hK9
        clear hnow hK9 K8 O8 p0 p1 p2 p3 p4 p5
        generalize (⟨(appP ys t.B t.s).B, (appP ys t.B t.s).s⟩ : FS) = t1 at *
        generalize (appP ys t.B t.s).e = te at *
        go_wp2_with fail
        refine (size_any rd _ t1.B t1.s _ KF.out.dd).mono ?_
        rintro e v1 ⟨rfl, rfl⟩
        go_wp2_with fail
        refine (size_any rx _ t1.B t1.s _ KF.out.ww).mono ?_
        rintro e v1 ⟨rfl, rfl⟩
        go_wp2_with fail
        refine (synced_any rd _ t1.B t1.s _ KF.out.dd).mono ?_
        rintro e v1 ⟨rfl, rfl⟩
        go_wp2_with fail
        refine (synced_any rx _ t1.B t1.s _ KF.out.ww).mono ?_
        rintro e v1 ⟨rfl, rfl⟩
        have SZ := KF.out.dd.size_le
        go_wp2_with fail
        refine (bytes_any rd _ t1.B t1.s _ KF.out.dd).mono ?_
        rintro e v1 ⟨u1, rfl, hN1, hb1⟩
        obtain ⟨ga, rfl, -, hGa⟩ := hN1.isB (by omega)
        obtain ⟨tg1, hK1, -⟩ := KF.out.bel2 hb1
        have KF1 := hd hK1
        have GA := hd hGa
        clear hN1 hGa hb1 hK1 KF
        go_wp2_with fail
        refine (bytes_any rx _ t1.B t1.s _ KF1.out.ww).mono ?_
        rintro e v2 ⟨u2, rfl, hN2, hb2⟩
        obtain ⟨gb, rfl, -, hGb⟩ := hN2.isB (by omega)
        obtain ⟨tg2, hK2, -⟩ := KF1.out.bel2 hb2
        have KF2 := hd hK2
        have GB := hd hGb
        have GA2 := hd (GA.out.below hb2)
        clear hN2 hGb hb2 hK2 KF1 GA
        go_wp2_with fail
        refine (same_true _ _ _ _ _ t1.B _ GA2.out GB.out).mono ?_
        rintro e v3 ⟨rfl, m3, rfl⟩
        obtain ⟨tg3, hK3, -⟩ := KF2.out.bel2 (below_drewN (Below.refl _ _) m3)
        have KF3 := hd hK3
        clear hK3 KF2 GA2 GB
        generalize v2.drewN m3 = v3 at *
        go_wp2_with fail
        refine (whole_any _ KF3.out HLN.out.1 (by have := HLN.out.2; omega)).mono ?_
        rintro e v4 ⟨rfl, m4, rfl⟩
        obtain ⟨tg4, hK4, -⟩ := KF3.out.bel2 (below_drewN (Below.refl _ _) m4)
        have S9 : Hid (OS w (v3.drewN m4) K rd rx (4 * (k + 1))) := ⟨_, _, _, _, _, _, _, _, _, _, hK4, HLN.out.1, by have := HLN.out.2; omega⟩
        clear hK4 KF3
        generalize v3.drewN m4 = v4 at *
        go_wp2
        exact ⟨⟨k + 1, by omega, by go_num, S9⟩, by simp [intOf]; omega⟩
      · by_cases k9 : kind = 9
        · subst k9
          go_wp2_with fail
          refine (bytes_any rd ρ1 t.B t.s _ KQ.out.dd).mono ?_
          rintro e w3 ⟨u3, rfl, hN3, hb3⟩
          obtain ⟨g3, rfl, -, -⟩ := hN3.isB (by omega)
          obtain ⟨t3, hK3, old3, new3⟩ := KQ.out.bel2 hb3
          have R3 := hd (newB_rowB hN3 (by omega)).1
          have T3 : Hid (t3 wr.heap.size = 6 ∧ t3 g3 = 6 ∧ w.heap.size ≤ g3 ∧ wr.heap.size < g3) := by
            have h1 := (newB_rowB hN3 (by omega)).2
            have h2 := KQ.out.below.size
            have h3 : wr.heap.size < (wr.alloc (.cells #[.int .i64 9, .int .i64 site, .int .i64 oa, .int .i64 ob, .int .i64 oc, .slice xa xn xc] 29)).heap.size := by simp
            exact ⟨(old3 _ h3).trans TQ.out, new3 _ h1, by omega, by omega⟩
          have O3 := hd ((Fr.of_below hb3 : Fr (fun _ => False) _ _).keeps OQ.out (fun s => s))
          have K3 := hd hK3
          clear hN3 hb3 hK3 old3 new3 KQ OQ TQ d0 d1 d2 d3 d4 d5
          go_wp2_with fail
          refine (bytes_any rd ρ1 t.B t.s _ K3.out.dd).mono ?_
          rintro e w4 ⟨u4, rfl, hN4, hb4⟩
          obtain ⟨g4, rfl, -, -⟩ := hN4.isB (by omega)
          obtain ⟨t4, hK4, old4, new4⟩ := K3.out.bel2 hb4
          have R4 := hd (newB_rowB hN4 (by omega)).1
          have T4 : Hid (t4 wr.heap.size = 6 ∧ t4 g3 = 6 ∧ t4 g4 = 6 ∧ w.heap.size ≤ g3 ∧ w.heap.size ≤ g4 ∧ wr.heap.size < g3 ∧ g3 < g4) := by
            have h1 := (newB_rowB hN4 (by omega)).2
            have h2 := K3.out.below.size
            have h3 := R3.out.lt
            have h4 := T3.out
            exact ⟨(old4 _ (by omega)).trans h4.1, (old4 _ h3).trans h4.2.1, new4 _ h1, h4.2.2.1, by omega, h4.2.2.2, by omega⟩
          have O4 := hd ((Fr.of_below hb4 : Fr (fun _ => False) _ _).keeps O3.out (fun s => s))
          have R34 := hd (R3.out.fr (Fr.of_below hb4 : Fr (fun _ => False) _ _) (fun s => s))
          have K4 := hd hK4
          clear hN4 hb4 hK4 old4 new4 K3 O3 T3 R3
          go_wp2_with fail
          refine (bytes_any rx ρ2 t.B t.s _ K4.out.ww).mono ?_
          rintro e w5 ⟨u5, rfl, hN5, hb5⟩
          obtain ⟨g5, rfl, -, -⟩ := hN5.isB (by omega)
          obtain ⟨t5, hK5, old5, new5⟩ := K4.out.bel2 hb5
          have R5 := hd (newB_rowB hN5 (by omega)).1
          have T5 : Hid (t5 wr.heap.size = 6 ∧ t5 g3 = 6 ∧ t5 g4 = 6 ∧ t5 g5 = 6 ∧ w.heap.size ≤ g3 ∧ w.heap.size ≤ g4 ∧ wr.heap.size < g3 ∧ g3 < g4 ∧ g4 < g5) := by
            have h1 := (newB_rowB hN5 (by omega)).2
            have h2 := R34.out.lt
            have h3 := R4.out.lt
            have h4 := T4.out
            exact ⟨(old5 _ (by omega)).trans h4.1, (old5 _ h2).trans h4.2.1, (old5 _ h3).trans h4.2.2.1, new5 _ h1, h4.2.2.2.1, h4.2.2.2.2.1, h4.2.2.2.2.2.1, h4.2.2.2.2.2.2, by omega⟩
          have O5 := hd ((Fr.of_below hb5 : Fr (fun _ => False) _ _).keeps O4.out (fun s => s))
          have R35 := hd (R34.out.fr (Fr.of_below hb5 : Fr (fun _ => False) _ _) (fun s => s))
          have R45 := hd (R4.out.fr (Fr.of_below hb5 : Fr (fun _ => False) _ _) (fun s => s))
          have K5 := hd hK5
          clear hN5 hb5 hK5 old5 new5 K4 O4 T4 R34 R4
          go_wp2_with fail
          refine (same_true _ _ _ _ _ t.B _ (rowB_isB' R35.out) (rowB_isB' R5.out)).mono ?_
          rintro e w6 ⟨rfl, m6, rfl⟩
          obtain ⟨t6, hK6, old6, -⟩ := K5.out.bel2 (below_drewN (Below.refl _ _) m6)
          have R36 := hd (R35.out.fr (Fr.drewN (fun _ => False) w5 m6) (fun s => s))
          have R46 := hd (R45.out.fr (Fr.drewN (fun _ => False) w5 m6) (fun s => s))
          have R56 := hd (R5.out.fr (Fr.drewN (fun _ => False) w5 m6) (fun s => s))
          have O6 := hd ((Fr.drewN (fun _ => False) w5 m6).keeps O5.out (fun s => s))
          have T6 : Hid (t6 wr.heap.size = 6 ∧ t6 g3 = 6 ∧ t6 g4 = 6 ∧ t6 g5 = 6 ∧ w.heap.size ≤ g3 ∧ w.heap.size ≤ g4 ∧ wr.heap.size < g3 ∧ g3 < g4 ∧ g4 < g5) := by
            have h1 := T5.out
            have h3 := R35.out.lt
            have h4 := R45.out.lt
            have h5 := R5.out.lt
            exact ⟨(old6 _ (by omega)).trans h1.1, (old6 _ h3).trans h1.2.1, (old6 _ h4).trans h1.2.2.1, (old6 _ h5).trans h1.2.2.2.1, h1.2.2.2.2⟩
          have K6 := hd hK6
          clear hK6 old6 K5 R35 R45 R5 O5 T5
          generalize w5.drewN m6 = w6 at *
          go_wp2_with fail
          refine (same_true _ _ _ _ _ t.B _ (rowB_isB' R46.out) (rowB_isB' R56.out)).mono ?_
          rintro e w7 ⟨rfl, m7, rfl⟩
          obtain ⟨t7, hK7, old7, -⟩ := K6.out.bel2 (below_drewN (Below.refl _ _) m7)
          have R37 := hd (R36.out.fr (Fr.drewN (fun _ => False) w6 m7) (fun s => s))
          have R47 := hd (R46.out.fr (Fr.drewN (fun _ => False) w6 m7) (fun s => s))
          have R57 := hd (R56.out.fr (Fr.drewN (fun _ => False) w6 m7) (fun s => s))
          have O7 := hd ((Fr.drewN (fun _ => False) w6 m7).keeps O6.out (fun s => s))
          have T7 : Hid (t7 wr.heap.size = 6 ∧ t7 g3 = 6 ∧ t7 g4 = 6 ∧ t7 g5 = 6 ∧ w.heap.size ≤ g3 ∧ w.heap.size ≤ g4 ∧ wr.heap.size < g3 ∧ g3 < g4 ∧ g4 < g5) := by
            have h1 := T6.out
            have h3 := R36.out.lt
            have h4 := R46.out.lt
            have h5 := R56.out.lt
            exact ⟨(old7 _ (by omega)).trans h1.1, (old7 _ h3).trans h1.2.1, (old7 _ h4).trans h1.2.2.1, (old7 _ h5).trans h1.2.2.2.1, h1.2.2.2.2⟩
          have K7 := hd hK7
          clear hK7 old7 K6 R36 R46 R56 O6 T6
          generalize w6.drewN m7 = w7 at *
          go_wp2_with fail
          refine (marked_any g3 t.B.length t.B.length t.B _ _ K7.out HL0.out.1 (by have := HL0.out.2; omega) R37.out T7.out.2.1 T7.out.2.2.2.2.1 (by omega)).mono ?_
          rintro e w8 ⟨⟨vv, rfl⟩, βL8, βW8, Lv8, Wv8, LL8, WW8, t8, hK8, hl8, hl8', hM8⟩
          have h37 := R37.out.lt
          have h47 := R47.out.lt
          have h57 := R57.out.lt
          have h77 := T7.out
          have T8 : Hid (t8 wr.heap.size = 6 ∧ t8 g4 = 6 ∧ w.heap.size ≤ g4 ∧ wr.heap.size < g4) := ⟨hM8.2 _ (by omega) h77.1 (by omega), hM8.2 _ h47 h77.2.2.1 (by omega), h77.2.2.2.2.2.1, by omega⟩
          have R48 := hd (R47.out.fr hM8.1 (fun s => by rcases s with s | s <;> omega))
          have R58 := hd (R57.out.fr hM8.1 (fun s => by rcases s with s | s <;> omega))
          have O8 := hd (hM8.1.keeps O7.out (fun s => by rcases s with s | s <;> omega))
          have K8 := hd hK8
          have HL8 : Hid (LL8.length = WW8.length ∧ LL8.length ≤ 4 * k + 2) := ⟨hl8, by have := HL0.out.2; omega⟩
          clear h37 h47 h57 h77 hK8 hl8 hl8' hM8 K7 R37 R47 R57 O7 T7
          go_wp2_with fail
          refine (same_true _ _ _ _ _ t.B _ (rowB_isB' R48.out) (rowB_isB' R58.out)).mono ?_
          rintro e w9 ⟨rfl, m9, rfl⟩
          obtain ⟨t9, hK9, old9, -⟩ := K8.out.bel2 (below_drewN (Below.refl _ _) m9)
          have R49 := hd (R48.out.fr (Fr.drewN (fun _ => False) w8 m9) (fun s => s))
          have O9 := hd ((Fr.drewN (fun _ => False) w8 m9).keeps O8.out (fun s => s))
          have T9 : Hid (t9 wr.heap.size = 6 ∧ t9 g4 = 6 ∧ w.heap.size ≤ g4 ∧ wr.heap.size < g4) := ⟨(old9 _ (by have := R48.out.lt; have := T8.out; omega)).trans T8.out.1, (old9 _ R48.out.lt).trans T8.out.2.1, T8.out.2.2⟩
          have K9 := hd hK9
          clear hK9 old9 K8 R48 R58 O8 T8
          generalize w8.drewN m9 = w9 at *
          go_wp2_with fail
          refine (marked_any g4 t.B.length t.B.length t.B _ _ K9.out HL8.out.1 (by have := HL8.out.2; omega) R49.out T9.out.2.1 T9.out.2.2.1 (by omega)).mono ?_
          rintro e wA ⟨⟨vv2, rfl⟩, βLA, βWA, LvA, WvA, LLA, WWA, tA, hKA, hlA, hlA', hMA⟩
          have O10 := hd (hMA.1.keeps O9.out (fun s => by have h1 := T9.out; rcases s with s | s <;> omega))
          have KF := hd hKA
          have HLN : Hid (LLA.length = WWA.length ∧ LLA.length ≤ 4 * k + 4) := ⟨hlA, by have := HL8.out.2; omega⟩
          obtain ⟨p0, p1, p2, p3, p4, p5⟩ := op_cells' O10.out
          clear hKA hlA hlA' hMA K9 R49 O9 T9
          obtain ⟨t1, ht1⟩ : ∃ t1, t1 = t := ⟨_, rfl⟩
          subst ht1
          go_wp2_with fail
          refine (size_any rd _ t1.B t1.s _ KF.out.dd).mono ?_
          rintro e v1 ⟨rfl, rfl⟩
          go_wp2_with fail
          refine (size_any rx _ t1.B t1.s _ KF.out.ww).mono ?_
          rintro e v1 ⟨rfl, rfl⟩
          go_wp2_with fail
          refine (synced_any rd _ t1.B t1.s _ KF.out.dd).mono ?_
          rintro e v1 ⟨rfl, rfl⟩
          go_wp2_with fail
          refine (synced_any rx _ t1.B t1.s _ KF.out.ww).mono ?_
          rintro e v1 ⟨rfl, rfl⟩
          have SZ := KF.out.dd.size_le
          go_wp2_with fail
          refine (bytes_any rd _ t1.B t1.s _ KF.out.dd).mono ?_
          rintro e v1 ⟨u1, rfl, hN1, hb1⟩
          obtain ⟨ga, rfl, -, hGa⟩ := hN1.isB (by omega)
          obtain ⟨tg1, hK1, -⟩ := KF.out.bel2 hb1
          have KF1 := hd hK1
          have GA := hd hGa
          clear hN1 hGa hb1 hK1 KF
          go_wp2_with fail
          refine (bytes_any rx _ t1.B t1.s _ KF1.out.ww).mono ?_
          rintro e v2 ⟨u2, rfl, hN2, hb2⟩
          obtain ⟨gb, rfl, -, hGb⟩ := hN2.isB (by omega)
          obtain ⟨tg2, hK2, -⟩ := KF1.out.bel2 hb2
          have KF2 := hd hK2
          have GB := hd hGb
          have GA2 := hd (GA.out.below hb2)
          clear hN2 hGb hb2 hK2 KF1 GA
          go_wp2_with fail
          refine (same_true _ _ _ _ _ t1.B _ GA2.out GB.out).mono ?_
          rintro e v3 ⟨rfl, m3, rfl⟩
          obtain ⟨tg3, hK3, -⟩ := KF2.out.bel2 (below_drewN (Below.refl _ _) m3)
          have KF3 := hd hK3
          clear hK3 KF2 GA2 GB
          generalize v2.drewN m3 = v3 at *
          go_wp2_with fail
          refine (whole_any _ KF3.out HLN.out.1 (by have := HLN.out.2; omega)).mono ?_
          rintro e v4 ⟨rfl, m4, rfl⟩
          obtain ⟨tg4, hK4, -⟩ := KF3.out.bel2 (below_drewN (Below.refl _ _) m4)
          have S9 : Hid (OS w (v3.drewN m4) K rd rx (4 * (k + 1))) := ⟨_, _, _, _, _, _, _, _, _, _, hK4, HLN.out.1, by have := HLN.out.2; omega⟩
          clear hK4 KF3
          generalize v3.drewN m4 = v4 at *
          go_wp2
          exact ⟨⟨k + 1, by omega, by go_num, S9⟩, by simp [intOf]; omega⟩
        · go_wp2_with fail
          refine (act_any rd ρ1 t.B t.s ⟨kind, site, oa, ob, oc, ys⟩ xa xn xc _ KQ.out.dd (XO.out.below KQ.out.below) (by omega)).mono ?_
          rintro e w3 ⟨rfl, hnow⟩
          have hFd : Fr (Own rd ρ1) (wr.alloc (.cells #[.int .i64 kind, .int .i64 site, .int .i64 oa, .int .i64 ob, .int .i64 oc, .slice xa xn xc] 29)) w3 := by
            obtain ⟨_, _, _, hF⟩ := hnow
            exact hF
          have O3 : Hid (w3.heap[wr.heap.size]? = some (.cells #[.int .i64 kind, .int .i64 site, .int .i64 oa, .int .i64 ob, .int .i64 oc, .slice xa xn xc] 29 (0, 0))) := hFd.keeps OQ.out (fun hk => by have h1 := (KQ.out.tagd _ hk).1; have h2 := TQ.out; omega)
          obtain ⟨ρ3, t3, hK3, -⟩ := KQ.out.dact hnow
          have K3 := hd hK3
          obtain ⟨p0, p1, p2, p3, p4, p5⟩ := op_cells' O3.out
          have k9b : (kind != 9) = true := by simpa using k9
          clear hnow hFd hK3 KQ OQ TQ d0 d1 d2 d3 d4 d5
          go_wp2_with fail
          refine (act_any rx ρ2 t.B t.s ⟨kind, site, oa, ob, oc, ys⟩ xa xn xc _ K3.out.ww (XO.out.below K3.out.below) (by omega)).mono ?_
          rintro e w4 ⟨rfl, hnow⟩
          obtain ⟨ρ4, t4, hK4⟩ := K3.out.wact hnow
          have KF := hd hK4
          have HLN : Hid (LL.length = WW.length ∧ LL.length ≤ 4 * k + 4) := ⟨HL0.out.1, by have := HL0.out.2; omega⟩
          clear hnow hK4 K3 O3 p0 p1 p2 p3 p4 p5
          generalize (⟨(stepP ⟨kind, site, oa, ob, oc, ys⟩ t.B t.s).B, (stepP ⟨kind, site, oa, ob, oc, ys⟩ t.B t.s).s⟩ : FS) = t1 at *
          generalize (stepP ⟨kind, site, oa, ob, oc, ys⟩ t.B t.s).e = te at *
          go_wp2_with fail
          refine (size_any rd _ t1.B t1.s _ KF.out.dd).mono ?_
          rintro e v1 ⟨rfl, rfl⟩
          go_wp2_with fail
          refine (size_any rx _ t1.B t1.s _ KF.out.ww).mono ?_
          rintro e v1 ⟨rfl, rfl⟩
          go_wp2_with fail
          refine (synced_any rd _ t1.B t1.s _ KF.out.dd).mono ?_
          rintro e v1 ⟨rfl, rfl⟩
          go_wp2_with fail
          refine (synced_any rx _ t1.B t1.s _ KF.out.ww).mono ?_
          rintro e v1 ⟨rfl, rfl⟩
          have SZ := KF.out.dd.size_le
          go_wp2_with fail
          refine (bytes_any rd _ t1.B t1.s _ KF.out.dd).mono ?_
          rintro e v1 ⟨u1, rfl, hN1, hb1⟩
          obtain ⟨ga, rfl, -, hGa⟩ := hN1.isB (by omega)
          obtain ⟨tg1, hK1, -⟩ := KF.out.bel2 hb1
          have KF1 := hd hK1
          have GA := hd hGa
          clear hN1 hGa hb1 hK1 KF
          go_wp2_with fail
          refine (bytes_any rx _ t1.B t1.s _ KF1.out.ww).mono ?_
          rintro e v2 ⟨u2, rfl, hN2, hb2⟩
          obtain ⟨gb, rfl, -, hGb⟩ := hN2.isB (by omega)
          obtain ⟨tg2, hK2, -⟩ := KF1.out.bel2 hb2
          have KF2 := hd hK2
          have GB := hd hGb
          have GA2 := hd (GA.out.below hb2)
          clear hN2 hGb hb2 hK2 KF1 GA
          go_wp2_with fail
          refine (same_true _ _ _ _ _ t1.B _ GA2.out GB.out).mono ?_
          rintro e v3 ⟨rfl, m3, rfl⟩
          obtain ⟨tg3, hK3, -⟩ := KF2.out.bel2 (below_drewN (Below.refl _ _) m3)
          have KF3 := hd hK3
          clear hK3 KF2 GA2 GB
          generalize v2.drewN m3 = v3 at *
          go_wp2_with fail
          refine (whole_any _ KF3.out HLN.out.1 (by have := HLN.out.2; omega)).mono ?_
          rintro e v4 ⟨rfl, m4, rfl⟩
          obtain ⟨tg4, hK4, -⟩ := KF3.out.bel2 (below_drewN (Below.refl _ _) m4)
          have S9 : Hid (OS w (v3.drewN m4) K rd rx (4 * (k + 1))) := ⟨_, _, _, _, _, _, _, _, _, _, hK4, HLN.out.1, by have := HLN.out.2; omega⟩
          clear hK4 KF3
          generalize v3.drewN m4 = v4 at *
          go_wp2
          exact ⟨⟨k + 1, by omega, by go_num, S9⟩, by simp [intOf]; omega⟩
    · have i1 : ¬ (k : Int) < (nl : Int) := by omega
      go_wp2
      go_ret
      exact ⟨rfl, hr.out.below⟩

end Go.Proofs.Ytdlelbdhcpjdfab
