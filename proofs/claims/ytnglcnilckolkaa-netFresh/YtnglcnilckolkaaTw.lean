/-
  NetFresh: twice.
-/
import Derived.Test.YtnglcnilckolkaaRt
import Derived.Deep.DeepCutAuto
import Derived.Test.YtnglcnilckolkaaLost
namespace Go.Proofs.Ytnglcnilckolkaa
open Go.RowKit
set_option linter.unusedVariables false

def gxP (b : List Int) (k : Nat) : List DG := (List.range k).map (fun i => ⟨0, 1 + ((i % 2 : Nat) : Int), b, false⟩)
def gyP (b : List Int) (k : Nat) : List DG := List.replicate k ⟨2, 0, b, false⟩
theorem gxP_len (b : List Int) (k : Nat) : (gxP b k).length = k := by simp [gxP]
theorem gyP_len (b : List Int) (k : Nat) : (gyP b k).length = k := by simp [gyP]
theorem gx_send (b : List Int) (k : Nat) (hk : k < 3) (hb : b.length ≤ 60) : sendE 2 (gxP b k).length 0 (1 + ((k % 2 : Nat) : Int)) b.length = 0 ∧ sendG 2 (gxP b k) 0 (1 + ((k % 2 : Nat) : Int)) b = gxP b (k + 1) := by
  have h : sendE 2 (gxP b k).length 0 (1 + ((k % 2 : Nat) : Int)) b.length = 0 := by
    rw [gxP_len]
    refine sendE_ok ?_ (by omega) (by omega)
    have : k = 0 ∨ k = 1 ∨ k = 2 := by omega
    rcases this with rfl | rfl | rfl <;> decide
  refine ⟨h, ?_⟩
  rw [sendG_yes h]
  simp [gxP, List.range_succ]
theorem gy_send (b : List Int) (k : Nat) (hk : k < 3) (hb : b.length ≤ 60) : sendE 2 (gyP b k).length 2 0 b.length = 0 ∧ sendG 2 (gyP b k) 2 0 b = gyP b (k + 1) := by
  have h : sendE 2 (gyP b k).length 2 0 b.length = 0 := by
    rw [gyP_len]
    exact sendE_ok (by decide) (by omega) (by omega)
  refine ⟨h, ?_⟩
  rw [sendG_yes h]
  simp [gyP, List.replicate_succ']

theorem IsB.kp {w0 w w' : World} {F : Nat → Prop} {a : Option Addr} {n c : Nat} {b : List Int} (h : IsB w a n c b) (h0 : IsB w0 a n c b) (hK : Kp w0 F w w') : IsB w' a n c b :=
  h.fr hK (fun hn b' off e hk => by
    obtain ⟨b2, o2, e2, hlt, _⟩ := h0.2.2.2 hn
    rw [e] at e2
    have e3 : b' = b2 := by
      have := Option.some.inj e2
      injection this
    have := hk.1
    omega)

theorem IsB.old {w0 w w' : World} {S : Nat → Prop} {a : Option Addr} {n c : Nat} {b : List Int} (h : IsB w a n c b) (h0 : IsB w0 a n c b) (hF : Fr S w w') (hS : ∀ k, S k → w0.heap.size ≤ k) : IsB w' a n c b :=
  h.kp (F := fun k => ¬ S k) h0 (hF.mono (fun k _ hk => ⟨hS k hk, fun hn => hn hk⟩))
theorem gxP_b {b : List Int} {k : Nat} {d : DG} (h : d ∈ gxP b k) : d.b = b := by
  obtain ⟨i, -, rfl⟩ := List.mem_map.1 h
  rfl
theorem gyP_b {b : List Int} {k : Nat} {d : DG} (h : d ∈ gyP b k) : d.b = b := by
  rw [List.eq_of_mem_replicate h]
theorem mem_without {G : List DG} {i : Nat} {d : DG} (h : d ∈ without G i) : d ∈ G := by
  unfold without at h
  rcases List.mem_append.1 h with h | h
  · exact List.mem_of_mem_take h
  · exact List.mem_of_mem_drop h
theorem all_b {E : Ent} {G : List DG} {b : List Int} (h : E.L.map It.d = G) (hG : ∀ d ∈ G, d.b = b) (z : It) (hz : z ∈ E.L) : z.d.b = b := hG _ (by rw [← h]; exact List.mem_map_of_mem hz)
theorem len_of {E : Ent} {G : List DG} {m : Nat} (h : E.L.map It.d = G) (hm : G.length = m) : E.L.length = m := by rw [← hm, ← h, List.length_map]

theorem Ent.v_of {w : World} {E : Ent} {G : List DG} (m : Nat) (h : E.L.map It.d = G) (hm : G.length = m) : ∃ A C, E.v = .slice A m C := by
  have : E.L.length = m := by rw [← hm, ← h, List.length_map]
  exact ⟨at0 E.β, E.c, by rw [Ent.v, this]⟩

set_option maxRecDepth 100000 in
set_option maxHeartbeats 4000000 in
theorem twice_any (a : Option Addr) (n c : Nat) (b : List Int) (w : World) (hB : IsB w a n c b) (hn : n ≤ 60) :
    Calls Try.prog 24 #[.slice a n c] w fun e w' => e = .returned (.bool true) ∧ Below w.heap.size w w' := by
  have HB := hd hB
  have HL : Hid (b.length = n) := hB.1
  clear hB
  go_enter Try.func24, Try.ntmps24
  go_wp2_with fail
  refine (tw_new w).mono ?_
  rintro e1 w1 ⟨x, rfl, Sx, hx, kx, bx⟩
  have X1 := hd (And.intro hx (And.intro kx bx))
  clear hx kx bx
  go_wp2_with fail
  refine (tw_new w1).mono ?_
  rintro e2 w2 ⟨y, rfl, Sy, hy, ky, by_⟩
  have T0 : Hid (TW w w2 x y (gxP b 0) 0 (gyP b 0) 0 (fun k => k < w.heap.size) ∧ IsB w2 a n c b) := by
    refine ⟨tw_of (Below.refl _ _) X1.out.1 X1.out.2.1 X1.out.2.2 hy ky by_, ?_⟩
    exact (HB.out.below X1.out.2.2).below by_
  clear X1 hy ky by_
  go_wp2
  go_loopw [7] (fun i wr => ∃ k : Nat, k ≤ 3 ∧ i = .int .i64 k ∧ Hid (TW w wr x y (gxP b k) k (gyP b k) k (fun k => k < w.heap.size) ∧ IsB wr a n c b)) (fun i _ => 3 - (intOf i).toNat)
  case atStart => exact ⟨0, Nat.zero_le _, rfl, T0⟩
  case round =>
    obtain ⟨k, hk, rfl, hr⟩ := hrel
    clear T0
    by_cases hk3 : k < 3
    · have i1 : (k : Int) < 3 := by omega
      have mo : Int.tmod (k : Int) 2 = ((k % 2 : Nat) : Int) := by
        have : k = 0 ∨ k = 1 ∨ k = 2 := by omega
        rcases this with rfl | rfl | rfl <;> rfl
      have m1 : k % 2 < 2 := by omega
      have GX0 := gx_send b k hk3 (by rw [HL.out]; exact hn)
      have GY0 := gy_send b k hk3 (by rw [HL.out]; exact hn)
      rw [HL.out] at GX0 GY0
      have GX := hd GX0
      have GY := hd GY0
      clear GX0 GY0
      generalize k % 2 = km at *
      go_wp2_with fail
      refine (tw_send hr.out.1 (by omega) 0 (1 + (km : Int)) a n c b hr.out.2).mono ?_
      rintro e3 w3 ⟨rfl, t3, f3⟩
      rw [GX.out.1]
      rw [GX.out.2] at t3
      have T3 := hd t3
      have B3 : Hid (IsB w3 a n c b) := hr.out.2.kp HB.out f3
      clear t3 f3 hr
      go_wp2_with fail
      refine (tw_send T3.out.swap (by omega) 2 0 a n c b B3.out).mono ?_
      rintro e4 w4 ⟨rfl, t4, f4⟩
      rw [GY.out.1]
      rw [GY.out.2] at t4
      have T4 : Hid (TW w w4 x y (gxP b (k + 1)) (k + 1) (gyP b (k + 1)) (k + 1) (fun k => k < w.heap.size) ∧ IsB w4 a n c b) := ⟨t4.swap, B3.out.kp HB.out f4⟩
      clear t4 f4 T3 B3
      go_wp2
      exact ⟨⟨k + 1, by omega, by go_num, T4⟩, by simp [intOf]; omega⟩
    · have i1 : ¬ (k : Int) < 3 := by omega
      obtain rfl : k = 3 := by omega
      have T0 := hd (TL.start hr.out.1)
      have B0 := hd hr.out.2
      clear hr
      go_wp2_with fail
      refine (tl_flight T0.out).mono ?_
      rintro e3 w3 ⟨E3, rfl, d0, t0, b0⟩
      obtain ⟨A3, C3, v3⟩ := Ent.v_of (w := w3) 3 d0 (gxP_len b 3)
      rw [v3]
      have Q3 := hd (And.intro v3 d0)
      have T3 := hd t0
      have B3 := hd (B0.out.below b0)
      clear v3 d0 t0 b0 T0 B0
      go_wp2_with fail
      refine (tl_flight T3.out).mono ?_
      rintro e4 w4 ⟨E4, rfl, d0, t0, b0⟩
      obtain ⟨A4, C4, v4⟩ := Ent.v_of (w := w4) 3 d0 (gxP_len b 3)
      rw [v4]
      have Q4 := hd (And.intro v4 d0)
      have T4 := hd t0
      have B4 := hd (B3.out.below b0)
      clear v4 d0 t0 b0 T3 B3
      go_wp2_with fail
      refine (tl_flight T4.out).mono ?_
      rintro e5 w5 ⟨E5, rfl, d0, t0, b0⟩
      obtain ⟨A5, C5, v5⟩ := Ent.v_of (w := w5) 3 d0 (gxP_len b 3)
      rw [v5]
      have Q5 := hd (And.intro v5 d0)
      have T5 := hd t0
      have B5 := hd (B4.out.below b0)
      clear v5 d0 t0 b0 T4 B4
      go_wp2_with fail
      refine (tl_flight T5.out.swap).mono ?_
      rintro e6 w6 ⟨E6, rfl, d0, t0, b0⟩
      obtain ⟨A6, C6, v6⟩ := Ent.v_of (w := w6) 3 d0 (gyP_len b 3)
      rw [v6]
      have Q6 := hd (And.intro v6 d0)
      obtain ⟨w7, hw7⟩ : ∃ u, u = w6.alloc (.cells #[.slice A3 3 C3, .slice A4 3 C4, .slice A5 3 C5, .slice A6 3 C6] 43) := ⟨_, rfl⟩
      have b7 : Below w6.heap.size w6 w7 := by rw [hw7]; exact (Below.refl _ _).alloc (Nat.le_refl _) _
      have ol7 : w7.ownsRow w6.heap.size 43 1 (.slice (some ⟨w6.heap.size, 0, none⟩) 4 4) 4 [.slice A3 3 C3, .slice A4 3 C4, .slice A5 3 C5, .slice A6 3 C6] := by
        rw [hw7]
        exact World.ownsRow_lit w6 #[.slice A3 3 C3, .slice A4 3 C4, .slice A5 3 C5, .slice A6 3 C6] 4 (Nat.le_refl _) (by unfold maxLen; omega) rfl
      have s7 : w7.heap.size = w6.heap.size + 1 := by rw [hw7, World.size_alloc]
      have t7 := (t0.swap.below b7).sub (Ks' := fun k => k = w6.heap.size) (fun k e => .inr (by omega))
      have T7 := hd (show TL w w7 x y (gxP b 3) 3 (gyP b 3) 3 [E3, E4, E5, E6] (fun k => k = w6.heap.size) from t7)
      have B7 := hd ((B5.out.below b0).below b7)
      have OL7 := hd (And.intro ol7 s7)
      have HW7 := hd hw7
      clear v6 d0 t0 b0 T5 B5 b7 ol7 s7 t7 hw7
      go_upto_region 13 with fail
      rw [← HW7.out]
      clear HW7
      generalize hgl : w6.heap.size = gl at *
      clear hgl w6
      go_wp2_with fail
      refine (tl_deliver T7.out 1 (by rw [gxP_len]; omega)).mono ?_
      rintro e8 w8 ⟨γd, cd, he8, hTd, t8, hγd, hK8⟩
      have g1 : (gxP b 3).getD 1 zDG = ⟨0, 2, b, false⟩ := by simp [gxP, List.range_succ]
      rw [g1] at he8 hTd
      simp only [dgv] at he8
      subst he8
      obtain ⟨w9, hw9⟩ : ∃ u, u = w8.alloc (.cells #[.int .i64 0, .int .i64 2, .slice (at0 γd) b.length cd, .bool false] 37) := ⟨_, rfl⟩
      have b9 : Below w8.heap.size w8 w9 := by rw [hw9]; exact (Below.refl _ _).alloc (Nat.le_refl _) _
      have s9 : w9.heap.size = w8.heap.size + 1 := by rw [hw9, World.size_alloc]
      have r9 : w9.heap[w8.heap.size]? = some (.cells (opc ⟨⟨0, 2, b, false⟩, at0 γd, cd, γd⟩).toArray 37 (0, 0)) := by rw [hw9]; exact heap_alloc_new _ _
      have t9 := (t8.below b9).sub (Ks' := fun k => k = gl ∨ γd = some k ∨ k = w8.heap.size) (fun k e => by
        rcases e with e | e | e
        · exact .inl (.inl e)
        · exact .inl (.inr e)
        · exact .inr (by omega))
      have T9 := hd t9
      have B9 := hd ((B7.out.kp HB.out hK8).below b9)
      have OL9 := hd (own_fr (own_fr OL7.out.1 hK8 (fun e => e.2 (.inr (.inr rfl)))) (Fr.of_below (S := fun _ => False) b9) (fun e => e))
      have D9 := hd (And.intro (hTd.fr (Fr.of_below (S := fun _ => False) b9) (fun _ _ e => e)) (And.intro r9 (And.intro (show ∀ g, γd = some g → gl < g by intro g e; have := hγd g e; have := OL7.out.2; omega) (And.intro (show ∀ g, γd = some g → g < w9.heap.size by intro g e; have := hTd.lt g e; omega) (show w8.heap.size < w9.heap.size by omega)))))
      have HW9 := hd hw9
      clear hTd t8 hγd hK8 g1 b9 s9 r9 t9 hw9 T7 B7 OL7
      go_upto_region 14 with fail
      rw [← HW9.out]
      clear HW9
      generalize hdb : w8.heap.size = db at *
      clear hdb w8
      go_wp2_with fail
      refine (tl_deliver T9.out.swap 0 (by rw [gyP_len]; omega)).mono ?_
      rintro e10 w10 ⟨γc, cc, he10, hTc, t10, hγc, hK10⟩
      have g0 : (gyP b 3).getD 0 zDG = ⟨2, 0, b, false⟩ := by simp [gyP, List.replicate]
      rw [g0] at he10 hTc
      simp only [dgv] at he10
      subst he10
      obtain ⟨w11, hw11⟩ : ∃ u, u = w10.alloc (.cells #[.int .i64 2, .int .i64 0, .slice (at0 γc) b.length cc, .bool false] 37) := ⟨_, rfl⟩
      have b11 : Below w10.heap.size w10 w11 := by rw [hw11]; exact (Below.refl _ _).alloc (Nat.le_refl _) _
      have s11 : w11.heap.size = w10.heap.size + 1 := by rw [hw11, World.size_alloc]
      have r11 : w11.heap[w10.heap.size]? = some (.cells (opc ⟨⟨2, 0, b, false⟩, at0 γc, cc, γc⟩).toArray 37 (0, 0)) := by rw [hw11]; exact heap_alloc_new _ _
      have t11 := (t10.swap.below b11).sub (Ks' := fun k => k = gl ∨ γd = some k ∨ γc = some k) (fun k e => by
        rcases e with e | e | e
        · exact .inl (.inl (.inl e))
        · exact .inl (.inl (.inr (.inl e)))
        · exact .inl (.inr e))
      have T11 := hd t11
      have B11 := hd ((B9.out.kp HB.out hK10).below b11)
      have OL11 := hd (own_fr (own_fr OL9.out hK10 (fun e => e.2 (.inr (.inr (.inl rfl))))) (Fr.of_below (S := fun _ => False) b11) (fun e => e))
      have F11 : Fr (fun k => w.heap.size ≤ k ∧ ¬ (k < w.heap.size ∨ (∃ e ∈ [E3, E4, E5, E6], e.own k) ∨ (k = gl ∨ γd = some k ∨ k = db))) w9 w11 := hK10.trans (Fr.of_below b11)
      have D11 := hd (And.intro (D9.out.1.fr F11 (fun g e e' => e'.2 (.inr (.inr (.inr (.inl e)))))) (F11.keeps D9.out.2.1 (fun e => e.2 (.inr (.inr (.inr (.inr rfl)))))))
      have C11 := hd (And.intro (hTc.fr (Fr.of_below (S := fun _ => False) b11) (fun _ _ e => e)) r11)
      have NE := hd (And.intro D9.out.2.2.1 (And.intro (show ∀ g, γc = some g → gl < g by intro g e; have := hγc g e; have := D9.out.2.2.2.2; have := T9.out.lt.2 gl (.inl rfl); omega) (show ∀ g, γd = some g → γc ≠ some g by intro g e e'; have := hγc g e'; have := D9.out.2.2.2.1 g e; omega)))
      have glt := T11.out.lt.2 gl (.inl rfl)
      have GLT := hd glt
      have HW11 := hd hw11
      clear hTc t10 hγc hK10 g0 b11 s11 r11 t11 hw11 T9 B9 OL9 D9 F11 glt
      go_upto_region 15 with fail
      rw [← HW11.out]
      clear HW11
      generalize hcb : w10.heap.size = cb at *
      clear hcb w10
      refine twice_region15 _ w11 w x y gl db cb (without (gxP b 3) 1) (without (gyP b 3) 0) 3 3 [E3, E4, E5, E6] (fun k => k = gl ∨ γd = some k ∨ γc = some k) ⟨⟨0, 2, b, false⟩, at0 γd, cd, γd⟩ ⟨⟨2, 0, b, false⟩, at0 γc, cc, γc⟩ [.slice A3 3 C3, .slice A4 3 C4, .slice A5 3 C5, .slice A6 3 C6] rfl rfl rfl rfl rfl (by simp) ?_ ?_ GLT.out (.inl rfl) D11.out.2 C11.out.2 ?_
      · exact (T11.out.below ((Below.refl _ _).drew)).sub (fun k e => .inl e)
      · exact own_fr OL11.out (Fr.drew (fun _ => False) w11) (fun e => e)
      intro u v F g v74 v75 v76 v77 v78 v79 v80 v81 v82 v83 v84 tlu hF3 m0 m1 m2 rowu fru ownu
      obtain ⟨E7, E8, E9, rfl⟩ : ∃ E7 E8 E9, F = [E7, E8, E9] := by
        match F, hF3 with
        | [E7, E8, E9], _ => exact ⟨E7, E8, E9, rfl⟩
      have m0 : E7.L.map It.d = without (gxP b 3) 1 := m0
      have m1 : E8.L.map It.d = without (gxP b 3) 1 := m1
      have m2 : E9.L.map It.d = without (gyP b 3) 0 := m2
      have fru' : Fr (fun k => k = gl) w11 u := (Fr.drew _ w11).trans fru
      have FD : FG u ⟨0, 0, some g, 2, [⟨⟨0, 2, b, false⟩, at0 γd, cd, γd⟩, ⟨⟨2, 0, b, false⟩, at0 γc, cc, γc⟩]⟩ := by
        refine ⟨⟨2, rfl, rowu⟩, ?_, ?_⟩
        · intro z hz
          simp only [List.mem_cons, List.not_mem_nil, or_false] at hz
          rcases hz with rfl | rfl
          · exact (D11.out.1.fr fru' (fun g e e' => by have := NE.out.1 g e; omega)).sb
          · exact (C11.out.1.fr fru' (fun g e e' => by have := NE.out.2.1 g e; omega)).sb
        · simp only [List.pairwise_cons, List.mem_cons, List.not_mem_nil, or_false, forall_eq, List.Pairwise.nil, and_true]
          exact ⟨fun g e => NE.out.2.2 g e, fun _ h => h.elim⟩
      have T12 := tlu.add _ FD (fun k hk => by
        rcases hk with hk | ⟨z, hz, hk⟩
        · exact .inr hk
        · simp only [List.mem_cons, List.not_mem_nil, or_false] at hz
          rcases hz with rfl | rfl
          · exact .inl (.inr (.inl hk))
          · exact .inl (.inr (.inr hk)))
      obtain ⟨gL, cap, rfl, hgL, hcap, hcm, hLD⟩ := own_ld ownu (by omega)
      have l2 : (without (gxP b 3) 1).length = 2 := by simp [without, gxP_len]
      have l3 : (without (gyP b 3) 0).length = 2 := by simp [without, gyP_len]
      obtain ⟨A7, C7, v7⟩ := Ent.v_of (w := u) 2 m0 l2
      obtain ⟨A8, C8, v8⟩ := Ent.v_of (w := u) 2 m1 l2
      obtain ⟨A9, C9, v9⟩ := Ent.v_of (w := u) 2 m2 l3
      have lgL : gL < u.heap.size := by obtain ⟨cur, hh, -⟩ := hLD; exact block_lt hh
      have k0 : u.cell? ⟨gL, 0, none⟩ = some (.slice A3 3 C3) := hLD.cell 0 (by omega)
      have k1 : u.cell? ⟨gL, 1, none⟩ = some (.slice A4 3 C4) := hLD.cell 1 (by omega)
      have k2 : u.cell? ⟨gL, 2, none⟩ = some (.slice A5 3 C5) := hLD.cell 2 (by omega)
      have k4 : u.cell? ⟨gL, 4, none⟩ = some (.slice A7 2 C7) := (hLD.cell 4 (by omega)).trans (by rw [← v7]; rfl)
      have k5 : u.cell? ⟨gL, 5, none⟩ = some (.slice A8 2 C8) := (hLD.cell 5 (by omega)).trans (by rw [← v8]; rfl)
      have k6 : u.cell? ⟨gL, 6, none⟩ = some (.slice A9 2 C9) := (hLD.cell 6 (by omega)).trans (by rw [← v9]; rfl)
      have j3 := (T12.fg E3 (by simp)).1.isG2 Q3.out.1
      have j4 := (T12.fg E4 (by simp)).1.isG2 Q4.out.1
      have j5 := (T12.fg E5 (by simp)).1.isG2 Q5.out.1
      have j7 := (T12.fg E7 (by simp)).1.isG2 v7
      have j8 := (T12.fg E8 (by simp)).1.isG2 v8
      have C34 : Hid (∀ U, Below u.heap.size u U → Calls Try.prog 20 #[.slice A3 3 C3, .slice A4 3 C4] U fun e w' => e = .returned (.bool true) ∧ Below u.heap.size u w') := hd (fun U hU => (flights_true A3 A4 3 C3 C4 E3.L E4.L U (j3.below hU) (j4.below hU) (Q3.out.2.trans Q4.out.2.symm)).mono (fun e w' h => ⟨h.1, hU.trans (h.2.mono hU.size)⟩))
      have C35 : Hid (∀ U, Below u.heap.size u U → Calls Try.prog 20 #[.slice A3 3 C3, .slice A5 3 C5] U fun e w' => e = .returned (.bool true) ∧ Below u.heap.size u w') := hd (fun U hU => (flights_true A3 A5 3 C3 C5 E3.L E5.L U (j3.below hU) (j5.below hU) (Q3.out.2.trans Q5.out.2.symm)).mono (fun e w' h => ⟨h.1, hU.trans (h.2.mono hU.size)⟩))
      have C78 : Hid (∀ U, Below u.heap.size u U → Calls Try.prog 20 #[.slice A7 2 C7, .slice A8 2 C8] U fun e w' => e = .returned (.bool true) ∧ Below u.heap.size u w') := hd (fun U hU => (flights_true A7 A8 2 C7 C8 E7.L E8.L U (j7.below hU) (j8.below hU) (m0.trans m1.symm)).mono (fun e w' h => ⟨h.1, hU.trans (h.2.mono hU.size)⟩))
      have BU := hd (B11.out.old HB.out fru' (fun k e => by rw [e]; exact (T11.out.ks gl (.inl rfl)).1))
      have T := hd T12
      have HLD := hd (And.intro hLD (And.intro hcap hcm))
      have QQ := hd (And.intro (And.intro v7 m0) (And.intro (And.intro v8 m1) (And.intro v9 m2)))
      have HGL := hd hgL
      clear tlu rowu fru fru' ownu FD T12 hLD j3 j4 j5 j7 j8 T11 OL11 D11 C11 NE GLT hF3 m0 m1 m2 v7 v8 v9 l2 l3 hgL hcap hcm
      rename_i K0 hK0
      refine hK0 _ _ ?_
      simp only [puts, List.foldl_cons, List.foldl_nil, Act.put, List.setIfInBounds_toArray, List.set_cons_succ, List.set_cons_zero]
      clear hK0
      go_upto_region 16 with fail
      refine twice_region16 _ u gL cap A3 A4 A5 A7 A8 A9 C3 C4 C5 C7 C8 C9 rfl rfl rfl (by simp) lgL k0 k1 k2 k4 k5 k6 C34.out C35.out C78.out ?_
      intro V u1 h56 bu
      have BU1 := hd bu
      clear k0 k1 k2 k4 k5 k6 C34 C35 C78 bu
      rename_i K0 hK0
      refine hK0 _ _ ?_
      simp only [List.range, List.range.loop, List.map_cons, List.map_nil, Nat.reduceAdd, puts, List.foldl_cons, List.foldl_nil, Act.put, List.setIfInBounds_toArray, List.set_cons_succ, List.set_cons_zero]
      clear hK0
      rw [h56]
      go_upto_region 18 with fail
      obtain ⟨wn, hwn⟩ : ∃ q, q = u1.alloc (.cells #[.int .i64 0, .int .i64 1, .slice a n c, .bool false, .int .i64 0, .int .i64 1, .slice a n c, .bool false] 37) := ⟨_, rfl⟩
      have bn : Below u1.heap.size u1 wn := by rw [hwn]; exact (Below.refl _ _).alloc (Nat.le_refl _) _
      have sn : wn.heap.size = u1.heap.size + 1 := by rw [hwn, World.size_alloc]
      have rn : wn.heap[u1.heap.size]? = some (.cells #[.int .i64 0, .int .i64 1, .slice a n c, .bool false, .int .i64 0, .int .i64 1, .slice a n c, .bool false] 37 (0, 0)) := by rw [hwn]; exact heap_alloc_new _ _
      have tn := ((T.out.below BU1.out).below bn).sub (Ks' := fun k => k = u1.heap.size) (fun k e => .inr (by omega))
      have ldn : LD wn gL 8 (fun j => (([E3, E4, E5, E6] ++ [E7, E8, E9] ++ [⟨0, 0, some g, 2, [⟨⟨0, 2, b, false⟩, at0 γd, cd, γd⟩, ⟨⟨2, 0, b, false⟩, at0 γc, cc, γc⟩]⟩] : List Ent).getD j zEn).v) := by
        have h1 := (HLD.out.1.fr (Fr.of_below (S := fun _ => False) BU1.out) (fun e => e)).fr (Fr.of_below (S := fun _ => False) bn) (fun e => e)
        obtain ⟨cur, hh, hc⟩ := h1
        refine ⟨cur, hh, fun i hi => (hc i hi).trans ?_⟩
        have : i = 0 ∨ i = 1 ∨ i = 2 ∨ i = 3 ∨ i = 4 ∨ i = 5 ∨ i = 6 ∨ i = 7 := by omega
        rcases this with rfl | rfl | rfl | rfl | rfl | rfl | rfl | rfl
        · exact congrArg some Q3.out.1.symm
        · exact congrArg some Q4.out.1.symm
        · exact congrArg some Q5.out.1.symm
        · exact congrArg some Q6.out.1.symm
        · rfl
        · rfl
        · rfl
        · rfl
      have l3 := len_of Q3.out.2 (gxP_len b 3)
      have l4 := len_of Q4.out.2 (gxP_len b 3)
      have l5 := len_of Q5.out.2 (gxP_len b 3)
      have l6 := len_of Q6.out.2 (gyP_len b 3)
      have l7 : E7.L.length = 2 := len_of QQ.out.1.2 (by simp [without, gxP_len])
      have l8 : E8.L.length = 2 := len_of QQ.out.2.1.2 (by simp [without, gxP_len])
      have l9 : E9.L.length = 2 := len_of QQ.out.2.2.2 (by simp [without, gyP_len])
      have CG := hd (tl_grams tn 8 gL cap rfl ldn (by omega) HLD.out.2.1 HLD.out.2.2 (by
        intro e he
        simp only [List.mem_append, List.mem_cons, List.not_mem_nil, or_false] at he
        rcases he with ((rfl | rfl | rfl | rfl) | rfl | rfl | rfl) | rfl
        all_goals first | omega | (show 2 ≤ 1000; omega)) (by simp [l3, l4, l5, l6, l7, l8, l9]) (by simp [l3, l4, l5, l6, l7, l8, l9]) (by
        intro e he z hz
        have hb60 : b.length ≤ 1000 := by rw [HL.out]; omega
        simp only [List.mem_append, List.mem_cons, List.not_mem_nil, or_false] at he
        rcases he with ((rfl | rfl | rfl | rfl) | rfl | rfl | rfl) | rfl
        · rw [all_b Q3.out.2 (fun d hd => gxP_b hd) z hz]; exact hb60
        · rw [all_b Q4.out.2 (fun d hd => gxP_b hd) z hz]; exact hb60
        · rw [all_b Q5.out.2 (fun d hd => gxP_b hd) z hz]; exact hb60
        · rw [all_b Q6.out.2 (fun d hd => gyP_b hd) z hz]; exact hb60
        · rw [all_b QQ.out.1.2 (fun d hd => gxP_b (mem_without hd)) z hz]; exact hb60
        · rw [all_b QQ.out.2.1.2 (fun d hd => gxP_b (mem_without hd)) z hz]; exact hb60
        · rw [all_b QQ.out.2.2.2 (fun d hd => gyP_b (mem_without hd)) z hz]; exact hb60
        · simp only [List.mem_cons, List.not_mem_nil, or_false] at hz
          rcases hz with rfl | rfl <;> exact hb60))
      have NW : Hid (∀ (u' : World), Fr (fun k => ∃ e ∈ ([E3, E4, E5, E6] ++ [E7, E8, E9] ++ [⟨0, 0, some g, 2, [⟨⟨0, 2, b, false⟩, at0 γd, cd, γd⟩, ⟨⟨2, 0, b, false⟩, at0 γc, cc, γc⟩]⟩] : List Ent), e.own k) wn u' → u'.heap[u1.heap.size]? = some (.cells #[.int .i64 0, .int .i64 1, .slice a n c, .bool false, .int .i64 0, .int .i64 1, .slice a n c, .bool false] 37 (0, 0)) ∧ IsB u' a n c b) := hd (fun u' hF => ⟨hF.keeps rn (fun ⟨e, he, ho⟩ => (tn.ks _ rfl).2 e he ho), ((BU.out.below BU1.out).below bn).old HB.out hF (fun k ⟨e, he, ho⟩ => (tn.fg e he).2 k ho)⟩)
      have HWN := hd hwn
      clear bn sn rn tn ldn l3 l4 l5 l6 l7 l8 l9 hwn T HLD BU1 BU
      go_upto_region 19 with fail
      rw [← HWN.out]
      clear HWN
      generalize hgw : u1.heap.size = gw at *
      clear hgw u1
      go_wp2_with fail
      refine CG.out.mono ?_
      rintro e w20 ⟨rfl, t20, f20⟩
      obtain ⟨r20, b20⟩ := NW.out _ f20
      have T20 := hd t20
      have R20 := hd (And.intro r20 b20)
      clear t20 f20 r20 b20 NW CG
      go_wp2_with fail
      refine (tl_flight T20.out).mono ?_
      rintro e w21 ⟨E12, rfl, d21, t21, b21⟩
      obtain ⟨A12, C12, v12⟩ := Ent.v_of (w := w21) 2 d21 (by simp [without, gxP_len])
      rw [v12]
      have hr := (b21.block gw (block_lt R20.out.1)).trans R20.out.1
      have hb21 := R20.out.2.below b21
      have hl := HL.out
      have gW : IsG w21 (some ⟨gw, 0, none⟩) 2 2 [⟨⟨0, 1, b, false⟩, a, c, none⟩, ⟨⟨0, 1, b, false⟩, a, c, none⟩] := by
        refine ⟨⟨rfl, Nat.le_refl _, by omega, fun _ => ⟨gw, 0, rfl, block_lt hr, fun j v hj => ?_⟩⟩, fun z hz => ?_⟩
        · rw [Nat.zero_add, cell_row hr, ← hj]
          simp [cO, opc, hl]
        · simp only [List.mem_cons, List.not_mem_nil, or_false, or_self] at hz
          subst hz
          show IsB w21 a b.length c b
          rw [hl]
          exact hb21
      have g12 := (t21.fg E12 (by simp)).1.isG2 v12
      have CF := hd (flights_true A12 (some ⟨gw, 0, none⟩) 2 C12 2 E12.L _ w21 g12 gW (by rw [d21]; simp [without, gxP, List.range_succ]))
      have B21 := hd t21.base
      clear hr hb21 hl gW g12 t21 b21 d21 v12 R20 T20
      go_wp2_with fail
      refine CF.out.mono ?_
      rintro e w22 ⟨rfl, b22⟩
      have Z := hd (B21.out.trans (b22.mono B21.out.size))
      clear b22
      go_wp2
      go_ret
      exact ⟨rfl, Z.out⟩

end Go.Proofs.Ytnglcnilckolkaa
