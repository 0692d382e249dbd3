/-
  InboxRuns.
-/
import Derived.Test.YtpjnhjijipcjkaaQv
import Derived.Test.YtpjnhjijipcjkaaPj
import Derived.Test.YtpjnhjijipcjkaaPl
import Derived.Test.YtpjnhjijipcjkaaFx
import Derived.Deep.DeepCutAuto
namespace Go.Proofs.Ytpjnhjijipcjkaa
open Go.RowKit
set_option linter.unusedVariables false

structure RS (w0 W : World) (K : Nat → Prop) (x a b r q bx g N d : Nat) (A B : Rb) (m : Nat) : Prop where
  mo : PB noObj w0 W K x a b r q A B m
  hm : m ≤ 44
  hK : ∀ k, K k → w0.heap.size ≤ k
  kb : K bx
  cb : W.heap[bx]? = some (.cells #[pt a] 28 (0, 0))
  kg : K g
  all : AllAt w0 W g N d
def RT (w0 W : World) (x a b r q bx g N d : Nat) : Prop := ∃ K A B m, RS w0 W K x a b r q bx g N d A B m
section
variable {w0 W W' : World} {K : Nat → Prop} {x a b r q bx g N d : Nat} {A B A' B' : Rb} {m m' : Nat}
theorem RS.step (h : RS w0 W K x a b r q bx g N d A B m) (mo : PB noObj w0 W' K x a b r q A' B' m') (hm : m' ≤ 44) (kp : KP K W W') : RS w0 W' K x a b r q bx g N d A' B' m' :=
  ⟨mo, hm, h.hK, h.kb, (kp bx h.kb).trans h.cb, h.kg, h.all.kp (kp g h.kg)⟩
theorem RS.below (h : RS w0 W K x a b r q bx g N d A B m) (hb : RowKit.Below W.heap.size W W') : RS w0 W' K x a b r q bx g N d A B m := h.step (MO.below h.mo hb) h.hm (MO.kp h.mo hb)
theorem RT.below (h : RT w0 W x a b r q bx g N d) (hb : RowKit.Below W.heap.size W W') : RT w0 W' x a b r q bx g N d := by
  obtain ⟨K, A, B, m, h⟩ := h
  exact ⟨K, A, B, m, h.below hb⟩
/-- One block more is kept. -/
theorem RS.more (h : RS w0 W K x a b r q bx g N d A B m) (hb : RowKit.Below W.heap.size W W') (j : Nat) (h1 : W.heap.size ≤ j) (h2 : j < W'.heap.size) (hc : W'.heap[j]? = some (.cells #[pt a] 28 (0, 0))) : RS w0 W' (fun k => K k ∨ k = j) x a b r q j g N d A B m :=
  ⟨MO.adds h.mo hb (fun k hk => hk.imp id (fun e => by omega)) (fun k hk => by
    rcases hk with hk | hk
    · exact Nat.lt_of_lt_of_le (MO.old h.mo k hk) hb.size
    · omega), h.hm, fun k hk => by
    rcases hk with hk | hk
    · exact h.hK k hk
    · have := (MO.base h.mo).size; omega, .inr rfl, hc, .inl h.kg, h.all.kp (MO.kp h.mo hb g h.kg)⟩
end

set_option maxRecDepth 100000 in
set_option maxHeartbeats 8000000 in
theorem inboxRuns_any (r0 : Int) (a2 : Option Addr) (n c d : Nat) (w : World) (hT : TrD (d + 1) w a2 n c) :
    Calls Try.prog 8 #[.int .i64 r0, .slice a2 n c] w fun e w' => e = .returned (.bool true) ∧ RowKit.Below w.heap.size w w' := by
  have HT := hd hT
  have n1c := hT.1
  have n1m := hT.2.1
  have n3 := hT.2.2.1
  clear hT
  go_enter Try.func8, Try.ntmps8
  go_wp2_with fail
  refine (boxed_any r0 1 w).mono ?_
  rintro _ w1 ⟨x, a, b, r, q, A, B, rfl, M⟩
  have H1 := hd M
  clear M
  go_wp2_with fail
  refine (fixed_true w1).mono ?_
  rintro _ w2 ⟨rfl, b2⟩
  have M2 : PB noObj w w2 NoK x a b r q A B 0 := MO.below H1.out b2
  obtain ⟨aL, cL, vW, hbx, -, -, hx⟩ := pb_box M2
  have c0 := cell_row hbx 0
  simp at c0
  have H2 := hd M2
  clear H1 b2 M2 hbx
  go_wp2_with fail
  refine (run_any a w2).mono ?_
  rintro _ w3 ⟨rfl, hw3⟩
  have b3 : RowKit.Below w2.heap.size w2 w3 := by rw [hw3]; exact (Below.refl _ _).alloc (Nat.le_refl _) _
  have c3 : w3.heap[w2.heap.size]? = some (.cells #[pt a] 28 (0, 0)) := by rw [hw3]; exact heap_alloc_new _ _
  obtain ⟨g, cap, w4, hap0, hc1, hc2, hall, hg, b4⟩ := run_all w w3 a2 n c d HT.out ((MO.base H2.out).trans (b3.mono (MO.base H2.out).size))
  have hap : ∀ ty, (Builtin.append_ #[47, 47] ty #[.slice (some ⟨w3.heap.size, 0, none⟩) 3 3, .slice a2 n c]).run Try.prog (w3.alloc (.cells #[.int .i64 1, .int .i64 0, .int .i64 1, .int .i64 77, .slice none 0 0, .int .i64 8, .int .i64 0, .int .i64 0, .int .i64 1, .slice none 0 0, .int .i64 5, .int .i64 0, .int .i64 0, .int .i64 0, .slice none 0 0] 56)) = .ok (.slice (some ⟨g, 0, none⟩) (n + 3) cap) w4 := hap0
  have b24 : RowKit.Below w2.heap.size w2 w4 := b3.trans (b4.mono b3.size)
  have T0 : Hid (RT w w4 x a b r q w2.heap.size g (n + 3) d) := by
    have hs := (MO.base H2.out).size
    have lg : g < w4.heap.size := by obtain ⟨cur, h1, -⟩ := hall; exact block_lt h1
    have l3 := block_lt c3
    have hs3 := b3.size
    have hs4 := b4.size
    exact hd ⟨fun k => k = w2.heap.size ∨ k = g, A, B, 0, MO.adds H2.out b24 (fun k hk => .inr (by rcases hk with e | e <;> omega)) (fun k hk => by rcases hk with e | e <;> omega), by omega, fun k hk => by rcases hk with e | e <;> omega, .inl rfl, (b4.block _ l3).trans c3, .inr rfl, hall⟩
  generalize hbx0 : w2.heap.size = bx0 at *
  clear hbx0 H2 hw3 b3 c3 hap0 hall hg b4 b24 c0 hx
  go_wp2_with (at_builtin; refine wpList_append_k _ rfl _ _ 47 47 rfl _ _ rfl rfl (hap _) ?_)
  clear hap
  go_loopw [9, 7] (fun v kv wr => ∃ i bx : Nat, i ≤ n + 3 ∧ v = .int .i64 i ∧ kv = .func (.func 52) #[] #[.pointer (some ⟨bx, 0, none⟩)] ∧ Hid (RT w wr x a b r q bx g (n + 3) d)) (fun v _ _ => n + 3 - (intOf v).toNat)
  case atStart => exact ⟨0, bx0, Nat.zero_le _, rfl, rfl, T0⟩
  case round =>
    obtain ⟨i, bx, hi, rfl, rfl, HR⟩ := hrel
    clear T0
    by_cases hlt : i < n + 3
    · have i1 : (i : Int) < (n : Int) + 3 := by omega
      obtain ⟨K, A1, B1, m1, hs⟩ := HR.out
      obtain ⟨p, ⟨y0, y1, y2, y3, y4⟩, hTp, lg⟩ := hs.all.cell i hlt
      obtain ⟨pk, psl, pn, pv, pia, pil, pic⟩ := p
      simp only at y0 y1 y2 y3 y4 hTp
      have HS := hd hs
      have HTp := hd hTp
      clear hs HR hTp
      go_wp2_with fail
      refine (here_any pk psl pn pv pia pil pic wr).mono ?_
      rintro e W2 ⟨rfl, b2⟩
      have HS2 := hd (HS.out.below b2)
      clear b2 HS y0 y1 y2 y3 y4 lg
      obtain ⟨W3, hW3⟩ : ∃ W3, W3 = W2.alloc (.cells #[.int .i64 pk, .int .i64 0, .int .i64 pn, .int .i64 pv, .slice pia pil pic] 56) := ⟨_, rfl⟩
      have b3 : RowKit.Below W2.heap.size W2 W3 := by rw [hW3]; exact (Below.refl _ _).alloc (Nat.le_refl _) _
      have r3 : W3.heap[W2.heap.size]? = some (.cells #[.int .i64 pk, .int .i64 0, .int .i64 pn, .int .i64 pv, .slice pia pil pic] 56 (0, 0)) := by rw [hW3]; exact heap_alloc_new _ _
      have HS3 := hd (HS2.out.below b3)
      have HW3 := hd hW3
      have R3 := hd r3
      clear b3 hW3 HS2 r3
      go_upto_region 10 with fail
      rw [← HW3.out]
      clear HW3
      generalize hg10 : W2.heap.size = g10 at *
      clear hg10 W2
      have t0 : W3.cell? ⟨g10, 0, none⟩ = some (.int .i64 pk) := by rw [cell_row R3.out]; rfl
      go_upto_if 47 with fail
      clear t0
      go_cut [7] (fun kv wx => ∃ bx : Nat, kv = .func (.func 52) #[] #[.pointer (some ⟨bx, 0, none⟩)] ∧ Hid (RT w wx x a b r q bx g (n + 3) d ∧ wx.heap[g10]? = some (.cells #[.int .i64 pk, .int .i64 0, .int .i64 pn, .int .i64 pv, .slice pia pil pic] 56 (0, 0))))
      case first =>
        by_cases h9 : pk = 9
        · subst h9
          obtain ⟨aL, cL, vW, hbx, -, -, hx⟩ := pb_box HS3.out.mo
          have c0 := cell_row hbx 0
          simp at c0
          clear hbx
          go_wp2_with fail
          refine (run_any a W3).mono ?_
          rintro e W4 ⟨rfl, hW4⟩
          have b4 : RowKit.Below W3.heap.size W3 W4 := by rw [hW4]; exact (Below.refl _ _).alloc (Nat.le_refl _) _
          have c4 : W4.heap[W3.heap.size]? = some (.cells #[pt a] 28 (0, 0)) := by rw [hW4]; exact heap_alloc_new _ _
          have Z : Hid (RT w W4 x a b r q W3.heap.size g (n + 3) d ∧ W4.heap[g10]? = some (.cells #[.int .i64 9, .int .i64 0, .int .i64 pn, .int .i64 pv, .slice pia pil pic] 56 (0, 0))) := hd ⟨⟨_, _, _, _, HS3.out.more b4 W3.heap.size (Nat.le_refl _) (block_lt c4) c4⟩, (b4.block _ (block_lt R3.out)).trans R3.out⟩
          clear b4 c4 hW4 HS3 R3 c0 hx
          go_wp2_with fail
          go_meet
          exact ⟨_, rfl, Z⟩
        · have h9b : (pk == 9) = false := by simpa using h9
          go_wp2_with fail
          go_meet
          exact ⟨bx, rfl, hd ⟨⟨_, _, _, _, HS3.out⟩, R3.out⟩⟩
      case rest =>
        obtain ⟨bx', rfl, HC⟩ := hcut
        clear HS3 R3
        obtain ⟨W5, hW5⟩ : ∃ W5, W5 = wc := ⟨_, rfl⟩
        subst hW5
        obtain ⟨⟨K', A5, B5, m5, hs5⟩, r5⟩ := HC.out
        have HS5 := hd hs5
        have R5 := hd r5
        have lt5 := block_lt r5
        clear HC hs5 r5
        have t0 : W5.cell? ⟨g10, 0, none⟩ = some (.int .i64 pk) := by rw [cell_row R5.out]; rfl
        have t1 : W5.cell? ⟨g10, 1, none⟩ = some (.int .i64 0) := by rw [cell_row R5.out]; rfl
        have t2 : W5.cell? ⟨g10, 2, none⟩ = some (.int .i64 pn) := by rw [cell_row R5.out]; rfl
        have t3 : W5.cell? ⟨g10, 3, none⟩ = some (.int .i64 pv) := by rw [cell_row R5.out]; rfl
        have t4 : W5.cell? ⟨g10, 4, none⟩ = some (.slice pia pil pic) := by rw [cell_row R5.out]; rfl
        have hm2 : ¬ ((2 : Int) = 0) := by omega
        have CASES : pk = 8 ∧ ¬ Int.tmod pv 2 = 0 ∨ pk = 8 ∧ Int.tmod pv 2 = 0 ∨ ¬ pk = 8 := by
          by_cases e8 : pk = 8
          · by_cases e2 : Int.tmod pv 2 = 0
            · exact .inr (.inl ⟨e8, e2⟩)
            · exact .inl ⟨e8, e2⟩
          · exact .inr (.inr e8)
        have HCS := hd CASES
        clear CASES
        rcases HCS.out with ⟨e8, e2⟩ | ⟨e8, e2⟩ | e8
        · subst e8
          have e2b : (Int.tmod pv 2 != 0) = true := by simpa using e2
          clear HCS
          go_wp2_with fail
          refine (gone_any d noObj w W5 K' x a b r q bx' 8 0 pn pv pia pil pic A5 B5 m5 HS5.out.mo HS5.out.hK HS5.out.hm HTp.out HS5.out.kb HS5.out.cb).mono ?_
          rintro e W6 ⟨rfl, A6, B6, m6, hm6, pb6, kp6⟩
          have Z6 : Hid (RT w W6 x a b r q bx' g (n + 3) d) := hd ⟨_, _, _, _, HS5.out.step pb6 hm6 kp6⟩
          clear pb6 kp6 hm6 HS5 R5 t0 t1 t2 t3 t4 e2 e2b lt5
          obtain ⟨K6', A6, B6, m6, hs6⟩ := Z6.out
          have HS6 := hd hs6
          clear Z6 hs6
          go_wp2_with fail
          refine (calm_any (MO.less HS6.out.mo (fun k hk => hk.elim)) HS6.out.hm).mono ?_
          rintro _ _ ⟨rfl, z, rfl⟩
          have Z : Hid (RT w (W6.drewN z) x a b r q bx' g (n + 3) d) := hd ⟨_, _, _, _, HS6.out.below (below_drewN' _ _)⟩
          clear HS6
          go_wp2_with fail
          exact ⟨⟨i + 1, bx', by omega, by go_num, rfl, Z⟩, by simp [intOf]; omega⟩
        · subst e8
          have e2b : (Int.tmod pv 2 != 0) = false := by simpa using e2
          clear HCS
          have bA : RowKit.Below W5.heap.size W5 (W5.drew.alloc (.cells #[pt a] 28)) := (Below.refl _ _).drew.alloc (by simp) _
          have K7 := MO.adds (K' := fun j => K' j ∨ j = W5.heap.size) HS5.out.mo bA (fun j hj => hj.imp id (fun e => by omega)) (fun j hj => by
            have hs := bA.size
            rcases hj with hj | hj
            · have := MO.old HS5.out.mo j hj; omega
            · subst hj; simp)
          have cg := gone_any d noObj w _ (fun j => K' j ∨ j = W5.heap.size) x a b r q W5.heap.size 8 0 pn pv pia pil pic A5 B5 m5 K7 (fun j hj => by
            rcases hj with hj | hj
            · exact HS5.out.hK j hj
            · have := (MO.base HS5.out.mo).size; omega) HS5.out.hm HTp.out (.inr rfl) (by
              have := heap_alloc_new W5.drew (.cells #[pt a] 28)
              exact this)
          obtain ⟨aL, cL, vW, hbx3, -, -, hx3⟩ := pb_box HS5.out.mo
          have CG := hd cg
          have HB := hd (And.intro bA (And.intro hbx3 hx3))
          clear cg bA K7 hbx3 hx3
          have HCELL : Hid (∀ u, (u = W5.drew ∨ u = W5.drew.alloc (.cells #[pt a] 28)) → u.cell? ⟨g10, 0, none⟩ = some (.int .i64 8) ∧ u.cell? ⟨g10, 1, none⟩ = some (.int .i64 0) ∧ u.cell? ⟨g10, 2, none⟩ = some (.int .i64 pn) ∧ u.cell? ⟨g10, 3, none⟩ = some (.int .i64 pv) ∧ u.cell? ⟨g10, 4, none⟩ = some (.slice pia pil pic) ∧ u.cell? ⟨x, 0, none⟩ = some (pt a)) := by
            refine hd fun u hu => ?_
            have bu : RowKit.Below W5.heap.size W5 u := by
              rcases hu with rfl | rfl
              · exact (Below.refl _ _).drew
              · exact HB.out.1
            have hx := cell_row HB.out.2.1 0
            simp at hx
            exact ⟨(bu.cell (p := ⟨g10, 0, none⟩) lt5).trans t0, (bu.cell (p := ⟨g10, 1, none⟩) lt5).trans t1, (bu.cell (p := ⟨g10, 2, none⟩) lt5).trans t2, (bu.cell (p := ⟨g10, 3, none⟩) lt5).trans t3, (bu.cell (p := ⟨g10, 4, none⟩) lt5).trans t4, (bu.cell (p := ⟨x, 0, none⟩) HB.out.2.2).trans hx⟩
          go_upto_region 16 with fail
          refine runs_region16 g10 _ W5 x a 8 pn pv pia pil pic (fun u => ∃ A' B' m', m' ≤ 44 ∧ PB noObj w u (fun j => K' j ∨ j = W5.heap.size) x a b r q A' B' m' ∧ KP (fun j => K' j ∨ j = W5.heap.size) (W5.drew.alloc (.cells #[pt a] 28)) u) rfl rfl (by simp) HCELL.out CG.out ?_
          rintro W6 ⟨A6, B6, m6, hm6, pb, kp⟩
          have Z6 : Hid (RT w W6 x a b r q bx' g (n + 3) d) := hd ⟨_, _, _, _, HS5.out.step (MO.less pb (fun j hj => .inl hj)) hm6 (fun j hj => (kp j (.inl hj)).trans (HB.out.1.block j (MO.old HS5.out.mo j hj)))⟩
          clear pb kp hm6 HS5 R5 t0 t1 t2 t3 t4 e2 e2b lt5 HCELL CG HB
          rename_i K0 hK0
          refine hK0 _ _ ?_
          simp only [List.range, List.range.loop, List.map_cons, List.map_nil, S16, V16, List.getD_cons_zero, List.getD_cons_succ, puts, List.foldl_cons, List.foldl_nil, Act.put, List.setIfInBounds_toArray, List.set_cons_succ, List.set_cons_zero]
          clear hK0
          obtain ⟨K6', A6, B6, m6, hs6⟩ := Z6.out
          have HS6 := hd hs6
          clear Z6 hs6
          go_wp2_with fail
          refine (calm_any (MO.less HS6.out.mo (fun k hk => hk.elim)) HS6.out.hm).mono ?_
          rintro _ _ ⟨rfl, z, rfl⟩
          have Z : Hid (RT w (W6.drewN z) x a b r q bx' g (n + 3) d) := hd ⟨_, _, _, _, HS6.out.below (below_drewN' _ _)⟩
          clear HS6
          go_wp2_with fail
          exact ⟨⟨i + 1, bx', by omega, by go_num, rfl, Z⟩, by simp [intOf]; omega⟩
        · have e8b : (pk == 8) = false := by simpa using e8
          clear HCS
          go_wp2_with fail
          refine (step_k HS5.out.mo HS5.out.hK HS5.out.hm pk 0 pn pv pia pil pic).mono ?_
          rintro e W6 ⟨rfl, A6, B6, m6, hm6, pb6, kp6⟩
          have Z6 : Hid (RT w W6 x a b r q bx' g (n + 3) d) := hd ⟨_, _, _, _, HS5.out.step pb6 hm6 kp6⟩
          clear pb6 kp6 hm6 HS5 R5 t0 t1 t2 t3 t4 e8 e8b lt5
          obtain ⟨K6', A6, B6, m6, hs6⟩ := Z6.out
          have HS6 := hd hs6
          clear Z6 hs6
          go_wp2_with fail
          refine (calm_any (MO.less HS6.out.mo (fun k hk => hk.elim)) HS6.out.hm).mono ?_
          rintro _ _ ⟨rfl, z, rfl⟩
          have Z : Hid (RT w (W6.drewN z) x a b r q bx' g (n + 3) d) := hd ⟨_, _, _, _, HS6.out.below (below_drewN' _ _)⟩
          clear HS6
          go_wp2_with fail
          exact ⟨⟨i + 1, bx', by omega, by go_num, rfl, Z⟩, by simp [intOf]; omega⟩
    · have i1 : ¬ (i : Int) < (n : Int) + 3 := by omega
      obtain rfl : i = n + 3 := by omega
      obtain ⟨K, A1, B1, m1, hs⟩ := HR.out
      have HP : Hid (PB noObj w wr.drew NoK x a b r q A1 B1 m1) := hd (MO.below (MO.less hs.mo (fun k hk => hk.elim)) ((Below.refl _ _).drew))
      have hm1 := hs.hm
      clear hs HR
      go_upto_region 20 with fail
      refine runs_region20 _ x a r A1 w wr b q B1 m1 rfl (by simp) HP.out hm1 ?_
      intro u bu
      rename_i K0 hK0
      refine hK0 _ _ ?_
      simp only [List.range, List.range.loop, List.map_cons, List.map_nil, S20, V20, List.getD_cons_zero, List.getD_cons_succ, puts, List.foldl_cons, List.foldl_nil, Act.put, List.setIfInBounds_toArray, List.set_cons_succ, List.set_cons_zero]
      clear hK0
      go_wp2_with fail
      go_ret
      exact ⟨rfl, bu⟩

end Go.Proofs.Ytpjnhjijipcjkaa
