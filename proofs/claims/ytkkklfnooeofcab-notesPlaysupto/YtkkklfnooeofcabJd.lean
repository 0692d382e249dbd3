/-
  The document's stands.
-/
import Derived.Test.YtkkklfnooeofcabJc
import Derived.Deep.Quiet
namespace Go.Proofs.Ytkkklfnooeofcab
open Go.RowKit Go.Lib
set_option linter.unusedVariables false

theorem rc_nil (es : List El) : RC [] es (0, 0) := .inl ⟨rfl, by simp⟩
theorem rc_in {ys es : List El} {r : Nat × Nat} {x : El} (h : RC ys es r) (hx : x ∈ es) : RC (ys ++ [x]) es (if r.1 = r.2 then ys.length else r.1, ys.length + 1) := by
  have last : (ys ++ [x])[ys.length]? = some x := by rw [List.getElem?_append_right (Nat.le_refl _)]; simp
  rcases h with ⟨h0, h1⟩ | ⟨h0, h1, ⟨y, hy, h2⟩, ⟨z, hz, h3⟩, h4⟩
  · subst h0
    refine .inr ⟨by simp, by simp, ⟨x, hx, by simp⟩, ⟨x, hx, by simp⟩, fun p u hp hu => ?_⟩
    rcases snoc_get hp with h | ⟨h, -⟩
    · exact absurd hu (h1 u (List.mem_of_getElem? h))
    · simp [h]
  · rw [if_neg (by omega)]
    refine .inr ⟨by simp only; omega, by simp, ⟨y, hy, ?_⟩, ⟨x, hx, by simp⟩, fun p u hp hu => ?_⟩
    · simp only
      rw [List.getElem?_append_left (by omega)]
      exact h2
    · rcases snoc_get hp with h | ⟨h, -⟩
      · have := h4 p u h hu
        simp only
        omega
      · simp only
        omega
theorem rc_out {ys es : List El} {r : Nat × Nat} {x : El} (h : RC ys es r) (hx : x ∉ es) : RC (ys ++ [x]) es r := by
  rcases h with ⟨h0, h1⟩ | ⟨h0, h1, ⟨y, hy, h2⟩, ⟨z, hz, h3⟩, h4⟩
  · refine .inl ⟨h0, fun u hu => ?_⟩
    rcases List.mem_append.1 hu with hu | hu
    · exact h1 u hu
    · rw [List.mem_singleton.1 hu]; exact hx
  · refine .inr ⟨h0, by simp; omega, ⟨y, hy, ?_⟩, ⟨z, hz, ?_⟩, fun p u hp hu => ?_⟩
    · rw [List.getElem?_append_left (by omega)]; exact h2
    · rw [List.getElem?_append_left (by omega)]; exact h3
    · rcases snoc_get hp with h | ⟨-, h⟩
      · exact h4 p u h hu
      · subst h; exact absurd hu hx

/-- A world in which all that was there at u is as it was. -/
structure Wd (u : World) where
  W : World
  ok : Below u.heap.size u W
theorem Wd.cell {u : World} (x : Wd u) {p : Addr} {v : Value} (h : u.cell? p = some v) (hp : p.block < u.heap.size) : x.W.cell? p = some v := (x.ok.cell (p := p) hp).trans h
theorem wp_region_calm {P : Program} {id : Nat} {Q : Exit → Act → World → Prop} {a : Act} {w : World} {l : List Oper} (hm : P.follows .mixedOrders = true) (hB : Region.lexB .any l.toArray = true)
    (h : wpQuiet P l.toArray (fun w' => ∃ x : Wd w, w' = x.W) (fun a' => ∀ w', (∃ x : Wd w, w' = x.W) → Q .normal a' w') l a) : (Code.region id l.toArray true).wp P Q a w :=
  wp_region_quiet (C := fun w' => ∃ x : Wd w, w' = x.W) hm hB ⟨⟨_, below_drewN (Below.refl _ w) 1⟩, rfl⟩ (by simpa using h)
theorem calm_call {P : Program} {f : FuncId} {args : Array Value} {u : World} {v : Value} {x : Wd u} (h : Calls P f args x.W fun e w' => e = .returned v ∧ Below x.W.heap.size x.W w') : Calls P f args x.W fun e w' => e = .returned v ∧ ∃ y : Wd u, w' = y.W :=
  h.mono fun e w' ⟨he, hb⟩ => ⟨he, ⟨w', x.ok.trans (hb.mono x.ok.size)⟩, rfl⟩

/-- The note told, as far as the text was looked through. -/
structure StI (w wr : World) (p : RN) (m g : Nat) (v : Value) (r : Nat × Nat) : Prop where
  B : Below w.heap.size w wr
  bx : wr.heap[w.heap.size]? = some (.cells (rna p) 93 (0, 0))
  bt : wr.heap[w.heap.size + 1]? = some (.cells #[.int .i64 0, .int .i64 0, .string ⟨#[]⟩, .int .i64 0, .int .i64 0, .bool false, .bool false, .slice none 0 0] 47 (0, 0))
  bm : wr.heap[m]? = some (.cells (ntA p.n r v) 47 (0, 0))
  hg : w.heap.size ≤ g
  hm : w.heap.size + 2 ≤ m
  sv : SF rpc 2 wr 90 (some g) v p.n.sd
theorem StI.below {w wr u : World} {p : RN} {m g : Nat} {v : Value} {r : Nat × Nat} (h : StI w wr p m g v r) (hb : Below wr.heap.size wr u) : StI w u p m g v r :=
  have hF : Fr (fun _ => False) wr u := Fr.of_below hb
  ⟨h.B.trans (hb.mono h.B.size), hF.keeps h.bx (fun h => h), hF.keeps h.bt (fun h => h), hF.keeps h.bm (fun h => h), h.hg, h.hm, h.sv.fr hF (fun _ _ h => h)⟩
theorem StI.set {w wr u : World} {p : RN} {m g : Nat} {v : Value} {r s : Nat × Nat} (h : StI w wr p m g v r) (hF : Fr (· = m) wr u) (hN : u.heap[m]? = some (.cells (ntA p.n s v) 47 (0, 0))) : StI w u p m g v s :=
  ⟨h.B.trans (hF.below h.B.size (fun k hk => by have := h.hm; omega)), hF.keeps h.bx (show ¬ w.heap.size = m by have := h.hm; omega), hF.keeps h.bt (show ¬ w.heap.size + 1 = m by have := h.hm; omega), hN, h.hg, h.hm, h.sv.fr hF (fun k hk e => by
    cases hk
    obtain ⟨cur, hc⟩ := h.sv.blk
    exact ty_ne hc h.bm (by decide) e)⟩

set_option maxRecDepth 100000 in
set_option maxHeartbeats 8000000 in
theorem rstands_any (a : Option Addr) (nx cx : Nat) (xs : List El) (p : RN) (w : World) (h : RK w p) (hX : IsE w a nx cx xs) (hroom : roomy p.n.sd.length 24) :
    Calls Try.prog 40 #[.slice a nx cx, .agg (rna p)] w fun e w' => ∃ u β, e = .returned (.agg (ntA p.n (reachP xs p.n.el) u)) ∧ SF rpc 2 w' 90 β u p.n.sd ∧ (∀ k, β = some k → w.heap.size ≤ k) ∧ Below w.heap.size w w' := by
  obtain ⟨w0, hw⟩ : ∃ w0, (w.alloc (.cells (rna p) 93)).alloc (.cells #[.int .i64 0, .int .i64 0, .string ⟨#[]⟩, .int .i64 0, .int .i64 0, .bool false, .bool false, .slice none 0 0] 47) = w0 := ⟨_, rfl⟩
  have hB0 : Below w.heap.size w w0 := by rw [← hw]; exact ((Below.refl _ _).alloc (Nat.le_refl _) _).alloc (by simp) _
  have b0 : w0.heap[w.heap.size]? = some (.cells (rna p) 93 (0, 0)) := by
    rw [← hw]
    exact (Fr.alloc (fun _ => False) _ _).keeps (heap_alloc_new w _) (fun h => h)
  have b1 : w0.heap[w.heap.size + 1]? = some (.cells #[.int .i64 0, .int .i64 0, .string ⟨#[]⟩, .int .i64 0, .int .i64 0, .bool false, .bool false, .slice none 0 0] 47 (0, 0)) := by
    rw [← hw]
    have := heap_alloc_new (w.alloc (.cells (rna p) 93)) (.cells #[.int .i64 0, .int .i64 0, .string ⟨#[]⟩, .int .i64 0, .int .i64 0, .bool false, .bool false, .slice none 0 0] 47)
    simpa using this
  have hsz : w0.heap.size = w.heap.size + 2 := by rw [← hw]; simp
  have HK := hd h
  have HX := hd hX
  have hd0 := (h.fr (S := fun _ => False) (Fr.of_below hB0) (fun _ _ h => h) (fun _ _ h => h)).sd
  obtain ⟨sa', sc', hsv, -, -⟩ := hd0.form
  injection hsv with s1 s2 s3
  rw [s2] at hd0
  have x0 := cell_row b0 0; have x2 := cell_row b0 2; have x3 := cell_row b0 3; have x4 := cell_row b0 4; have x5 := cell_row b0 5
  simp [rna] at x0 x2 x3 x4 x5
  rw [s2] at x5
  have LX := hd hX.1
  have lx := block_lt b0
  have B0 := hd hB0
  have HB0 := hd b0
  have HB1 := hd b1
  have HSZ := hd hsz
  have HD := hd hd0
  have X0 := hd x0; have X2 := hd x2; have X3 := hd x3; have X4 := hd x4; have X5 := hd x5
  have hc := hX.2.1
  have hc' := hX.2.2.1
  unfold rna at hw ⊢
  clear h hX hB0 b0 b1 hd0 s1 s2 s3 hsz x0 x2 x3 x4 x5
  go_enter Try.func40, Try.ntmps40
  go_upto_region 1 with fail
  refine regSt _ w0 w.heap.size p.n.id p.n.cl p.n.wo p.n.sh p.sa p.sc p.n.sd p.ρ HD.out hroom lx X0.out X2.out X3.out X4.out X5.out (by simp) rfl ?_
  intro L val u hL hW hV
  obtain ⟨hBu, h8, h11, h12, h13⟩ := hW
  obtain ⟨z, v8, -, -⟩ := h8 (hL 8 (by omega))
  obtain ⟨g, a1, ca, v11, hg, hS⟩ := h11 (hL 11 (by omega))
  obtain ⟨m, v13, hm, -, hmb⟩ := h13 (hL 13 (by omega))
  have hmb' := hmb (hL 14 (by omega))
  have v12 := h12 (hL 12 (by omega))
  rw [v11] at v12 hS hmb'
  have hF0 : Fr (fun _ => False) w0 u := Fr.of_below hBu
  have SI : Hid (StI w u p m g (.slice a1 p.n.sd.length ca) (0, 0)) := ⟨B0.out.trans (hBu.mono B0.out.size), hF0.keeps HB0.out (fun h => h), hF0.keeps HB1.out (fun h => h), hmb', Nat.le_trans B0.out.size hg, by rw [← HSZ.out]; exact hm, hS⟩
  simp only [slSt, DSt, List.getD_cons_zero, List.getD_cons_succ, List.map_cons, List.map_nil, puts, List.foldl_cons, List.foldl_nil, Act.put, List.setIfInBounds_toArray, List.set_cons_succ, List.set_cons_zero, v13]
  generalize val 0 = y0; generalize val 1 = y1; generalize val 2 = y2; generalize val 3 = y3; generalize val 4 = y4; generalize val 5 = y5; generalize val 6 = y6; generalize val 7 = y7; generalize val 8 = y8; generalize val 9 = y9; generalize val 10 = y10; generalize val 11 = y11; generalize val 12 = y12
  obtain ⟨v, hv⟩ : ∃ v, Value.slice a1 p.n.sd.length ca = v := ⟨_, rfl⟩
  have HV := hd hv
  rw [hv] at SI
  clear hBu h8 h11 h12 h13 hL hV v8 v11 v12 v13 hmb hmb' hS hg hm hF0 hv hw B0 HB0 HB1 HSZ HD X0 X2 X3 X4 X5 hroom lx
  have CH := hd (fun (x : El) (W : World) (hb : Below w.heap.size w W) => rhas_any p x W (HK.out.fr (S := fun _ => False) (Fr.of_below hb) (fun _ _ h => h) (fun _ _ h => h)))
  clear HK
  go_wp2
  go_loopw [6] (fun i wr => ∃ (k : Nat) (r : Nat × Nat), k ≤ nx ∧ i = .int .i64 k ∧ Hid (StI w wr p m g v r ∧ RC (xs.take k) p.n.el r)) (fun i _ => nx - (intOf i).toNat)
  case atStart => exact ⟨0, (0, 0), Nat.zero_le _, rfl, SI.out, rc_nil _⟩
  case round =>
    obtain ⟨k, r, hk, rfl, HS⟩ := hrel
    by_cases hlt : k < nx
    · have X2 := HX.out.below HS.out.1.B
      obtain ⟨b1, o1, rfl, l1⟩ := X2.addr (by omega)
      have kx : k < xs.length := by have := LX.out; omega
      obtain ⟨e0, e1, e2⟩ := X2.at k hlt kx
      have i1 : (k : Int) < (nx : Int) := by omega
      have HT : Hid (xs.take (k + 1) = xs.take k ++ [xs[k]]) := List.take_succ_eq_append_getElem kx
      have hle : k + 1 ≤ 2147483647 ∨ True := .inr trivial
      have CX := hd (fun (W : World) (hb : Below wr.heap.size wr W) => CH.out xs[k] W (HS.out.1.B.trans (hb.mono HS.out.1.B.size)))
      generalize xs[k] = x at *
      obtain ⟨xa, xb, xc⟩ := x
      simp only [rna] at e0 e1 e2 CX
      obtain ⟨B, hB⟩ : ∃ B, decide ((xa, xb, xc) ∈ p.n.el) = B := ⟨_, rfl⟩
      rw [hB] at CX
      have HBB := hd hB
      have bx := HS.out.1.bx
      have lb := block_lt bx
      have c0 := cell_row bx 0; have c1 := cell_row bx 1; have c2 := cell_row bx 2; have c3 := cell_row bx 3; have c4 := cell_row bx 4; have c5 := cell_row bx 5
      simp [rna] at c0 c1 c2 c3 c4 c5
      clear X2 bx hB
      go_upto_region 5 with fail
      have nW : Nonempty (Wd wr) := ⟨⟨wr, Below.refl _ _⟩⟩
      have ze0 := fun y : Wd wr => y.cell e0 l1; have ze1 := fun y : Wd wr => y.cell e1 l1; have ze2 := fun y : Wd wr => y.cell e2 l1
      have zc0 := fun y : Wd wr => y.cell c0 lb; have zc1 := fun y : Wd wr => y.cell c1 lb; have zc2 := fun y : Wd wr => y.cell c2 lb; have zc3 := fun y : Wd wr => y.cell c3 lb; have zc4 := fun y : Wd wr => y.cell c4 lb; have zc5 := fun y : Wd wr => y.cell c5 lb
      refine wp_region_calm (by kernel_rfl) (by kernel_rfl) ?_
      (repeat (go_big_quiet_step ((rename_i y; exact calm_call (CX.out y.W y.ok)))))
      refine wpQuiet_nil ?_
      intro u2 hz
      obtain ⟨⟨u', bu⟩, hu⟩ := hz
      have hu' : u2 = u' := hu
      subst hu'
      have S2 := hd (HS.out.1.below bu)
      have HR := hd HS.out.2
      have bm := S2.out.bm
      have d3 := cell_row bm 3; have d4 := cell_row bm 4; have d5 := cell_row bm 5
      have z3 := frozen_row bm 3; have z4 := frozen_row bm 4; have z5 := frozen_row bm 5
      simp [ntA] at d3 d4 d5
      have BM := hd bm
      clear ze0 ze1 ze2 zc0 zc1 zc2 zc3 zc4 zc5 c0 c1 c2 c3 c4 c5 bu hu CX CH HS bm e0 e1 e2 nW
      cases B with
      | false =>
        have ho := of_decide_eq_false HBB.out
        have Z : Hid (RC (xs.take (k + 1)) p.n.el r) := by
          unfold Hid
          rw [HT.out]
          exact rc_out HR.out ho
        clear ho HT HR BM
        go_wp2
        exact ⟨⟨k + 1, r, by omega, by go_num, S2.out, Z.out⟩, by simp only [intOf]; omega⟩
      | true =>
        have ho := of_decide_eq_true HBB.out
        have hlk : (xs.take k).length = k := by rw [List.length_take]; omega
        have Z : Hid (RC (xs.take (k + 1)) p.n.el (if r.1 = r.2 then k else r.1, k + 1)) := by
          unfold Hid
          rw [HT.out]
          have := rc_in HR.out ho
          rwa [hlk] at this
        have hfk : r.1 ≠ r.2 → r.1 < k + 1 := by
          intro hne
          rcases HR.out with ⟨h0, -⟩ | ⟨h0, h1, -⟩
          · subst h0; exact absurd rfl hne
          · rw [hlk] at h1; omega
        clear ho HT HR hlk
        obtain ⟨f, t⟩ := r
        simp only at Z d3 d4 d5 hfk
        by_cases e : f = t
        · subst e
          rw [if_pos rfl] at Z
          have g1 := set_row BM.out 3 (.int .i64 (k : Int))
          have g2 := set_row g1 5 (.bool false)
          have g3 := hd (set_row g2 4 (.int .i64 ((k : Int) + 1)))
          clear g1 g2 hfk
          simp at d5
          go_wp2
          refine ⟨⟨k + 1, (k, k + 1), by omega, by go_num, S2.out.set (s := (k, k + 1)) ?_ ?_, Z.out⟩, by simp only [intOf]; omega⟩
          · exact ((Fr.setCell (S := (· = m)) _ ⟨m, 3, none⟩ _ rfl).trans (Fr.setCell (S := (· = m)) _ ⟨m, 5, none⟩ _ rfl)).trans (Fr.setCell (S := (· = m)) _ ⟨m, 4, none⟩ _ rfl)
          · refine g3.out.trans ?_
            simp [ntA]
            omega
        · rw [if_neg e] at Z
          have hf := hfk e
          have e' : ¬ (f : Int) = (t : Int) := by omega
          have g2 := set_row BM.out 5 (.bool false)
          have g3 := hd (set_row g2 4 (.int .i64 ((k : Int) + 1)))
          clear g2 hfk
          have e2 : (decide ((f : Int) = (t : Int))) = false := decide_eq_false e'
          have eb : ((f : Int) == (t : Int)) = false := beq_eq_false_iff_ne.2 e'
          rw [eb] at d5
          go_wp2
          refine ⟨⟨k + 1, (f, k + 1), by omega, by go_num, S2.out.set (s := (f, k + 1)) ?_ ?_, Z.out⟩, by simp only [intOf]; omega⟩
          · exact (Fr.setCell (S := (· = m)) _ ⟨m, 5, none⟩ _ rfl).trans (Fr.setCell (S := (· = m)) _ ⟨m, 4, none⟩ _ rfl)
          · refine g3.out.trans ?_
            simp [ntA]
            omega
    · obtain rfl : k = nx := by omega
      have hr : reachP xs p.n.el = r := reachP_eq (by
        have := HS.out.2
        rwa [List.take_of_length_le (by rw [LX.out]; exact Nat.le_refl _)] at this)
      have S1 := HS.out.1
      rw [← HV.out] at S1
      have bm := S1.bm
      have bt := S1.bt
      have y0 := cell_row bm 0; have y1 := cell_row bm 1; have y2 := cell_row bm 2; have y3 := cell_row bm 3
      have y4 := cell_row bm 4; have y5 := cell_row bm 5; have y6 := cell_row bm 6; have y7 := cell_row bm 7
      have r0 := cell_row bt 0; have r1 := cell_row bt 1; have r2 := cell_row bt 2; have r3 := cell_row bt 3
      have r4 := cell_row bt 4; have r5 := cell_row bt 5; have r6 := cell_row bt 6; have r7 := cell_row bt 7
      have z0 := frozen_row bt 0; have z1 := frozen_row bt 1; have z2 := frozen_row bt 2; have z3 := frozen_row bt 3
      have z4 := frozen_row bt 4; have z5 := frozen_row bt 5; have z6 := frozen_row bt 6; have z7 := frozen_row bt 7
      simp only [ntA, List.getElem?_toArray, List.getElem?_cons_zero, List.getElem?_cons_succ] at y0 y1 y2 y3 y4 y5 y6 y7 r0 r1 r2 r3 r4 r5 r6 r7
      have hfin := hd (set8_row bt (.int .i64 (p.n.id : Int)) (.int .i64 p.n.cl) (.string p.n.wo) (.int .i64 (r.1 : Int)) (.int .i64 (r.2 : Int)) (.bool ((r.1 : Int) == (r.2 : Int))) (.bool p.n.sh) (.slice a1 p.n.sd.length ca))
      have hFf := fr_sets8 wr (w.heap.size + 1) (.int .i64 (p.n.id : Int)) (.int .i64 p.n.cl) (.string p.n.wo) (.int .i64 (r.1 : Int)) (.int .i64 (r.2 : Int)) (.bool ((r.1 : Int) == (r.2 : Int))) (.bool p.n.sh) (.slice a1 p.n.sd.length ca)
      have Z : Hid (SF rpc 2 _ 90 (some g) (.slice a1 p.n.sd.length ca) p.n.sd ∧ Below w.heap.size w _) := ⟨S1.sv.fr hFf (fun k hk e => by
        cases hk
        obtain ⟨cur, hc⟩ := S1.sv.blk
        exact ty_ne hc bt (by decide) e), S1.B.trans (hFf.below S1.B.size (fun k hk => by omega))⟩
      have HG := hd (show ∀ k, some g = some k → w.heap.size ≤ k from fun k hk => by cases hk; exact S1.hg)
      clear hFf S1 bm bt HS CH SI
      go_wp2
      have f0 := cell_row hfin.out 0; have f1 := cell_row hfin.out 1; have f2 := cell_row hfin.out 2; have f3 := cell_row hfin.out 3
      have f4 := cell_row hfin.out 4; have f5 := cell_row hfin.out 5; have f6 := cell_row hfin.out 6; have f7 := cell_row hfin.out 7
      simp only [List.getElem?_toArray, List.getElem?_cons_zero, List.getElem?_cons_succ] at f0 f1 f2 f3 f4 f5 f6 f7
      refine bodyPost_ret (v := .agg (ntA p.n (reachP xs p.n.el) (.slice a1 p.n.sd.length ca))) ?_ rfl ⟨_, some g, rfl, Z.out.1, HG.out, Z.out.2⟩
      rw [hr]
      simp [results, Try.results40, go_sem, f0, f1, f2, f3, f4, f5, f6, f7, ntA]
end Go.Proofs.Ytkkklfnooeofcab
