/-
  add, Keep.
-/
import Derived.Test.YtmbnimlibnheeabDoorSa
namespace Go.Proofs.YtmbnimlibnheeabDoor
open Go.RowKit
set_option linter.unusedVariables false

theorem cells5 {w : World} {g : Nat} {a b c d e : Value} {t : TypeId} (h : w.heap[g]? = some (.cells #[a, b, c, d, e] t (0, 0))) :
    (w.cell? ⟨g, 0, none⟩ = some a ∧ w.cell? ⟨g, 1, none⟩ = some b ∧ w.cell? ⟨g, 2, none⟩ = some c ∧ w.cell? ⟨g, 3, none⟩ = some d ∧ w.cell? ⟨g, 4, none⟩ = some e) ∧
    (w.frozen? ⟨g, 0, none⟩ = false ∧ w.frozen? ⟨g, 1, none⟩ = false ∧ w.frozen? ⟨g, 2, none⟩ = false ∧ w.frozen? ⟨g, 3, none⟩ = false ∧ w.frozen? ⟨g, 4, none⟩ = false) := by
  simp [World.cell?, World.frozen?, h]

/-- append of one int. -/
theorem push_int (w : World) (β : Option Nat) (v : Value) (xs : List Int) (hv : SF ei 1 w 3 β v xs) (b : Nat) (x : Int) (hb : w.heap[b]? = some (.cells #[.int .i64 x] 3 (0, 0))) (hn : xs.length ≤ 100000) :
    ∃ v' w', (∀ ty, (Builtin.append_ #[67, 67] ty #[v, .slice (some ⟨b, 0, none⟩) 1 1]).run Tryd.prog w = .ok v' w') ∧ NowF ei 1 w w' 3 β v' (xs ++ [x]) := by
  obtain ⟨i0, hi0, hz0, hz1, hz2⟩ := info_parts Tryd.infoI
  obtain ⟨v', w', hr, hN⟩ := run_pushF sz_ei (P := Tryd.prog) w 67 0 3 i0 _ 8 Tryd.underlying67 hi0 hz0 hz1 rfl hz2 β v xs hv ⟨b, 0, none⟩ 1 1 [x] rfl (fun j u hj => by
    rw [cl_one] at hj
    cases j with
    | zero => rw [add_lit, cell_row hb]; simpa [ei] using hj
    | succ j => simp [ei] at hj) (by omega) (by omega) (by omega)
  exact ⟨v', w', fun ty => hr, hN⟩

/-- append of one operation. -/
theorem push_op (w : World) (β : Option Nat) (v : Value) (xs : List OpE) (hv : SF opc 5 w 37 β v xs) (b : Nat) (x : OpE) (hb : w.heap[b]? = some (.cells (opc x).toArray 37 (0, 0))) (hn : xs.length ≤ 100000) :
    ∃ v' w', (∀ ty, (Builtin.append_ #[68, 68] ty #[v, .slice (some ⟨b, 0, none⟩) 1 1]).run Tryd.prog w = .ok v' w') ∧ NowF opc 5 w w' 37 β v' (xs ++ [x]) := by
  obtain ⟨i0, hi0, hz0, hz1, hz2⟩ := info_parts Tryd.infoO
  obtain ⟨v', w', hr, hN⟩ := run_pushF sz_opc (P := Tryd.prog) w 68 0 37 i0 _ 40 Tryd.underlying68 hi0 hz0 hz1 rfl hz2 β v xs hv ⟨b, 0, none⟩ 1 1 [x] rfl (fun j u hj => by
    rw [cl_one] at hj
    rw [add_lit, cell_row hb, List.getElem?_toArray, Nat.zero_add]
    exact hj) (by omega) (by omega) (by omega)
  exact ⟨v', w', fun ty => hr, hN⟩

theorem NowF.slice {α : Type} {f : α → List Value} {k : Nat} {w w' : World} {e : TypeId} {β : Option Nat} {v' : Value} {xs : List α} (h : NowF f k w w' e β v' xs) : ∃ a n c, v' = .slice a n c := by
  obtain ⟨g', h1, -⟩ := h
  obtain ⟨a', c', h, -⟩ := h1.form
  exact ⟨a', _, c', h⟩

set_option maxRecDepth 100000 in
set_option maxHeartbeats 4000000 in
theorem add_any (x : Nat) (f : Bool) (ms : List Int) (os : List OpE) (last : Int) (m : Int) (o : OpE) (S : Nat → Prop) (w : World) (h : RAt w x f ms os last S) (hl1 : ms.length ≤ 4096) (hl2 : os.length ≤ 4096) :
    Calls Tryd.prog 41 #[.pointer (some ⟨x, 0, none⟩), .int .i64 m, o.val] w fun e w' => e = .returned (.tuple #[]) ∧ NowR w w' x f (ms ++ [m]) (os ++ [o]) last S := by
  obtain ⟨k, p, c, q, s⟩ := o
  simp only [OpE.val]
  obtain ⟨vm, vo, βm, βo, hK, hSx, hSm, hSo, hS⟩ := h
  obtain ⟨am, cm, hvm, -⟩ := hK.rm.form
  obtain ⟨ao, co, hvo, -⟩ := hK.ro.form
  obtain ⟨w1, hw1⟩ : ∃ w1, w1 = w.alloc (.cells #[.int .i64 k, .int .i64 p, .int .u8 c, .int .i64 q, .int .i64 s] 37) := ⟨_, rfl⟩
  have b1 : Below w.heap.size w w1 := by rw [hw1]; exact (Below.refl _ _).alloc (Nat.le_refl _) _
  have z1 : w1.heap.size = w.heap.size + 1 := by rw [hw1]; simp
  have B1 : w1.heap[w.heap.size]? = some (.cells #[.int .i64 k, .int .i64 p, .int .u8 c, .int .i64 q, .int .i64 s] 37 (0, 0)) := by rw [hw1]; exact heap_alloc_new w _
  have K1 := hK.below b1
  have b2 : Below w1.heap.size w1 (w1.alloc (.cells #[.int .i64 m] 3)) := (Below.refl _ _).alloc (Nat.le_refl _) _
  have K2 := K1.below b2
  obtain ⟨v1, wa, hr1, N1⟩ := push_int (w1.alloc (.cells #[.int .i64 m] 3)) βm vm ms K2.rm w1.heap.size m (heap_alloc_new w1 _) (by omega)
  obtain ⟨a1, n1, e1, rfl⟩ := N1.slice
  obtain ⟨g1, N11, N12, N13⟩ := N1.out
  have sz2 : (w1.alloc (.cells #[.int .i64 m] 3)).heap.size = w.heap.size + 2 := by simp [z1]
  have hx2 : wa.heap[x]? = some (.cells #[vm, vo, .bool f, .int .i64 last] 72 (0, 0)) := N13.keeps K2.box (fun hb => K2.m_ne hb)
  have Ba : wa.heap[w.heap.size]? = some (.cells #[.int .i64 k, .int .i64 p, .int .u8 c, .int .i64 q, .int .i64 s] 37 (0, 0)) := N13.keeps ((b2.block _ (by omega)).trans B1) (fun hb => by have := hS _ (hSm _ hb); omega)
  have M1 := now_marks (S := S) K2 hSx hSm hSo (fun k hk => by have := hS k hk; omega) N11 (N12.imp id (fun h => by omega)) N13
  obtain ⟨W, hW⟩ : ∃ W, W = wa.setCell ⟨x, 0, none⟩ (.slice a1 n1 e1) := ⟨_, rfl⟩
  rw [← hW] at M1
  have xw := hS x hSx
  have BW : W.heap[w.heap.size]? = some (.cells #[.int .i64 k, .int .i64 p, .int .u8 c, .int .i64 q, .int .i64 s] 37 (0, 0)) := by
    rw [hW]
    exact (Fr.setCell (S := (· = x)) wa ⟨x, 0, none⟩ (.slice a1 n1 e1) rfl).keeps Ba (by omega)
  have HW := hd hW
  obtain ⟨S1, ⟨vm3, vo3, βm3, βo3, K3, r1, r2, r3, r4⟩, M12, M13⟩ := M1
  have K4 := K3.below (Below.drew (Below.refl W.heap.size W))
  have b5 : Below W.drew.heap.size W.drew (W.drew.alloc (.cells #[.int .i64 k, .int .i64 p, .int .u8 c, .int .i64 q, .int .i64 s] 37)) := (Below.refl _ _).alloc (Nat.le_refl _) _
  have K5 := K4.below b5
  obtain ⟨v2, wb, hr2, N2⟩ := push_op (W.drew.alloc (.cells #[.int .i64 k, .int .i64 p, .int .u8 c, .int .i64 q, .int .i64 s] 37)) βo3 vo3 os K5.ro W.drew.heap.size ⟨k, p, c, q, s⟩ (heap_alloc_new W.drew _) (by omega)
  obtain ⟨a2, n2, e2, rfl⟩ := N2.slice
  obtain ⟨g2, N21, N22, N23⟩ := N2.out
  have zW : (W.drew.alloc (.cells #[.int .i64 k, .int .i64 p, .int .u8 c, .int .i64 q, .int .i64 s] 37)).heap.size = W.heap.size + 1 := by simp
  have hx5 : wb.heap[x]? = some (.cells #[vm3, vo3, .bool f, .int .i64 last] 72 (0, 0)) := N23.keeps K5.box (fun hb => K5.o_ne hb)
  have M2 := now_ops (S := S1) K5 r1 r2 r3 (fun k hk => by have := r4 k hk; omega) N21 (N22.imp id (fun h => by omega)) N23
  have Z : Hid (NowR w (wb.setCell ⟨x, 1, none⟩ (.slice a2 n2 e2)) x f (ms ++ [m]) (os ++ [⟨k, p, c, q, s⟩]) last S) := by
    have hF : Fr S w W := (Fr.of_below b1).trans ((Fr.of_below b2).trans (M13.mono (fun k _ h => h)))
    have hFd : Fr S1 W (W.drew.alloc (.cells #[.int .i64 k, .int .i64 p, .int .u8 c, .int .i64 q, .int .i64 s] 37)) := (Fr.drew _ _).trans (Fr.alloc _ _ _)
    obtain ⟨S2, h1, h2, h3⟩ := M2
    refine ⟨S2, h1, fun j hj => ?_, hF.next (hFd.trans h3) (fun i hi hs => ?_)⟩
    · rcases h2 j hj with h | h
      · rcases M12 j h with h | h
        · exact .inl h
        · exact .inr (by omega)
      · have := hF.size
        exact .inr (by omega)
    · rcases M12 i hs with h | h
      · exact h
      · omega
  obtain ⟨am3, cm3, hvm3, -⟩ := K3.rm.form
  obtain ⟨ao3, co3, hvo3, -⟩ := K3.ro.form
  have c0 := cell_row hK.box 0
  have cW := cell_row K3.box 1
  have d0 := cell_row hx2 0
  have f0 := frozen_row hx2 0
  have d1 := cell_row hx5 1
  have f1 := frozen_row hx5 1
  simp at c0 cW d0 d1
  obtain ⟨⟨y0, y1, y2, y3, y4⟩, -⟩ := cells5 BW
  have xlW : x < W.heap.size := block_lt K3.box
  rw [z1] at hr1
  rw [show W.drew.heap.size = W.heap.size from rfl] at hr2
  have HR2 := hd hr2
  have HC := hd (And.intro xlW (And.intro cW (And.intro d1 f1)))
  have HY := hd (And.intro y0 (And.intro y1 (And.intro y2 (And.intro y3 y4))))
  clear hr2 cW d1 f1 y0 y1 y2 y3 y4 BW xlW hl1 hl2 hvm hvo hvm3 hvo3
  clear hK K1 K2 K3 K4 K5 N1 N2 N11 N12 N13 N21 N22 N23 M2 M12 M13 r1 r2 r3 r4 hx2 hx5 b1 b2 b5 B1 Ba hSx hSm hSo hS z1 sz2 zW hW
  go_enter Tryd.func41, Tryd.ntmps41
  subst hw1
  go_wp2_with (at_builtin; refine wpList_append_k _ rfl _ _ 67 67 rfl _ _ rfl rfl (hr1 _) ?_)
  rw [← HW.out]
  obtain ⟨xlW, cW, d1, f1⟩ := HC.out
  obtain ⟨y0, y1, y2, y3, y4⟩ := HY.out
  have hr2 := HR2.out
  go_region_law (refine step_append_k rfl (.tmp 20) (.tmp 22) 68 68 rfl _ _ (by simp [Act.eval]) (by simp [Act.eval]) (hr2 _) ?_)
  all_goals go_wp2
  all_goals refine bodyPost_end (v := .tuple #[]) (by simp [results, Tryd.results41, go_sem]) rfl ?_
  all_goals exact ⟨rfl, Z.out⟩

theorem SpAt.cells {w : World} {x : Nat} {p : Sp} {S : Nat → Prop} (h : SpAt w x p S) : x < w.heap.size ∧ w.cell? ⟨x, 2, none⟩ = some (.bool p.f) ∧ w.cell? ⟨x, 3, none⟩ = some (.int .i64 p.last) ∧ w.frozen? ⟨x, 3, none⟩ = false := by
  obtain ⟨⟨vm, vo, βm, βo, hK, -⟩, -⟩ := h
  have c2 := cell_row hK.box 2
  have c3 := cell_row hK.box 3
  simp at c2 c3
  exact ⟨block_lt hK.box, c2, c3, frozen_row hK.box 3⟩
theorem RAt.cells {w : World} {x : Nat} {f : Bool} {ms : List Int} {os : List OpE} {last : Int} {S : Nat → Prop} (h : RAt w x f ms os last S) : x < w.heap.size ∧ w.cell? ⟨x, 2, none⟩ = some (.bool f) ∧ w.cell? ⟨x, 3, none⟩ = some (.int .i64 last) ∧ w.frozen? ⟨x, 3, none⟩ = false := by
  obtain ⟨vm, vo, βm, βo, hK, -⟩ := h
  have c2 := cell_row hK.box 2
  have c3 := cell_row hK.box 3
  simp at c2 c3
  exact ⟨block_lt hK.box, c2, c3, frozen_row hK.box 3⟩

set_option maxRecDepth 100000 in
set_option maxHeartbeats 4000000 in
theorem keep_any (x : Nat) (p : Sp) (m : Int) (o : OpE) (S : Nat → Prop) (w : World) (h : SpAt w x p S) (ho : OkOp o) :
    Calls Tryd.prog 25 #[.pointer (some ⟨x, 0, none⟩), .int .i64 m, o.val] w fun e w' => e = .returned (.int .i64 (keepE p m o)) ∧ Now w w' x (keepS p m o) S := by
  have HO := hd (keepS_ok h.2 m o ho)
  have HH := hd h
  have HC := hd ho
  have HS := hd h.1.old
  have hl := h.2
  have l1 : p.ms.length ≤ 4096 := by rw [Sp.ms_len]; have := hl.n; have := hl.m; omega
  have l2 : p.os.length ≤ 4096 := by rw [Sp.os_len]; have := hl.n; have := hl.m; omega
  have HL := hd (And.intro l1 l2)
  obtain ⟨E, hE⟩ : ∃ E, keepE p m o = E := ⟨_, rfl⟩
  obtain ⟨V, hV⟩ : ∃ V, validP o = V := ⟨_, rfl⟩
  have HE := hd hE
  have HV := hd hV
  obtain ⟨k, ps, c, q, s⟩ := o
  simp only [OpE.val]
  clear h ho hl l1 l2 hE
  rw [HE.out]
  obtain ⟨la, hla⟩ : ∃ l, p.last = l := ⟨_, rfl⟩
  have HLA := hd hla
  clear hla hV
  by_cases hv : V = 0
  · subst hv
    by_cases hm : m ≤ la ∨ 4096 < m
    · obtain rfl : E = 100 := by
        rw [← HE.out, keepE, if_neg (by rw [HV.out]; omega), if_pos (by rw [HLA.out]; exact hm)]
      have Z : Hid (∀ w', Below w.heap.size w w' → Now w w' x (keepS p m ⟨k, ps, c, q, s⟩) S) := fun w' hb => by
        rw [keepS, if_neg (by rw [HE.out]; omega)]
        exact Now.of_below HH.out hb
      by_cases hm1 : m ≤ la
      · clear hm
        go_enter Tryd.func25, Tryd.ntmps25
        go_wp2_with fail
        refine (valid_any k ps c q s _ HC.out.1 HC.out.2).mono ?_
        rintro e w1 ⟨rfl, hb⟩
        have b1 : Below w.heap.size w w1 := ((Below.refl _ _).alloc (Nat.le_refl _) _).trans (hb.mono (by simp))
        have c3 := (HH.out.below b1).cells.2.2.1
        have B1 := hd b1
        rw [HLA.out] at c3
        rw [HV.out]
        clear hb b1
        go_wp2
        go_ret
        exact ⟨rfl, Z.out _ B1.out⟩
      · have hm2 : 4096 < m := by omega
        clear hm
        go_enter Tryd.func25, Tryd.ntmps25
        go_wp2_with fail
        refine (valid_any k ps c q s _ HC.out.1 HC.out.2).mono ?_
        rintro e w1 ⟨rfl, hb⟩
        have b1 : Below w.heap.size w w1 := ((Below.refl _ _).alloc (Nat.le_refl _) _).trans (hb.mono (by simp))
        have c3 := (HH.out.below b1).cells.2.2.1
        have B1 := hd b1
        rw [HLA.out] at c3
        rw [HV.out]
        clear hb b1
        go_wp2
        go_ret
        exact ⟨rfl, Z.out _ B1.out⟩
    · obtain rfl : E = 0 := by
        rw [← HE.out, keepE, if_neg (by rw [HV.out]; omega), if_neg (by rw [HLA.out]; exact hm)]
      have hm1 : ¬ m ≤ la := by omega
      have hm2 : ¬ 4096 < m := by omega
      clear hm
      go_enter Tryd.func25, Tryd.ntmps25
      go_wp2_with fail
      refine (valid_any k ps c q s _ HC.out.1 HC.out.2).mono ?_
      rintro e w1 ⟨rfl, hb⟩
      have b1 : Below w.heap.size w w1 := ((Below.refl _ _).alloc (Nat.le_refl _) _).trans (hb.mono (by simp))
      have X1 : w1.heap[w.heap.size]? = some (.cells #[.int .i64 k, .int .i64 ps, .int .u8 c, .int .i64 q, .int .i64 s] 37 (0, 0)) := (hb.block _ (by simp)).trans (heap_alloc_new w _)
      have H1 := HH.out.below b1
      have H2 := hd (H1.below (Below.drew (Below.refl w1.heap.size w1)))
      have c3 := H1.cells.2.2.1
      obtain ⟨⟨y0, y1, y2, y3, y4⟩, -⟩ := cells5 X1
      have B1 := hd b1
      rw [HLA.out] at c3
      rw [HV.out]
      clear hb b1 X1 H1
      go_wp2_with fail
      have C1 : Hid (∀ W, Below w1.heap.size w1 W → Calls Tryd.prog 41 #[.pointer (some ⟨x, 0, none⟩), .int .i64 m, .agg #[.int .i64 k, .int .i64 ps, .int .u8 c, .int .i64 q, .int .i64 s]] W fun e w' => e = .returned (.tuple #[]) ∧ w'.cell? ⟨x, 3, none⟩ = some (.int .i64 la) ∧ w'.frozen? ⟨x, 3, none⟩ = false ∧ Now w (w'.setCell ⟨x, 3, none⟩ (.int .i64 m)) x (keepS p m ⟨k, ps, c, q, s⟩) S) := by
        intro W hW
        have bW : Below w.heap.size w W := B1.out.trans (hW.mono B1.out.size)
        refine (add_any x p.f p.ms p.os p.last m ⟨k, ps, c, q, s⟩ S W (HH.out.below bW).1 HL.out.1 HL.out.2).mono ?_
        rintro e w' ⟨rfl, hN⟩
        have hk : keepS p m ⟨k, ps, c, q, s⟩ = ⟨p.f, p.q ++ [(m, ⟨k, ps, c, q, s⟩)], m⟩ := by rw [keepS, if_pos HE.out]
        have N2 := hN.trans (fun S' h => now_last h m)
        obtain ⟨S1, h1, -⟩ := hN
        have hc := h1.cells
        refine ⟨rfl, by rw [← HLA.out]; exact hc.2.2.1, hc.2.2.2, ?_⟩
        obtain ⟨S2, g1, g2, g3⟩ := N2
        refine ⟨S2, ⟨?_, HO.out⟩, fun k hk => (g2 k hk).imp id (fun h => by have := bW.size; omega), (Fr.of_below bW).trans g3⟩
        rw [hk]
        simpa [Sp.ms, Sp.os] using g1
      go_region_law (first | (go_simp; go_at_call 41; refine (C1.out _ (by repeat (first | exact Below.refl _ _ | refine Below.drew ?_ | refine below_drewN ?_ _))).mono ?_; rintro ex w3 ⟨rfl, h1, h2, h3⟩; have Z3 := hd h3; clear h3))
      all_goals go_wp2
      all_goals go_ret
      all_goals exact ⟨rfl, Z3.out⟩
  · obtain rfl : E = V := by
      rw [← HE.out, keepE, if_pos (by rw [HV.out]; exact hv), HV.out]
    have hv' : (E == 0) = false := by simpa using hv
    have Z : Hid (∀ w', Below w.heap.size w w' → Now w w' x (keepS p m ⟨k, ps, c, q, s⟩) S) := fun w' hb => by
      rw [keepS, if_neg (by rw [HE.out]; exact hv)]
      exact Now.of_below HH.out hb
    go_enter Tryd.func25, Tryd.ntmps25
    go_wp2_with fail
    refine (valid_any k ps c q s _ HC.out.1 HC.out.2).mono ?_
    rintro e w1 ⟨rfl, hb⟩
    have B1 : Hid (Below w.heap.size w w1) := ((Below.refl _ _).alloc (Nat.le_refl _) _).trans (hb.mono (by simp))
    rw [HV.out]
    clear hb
    go_wp2
    go_ret
    exact ⟨rfl, Z.out _ B1.out⟩
end Go.Proofs.YtmbnimlibnheeabDoor
