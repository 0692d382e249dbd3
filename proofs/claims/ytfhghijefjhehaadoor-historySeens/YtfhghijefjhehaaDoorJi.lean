/-
  The document's sorted, walked.
-/
import Derived.Test.YtfhghijefjhehaaDoorJu
import Derived.Test.YtfhghijefjhehaaDoorMF
namespace Go.Proofs.YtfhghijefjhehaaDoor
open Go.RowKit
set_option linter.unusedVariables false

/-- The append: the next element lies behind what is in order. -/
theorem so_push {w wr : World} {v : Value} {xs L : List El} {k : Nat} {x : El} (h : SoO w wr v xs L k) (hk : L.length = k) (hX : xs.take (k + 1) = xs.take k ++ [x]) (hn : k ≤ 5864062014634) :
    ∃ a c, v = .slice a k c ∧ ∃ g cap w', (∀ ty, (Builtin.append_ #[35, 35] ty #[.slice a k c, .slice (some ⟨wr.heap.size, 0, none⟩) 1 1]).run Tryd.prog (wr.alloc (.cells #[.int .u8 x.1, .int .i64 x.2.1, .int .i64 x.2.2] 64)) = .ok (.slice (some ⟨g, 0, none⟩) (k + 1) cap) w') ∧ SoI w w' g cap xs k x L [] ∧ k + 1 ≤ cap := by
  obtain ⟨⟨β, hS, hβ⟩, hp, hm, hb⟩ := h
  obtain ⟨a, c, rfl, -, -⟩ := hS.form
  rw [hk] at hS ⊢
  have hF : Fr (fun _ => False) wr (wr.alloc (.cells #[.int .u8 x.1, .int .i64 x.2.1, .int .i64 x.2.2] 64)) := Fr.alloc _ _ _
  have hbA : Below w.heap.size w (wr.alloc (.cells #[.int .u8 x.1, .int .i64 x.2.1, .int .i64 x.2.2] 64)) := hb.alloc (by have := hb.size; omega) _
  have hS2 := hS.fr hF (fun _ _ h => h)
  obtain ⟨v', w', hr, g, ⟨cap, rfl, hR⟩, hN⟩ := push_el _ β _ L hS2 wr.heap.size x (heap_alloc_new wr (.cells #[.int .u8 x.1, .int .i64 x.2.1, .int .i64 x.2.2] 64)) (by omega)
  have hl : (L ++ [x]).length = k + 1 := by simp [hk]
  rw [hl] at hr hR
  have hg : w.heap.size ≤ g := by
    rcases hN with ⟨e, -⟩ | ⟨e, -⟩
    · exact hβ g e
    · have := hb.size
      simp at e
      omega
  refine ⟨a, c, rfl, g, cap, w', hr, ⟨hR, Put.start hp x, ?_, hg, ?_⟩, ?_⟩
  · rw [hX]
    exact List.Perm.append_right [x] hm
  · rcases hN with ⟨e, hf⟩ | ⟨e, hf⟩
    · exact hbA.trans (hf.below hbA.size (fun j hj => hj ▸ hg))
    · exact hbA.trans (hf.below hbA.size (fun j hj => hj.elim))
  · obtain ⟨_, _, _, _, h5, _⟩ := hR
    exact h5

theorem snoc_eq (P S : List El) (x y : El) : (P ++ [y]) ++ x :: S = P ++ y :: (x :: S) := by simp
theorem nil_or_end (P : List El) : P = [] ∨ ∃ Q y, P = Q ++ [y] := by
  rcases List.eq_nil_or_concat P with h | ⟨Q, y, h⟩
  · exact .inl h
  · exact .inr ⟨Q, y, by rw [h, List.concat_eq_append]⟩
theorem soI_below {w wr u : World} {g cap i : Nat} {xs P S : List El} {x : El} (h : SoI w wr g cap xs i x P S) (hb : Below wr.heap.size wr u) : SoI w u g cap xs i x P S :=
  ⟨h.1.fr (Fr.of_below (S := fun _ => False) hb) (fun h => h), h.2.1, h.2.2.1, h.2.2.2.1, h.2.2.2.2.trans (hb.mono h.2.2.2.2.size)⟩
theorem soI_keys {w wr : World} {g cap i : Nat} {xs P S : List El} {x y : El} (hK : xs.Pairwise keyNe) (h : SoI w wr g cap xs i x (P ++ [y]) S) : keyNe x y := by
  have hp := (h.2.2.1.pairwise_iff (R := keyNe) (fun hh => hh.symm)).2 (hK.sublist (List.take_sublist _ _))
  rw [List.append_assoc, List.pairwise_append] at hp
  have := hp.2.1
  simp only [List.singleton_append, List.pairwise_cons] at this
  exact (this.1 x (by simp)).symm

set_option maxRecDepth 100000 in
set_option maxHeartbeats 8000000 in
theorem sorted_any (a : Option Addr) (c : Nat) (xs : List El) (w : World) (hT : IsTx w a xs) (hK : xs.Pairwise keyNe) (hn : xs.length ≤ 5864062014634) :
    Calls Tryd.prog 43 #[.slice a xs.length c] w fun e w' => ∃ v L, e = .returned v ∧ SoO w w' v xs L xs.length := by
  obtain ⟨n, hnx⟩ : ∃ n, n = xs.length := ⟨_, rfl⟩
  rw [← hnx] at hn ⊢
  have HT := hd hT
  have HK := hd hK
  have HN := hd hnx
  have I0 : Hid (SoO w w (.slice none 0 0) xs [] 0) := ⟨⟨none, ⟨rfl, rfl⟩, fun g h => by cases h⟩, List.Pairwise.nil, by simp, Below.refl _ _⟩
  clear hT hK hnx
  go_enter Tryd.func43, Tryd.ntmps43
  go_wp2
  go_loopw [3, 4] (fun v i wr => ∃ k : Nat, ∃ L, k ≤ n ∧ i = .int .i64 k ∧ Hid (SoO w wr v xs L k)) (fun _ i _ => n - (intOf i).toNat)
  case atStart => exact ⟨0, [], Nat.zero_le _, rfl, I0.out⟩
  case round =>
    obtain ⟨k, L, hk, rfl, HR⟩ := hrel
    clear I0
    by_cases hlt : k < n
    · have kx : k < xs.length := by have := HN.out; omega
      obtain ⟨b1, o1, rfl, s1, hc⟩ := (HT.out.below HR.out.2.2.2 (Nat.le_refl _)) (by omega)
      obtain ⟨x0, x1, x2⟩ := hc k kx
      have i1 : (k : Int) < (n : Int) := by omega
      have HX := hd (show xs.take (k + 1) = xs.take k ++ [xs[k]] from by rw [List.take_add_one, List.getElem?_eq_getElem kx]; rfl)
      have hLk : L.length = k := by rw [HR.out.2.2.1.length_eq, List.length_take]; omega
      clear hc s1
      generalize xs[k] = x at x0 x1 x2 HX
      obtain ⟨a3, c3, rfl, g, cap, w', hr, hI, hcap⟩ := so_push HR.out hLk HX.out (by omega)
      obtain ⟨xa, xb, xc⟩ := x
      simp only at x0 x1 x2 hr
      have HI := hd hI
      clear HR hI
      go_wp2_with (at_builtin; refine wpList_append_k _ rfl _ _ 35 35 rfl _ _ rfl rfl (hr _) ?_)
      clear hr
      go_loopw [5] (fun j wr' => ∃ P S, j = .int .i64 ((P.length : Nat) : Int) ∧ P.length ≤ k ∧ Hid (SoI w wr' g cap xs k (xa, xb, xc) P S)) (fun j _ => (intOf j).toNat)
      case atStart => exact ⟨L, [], by rw [hLk], by omega, HI.out⟩
      case round =>
        obtain ⟨P, S, rfl, hPk, HR⟩ := hrel
        clear HI
        rcases nil_or_end P with rfl | ⟨P, y, rfl⟩
        · have LS := hd (fun W => less_any (xa, xb, xc) (xa, xb, xc) W)
          simp only [List.length_nil]
          rw [show ((0 : Nat) : Int) = 0 from rfl]
          have nW : Nonempty (Wd wr) := ⟨⟨wr, Below.refl _ _⟩⟩
          go_upto_region 7 with fail
          refine wp_region_calm (by kernel_rfl) (by kernel_rfl) ?_
          (repeat (go_big_quiet_step ((rename_i X; exact calm_call (LS.out X.W)))))
          refine wpQuiet_nil ?_
          intro u hz
          obtain ⟨⟨u', bu⟩, hu⟩ := hz
          have hu' : u = u' := hu
          subst hu'
          clear hu
          have ST := hd (soI_stop0 (soI_below HR.out bu))
          clear HR bu LS
          go_wp2
          exact ⟨⟨k + 1, _, by omega, by go_num, ST.out⟩, by simp [intOf]; omega⟩
        · obtain ⟨q, hq⟩ : ∃ q, q = P.length + 1 := ⟨_, rfl⟩
          have hl : (P ++ [y]).length = q := by simp [hq]
          rw [hl] at hPk ⊢
          have KN := hd (soI_keys HK.out HR.out)
          obtain ⟨⟨x0, x1, x2⟩, -⟩ := row_cells HR.out.1
          have HR1 := HR.out.1
          rw [snoc_eq P S (xa, xb, xc) y] at HR1
          obtain ⟨⟨y0, y1, y2⟩, -⟩ := row_cells HR1
          have lg := HR1.lt
          rw [hl] at x0 x1 x2
          obtain ⟨p, hp⟩ : ∃ p, p = P.length := ⟨_, rfl⟩
          rw [← hp] at y0 y1 y2 hq
          have LS := hd (fun W => less_any (xa, xb, xc) y W)
          have i2 : (0 : Int) < (q : Int) := by omega
          have i3 : (q : Int) < (k : Int) + 1 := by omega
          have i4 : (p : Int) < (k : Int) + 1 := by omega
          have ej : (q : Int) - 1 = (p : Int) := by omega
          have i5 : 0 < q := by omega
          have i6 : q < k + 1 := by omega
          have i7 : p < k + 1 := by omega
          clear HR1
          have HQ := hd hq
          have HP := hd hp
          have HLn := hd hl
          clear hq hp hl
          generalize hb : lessB (xa, xb, xc) y = lb at LS
          obtain ⟨ya, yb, yc⟩ := y
          simp only [elV] at LS x0 x1 x2 y0 y1 y2
          go_upto_region 7 with fail
          have zx0 := fun X : Wd wr => X.cell x0 lg
          have zx1 := fun X : Wd wr => X.cell x1 lg
          have zx2 := fun X : Wd wr => X.cell x2 lg
          have zy0 := fun X : Wd wr => X.cell y0 lg
          have zy1 := fun X : Wd wr => X.cell y1 lg
          have zy2 := fun X : Wd wr => X.cell y2 lg
          have nW : Nonempty (Wd wr) := ⟨⟨wr, Below.refl _ _⟩⟩
          refine wp_region_calm (by kernel_rfl) (by kernel_rfl) ?_
          (repeat (go_big_quiet_step ((rename_i X; exact calm_call (LS.out X.W)))))
          refine wpQuiet_nil ?_
          intro u hz
          obtain ⟨⟨u', bu⟩, hu⟩ := hz
          have hu' : u = u' := hu
          subst hu'
          clear hu
          clear nW zx0 zx1 zx2 zy0 zy1 zy2 x0 x1 x2 y0 y1 y2 LS i5 i6 i7 lg
          have HU := hd (soI_below HR.out bu)
          clear HR bu
          cases lb with
          | false =>
            have ST := hd (soI_stop HU.out (less_false KN.out hb))
            clear HU
            go_wp2
            exact ⟨⟨k + 1, _, by omega, by go_num, ST.out⟩, by simp [intOf]; omega⟩
          | true =>
            have NX := hd (soI_step HU.out ((less_true KN.out).1 hb))
            obtain ⟨⟨x0, x1, x2⟩, fz⟩ := row_cells HU.out.1
            have HR1 := HU.out.1
            rw [snoc_eq P S (xa, xb, xc) (ya, yb, yc)] at HR1
            obtain ⟨⟨y0, y1, y2⟩, -⟩ := row_cells HR1
            have lg := HR1.lt
            rw [HLn.out] at x0 x1 x2
            rw [← HP.out] at y0 y1 y2 NX
            rw [← HQ.out] at NX
            simp only at x0 x1 x2 y0 y1 y2 NX
            have RA := hd (HU.out.1.fr (Fr.alloc (fun _ => False) u (.cells #[.int .u8 xa, .int .i64 xb, .int .i64 xc] 64)) (fun h => h))
            have BX := hd (heap_alloc_new u (.cells #[.int .u8 xa, .int .i64 xb, .int .i64 xc] 64))
            clear HU HR1 fz
            go_upto_region 10 with fail
            clear x0 x1 x2 y0 y1 y2
            generalize u.alloc (.cells #[.int .u8 xa, .int .i64 xb, .int .i64 xc] 64) = uA at *
            have RB := hd (row_set3 RA.out (ya, yb, yc))
            rw [HLn.out] at RB
            obtain ⟨⟨x0, x1, x2⟩, fz⟩ := row_cells RA.out
            have HR1 := RA.out
            rw [snoc_eq P S (xa, xb, xc) (ya, yb, yc)] at HR1
            obtain ⟨⟨y0, y1, y2⟩, -⟩ := row_cells HR1
            rw [HLn.out] at x0 x1 x2
            rw [← HP.out] at y0 y1 y2
            simp only at x0 x1 x2 y0 y1 y2 RB
            have fa := fz (q * 3); have fb := fz (q * 3 + 1); have fc := fz (q * 3 + 2)
            clear HR1 fz RA
            go_upto_region 11 with fail
            clear x0 x1 x2 y0 y1 y2 fa fb fc
            have BX2 : Hid ((((uA.setCell ⟨g, q * 3, none⟩ (.int .u8 ya)).setCell ⟨g, q * 3 + 1, none⟩ (.int .i64 yb)).setCell ⟨g, q * 3 + 2, none⟩ (.int .i64 yc)).heap[u.heap.size]? = some (.cells #[.int .u8 xa, .int .i64 xb, .int .i64 xc] 64 (0, 0))) := by
              rw [Hid, Below.heap_setCell _ _ _ _ (by simp <;> omega), Below.heap_setCell _ _ _ _ (by simp <;> omega), Below.heap_setCell _ _ _ _ (by simp <;> omega)]
              exact BX.out
            generalize ((uA.setCell ⟨g, q * 3, none⟩ (.int .u8 ya)).setCell ⟨g, q * 3 + 1, none⟩ (.int .i64 yb)).setCell ⟨g, q * 3 + 2, none⟩ (.int .i64 yc) = uB at *
            have HR1 := RB.out
            rw [snoc_eq P S (ya, yb, yc) (ya, yb, yc)] at HR1
            obtain ⟨⟨y0, y1, y2⟩, fz⟩ := row_cells HR1
            rw [← HP.out] at y0 y1 y2
            simp only at y0 y1 y2
            have fd := fz (p * 3); have fe := fz (p * 3 + 1); have ff := fz (p * 3 + 2)
            have b0 := cell_row BX2.out 0; have b1 := cell_row BX2.out 1; have b2 := cell_row BX2.out 2
            simp at b0 b1 b2
            clear HR1 fz RB BX BX2
            go_upto_region 8 with fail
            clear y0 y1 y2 fd fe ff b0 b1 b2
            generalize ((uB.setCell ⟨g, p * 3, none⟩ (.int .u8 xa)).setCell ⟨g, p * 3 + 1, none⟩ (.int .i64 xb)).setCell ⟨g, p * 3 + 2, none⟩ (.int .i64 xc) = uC at *
            have E4 := hd ej
            clear i2 i3 i4 ej
            go_wp2
            exact ⟨⟨P, _, by rw [← HP.out, E4.out], by have := HP.out; have := HQ.out; omega, NX.out⟩, by rw [E4.out]; simp only [intOf, Int.toNat_natCast]; have := HQ.out; omega⟩
    · obtain rfl : k = n := by omega
      go_wp2
      go_ret
      exact ⟨_, L, rfl, HR.out⟩

end Go.Proofs.YtfhghijefjhehaaDoor
