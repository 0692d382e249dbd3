/-
  The outbox of things: Push, first.
-/
import Derived.Test.YtocpfioifamkmaaTb
import Derived.Deep.DeepCutAuto
namespace Go.Proofs.Ytocpfioifamkmaa
open Go.RowKit Go.Lib
set_option linter.unusedVariables false

theorem push_thing (w : World) (β : Option Nat) (v : Value) (xs : List Int) (hv : SF eT 6 w 63 β v xs) (b : Nat) (y : Int) (hb : w.heap[b]? = some (.cells #[.string (nm y), .int .i64 0, .int .i64 y, .int .u8 0, .int .i64 0, .int .i64 (ng y)] 63 (0, 0))) (hn : xs.length ≤ 100000) :
    ∃ v' w', (∀ ty, (Builtin.append_ #[84, 84] ty #[v, .slice (some ⟨b, 0, none⟩) 1 1]).run Try.prog w = .ok v' w') ∧ NowF eT 6 w w' 63 β v' (xs ++ [y]) := by
  obtain ⟨i0, hi0, hz0, hz1, hz2⟩ := info_parts Try.infoTh
  obtain ⟨v', w', hr, hN⟩ := run_pushF sz_eT (P := Try.prog) w 84 0 63 i0 _ 56 Try.underlying84 hi0 hz0 hz1 rfl hz2 β v xs hv ⟨b, 0, none⟩ 1 1 [y] rfl (fun j u hj => by
    rw [cl_one] at hj
    rw [add_lit, cell_row hb, Nat.zero_add]
    simpa [eT] using hj) (by omega) (by omega) (by omega)
  exact ⟨v', w', fun ty => hr, hN⟩
theorem push_titem (w : World) (β : Option Nat) (v : Value) (xs : List (Int × Int)) (hv : SF iT 7 w 93 β v xs) (b : Nat) (n y : Int) (hb : w.heap[b]? = some (.cells #[.int .i64 n, .string (nm y), .int .i64 0, .int .i64 y, .int .u8 0, .int .i64 0, .int .i64 (ng y)] 93 (0, 0))) (hn : xs.length ≤ 100000) :
    ∃ v' w', (∀ ty, (Builtin.append_ #[71, 71] ty #[v, .slice (some ⟨b, 0, none⟩) 1 1]).run Try.prog w = .ok v' w') ∧ NowF iT 7 w w' 93 β v' (xs ++ [(n, y)]) := by
  obtain ⟨i0, hi0, hz0, hz1, hz2⟩ := info_parts Try.infoTi
  obtain ⟨v', w', hr, hN⟩ := run_pushF sz_iT (P := Try.prog) w 71 0 93 i0 _ 64 Try.underlying71 hi0 hz0 hz1 rfl hz2 β v xs hv ⟨b, 0, none⟩ 1 1 [(n, y)] rfl (fun j u hj => by
    rw [cl_one] at hj
    rw [add_lit, cell_row hb, Nat.zero_add]
    simpa [iT] using hj) (by omega) (by omega) (by omega)
  exact ⟨v', w', fun ty => hr, hN⟩

theorem NowF.slice {α : Type} {f : α → List Value} {k : Nat} {w w' : World} {e : TypeId} {β : Option Nat} {v' : Value} {xs : List α} (h : NowF f k w w' e β v' xs) : ∃ a c, v' = .slice a xs.length c := by
  obtain ⟨g', h1, -⟩ := h
  obtain ⟨a', c', h, -⟩ := h1.form
  exact ⟨a', c', h⟩

theorem step_pushT {ops : Array Oper} {o : Oper} {a : Act} {w : World} {K : Act → World → Prop} {Q : Exit → Act → World → Prop} {E : Prop}
    (hg : o.guard = none) (d x : Operand) (hop : o.op = Op.call { callee := Callee.builtin Builtin.append, args := #[d, x], argTypes := #[84, 84] })
    (va : Value) (g : Nat) (hv : a.eval d = va) (hx : a.eval x = .slice (some ⟨g, 0, none⟩) 1 1) (β : Option Nat) (xs : List Int) (w2 : World) (hF : Fr (fun _ => False) w2 w) (hS : SF eT 6 w2 63 β va xs) (y : Int)
    (hb : w.heap[g]? = some (.cells #[.string (nm y), .int .i64 0, .int .i64 y, .int .u8 0, .int .i64 0, .int .i64 (ng y)] 63 (0, 0))) (hn : xs.length ≤ 4096)
    (hK : ∀ a' c' w', NowF eT 6 w w' 63 β (.slice a' (xs.length + 1) c') (xs ++ [y]) → K (a.put o.dst (.slice a' (xs.length + 1) c')) w') :
    if Region.wanted o (yielded ops a.tmps) = true then Oper.wp Try.prog o a w K Q else E := by
  obtain ⟨v', w', hr, hP⟩ := push_thing w β va xs (hS.fr hF (fun _ _ h => h)) g y hb (by omega)
  obtain ⟨a', c', rfl⟩ := hP.slice
  rw [List.length_append] at hr hP
  exact step_append_k hg d x 84 84 hop _ _ hv hx (hr _) (hK a' c' w' hP)
theorem step_pushTi {ops : Array Oper} {o : Oper} {a : Act} {w : World} {K : Act → World → Prop} {Q : Exit → Act → World → Prop} {E : Prop}
    (hg : o.guard = none) (d x : Operand) (hop : o.op = Op.call { callee := Callee.builtin Builtin.append, args := #[d, x], argTypes := #[71, 71] })
    (va : Value) (g : Nat) (hv : a.eval d = va) (hx : a.eval x = .slice (some ⟨g, 0, none⟩) 1 1) (β : Option Nat) (xs : List (Int × Int)) (w2 : World) (hF : Fr (fun _ => False) w2 w) (hS : SF iT 7 w2 93 β va xs) (n y : Int)
    (hb : w.heap[g]? = some (.cells #[.int .i64 n, .string (nm y), .int .i64 0, .int .i64 y, .int .u8 0, .int .i64 0, .int .i64 (ng y)] 93 (0, 0))) (hn : xs.length ≤ 4096)
    (hK : ∀ a' c' w', NowF iT 7 w w' 93 β (.slice a' (xs.length + 1) c') (xs ++ [(n, y)]) → K (a.put o.dst (.slice a' (xs.length + 1) c')) w') :
    if Region.wanted o (yielded ops a.tmps) = true then Oper.wp Try.prog o a w K Q else E := by
  obtain ⟨v', w', hr, hP⟩ := push_titem w β va xs (hS.fr hF (fun _ _ h => h)) g n y hb (by omega)
  obtain ⟨a', c', rfl⟩ := hP.slice
  rw [List.length_append] at hr hP
  exact step_append_k hg d x 71 71 hop _ _ hv hx (hr _) (hK a' c' w' hP)

set_option maxRecDepth 100000 in
set_option maxHeartbeats 4000000 in
theorem tpush_any (x : Nat) (p : St) (y : Int) (S : Nat → Prop) (w : World) (h : TAt w x p S) :
    Calls Try.prog 29 #[.pointer (some ⟨x, 0, none⟩), .agg #[.string (nm y), .int .i64 0, .int .i64 y, .int .u8 0, .int .i64 0, .int .i64 (ng y)]] w fun e w' => e = .returned (.tuple #[.int .i64 (pushN p), .int .i64 (pushE p)]) ∧ TNow w w' x (pushS p y) S := by
  obtain ⟨v, β, hK, hSx, hSβ, hS⟩ := h
  have HK := hd hK
  have HX := hd (And.intro hSx (And.intro hSβ hS))
  have hok := hK.ok
  have hf := hok.few
  obtain ⟨m, hm⟩ : ∃ m, p.last = m := ⟨_, rfl⟩
  have hm2 : m ≤ 4096 := by rw [← hm]; exact hf
  have HM := hd hm
  have HO := hd hok
  obtain ⟨nb, hnb⟩ : ∃ nb, nm y = nb := ⟨_, rfl⟩
  obtain ⟨ny, hny⟩ : ∃ ny, ng y = ny := ⟨_, rfl⟩
  have HY := hd (And.intro hnb hny)
  rw [hnb, hny]
  have B0 : Hid (∀ o, Below w.heap.size w (w.alloc o)) := fun o => (Below.refl _ _).alloc (Nat.le_refl _) o
  clear hK hSx hSβ hS hok hf hnb hny
  by_cases hl : 4096 ≤ m
  · have hl' : (4096 : Int) ≤ (m : Int) := by omega
    go_enter Try.func29, Try.ntmps29
    go_wp2_with fail
    refine (tlast_bk x p v β _ (HK.out.below (B0.out _))).mono ?_
    rintro e w1 ⟨rfl, hb⟩
    have HB := hd ((B0.out _).trans (hb.mono (B0.out _).size))
    clear hb
    rw [hm]
    clear hm
    go_wp2
    refine bodyPost_ret (v := .tuple #[.int .i64 0, .int .i64 81]) (by simp [results, Try.results29, go_sem]) rfl ?_
    have hl2 : 4096 ≤ p.last := by rw [HM.out]; exact hl
    refine ⟨by rw [pushN, pushE, if_pos hl2, if_pos hl2], ?_⟩
    rw [pushS, if_pos hl2]
    exact ⟨S, ⟨v, β, HK.out.below HB.out, HX.out.1, HX.out.2.1, fun k hk => Nat.lt_of_lt_of_le (HX.out.2.2 k hk) HB.out.size⟩, fun k hk => .inl hk, Fr.of_below HB.out⟩
  · have hl' : ¬ (4096 : Int) ≤ (m : Int) := by omega
    obtain ⟨av, cv, rfl, -⟩ := HK.out.row.form
    go_enter Try.func29, Try.ntmps29
    go_wp2_with fail
    refine (tlast_bk x p _ β _ (HK.out.below (B0.out _))).mono ?_
    rintro e w1 ⟨rfl, hb⟩
    have hb0 := (B0.out (.cells #[.string nb, .int .i64 0, .int .i64 y, .int .u8 0, .int .i64 0, .int .i64 ny] 63)).trans (hb.mono (B0.out _).size)
    have hbx : w1.heap[w.heap.size]? = some (.cells #[.string nb, .int .i64 0, .int .i64 y, .int .u8 0, .int .i64 0, .int .i64 ny] 63 (0, 0)) := (hb.block _ (by simp)).trans (heap_alloc_new _ _)
    have y0 := cell_row hbx 0
    have y1 := cell_row hbx 1
    have y2 := cell_row hbx 2
    have y3 := cell_row hbx 3
    have y4 := cell_row hbx 4
    have y5 := cell_row hbx 5
    simp at y0 y1 y2 y3 y4 y5
    have K1 := HK.out.below hb0
    have c3 := cell_row K1.box 3
    simp at c3
    have c3a := fun o => (((Below.refl w1.heap.size w1).alloc (Nat.le_refl _) o).cell (p := ⟨x, 3, none⟩) (block_lt K1.box)).trans c3
    have hll : p.L.length ≤ 4096 := by have := HO.out.few; omega
    have hl2 : ¬ 4096 ≤ p.last := by rw [HM.out]; exact hl
    have HB := hd hb0
    have HK1 := hd K1
    have ZZ : Hid (∀ U w3 a' c', Fr (fun _ => False) w1 U → Below w1.heap.size w1 U → NowF eT 6 U w3 63 β (.slice a' (p.L.length + 1) c') (p.L ++ [y]) → w3.heap[x]? = some (.cells #[.int .i64 p.W, .int .i64 p.a, .int .i64 p.s, .slice av p.L.length cv] 86 (0, 0)) ∧ TNow w (w3.setCell ⟨x, 3, none⟩ (.slice a' (p.L.length + 1) c')) x { p with L := p.L ++ [y] } S) := by
      intro U w3 a' c' hF hB hN
      have K2 := K1.below hB
      refine ⟨?_, tnow_left (S := S) K2 (hb0.trans (hB.mono hb0.size)) HX.out.1 HX.out.2.1 HX.out.2.2 hN (by
        have := pushS_ok HO.out y
        rwa [pushS, if_neg hl2] at this)⟩
      obtain ⟨g', -, -, h3⟩ := hN.out
      exact h3.keeps K2.box (fun hb => K2.x_ne hb)
    have hnm := HY.out
    have HR := hd K1.row
    clear hb hb0 hbx K1
    rw [hm]
    clear hm
    go_wp2_with fail
    go_region_law (refine step_pushT rfl (.tmp 13) (.tmp 15) rfl (.slice av p.L.length cv) w1.heap.size (by simp [Act.eval]) (by simp [Act.eval]) β p.L w1 (by repeat (first | exact Fr.refl _ _ | refine Fr.trans ?_ (Fr.alloc _ _ _) | refine Fr.trans ?_ (Fr.drew _ _) | refine Fr.trans ?_ (Fr.drewN _ _ _))) HR.out y (by rw [hnm.1, hnm.2]; exact heap_alloc_new _ _) hll ?_; intro a' c' w3 hP; have Z1 := ZZ.out _ w3 a' c' (by repeat (first | exact Fr.refl _ _ | refine Fr.trans ?_ (Fr.alloc _ _ _) | refine Fr.trans ?_ (Fr.drew _ _) | refine Fr.trans ?_ (Fr.drewN _ _ _))) (by repeat (first | exact Below.refl _ _ | refine Below.drew ?_ | refine below_drewN ?_ _ | refine Below.alloc ?_ (by simp) _)) hP; have k3 := cell_row Z1.1 3; simp at k3; have f3 := frozen_row Z1.1 3; have Z2 := hd Z1.2; clear hP Z1)
    all_goals
      go_wp2_with fail
      have Z3 := Z2.out
      obtain ⟨S', ⟨v2, β2, K3, r1⟩, r2, r3⟩ := Z3
      refine (tlast_bk x _ v2 β2 _ (K3.below (by repeat (first | exact Below.refl _ _ | refine Below.drew ?_ | refine below_drewN ?_ _)))).mono ?_
      rintro e w4 ⟨rfl, hb4⟩
      have HB4 := hd hb4
      clear hb4 K3 r1 r2 r3
      go_wp2
      refine bodyPost_ret (v := .tuple #[.int .i64 (m + 1), .int .i64 0]) (by simp [results, Try.results29, go_sem]; have := HM.out; simp [St.last] at this ⊢; omega) rfl ?_
      refine ⟨by rw [pushN, pushE, if_neg hl2, if_neg hl2, HM.out], ?_⟩
      rw [pushS, if_neg hl2]
      obtain ⟨S', h1, h2, h3⟩ := Z2.out
      have hb5 : Below (w3.setCell ⟨x, 3, none⟩ (.slice a' (p.L.length + 1) c')).heap.size (w3.setCell ⟨x, 3, none⟩ (.slice a' (p.L.length + 1) c')) w4 := by
        refine Below.trans ?_ HB4.out
        repeat (first | exact Below.refl _ _ | refine Below.drew ?_ | refine below_drewN ?_ _)
      exact ⟨S', h1.below hb5, h2, h3.trans (Fr.of_below hb5)⟩

/-- A list of items that the call has made, from block base on. -/
def TL (w : World) (base : Nat) (v : Value) (xs : List (Int × Int)) : Prop := ∃ g, SF iT 7 w 93 (some g) v xs ∧ base ≤ g

theorem TL.form {w : World} {base : Nat} {v : Value} {xs : List (Int × Int)} (h : TL w base v xs) : ∃ g c, v = .slice (some ⟨g, 0, none⟩) xs.length c ∧ RowF iT 7 w g xs.length c 93 xs ∧ base ≤ g ∧ c ≤ 9223372036854775807 ∧ xs.length ≤ c := by
  obtain ⟨g, ⟨c, rfl, hR⟩, hb⟩ := h
  have hR' := hR
  obtain ⟨cur, -, -, -, h1, h2, -⟩ := hR'
  exact ⟨g, c, rfl, hR, hb, h2, h1⟩
theorem TL.fr {S : Nat → Prop} {w w' : World} {base : Nat} {v : Value} {xs : List (Int × Int)} (h : TL w base v xs) (hF : Fr S w w') (hS : ∀ k, S k → k < base) : TL w' base v xs := by
  obtain ⟨g, h, hb⟩ := h
  exact ⟨g, h.fr hF (fun k hk hs => by injection hk with hk; have := hS k hs; omega), hb⟩
theorem TL.below {w w' : World} {base : Nat} {v : Value} {xs : List (Int × Int)} (h : TL w base v xs) (hb : Below w.heap.size w w') : TL w' base v xs :=
  h.fr (S := fun _ => False) (Fr.of_below hb) (fun _ h => h.elim)
theorem TL.mono {w : World} {b b' : Nat} {v : Value} {xs : List (Int × Int)} (h : TL w b v xs) (hb : b' ≤ b) : TL w b' v xs := by
  obtain ⟨g, h, h2⟩ := h
  exact ⟨g, h, by omega⟩
theorem TL.lt {w : World} {base : Nat} {v : Value} {xs : List (Int × Int)} (h : TL w base v xs) : base < w.heap.size := by
  obtain ⟨g, h, h2⟩ := h
  have := h.lt _ rfl
  omega

set_option maxRecDepth 100000 in
set_option maxHeartbeats 4000000 in
theorem tfirst_bk (x : Nat) (p : St) (v : Value) (β : Option Nat) (n : Nat) (w : World) (h : TK w x p v β) (hn : n ≤ p.L.length) :
    Calls Try.prog 51 #[.pointer (some ⟨x, 0, none⟩), .int .i64 n] w fun e w' => ∃ u, e = .returned u ∧ TL w' w.heap.size u (items p.a (p.L.take n)) ∧ Below w.heap.size w w' := by
  obtain ⟨i0, hi0, hz0, hz1, hz2⟩ := info_parts Try.infoTi
  obtain ⟨m, hm⟩ : ∃ m, p.L.length = m := ⟨_, rfl⟩
  obtain ⟨q, hq⟩ : ∃ q, p.a = q := ⟨_, rfl⟩
  have hf := h.ok.few
  rw [hm, hq] at hf
  obtain ⟨a, c, hv, hc1, hc2⟩ := h.row.form
  subst hv
  rw [hm] at h hc1 hn
  have HK := hd h
  have HM := hd hm
  have HQ := hd hq
  have c3 := cell_row h.box 3
  simp at c3
  have hn4 : n ≤ 4096 := by omega
  clear h hm
  rw [hq]
  clear hq
  have hnn : m = 0 ∨ ∃ g, a = some ⟨g, 0, none⟩ := by
    have := HK.out.row
    cases β with
    | none =>
      obtain ⟨h1, h2⟩ := this
      rw [h2] at HM
      exact .inl HM.out.symm
    | some g =>
      obtain ⟨cap, h1, -⟩ := this
      injection h1 with h1
      exact .inr ⟨g, h1⟩
  go_enter Try.func51, Try.ntmps51
  go_wp2_with (first | (at_make; refine wpList_make_k _ rfl _ _ 71 rfl 93 i0 _ Try.underlying71 hi0 hz0 _ _ _ _ 0 n rfl rfl (by go_num) (by go_num) (by omega) (by rw [hz2]; omega) (by omega) ?_; intro w3 cur hg3 hcur hb3; have k3 : w3.cell? ⟨x, 3, none⟩ = some (.slice a m c) := (hb3.out.cell (p := ⟨x, 3, none⟩) (block_lt HK.out.box)).trans c3; have HR := hd (row_empty (f := iT) hg3.out (by have := hcur.out; rw [hz1] at this; exact this) (by omega)); have HB := hd hb3.out; clear hg3 hcur hb3 c3) | fail)
  have S0 : Hid (TL w3 w.heap.size (.slice (some ⟨w.heap.size, 0, none⟩) 0 n) (items q (p.L.take 0)) ∧ Below w.heap.size w w3) :=
    ⟨⟨w.heap.size, ⟨n, by simp [items], by simpa [items] using HR.out⟩, Nat.le_refl _⟩, HB.out⟩
  clear HR HB k3
  go_loopw [5, 17] (fun u i wr => ∃ j : Nat, j ≤ n ∧ i = .int .i64 j ∧ Hid (TL wr w.heap.size u (items q (p.L.take j)) ∧ Below w.heap.size w wr)) (fun _ i _ => n - (intOf i).toNat)
  case atStart => exact ⟨0, Nat.zero_le _, rfl, S0⟩
  case round =>
    obtain ⟨j, hj, rfl, hr⟩ := hrel
    clear S0
    by_cases hlt : j < n
    · have K1 := HK.out.below hr.out.2
      have jL : j < p.L.length := by have := HM.out; omega
      obtain ⟨g, rfl⟩ : ∃ g, a = some ⟨g, 0, none⟩ := by
        rcases hnn with h | h
        · omega
        · exact h
      have hca : ∀ i, i < 6 → wr.cell? ⟨g, j * 6 + i, none⟩ = (eT p.L[j])[i]? := by
        intro i hi
        have hr := K1.row
        cases β with
        | none =>
          obtain ⟨h1, -⟩ := hr
          simp at h1
        | some g' =>
          obtain ⟨cap, h1, hR⟩ := hr
          injection h1 with h1 h2 h3
          injection h1 with h1
          injection h1 with h1
          subst h1
          exact hR.cell sz_eT j i jL hi
      have x1 := cell_row K1.box 1
      simp at x1
      rw [HQ.out] at x1
      have x1a := fun o => (((Below.refl wr.heap.size wr).alloc (Nat.le_refl _) o).cell (p := ⟨x, 1, none⟩) (block_lt K1.box)).trans x1
      have hl : (items q (p.L.take j)).length = j := by rw [items_len]; simp; omega
      have ext : items q (p.L.take (j + 1)) = items q (p.L.take j) ++ [((q : Int) + 1 + j, p.L[j])] := by
        rw [List.take_succ_eq_append_getElem jL, items_snoc]
        simp
        omega
      generalize p.L[j] = y at hca ext
      have l0 := hca 0 (by omega)
      have l1 := hca 1 (by omega)
      have l2 := hca 2 (by omega)
      have l3 := hca 3 (by omega)
      have l4 := hca 4 (by omega)
      have l5 := hca 5 (by omega)
      simp [eT] at l0 l1 l2 l3 l4 l5
      obtain ⟨nb, hnb⟩ : ∃ nb, nm y = nb := ⟨_, rfl⟩
      obtain ⟨ny, hny⟩ : ∃ ny, ng y = ny := ⟨_, rfl⟩
      rw [hnb] at l0
      rw [hny] at l5
      have HY := hd (And.intro hnb hny)
      obtain ⟨⟨gi, hS, hgi⟩, hB⟩ := hr.out
      obtain ⟨ai, ci, hvi, -⟩ := hS.form
      rw [hl] at hvi
      subst hvi
      have HS := hd hS
      have HG := hd hgi
      have HB := hd hB
      have HE := hd ext
      have HL := hd hl
      have ZZ : Hid (∀ U w3 a' c', Below w.heap.size w U → w.heap.size ≤ U.heap.size → NowF iT 7 U w3 93 (some gi) (.slice a' (j + 1) c') (items q (p.L.take j) ++ [((q : Int) + 1 + j, y)]) → TL w3 w.heap.size (.slice a' (j + 1) c') (items q (p.L.take (j + 1))) ∧ Below w.heap.size w w3) := by
        intro U w3 a' c' h1 h2 hN
        obtain ⟨g', h3, h4, h5⟩ := hN.out
        rw [← ext] at h3
        refine ⟨⟨g', h3, ?_⟩, h1.trans (h5.below h2 (fun k hk => by injection hk with hk; omega))⟩
        rcases h4 with h4 | h4
        · injection h4 with h4; omega
        · omega
      have i2 : (j : Int) < (n : Int) := by omega
      have ww : IntKind.i64.wrap ((q : Int) + 1) = (q : Int) + 1 := by rw [IntKind.wrap_i64]; omega
      have ww2 : IntKind.i64.wrap ((q : Int) + 1 + j) = (q : Int) + 1 + j := by rw [IntKind.wrap_i64]; omega
      have hj4 : j ≤ 4096 := by omega
      clear hca hr hS hgi hB ext hl K1 hnb hny jL
      go_wp2_with fail
      go_region_law (refine step_pushTi rfl (.tmp 22) (.tmp 32) rfl (.slice ai j ci) (wr.heap.size + 1) (by simp [Act.eval]) (by simp [Act.eval]) (some gi) (items q (p.L.take j)) wr (by repeat (first | exact Fr.refl _ _ | refine Fr.trans ?_ (Fr.alloc _ _ _) | refine Fr.trans ?_ (Fr.drew _ _) | refine Fr.trans ?_ (Fr.drewN _ _ _))) HS.out ((q : Int) + 1 + j) y (by rw [HY.out.1, HY.out.2, show wr.heap.size + 1 = (wr.alloc (.cells #[.string nb, .int .i64 0, .int .i64 y, .int .u8 0, .int .i64 0, .int .i64 ny] 63)).heap.size by simp]; exact heap_alloc_new _ _) (by rw [HL.out]; exact hj4) ?_; intro a' c' w3 hP; rw [HL.out] at hP ⊢; have Z1 := hd (ZZ.out _ w3 a' c' (by repeat (first | exact HB.out | refine Below.drew ?_ | refine below_drewN ?_ _ | refine Below.alloc ?_ (by have := HB.out.size; simp; omega) _)) (by have := HB.out.size; simp; omega) hP); clear hP)
      all_goals
        go_wp2_with fail
        refine ⟨⟨j + 1, by omega, by go_num, Z1.out.1.below ?_, Z1.out.2.trans (Below.mono (B := w3.heap.size) ?_ Z1.out.2.size)⟩, by simp [intOf]; omega⟩
        all_goals repeat (first | exact Below.refl _ _ | refine Below.drew ?_ | refine below_drewN ?_ _)
    · obtain rfl : j = n := by omega
      go_wp2
      go_ret
      exact ⟨_, rfl, hr.out⟩


end Go.Proofs.Ytocpfioifamkmaa
