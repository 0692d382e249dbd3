/-
  InboxLink.
-/
import Derived.Test.YtpjnhjijipcjkaaLk
import Derived.Deep.DeepCutAuto
namespace Go.Proofs.Ytpjnhjijipcjkaa
open Go.RowKit
set_option linter.unusedVariables false

theorem mo_new {w0 w : World} {K : Nat → Prop} {F : Nat → Thg} (h : MO w0 w K F) (i W : Nat) (h1 : 1 ≤ W) (h2 : W ≤ 4096) : Calls Try.prog 10 #[.int .i64 W] w fun e w' => ∃ x, e = .returned (.tuple #[.pointer (some ⟨x, 0, none⟩), .int .i64 0]) ∧ MO w0 w' K (setO F i (boxO x ⟨W, 0, 0, []⟩)) ∧ KP K w w' := by
  refine (new_good W w h1 h2).mono ?_
  rintro e w' ⟨x, rfl, S, h3, h4, h5⟩
  exact ⟨x, rfl, h.put i (frm_box _ _) (S' := S) h3 h4 h5, h.kp h5⟩

theorem SF.take {w : World} {g n c : Nat} {xs : List Int} (h : SF ei 1 w 3 (some g) (.slice (some ⟨g, 0, none⟩) n c) xs) (m : Nat) (hm : m ≤ xs.length) : SF ei 1 w 3 (some g) (.slice (some ⟨g, 0, none⟩) m c) (xs.take m) := by
  obtain ⟨cap, e, cur, h1, h2, h3, h4, h5, h6⟩ := h
  injection e with e1 e2 e3
  subst e3
  have hl : (xs.take m).length = m := by simp; omega
  refine ⟨c, by rw [hl], cur, h1, ?_, rfl, by omega, h5, h6⟩
  rw [hl, ← cl_take sz_ei, ← h2, List.take_take, Nat.min_eq_left (by omega)]
theorem IsL.take {w : World} {a : Option Addr} {n c : Nat} {xs : List Int} (h : IsL w (.slice a n c) xs) (m : Nat) (hm : m ≤ xs.length) : IsL w (.slice a m c) (xs.take m) := by
  obtain ⟨a', c', e, h1, h2, h3⟩ := h
  injection e with e1 e2 e3
  subst e1 e3
  have hl : (xs.take m).length = m := by simp; omega
  refine ⟨a, c, by rw [hl], by omega, h2, fun hn => ?_⟩
  obtain ⟨b, off, rfl, hb, hc⟩ := h3 (by omega)
  exact ⟨b, off, rfl, hb, fun i hi => by rw [hc i (by omega)]; simp⟩

set_option maxRecDepth 100000 in
/-- append(s, xs...) onto a row of the call, xs having come in. -/
theorem app_ints (w : World) (base : Nat) (v : Value) (n : Nat) (xs : List Value) (hown : w.ownsRow base 3 1 v n xs) (hv : v ≠ .slice none 0 0) (a2 : Option Addr) (n2 c2 : Nat) (X : Nat → Int) (hI : IsI w a2 n2 c2 X) (hb : (n + n2) * 8 ≤ 140737488355328) (hbase : base ≤ w.heap.size) :
    ∃ v' w', (∀ ty, (Builtin.append_ #[22, 22] ty #[v, .slice a2 n2 c2]).run Try.prog w = .ok v' w') ∧ w'.ownsRow base 3 1 v' (n + n2) (xs ++ (List.range n2).map (fun i => .int .i64 (X i))) ∧ w.grownBy w' v.ownBlock := by
  obtain ⟨i0, hi, hz0, hz1, hz2⟩ := info_parts Try.infoI3
  cases a2 with
  | none =>
    obtain rfl : n2 = 0 := by
      refine Nat.eq_zero_of_not_pos fun h => ?_
      obtain ⟨b, off, e, -⟩ := hI.2.2 h
      cases e
    refine ⟨v, w, fun ty => ?_, by simpa using hown, ⟨rfl, rfl, rfl, Nat.le_refl _, fun _ _ _ => rfl⟩⟩
    rcases hown.2 with ⟨rfl, -⟩ | ⟨g, cap, cur, rfl, -, hh, hnc, -, hcs, -⟩
    · exact absurd rfl hv
    · simp [Builtin.append_, run_underlying Try.underlying22, sizeOf, typeInfo, hi, Builtin.lenOf, Builtin.firstCells, storeCells, loadCells, hnc]
  | some a =>
    obtain ⟨v', w', hr, h1, h2, -⟩ := run_append_own (P := Try.prog) w base 22 0 3 i0 (.int .i64 0) 1 8 Try.underlying22 hi hz0 hz1 hz2 rfl (by decide) v n xs hown a n2 c2 ((List.range n2).map (fun i => .int .i64 (X i))) (by simp) (fun j u hj => by
      rw [List.getElem?_map] at hj
      by_cases hj1 : j < n2
      · rw [List.getElem?_range hj1] at hj
        simp at hj
        subst hj
        obtain ⟨b, off, e, -, hc⟩ := hI.2.2 (by omega)
        injection e with e
        subst e
        rw [add_lit]
        exact hc j hj1
      · rw [List.getElem?_eq_none (by simp; omega)] at hj
        cases hj) (fun u hu => by
      obtain ⟨k, -, rfl⟩ := List.mem_map.1 hu
      rfl) (by unfold maxLen; omega) hb hbase
    exact ⟨v', w', fun ty => hr, h1, h2⟩

theorem bit_all (j : Nat) : (bits BinOp.and IntKind.i64 65535 (wrap64 (2 ^ (j % 16))) != 0) = true := by
  have h : ∀ m, m < 16 → (bits BinOp.and IntKind.i64 65535 (wrap64 (2 ^ m)) != 0) = true := by decide +kernel
  exact h _ (Nat.mod_lt _ (by omega))

/-- The beginning: the objects are laid. -/
theorem link_laid {w0 w w' : World} {x y W R : Nat} {vt : Value} {T : List Int} (h : MO w0 w NoK (setO (setO noF 0 (boxO x ⟨W, 0, 0, []⟩)) 1 (inO y ⟨R, 0, []⟩))) (hb : RowKit.Below w.heap.size w w') (hT : ∃ g, SF ei 1 w' 3 (some g) vt T ∧ w.heap.size ≤ g) :
    MO w0 w' NoK (FL x ⟨W, 0, 0, []⟩ y ⟨R, 0, []⟩ (.slice none 0 0) [] vt T (.slice none 0 0) []) := by
  obtain ⟨g, hS, hg⟩ := hT
  have hlt := hS.lt g rfl
  have h1 := h.put 3 (frm_row vt T) (S' := (· = g)) ⟨some g, hS, fun k hk => by injection hk with hk; exact hk.symm, fun k hk => by rw [hk]; exact hlt⟩ (fun k hk => by rw [hk]; exact hg) hb
  have h2 := h1.put 2 (frm_row (.slice none 0 0) []) (S' := fun _ => False) (w' := w') ⟨none, ⟨rfl, rfl⟩, (fun g h => by cases h), fun k hk => hk.elim⟩ (fun k hk => hk.elim) (Below.refl _ _)
  have h3 := h2.put 4 (frm_it (.slice none 0 0) []) (S' := fun _ => False) (w' := w') ⟨none, ⟨rfl, rfl⟩, (fun g h => by cases h), fun k hk => hk.elim⟩ (fun k hk => hk.elim) (Below.refl _ _)
  refine cast ?_ h3
  congr 1
  funext j
  rcases j with _ | _ | _ | _ | _ | j <;> simp [setO, FL, noF]

set_option maxRecDepth 100000 in
set_option maxHeartbeats 16000000 in
theorem inboxLink_any (x0 x1 : Int) (a2 : Option Addr) (n2 c2 : Nat) (X : Nat → Int) (a3 : Option Addr) (n3 c3 : Nat) (Y : Nat → Int) (w : World) (hI : IsI w a2 n2 c2 X) (hJ : IsI w a3 n3 c3 Y) (hn2 : n2 * 8 ≤ 140737488351232) (hn3 : n3 * 8 ≤ 140737488351232) :
    Calls Try.prog 3 #[.int .i64 x0, .int .i64 x1, .slice a2 n2 c2, .slice a3 n3 c3] w fun e w' => e = .returned (.bool true) ∧ RowKit.Below w.heap.size w w' := by
  have HI := hd hI
  have HJ := hd hJ
  have n2c := hI.1
  have n2m := hI.2.1
  have n3c := hJ.1
  have n3m := hJ.2.1
  clear hI hJ
  go_enter Try.func3, Try.ntmps3
  go_wp2_with fail
  refine (within_any x0 1 4096 w (by omega) (by omega)).mono ?_
  rintro e w1 ⟨W, rfl, hW1, hW2, rfl⟩
  go_wp2_with fail
  refine (within_any x1 1 4096 w1 (by omega) (by omega)).mono ?_
  rintro e w2 ⟨R, rfl, hR1, hR2, rfl⟩
  go_wp2_with fail
  refine (mo_new (MO.nil' w2) 0 W hW1 hW2).mono ?_
  rintro e w3 ⟨x, rfl, h3, -⟩
  have M3 := hd h3
  clear h3
  go_wp2_with fail
  refine (mi_new M3.out 1 R hR1 hR2).mono ?_
  rintro e w4 ⟨y, rfl, h4, -⟩
  have M4 := hd h4
  clear h4 M3
  have hnew : (w4.alloc (.cells #[.int .i64 41, .int .i64 42] 3)).heap[w4.heap.size]? = some (.cells #[.int .i64 41, .int .i64 42] 3 (0, 0)) := heap_alloc_new _ _
  have hown : (w4.alloc (.cells #[.int .i64 41, .int .i64 42] 3)).ownsRow w4.heap.size 3 1 (.slice (some ⟨w4.heap.size, 0, none⟩) 2 2) 2 [.int .i64 41, .int .i64 42] :=
    ⟨rfl, .inr ⟨w4.heap.size, 2, _, rfl, Nat.le_refl _, hnew, Nat.le_refl _, by unfold maxLen; omega, rfl, rfl⟩⟩
  have hbA : RowKit.Below w4.heap.size w4 (w4.alloc (.cells #[.int .i64 41, .int .i64 42] 3)) := (Below.refl _ _).alloc (Nat.le_refl _) _
  obtain ⟨v5, w5, hap, hown5, hgr5⟩ := app_ints _ w4.heap.size _ 2 _ hown (by simp) a2 n2 c2 X ((HI.out.below M4.out.base (Nat.le_refl _)).below hbA (Nat.le_refl _)) (by omega) (by simp)
  have hb5 : RowKit.Below w4.heap.size w4 w5 := hbA.grown hgr5 (by simp) (fun k e => by simp [Value.ownBlock] at e; omega)
  have hT0 : ∃ g c, v5 = .slice (some ⟨g, 0, none⟩) (2 + n2) c ∧ 2 + n2 ≤ c ∧ c ≤ 9223372036854775807 ∧ SF ei 1 w5 3 (some g) v5 ([41, 42] ++ (List.range n2).map X) ∧ w4.heap.size ≤ g := by
    have hl : ([41, 42] ++ (List.range n2).map X).length = 2 + n2 := by simp; omega
    have ho : w5.ownsRow w4.heap.size 3 1 v5 ([41, 42] ++ (List.range n2).map X).length (([41, 42] ++ (List.range n2).map X).map encZ) := by
      rw [hl]
      have he : ([41, 42] ++ (List.range n2).map X).map encZ = [.int .i64 41, .int .i64 42] ++ (List.range n2).map (fun i => .int .i64 (X i)) := by simp
      rw [he]
      exact hown5
    obtain ⟨β, hS, hg⟩ := sf_of_owns ho
    cases β with
    | none =>
      obtain ⟨-, h⟩ := hS
      simp at h
    | some g =>
      have hS' := hS
      obtain ⟨c, hv, cur, -, -, -, h1, h2, -⟩ := hS
      rw [hl] at hv h1
      exact ⟨g, c, hv, h1, h2, hS', hg g rfl⟩
  obtain ⟨gT, cT, rfl, hcT1, hcT2, hST, hgT⟩ := hT0
  have ST := hd (And.intro hST hgT)
  have HB5 := hd hb5
  clear hnew hown hbA hown5 hgr5 hST hgT hb5
  go_upto_if 61 with (at_builtin; refine wpList_append_k _ rfl _ _ 22 22 rfl _ _ rfl rfl (hap _) ?_)
  go_cut [2] (fun v wx => ∃ N : Nat, v = .slice (some ⟨gT, 0, none⟩) N cT ∧ 2 ≤ N ∧ N ≤ 4096 ∧ N ≤ cT ∧ wx = w5 ∧ Hid (∃ T : List Int, T.length = N ∧ SF ei 1 w5 3 (some gT) (.slice (some ⟨gT, 0, none⟩) N cT) T))
  case first =>
    by_cases hgt : (4096 : Int) < 2 + (n2 : Int)
    · have hb1 : 4096 ≤ cT := by omega
      go_wp2_with fail
      go_meet
      refine ⟨4096, rfl, by omega, by omega, by omega, rfl, ([41, 42] ++ (List.range n2).map X).take 4096, by simp; omega, ST.out.1.take 4096 (by simp; omega)⟩
    · go_wp2_with fail
      go_meet
      exact ⟨2 + n2, rfl, by omega, by omega, by omega, rfl, _, by simp; omega, ST.out.1⟩
  case rest =>
  obtain ⟨N, rfl, hN1, hN2, hN3, hwc, HT⟩ := hcut
  subst hwc
  obtain ⟨T, hTN, hTS⟩ := HT.out
  have S0 : Hid (∃ o p G vd D, MO w2 wc NoK (FL x o y p (.slice none 0 0) G (.slice (some ⟨gT, 0, none⟩) N cT) T vd D) ∧ LI T W R 0 o p ∧ G = T.take p.c ∧ G.length = 0 ∧ p.hd = false ∧ min (0 - n3) N ≤ o.a) :=
    ⟨_, _, _, _, _, link_laid M4.out HB5.out ⟨gT, hTS, ST.out.2⟩, ⟨rfl, rfl, by simp, Nat.le_refl _, Nat.zero_le _, by omega, Nat.le_refl _, Nat.le_refl _, by simp⟩, by simp, by simp, rfl, by omega⟩
  have HTN := hd hTN
  clear HT hTS M4 HB5 ST hap hTN hcT1
  have wN : IntKind.i64.wrap (2 * (N : Int)) = 2 * (N : Int) := by rw [IntKind.wrap_i64]; omega
  have wM : IntKind.i64.wrap ((n3 : Int) + 2 * (N : Int)) = (n3 : Int) + 2 * (N : Int) := by rw [IntKind.wrap_i64]; omega
  go_wp2_with fail
  go_loopw [15, 16, 18] (fun vp vg vk wr => ∃ k P m : Nat, k ≤ n3 + 2 * N ∧ P ≤ N ∧ vk = .int .i64 k ∧ vp = .int .i64 P ∧ ∃ ag cg, vg = .slice ag m cg ∧ Hid (∃ o p G vd D, MO w2 wr NoK (FL x o y p (.slice ag m cg) G (.slice (some ⟨gT, 0, none⟩) N cT) T vd D) ∧ LI T W R P o p ∧ G = T.take p.c ∧ G.length = m ∧ p.hd = false ∧ min (k - n3) N ≤ o.a)) (fun _ _ vk _ => n3 + 2 * N - (intOf vk).toNat)
  case atStart => exact ⟨0, 0, 0, by omega, by omega, rfl, rfl, none, 0, rfl, S0⟩
  case round =>
    obtain ⟨k, P, m, hk, hP, rfl, rfl, ag, cg, rfl, HM⟩ := hrel
    clear S0
    by_cases hlt : k < n3 + 2 * N
    · have i1 : (k : Int) < (n3 : Int) + 2 * (N : Int) := by omega
      go_upto_if 77 with fail
      go_cut [19] (fun v wx => ∃ cc : Int, v = .int .i64 cc ∧ (n3 ≤ k → cc = 65535) ∧ wx = wr)
      case first =>
        by_cases hk3 : (k : Int) < (n3 : Int)
        · obtain ⟨o, p, G, vd, D, h1, -⟩ := HM.out
          obtain ⟨b, off, rfl, hcell⟩ := isI_cell (HJ.out.below h1.base (Nat.le_refl _)) (show k < n3 by omega)
          generalize Y k = yy at hcell
          clear h1 HM
          go_wp2_with fail
          go_meet
          exact ⟨yy, rfl, fun h => by omega, rfl⟩
        · clear HM
          go_wp2_with fail
          go_meet
          exact ⟨65535, rfl, fun h => rfl, rfl⟩
      case rest =>
      obtain ⟨cc, rfl, hcc, hwc⟩ := hcut
      subst hwc
      have S2 : Hid (∃ o p G vd D, MO w2 wc NoK (FL x o y p (.slice ag m cg) G (.slice (some ⟨gT, 0, none⟩) N cT) T vd D) ∧ LI T W R (P + 0) o p ∧ G = T.take p.c ∧ G.length = m ∧ p.hd = false ∧ min (k - n3) N ≤ o.a ∧ o.a ≤ P) := by
        obtain ⟨o, p, G, vd, D, h1, h2, h3, h4, h5, h6⟩ := HM.out
        exact ⟨o, p, G, vd, D, h1, h2, h3, h4, h5, h6, h2.aP⟩
      clear HM
      go_wp2_with fail
      go_loopw [15, 20] (fun vp vi wr => ∃ i : Nat, i ≤ 3 ∧ P + i ≤ N ∧ vi = .int .i64 i ∧ vp = .int .i64 ((P + i : Nat) : Int) ∧ Hid (∃ o p G vd D, MO w2 wr NoK (FL x o y p (.slice ag m cg) G (.slice (some ⟨gT, 0, none⟩) N cT) T vd D) ∧ LI T W R (P + i) o p ∧ G = T.take p.c ∧ G.length = m ∧ p.hd = false ∧ min (k - n3) N ≤ o.a ∧ o.a ≤ P)) (fun _ vi _ => 3 - (intOf vi).toNat)
      case atStart => exact ⟨0, by omega, by omega, rfl, rfl, S2⟩
      case round =>
        obtain ⟨i, hi, hPi, rfl, rfl, HM⟩ := hrel
        clear S2
        go_upto_region 20 with fail
        go_cut [89] (fun v wx => v = .bool (decide ((i : Int) < 3 ∧ ((P + i : Nat) : Int) < (N : Int))) ∧ wx = wr)
        case first =>
          clear HM
          by_cases i1 : (i : Int) < 3 <;> by_cases i2 : ((P + i : Nat) : Int) < (N : Int)
          all_goals
            go_wp2_with fail
            go_meet
            refine ⟨?_, rfl⟩
            simp at i1 i2
            simp
            try omega
        case rest =>
        obtain ⟨rfl, hwc⟩ := hcut
        subst hwc
        by_cases hh : i < 3 ∧ P + i < N
        · as_aux_lemma =>
            obtain ⟨hi3, hpn⟩ := hh
            rw [decide_eq_true (by omega)]
            obtain ⟨o, p, G, vd, D, h1, h2, h3⟩ := HM.out
            have hT : wc.cell? ⟨gT, P + i, none⟩ = some (.int .i64 (T[P + i]'(by have := HTN.out; omega))) := by
              obtain ⟨a', c', e, -, -, q⟩ := (lk_got h1).2
              injection e with e1 e2 e3
              subst e1
              obtain ⟨b, off, e, -, hc⟩ := q (by have := HTN.out; omega)
              injection e with e
              injection e with e4 e5
              subst e4 e5
              rw [← hc (P + i) (by have := HTN.out; omega), Nat.zero_add]
            obtain ⟨q1, q2, q3⟩ := h2.push (lk_ok h1).1 (show P + i < T.length by have := HTN.out; omega)
            generalize (T[P + i]'(by have := HTN.out; omega)) = tz at hT q3
            have H1 := hd (And.intro h1 (And.intro q1 (And.intro q2 (And.intro q3 h3))))
            clear h1 h2 h3 q1 q2 q3 HM
            have wP : IntKind.i64.wrap (((P + i : Nat) : Int) + 1) = ((P + i : Nat) : Int) + 1 := by rw [IntKind.wrap_i64]; omega
            go_wp2_with fail
            refine (lk_push H1.out.1 tz).mono ?_
            rintro e w6 ⟨rfl, h6, -⟩
            rw [H1.out.2.1, H1.out.2.2.1]
            have Z : Hid (∃ o p G vd D, MO w2 w6 NoK (FL x o y p (.slice ag m cg) G (.slice (some ⟨gT, 0, none⟩) N cT) T vd D) ∧ LI T W R (P + (i + 1)) o p ∧ G = T.take p.c ∧ G.length = m ∧ p.hd = false ∧ min (k - n3) N ≤ o.a ∧ o.a ≤ P) := by
              obtain ⟨h1, q1, q2, q3, r1, r2, r3, r4⟩ := H1.out
              refine ⟨_, _, _, _, _, h6, q3, r1, r2, r3, ?_⟩
              have : (pushS o tz).a = o.a := by unfold pushS; split <;> rfl
              rw [this]
              exact r4
            clear h6 H1 hT
            go_wp2_with fail
            exact ⟨⟨i + 1, by omega, by omega, by go_num, by go_num, Z⟩, by simp [intOf]; omega⟩
        · as_aux_lemma =>
            rw [decide_eq_false (by omega)]
            obtain ⟨o, p, G, vd, D, h1, h2, h3, h4, h5, h6, h6P⟩ := HM.out
            have hok := lk_ok h1
            have hdl : (dueL o).length = min W (P + i - o.a) := by
              have q1 := h2.len
              have q2 := h2.win
              unfold dueL
              rw [items_len]
              simp [dueN, q1, q2]
            have HIt := hd (h2.item hok.1)
            have haP := h2.aP
            have H1 := hd (And.intro h1 (And.intro h2.due (And.intro h3 (And.intro h4 (And.intro h5 (And.intro h2.ac h6))))))
            obtain ⟨a, ha⟩ : ∃ a, o.a = a := ⟨_, rfl⟩
            rw [ha] at hdl haP
            have hmin : min (k - n3) N ≤ a := ha ▸ h6
            have haPP : a ≤ P := ha ▸ h6P
            have HA := hd ha
            clear h1 h2 h3 h4 h5 h6 h6P HM hok ha
            go_wp2_with fail
            refine (lk_due H1.out.1).mono ?_
            rintro e w6 ⟨u, rfl, h7⟩
            obtain ⟨ad, cd, rfl, hcd1, hcd2, hcell⟩ := lk_item h7
            obtain ⟨dn, hdn⟩ : ∃ dn, (dueL o).length = dn := ⟨_, rfl⟩
            have S3 : Hid (∃ p G, MO w2 w6 NoK (FL x (dueS o) y p (.slice ag m cg) G (.slice (some ⟨gT, 0, none⟩) N cT) T (.slice ad dn cd) (dueL o)) ∧ LI T W R (P + i) (dueS o) p ∧ G = T.take p.c ∧ G.length = m ∧ p.hd = false ∧ (n3 ≤ k → a + 0 ≤ p.c) ∧ a ≤ p.c) := by
              obtain ⟨h1, h2, h3, h4, h5, h6, -⟩ := H1.out
              rw [hdn] at h7
              have := HA.out
              exact ⟨_, _, h7, h2, h3, h4, h5, fun _ => by omega, by omega⟩
            have HDW : Hid (dn = min W (P + i - a)) := by show _ = _; omega
            have hdW1 : dn ≤ W := by have := HDW.out; omega
            have hdW2 : dn ≤ 4096 := by omega
            have hdW3 : decide (W < dn) = false := by simp; omega
            have hdW4 : decide ((W : Int) < (dn : Int)) = false := by simp; omega
            have HDN := hd hdn
            have H7 : Hid (dueS o).ok := (lk_ok h7).1
            rw [hdn] at hcd1 ⊢
            clear hcell h7 hdl hdn H1
            generalize hD : dueL o = D at S3 HIt HDN
            generalize hO : dueS o = o1 at S3 HIt H7
            have HAO : Hid (o.a = a) := HA.out
            have HA1 : Hid (o1.a = a) := by rw [← hO]; exact HA.out
            clear hD hO HA
            go_wp2_with fail
            go_loopw [16, 24] (fun vg vj wr => ∃ j m : Nat, j ≤ dn ∧ vj = .int .i64 j ∧ ∃ ag cg, vg = .slice ag m cg ∧ Hid (∃ p G, MO w2 wr NoK (FL x o1 y p (.slice ag m cg) G (.slice (some ⟨gT, 0, none⟩) N cT) T (.slice ad dn cd) D) ∧ LI T W R (P + i) o1 p ∧ G = T.take p.c ∧ G.length = m ∧ p.hd = false ∧ (n3 ≤ k → a + j ≤ p.c) ∧ a ≤ p.c)) (fun _ vj _ => dn - (intOf vj).toNat)
            case atStart => exact ⟨0, m, Nat.zero_le _, rfl, ag, cg, rfl, S3⟩
            case round =>
              clear S3
              obtain ⟨j, m', hj, rfl, ag', cg', rfl, HM⟩ := hrel
              by_cases hjl : j < dn
              · have j1 : (j : Int) < (dn : Int) := by omega
                obtain ⟨p, G, h1, h2⟩ := HM.out
                obtain ⟨ad', cd', e, -, -, hcell⟩ := lk_item h1
                have hcell' : ∀ l, l < dn → ∃ g n z, ad = some ⟨g, 0, none⟩ ∧ wr.cell? ⟨g, l * 2, none⟩ = some (.int .i64 ((n : Nat) : Int)) ∧ wr.cell? ⟨g, l * 2 + 1, none⟩ = some (.int .i64 z) ∧ n = a + 1 + l ∧ n ≤ o1.s ∧ T[n - 1]? = some z := by
                  intro l hl
                  have hl' : l < D.length := by have := HDN.out; omega
                  obtain ⟨g, e1, q1, q2⟩ := hcell l hl'
                  injection e with e2 e3 e4
                  rw [← e2] at e1
                  obtain ⟨n, r1, r2, r3, r4⟩ := HIt.out l hl'
                  exact ⟨g, n, _, e1, by rw [q1, r1], q2, by rw [r2, HAO.out], r3, r4⟩
                have H1 := hd (And.intro h1 h2)
                have HCl := hd hcell'
                obtain ⟨g, n0, z0, rfl, q0, q1, hn0, hs0, hz0⟩ := hcell' j hjl
                obtain ⟨g', n9, z9, e9, q8, q9, hn9, hs9, hz9⟩ := hcell' (dn - 1 - j) (by omega)
                injection e9 with e9
                injection e9 with e9
                subst e9
                have HZ := hd (And.intro hn0 (And.intro hs0 (And.intro hz0 (And.intro hn9 (And.intro hs9 hz9)))))
                clear h1 h2 hcell hcell' HM HCl hn0 hs0 hz0 hn9 hs9 hz9 e
                have wd1 : IntKind.i64.wrap ((dn : Int) - 1) = (dn : Int) - 1 := by rw [IntKind.wrap_i64]; omega
                have wd2 : IntKind.i64.wrap ((dn : Int) - 1 - j) = ((dn - 1 - j : Nat) : Int) := by rw [IntKind.wrap_i64]; omega
                have wj : dn - 1 - j < dn := by omega
                have SA : Hid (∀ ob, ∃ p G, MO w2 (wr.alloc ob) (· = wr.heap.size) (FL x o1 y p (.slice ag' m' cg') G (.slice (some ⟨gT, 0, none⟩) N cT) T (.slice (some ⟨g, 0, none⟩) dn cd) D) ∧ LI T W R (P + i) o1 p ∧ G = T.take p.c ∧ G.length = m' ∧ p.hd = false ∧ (n3 ≤ k → a + j ≤ p.c) ∧ a ≤ p.c) := by
                  intro ob
                  obtain ⟨h1, h2⟩ := H1.out
                  exact ⟨_, _, h1.adds ((Below.refl _ _).alloc (Nat.le_refl _) _) (fun k hk => .inr (by omega)) (fun k hk => by rw [hk]; simp), h2⟩
                have r8 : ∀ ob, (wr.alloc ob).cell? ⟨g, (dn - 1 - j) * 2, none⟩ = some (.int .i64 n9) := fun ob => by
                  rw [((Below.refl wr.heap.size wr).alloc (Nat.le_refl _) ob).cell (p := ⟨g, (dn - 1 - j) * 2, none⟩) (World.block_lt_of_cell? _ _ q8)]
                  exact q8
                have r9 : ∀ ob, (wr.alloc ob).cell? ⟨g, (dn - 1 - j) * 2 + 1, none⟩ = some (.int .i64 z9) := fun ob => by
                  rw [((Below.refl wr.heap.size wr).alloc (Nat.le_refl _) ob).cell (p := ⟨g, (dn - 1 - j) * 2 + 1, none⟩) (World.block_lt_of_cell? _ _ q9)]
                  exact q9
                clear H1
                go_upto_if 128 with fail
                go_cut [] (fun wx => Hid (∃ (n : Nat) (z : Int), n ≤ o1.s ∧ T[n - 1]? = some z ∧ (n3 ≤ k → n = a + 1 + j) ∧ wx.heap[wr.heap.size]? = some (.cells #[.int .i64 n, .int .i64 z] 36 (0, 0)) ∧ ∃ p G, MO w2 wx (· = wr.heap.size) (FL x o1 y p (.slice ag' m' cg') G (.slice (some ⟨gT, 0, none⟩) N cT) T (.slice (some ⟨g, 0, none⟩) dn cd) D) ∧ LI T W R (P + i) o1 p ∧ G = T.take p.c ∧ G.length = m' ∧ p.hd = false ∧ (n3 ≤ k → a + j ≤ p.c) ∧ a ≤ p.c))
                case first =>
                  cases hb : (bits BinOp.and IntKind.i64 cc 1048576 != 0)
                  · go_wp2_with fail
                    go_meet
                    obtain ⟨s1, s2, s3, -⟩ := HZ.out
                    exact ⟨n0, z0, s2, s3, fun _ => s1, heap_alloc_new _ _, SA.out _⟩
                  · have hk3 : ¬ n3 ≤ k := fun hk => by
                      rw [hcc hk] at hb
                      revert hb
                      decide
                    go_wp2_with fail
                    go_meet
                    obtain ⟨-, -, -, s1, s2, s3⟩ := HZ.out
                    exact ⟨n9, z9, s2, s3, fun h => absurd h hk3, heap_alloc_new _ _, SA.out _⟩
                case rest =>
                clear SA HZ r8 r9 q0 q1 q8 q9
                obtain ⟨n, z, hns, hTz, hnk, hbl, SB⟩ := hcut.out
                have d0 := cell_row hbl 0
                have d1 := cell_row hbl 1
                simp at d0 d1
                have SB' := hd SB
                have HBL := hd hbl
                have HNS := hd (And.intro hns hTz)
                clear hcut SB hbl hns hTz
                go_upto_if 142 with fail
                go_cut [] (fun wx => Hid (∃ p G, MO w2 wx NoK (FL x o1 y p (.slice ag' m' cg') G (.slice (some ⟨gT, 0, none⟩) N cT) T (.slice (some ⟨g, 0, none⟩) dn cd) D) ∧ LI T W R (P + i) o1 p ∧ G = T.take p.c ∧ G.length = m' ∧ (n3 ≤ k → a + j ≤ p.c ∧ (a + j + 1 ≤ p.c ∨ p.hd = true)) ∧ a ≤ p.c))
                case first =>
                  obtain ⟨p, G, h1, h2, h3, h4, h5, h6, h7⟩ := SB'.out
                  have hok := lk_ok h1
                  cases hb : (bits BinOp.and IntKind.i64 cc (wrap64 (2 ^ (j % 16))) != 0)
                  · have hk3 : ¬ n3 ≤ k := fun hk => by
                      rw [hcc hk, bit_all] at hb
                      cases hb
                    have Z : Hid (∃ p G, MO w2 wc NoK (FL x o1 y p (.slice ag' m' cg') G (.slice (some ⟨gT, 0, none⟩) N cT) T (.slice (some ⟨g, 0, none⟩) dn cd) D) ∧ LI T W R (P + i) o1 p ∧ G = T.take p.c ∧ G.length = m' ∧ (n3 ≤ k → a + j ≤ p.c ∧ (a + j + 1 ≤ p.c ∨ p.hd = true)) ∧ a ≤ p.c) :=
                      ⟨p, G, h1.less (fun k hk => hk.elim), h2, h3, h4, fun h => absurd h hk3, h7⟩
                    clear h1 h2 h3 h4 h5 h6 h7 hok SB'
                    go_wp2_with fail
                    go_meet
                    exact Z
                  · as_aux_lemma =>
                      have HH := hd (And.intro h1 (And.intro h2 (And.intro h3 (And.intro h4 (And.intro h5 (And.intro h6 h7))))))
                      have HP := hd hok.2
                      clear h1 h2 h3 h4 h5 h6 h7 hok SB'
                      go_wp2_with fail
                      refine (lk_put HH.out.1 n z).mono ?_
                      rintro e w7 ⟨rfl, k7, kk7⟩
                      have hb7 := (kk7 _ rfl).trans HBL.out
                      have d0' := cell_row hb7 0
                      simp at d0'
                      have Z : Hid (∃ p' G, MO w2 w7 (· = wr.heap.size) (FL x o1 y p' (.slice ag' m' cg') G (.slice (some ⟨gT, 0, none⟩) N cT) T (.slice (some ⟨g, 0, none⟩) dn cd) D) ∧ p' = iputS p n (.int .i64 z) ∧ LI T W R (P + i) o1 p' ∧ G = T.take p'.c ∧ G.length = m' ∧ (n3 ≤ k → a + j ≤ p'.c ∧ (a + j + 1 ≤ p'.c ∨ p'.hd = true)) ∧ a ≤ p'.c) := by
                        obtain ⟨h1, h2, h3, h4, h5, h6, h7⟩ := HH.out
                        have hcp : (iputS p n (.int .i64 z)).c = p.c := by unfold iputS; split <;> rfl
                        refine ⟨_, G, k7, rfl, h2.put n z HNS.out.1 HNS.out.2, by rw [hcp]; exact h3, h4, fun hk => ?_, by rw [hcp]; exact h7⟩
                        have e1 := hnk hk
                        have e2 := h6 hk
                        rw [hcp]
                        refine ⟨e2, ?_⟩
                        by_cases hc : a + j + 1 ≤ p.c
                        · exact .inl hc
                        · right
                          have e3 : n = p.c + 1 := by omega
                          unfold Ib.hd
                          rw [hcp, e3]
                          have h48 := HNS.out.1
                          have hok1 := (lk_ok h1).1
                          have hfew := hok1.few
                          have hsl := hok1.sl
                          exact put_next HP.out _ (by omega)
                      clear k7 kk7 hb7 HH
                      cases hc : (bits BinOp.and IntKind.i64 cc 2097152 != 0)
                      · go_wp2_with fail
                        go_meet
                        obtain ⟨p', G, q1, -, q2⟩ := Z.out
                        exact ⟨p', G, q1.less (fun k hk => hk.elim), q2⟩
                      · go_wp2_with fail
                        obtain ⟨p', G', q1, q2, q3⟩ := Z.out
                        refine (lk_put q1 n (-1)).mono ?_
                        rintro e w8 ⟨rfl, k8, -⟩
                        rw [q2, put_again, ← q2] at k8
                        have Y : Hid (∃ p G, MO w2 w8 NoK (FL x o1 y p (.slice ag' m' cg') G (.slice (some ⟨gT, 0, none⟩) N cT) T (.slice (some ⟨g, 0, none⟩) dn cd) D) ∧ LI T W R (P + i) o1 p ∧ G = T.take p.c ∧ G.length = m' ∧ (n3 ≤ k → a + j ≤ p.c ∧ (a + j + 1 ≤ p.c ∨ p.hd = true)) ∧ a ≤ p.c) := ⟨p', G', k8.less (fun k hk => hk.elim), q3⟩
                        clear q1 q2 q3 k8 Z
                        go_wp2_with fail
                        go_meet
                        exact Y
                case rest =>
                clear SB' HBL HNS d0 d1 hnk
                obtain ⟨p, G, h1, h2, h3, h4, h5, h6⟩ := hcut.out
                have H1 := hd (And.intro h1 (And.intro h2 (And.intro h3 (And.intro h4 (And.intro h5 h6)))))
                clear h1 h2 h3 h4 h5 h6 hcut
                go_wp2_with fail
                refine (lk_head H1.out.1).mono ?_
                rintro e w7 ⟨rfl, k7, -⟩
                have S4 : Hid (∃ p' G, MO w2 w7 NoK (FL x o1 y p' (.slice ag' m' cg') G (.slice (some ⟨gT, 0, none⟩) N cT) T (.slice (some ⟨g, 0, none⟩) dn cd) D) ∧ LI T W R (P + i) o1 p' ∧ G = T.take p'.c ∧ G.length = m' ∧ (n3 ≤ k → a + j ≤ p'.c ∧ (a + j + 1 ≤ p'.c ∨ p'.hd = true)) ∧ a ≤ p'.c ∧ atK p.H (p.c + 1) iz = atK p'.H (p'.c + 1) iz ∧ p.hd = p'.hd) := by
                  obtain ⟨h1, h2, h3, h4, h5, h6⟩ := H1.out
                  exact ⟨p, G, k7, h2, h3, h4, h5, h6, rfl, rfl⟩
                clear k7 H1
                generalize atK p.H (p.c + 1) iz = hv at S4
                generalize p.hd = hbb at S4
                obtain ⟨yv, rfl⟩ : ∃ yv : Int, hv = .int .i64 yv := by
                  obtain ⟨p', G, h1, h2, h3, h4, h5, h6, rfl, rfl⟩ := S4.out
                  cases hh : p'.hd
                  · exact ⟨0, atK_none hh⟩
                  · obtain ⟨-, -, -, z, q, -⟩ := h2.pop hh
                    exact ⟨z, q⟩
                go_wp2_with fail
                go_loopw [16, 26, 27] (fun vg v b wr => ∃ (m : Nat) (ag : Option Addr) (cg : Nat) (yv : Int) (hb : Bool), vg = .slice ag m cg ∧ v = .int .i64 yv ∧ b = .bool hb ∧ Hid (∃ p' G, MO w2 wr NoK (FL x o1 y p' (.slice ag m cg) G (.slice (some ⟨gT, 0, none⟩) N cT) T (.slice (some ⟨g, 0, none⟩) dn cd) D) ∧ LI T W R (P + i) o1 p' ∧ G = T.take p'.c ∧ G.length = m ∧ (n3 ≤ k → a + j ≤ p'.c ∧ (a + j + 1 ≤ p'.c ∨ p'.hd = true)) ∧ a ≤ p'.c ∧ .int .i64 yv = atK p'.H (p'.c + 1) iz ∧ hb = p'.hd)) (fun _ _ _ wr => 4097 - cumAt wr y)
                case atStart => exact ⟨m', ag', cg', yv, hbb, rfl, rfl, rfl, S4⟩
                case round =>
                  clear S4
                  obtain ⟨m4, ag4, cg4, yv, hb, rfl, rfl, rfl, HC⟩ := hrel
                  cases hb
                  · as_aux_lemma =>
                      have Z : Hid (∃ p G, MO w2 wr NoK (FL x o1 y p (.slice ag4 m4 cg4) G (.slice (some ⟨gT, 0, none⟩) N cT) T (.slice (some ⟨g, 0, none⟩) dn cd) D) ∧ LI T W R (P + i) o1 p ∧ G = T.take p.c ∧ G.length = m4 ∧ p.hd = false ∧ (n3 ≤ k → a + (j + 1) ≤ p.c) ∧ a ≤ p.c) := by
                        obtain ⟨p', G, h1, h2, h3, h4, h5, h6, -, h7⟩ := HC.out
                        exact ⟨p', G, h1, h2, h3, h4, h7.symm, fun hk => by
                          (rcases (h5 hk).2 with h | h
                           · omega
                           · rw [← h7] at h; cases h), h6⟩
                      clear HC
                      go_wp2_with fail
                      exact ⟨⟨j + 1, m4, by omega, by go_num, ag4, cg4, rfl, Z⟩, by simp [intOf]; omega⟩
                  · as_aux_lemma =>
                      obtain ⟨p', G, h1, h2, h3, h4, h5, h6, h7, h8⟩ := HC.out
                      obtain ⟨q1, q2, q3, zz, q4, q5⟩ := h2.pop h8.symm
                      rw [q4] at h7
                      injection h7 with h7a h7b
                      subst h7b
                      have hcum := lk_cumc h1
                      have hok1 := lk_ok h1
                      have hfew := hok1.1.few
                      have hsl := hok1.1.sl
                      have hpt : p'.c < T.length := by
                        have := h2.sP hok1.1
                        have := h2.pT
                        omega
                      have hm4 : m4 = p'.c := by rw [← h4, h3]; simp; omega
                      have hmN : m4 < N := by rw [hm4, ← HTN.out]; exact hpt
                      have hm4N : ¬ ((N : Int) < (m4 : Int)) := by omega
                      clear hm4
                      have H1 := hd (And.intro h1 (And.intro q1 (And.intro q2 (And.intro h3 (And.intro h4 (And.intro h6 (And.intro h8 (And.intro q5 (And.intro hpt (And.intro hcum h5))))))))))
                      clear h1 h2 h3 h4 h5 h6 h8 q1 q2 q3 q4 q5 HC hok1 hfew hsl hpt hcum
                      go_wp2_with fail
                      refine (lk_pop H1.out.1).mono ?_
                      rintro e w8 ⟨rfl, k8, -⟩
                      rw [itossE_of H1.out.2.2.2.2.2.2.1.symm]
                      have k9 := k8.below ((Below.refl _ _).alloc (Nat.le_refl _) (.cells #[.int .i64 yv] 3))
                      have hG1 : G.length ≤ 100000 := by rw [H1.out.2.2.2.2.1]; omega
                      obtain ⟨v', w9, hap, M9, -⟩ := lk_grow k9 w8.heap.size yv (heap_alloc_new _ _) hG1
                      obtain ⟨a9, c9, rfl, -⟩ := (lk_got M9).1
                      have hl9 : (G ++ [yv]).length = m4 + 1 := by rw [List.length_append, H1.out.2.2.2.2.1]; rfl
                      rw [hl9] at hap M9
                      have H9 := hd (And.intro M9 hl9)
                      clear k8 k9 M9 hl9 hG1
                      go_wp2_with (at_builtin; refine wpList_append_k _ rfl _ _ 22 22 rfl _ _ rfl rfl (hap _) ?_)
                      refine (lk_head H9.out.1).mono ?_
                      rintro e w10 ⟨rfl, k10, -⟩
                      have hcum2 := lk_cumc k10
                      have Z : Hid (∃ p2 G, MO w2 w10 NoK (FL x o1 y p2 (.slice a9 (m4 + 1) c9) G (.slice (some ⟨gT, 0, none⟩) N cT) T (.slice (some ⟨g, 0, none⟩) dn cd) D) ∧ LI T W R (P + i) o1 p2 ∧ G = T.take p2.c ∧ G.length = m4 + 1 ∧ (n3 ≤ k → a + j ≤ p2.c ∧ (a + j + 1 ≤ p2.c ∨ p2.hd = true)) ∧ a ≤ p2.c ∧ atK (ipopS p').H ((ipopS p').c + 1) iz = atK p2.H (p2.c + 1) iz ∧ (ipopS p').hd = p2.hd) := by
                        obtain ⟨h1, q1, q2, h3, h4, h6, h8, q5, hpt, -, h5⟩ := H1.out
                        refine ⟨_, _, k10, q1, ?_, H9.out.2, fun hk => ⟨by rw [q2]; have := (h5 hk).1; omega, .inl (by rw [q2]; have := (h5 hk).1; omega)⟩, by rw [q2]; omega, rfl, rfl⟩
                        rw [q2, h3, List.take_succ_eq_append_getElem hpt]
                        rw [List.getElem?_eq_getElem hpt] at q5
                        injection q5 with q5
                        rw [q5]
                      have M : Hid (4097 - cumAt w10 y < 4097 - cumAt wr y) := by
                        show _ < _
                        obtain ⟨h1, q1, q2, h3, h4, h6, h8, q5, hpt, hcum, h5⟩ := H1.out
                        rw [hcum2, hcum, q2]
                        have := q1.t4
                        omega
                      clear k10 H1 H9 hcum2 hap
                      generalize atK (ipopS p').H ((ipopS p').c + 1) iz = hv at Z
                      generalize (ipopS p').hd = hbb at Z
                      obtain ⟨yv2, rfl⟩ : ∃ yv : Int, hv = .int .i64 yv := by
                        obtain ⟨p', G, h1, h2, h3, h4, h5, h6, rfl, rfl⟩ := Z.out
                        cases hh : p'.hd
                        · exact ⟨0, atK_none hh⟩
                        · obtain ⟨-, -, -, z, q, -⟩ := h2.pop hh
                          exact ⟨z, q⟩
                      go_wp2_with fail
                      exact ⟨⟨m4 + 1, a9, c9, yv2, hbb, by go_num, rfl, rfl, Z⟩, M.out⟩
              · as_aux_lemma =>
                  have j1 : ¬ (j : Int) < (dn : Int) := by omega
                  obtain rfl : j = dn := by omega
                  obtain ⟨p, G, h1, h2, h3, h4, h5, h6, h7⟩ := HM.out
                  have hok := lk_ok h1
                  have hcT : p.c ≤ T.length := by
                    have q1 := h2.sP hok.1
                    have q2 := h2.pT
                    have q3 := h2.cs
                    omega
                  have hm' : m' = p.c := by rw [← h4, h3]; simp; omega
                  have hmP : m' ≤ P + i := by
                    have q1 := h2.sP hok.1
                    have q3 := h2.cs
                    omega
                  have hmN : m' ≤ N := by omega
                  have hmc : m' ≤ cT := by omega
                  have hgot := (lk_got h1).1
                  have hthi := (lk_got h1).2
                  have hthi' := hthi.take m' (by have := HTN.out; omega)
                  rw [h3, ← hm'] at hgot
                  have HG := hd (And.intro hgot hthi')
                  have HK := hd (And.intro h1 (And.intro h2 (And.intro h3 (And.intro h4 (And.intro h5 (And.intro h6 (And.intro h7 (And.intro hm' hok))))))))
                  have g1 : ¬ ((P : Int) + (i : Int) < (m' : Int)) := by omega
                  clear h1 h2 h3 h4 h5 h6 h7 HM hok hcT hgot hthi hthi' hm'
                  go_wp2_with fail
                  refine (lk_cum HK.out.1).mono ?_
                  rintro e w7 ⟨rfl, rfl⟩
                  rw [← HK.out.2.2.2.2.2.2.2.1]
                  go_wp2_with fail
                  refine (eq_true _ _ (T.take m') w7 HG.out.1 HG.out.2).mono ?_
                  rintro e w8 ⟨rfl, z8, hz8⟩
                  have M8 : Hid (MO w2 w8 NoK (FL x o1 y p (.slice ag' m' cg') G (.slice (some ⟨gT, 0, none⟩) N cT) T (.slice ad j cd) D)) := by
                    rw [hz8]
                    exact HK.out.1.below (below_drewN' _ _)
                  clear hz8 HG
                  have HA2 : Hid (ackE o1 p.c = 0 ∧ LI T W R (P + i) (ackS o1 p.c) p ∧ (ackS o1 p.c).a = p.c) := HK.out.2.1.ack HK.out.2.2.2.2.2.2.2.2.1 HK.out.2.2.2.2.2.2.2.2.2
                  have HMN : Hid (min (k + 1 - n3) N ≤ p.c) := by
                    show _ ≤ _
                    obtain ⟨h1, h2, h3, h4, h5, h6, h7, hm', hok⟩ := HK.out
                    have e1 := HDW.out
                    by_cases hk3 : n3 ≤ k
                    · have e2 := h6 hk3
                      omega
                    · omega
                  by_cases hk3 : n3 ≤ k
                  · obtain rfl : cc = 65535 := hcc hk3
                    have k3 : (n3 : Int) ≤ (k : Int) := by omega
                    have b22 : bits BinOp.and IntKind.i64 65535 4194304 = 0 := by decide +kernel
                    go_wp2_with fail
                    refine (lk_cum M8.out).mono ?_
                    rintro e w9 ⟨rfl, rfl⟩
                    go_wp2_with fail
                    refine (lk_ack M8.out p.c).mono ?_
                    rintro e w10 ⟨rfl, k10, -⟩
                    rw [HA2.out.1]
                    have Z : Hid (∃ o p G vd D, MO w2 w10 NoK (FL x o y p (.slice ag' m' cg') G (.slice (some ⟨gT, 0, none⟩) N cT) T vd D) ∧ LI T W R (P + i) o p ∧ G = T.take p.c ∧ G.length = m' ∧ p.hd = false ∧ min (k + 1 - n3) N ≤ o.a) := by
                      obtain ⟨h1, h2, h3, h4, h5, h6, h7, hm', hok⟩ := HK.out
                      refine ⟨_, p, G, _, _, k10, HA2.out.2.1, h3, h4, h5, ?_⟩
                      rw [HA2.out.2.2]
                      exact HMN.out
                    clear k10 M8 HK HA2 HMN
                    go_wp2_with fail
                    exact ⟨⟨k + 1, P + i, m', by omega, by omega, by go_num, by go_num, ag', cg', rfl, Z⟩, by simp [intOf]; omega⟩
                  · have k3 : ¬ (n3 : Int) ≤ (k : Int) := by omega
                    cases hb : (bits BinOp.and IntKind.i64 cc 4194304 != 0)
                    · have Z : Hid (∃ o p G vd D, MO w2 w8 NoK (FL x o y p (.slice ag' m' cg') G (.slice (some ⟨gT, 0, none⟩) N cT) T vd D) ∧ LI T W R (P + i) o p ∧ G = T.take p.c ∧ G.length = m' ∧ p.hd = false ∧ min (k + 1 - n3) N ≤ o.a) := by
                        obtain ⟨h1, h2, h3, h4, h5, h6, h7, hm', hok⟩ := HK.out
                        exact ⟨_, p, G, _, _, M8.out, h2, h3, h4, h5, by omega⟩
                      clear M8 HK HA2 HMN
                      go_wp2_with fail
                      exact ⟨⟨k + 1, P + i, m', by omega, by omega, by go_num, by go_num, ag', cg', rfl, Z⟩, by simp [intOf]; omega⟩
                    · go_wp2_with fail
                      refine (lk_cum M8.out).mono ?_
                      rintro e w9 ⟨rfl, rfl⟩
                      go_wp2_with fail
                      refine (lk_ack M8.out p.c).mono ?_
                      rintro e w10 ⟨rfl, k10, -⟩
                      rw [HA2.out.1]
                      have Z : Hid (∃ o p G vd D, MO w2 w10 NoK (FL x o y p (.slice ag' m' cg') G (.slice (some ⟨gT, 0, none⟩) N cT) T vd D) ∧ LI T W R (P + i) o p ∧ G = T.take p.c ∧ G.length = m' ∧ p.hd = false ∧ min (k + 1 - n3) N ≤ o.a) := by
                        obtain ⟨h1, h2, h3, h4, h5, h6, h7, hm', hok⟩ := HK.out
                        refine ⟨_, p, G, _, _, k10, HA2.out.2.1, h3, h4, h5, ?_⟩
                        rw [HA2.out.2.2]
                        exact HMN.out
                      clear k10 M8 HK HA2 HMN
                      go_wp2_with fail
                      exact ⟨⟨k + 1, P + i, m', by omega, by omega, by go_num, by go_num, ag', cg', rfl, Z⟩, by simp [intOf]; omega⟩
    · as_aux_lemma =>
        have i1 : ¬ (k : Int) < (n3 : Int) + 2 * (N : Int) := by omega
        obtain ⟨o, p, G, vd, D, h1, h2, h3, h4, h5, h6⟩ := HM.out
        have hok := lk_ok h1
        have hTL := HTN.out
        have hsP := h2.sP hok.1
        have haP := h2.aP
        have hac := h2.ac
        have hcs := h2.cs
        have hoa : o.a = N := by omega
        have hpc : p.c = N := by omega
        have hGT : G = T := by rw [h3, hpc, ← hTL, List.take_length]
        have hmN : m = N := by rw [← h4, hGT, hTL]
        have hdl : (dueL o).length = 0 := by
          have q1 := h2.len
          unfold dueL
          rw [items_len]
          simp [dueN, q1]
          omega
        subst hmN
        have hg := lk_got h1
        rw [hGT] at hg
        have HG := hd hg
        have H1 := hd (And.intro h1 (And.intro hoa hdl))
        clear h1 h2 h3 h4 h5 h6 hok hTL hsP haP hac hcs hoa hpc hGT hdl hg HM
        go_wp2_with fail
        refine (eq_true _ _ T wr HG.out.1 HG.out.2).mono ?_
        rintro e w7 ⟨rfl, z7, hz7⟩
        have M7 : Hid (MO w2 w7 NoK (FL x o y p (.slice ag m cg) G (.slice (some ⟨gT, 0, none⟩) m cT) T vd D)) := by
          rw [hz7]
          exact H1.out.1.below (below_drewN' _ _)
        clear hz7 HG
        go_wp2_with fail
        refine (lk_acked M7.out).mono ?_
        rintro e w8 ⟨rfl, rfl⟩
        rw [H1.out.2.1]
        go_wp2_with fail
        refine (lk_due M7.out).mono ?_
        rintro e w9 ⟨u, rfl, h9⟩
        obtain ⟨ad, cd, rfl, -⟩ := lk_item h9
        rw [H1.out.2.2]
        have Y := hd h9.base
        clear h9 M7 H1
        go_wp2_with fail
        go_ret
        exact ⟨rfl, Y.out⟩

end Go.Proofs.Ytpjnhjijipcjkaa
