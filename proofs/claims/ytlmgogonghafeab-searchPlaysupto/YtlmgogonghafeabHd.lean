/-
  The law's grownOps.
-/
import Derived.Test.YtlmgogonghafeabHc
namespace Go.Proofs.Ytlmgogonghafeab
open Go.RowKit Go.Lib
set_option linter.unusedVariables false

theorem set_skip {α : Type} (A B : List α) (m : Nat) (v : α) (n : Nat) (hn : n = A.length + m) : (A ++ B).set n v = A ++ B.set m v := by
  subst hn
  rw [List.set_append_right _ _ (by omega), Nat.add_sub_cancel_left]
theorem cl_set5 {α : Type} {f : α → List Value} (hz : Sz f 5) (x : α) (a b c d u : Value) (hf : f x = [a, b, c, d, u]) : ∀ (xs : List α) (p : Nat), ((((((cl f xs).set (p * 5) a).set (p * 5 + 1) b).set (p * 5 + 2) c).set (p * 5 + 3) d).set (p * 5 + 4) u) = cl f (xs.set p x)
  | [], p => by simp [cl_nil]
  | y :: xs, p => by
    have hy := (hz y).1
    match hfy : f y, hy with
    | [v0, v1, v2, v3, v4], _ =>
      cases p with
      | zero => rw [List.set_cons_zero, cl_cons, cl_cons, hfy, hf]; rfl
      | succ p =>
        rw [List.set_cons_succ, cl_cons, cl_cons, hfy, ← cl_set5 hz x a b c d u hf xs p]
        have sk : ∀ (B : List Value) (j : Nat) (v : Value), ([v0, v1, v2, v3, v4] ++ B).set ((p + 1) * 5 + j) v = [v0, v1, v2, v3, v4] ++ B.set (p * 5 + j) v := fun B j v => set_skip _ _ _ _ _ (by simp; omega)
        have sk0 : ∀ (B : List Value) (v : Value), ([v0, v1, v2, v3, v4] ++ B).set ((p + 1) * 5) v = [v0, v1, v2, v3, v4] ++ B.set (p * 5) v := fun B v => sk B 0 v
        rw [sk0, sk, sk, sk, sk]

theorem WkR.step5 {α : Type} {f : α → List Value} {e ss : TypeId} {mk : Nat → Nat → α} {wo wq : World} {gL K : Nat} {β : Option Nat} {s : SV} {V : Nat → SV} {T : List α} {i p : Nat} (hz : Sz f 5) (h : WkR f 5 e ss mk wo wq gL K β s V T i p) (hp : p < T.length) (hg : β ≠ some gL) :
    ∃ g, s.a = some ⟨g, 0, none⟩ ∧ (∀ j, j < 5 → ∃ v, wq.cell? ⟨g, p * 5 + j, none⟩ = some v) ∧ (∀ j, wq.frozen? ⟨g, j, none⟩ = false) ∧ ∀ a b c d u, f (mk i p) = [a, b, c, d, u] → WkR f 5 e ss mk wo (((((wq.setCell ⟨g, p * 5, none⟩ a).setCell ⟨g, p * 5 + 1, none⟩ b).setCell ⟨g, p * 5 + 2, none⟩ c).setCell ⟨g, p * 5 + 3, none⟩ d).setCell ⟨g, p * 5 + 4, none⟩ u) gL K β s V T i (p + 1) := by
  obtain ⟨h1, h2, h3⟩ := h
  have hl : (mkL mk p i ++ T.drop p).length = T.length := by rw [List.length_append, mkL_len, List.length_drop]; omega
  cases β with
  | none =>
    obtain ⟨-, hn⟩ := h1
    rw [hn] at hl
    simp at hl
    omega
  | some g =>
    obtain ⟨cap, hv, cur, hh, ht, -, hc1, hc2, hcs⟩ := h1
    have hpc : p * 5 + 4 < cur.length := by rw [hcs]; omega
    refine ⟨g, (Value.slice.inj hv).1, fun j hj => ⟨cur[p * 5 + j]'(by omega), by rw [cell_row hh, List.getElem?_toArray, List.getElem?_eq_getElem (by omega)]⟩, fun j => frozen_row hh j, fun a b c d u hu => ?_⟩
    have st : ∀ (W : World) (j : Nat) (v : Value), Fr (· = g) W (W.setCell ⟨g, j, none⟩ v) := fun W j v => Fr.setCell (S := (· = g)) W ⟨g, j, none⟩ v rfl
    have F : Fr (· = g) wq (((((wq.setCell ⟨g, p * 5, none⟩ a).setCell ⟨g, p * 5 + 1, none⟩ b).setCell ⟨g, p * 5 + 2, none⟩ c).setCell ⟨g, p * 5 + 3, none⟩ d).setCell ⟨g, p * 5 + 4, none⟩ u) := ((((st _ _ _).trans (st _ _ _)).trans (st _ _ _)).trans (st _ _ _)).trans (st _ _ _)
    have hs : (mkL mk p i ++ T.drop p).set p (mk i p) = mkL mk (p + 1) i ++ T.drop (p + 1) := mkL_set mk i p T hp
    have hl2 : (mkL mk (p + 1) i ++ T.drop (p + 1)).length = (mkL mk p i ++ T.drop p).length := by rw [← hs, List.length_set]
    refine ⟨⟨cap, by rw [hl2]; exact hv, ((((cur.set (p * 5) a).set (p * 5 + 1) b).set (p * 5 + 2) c).set (p * 5 + 3) d).set (p * 5 + 4) u, ?_, ?_, rfl, by rw [hl2]; exact hc1, hc2, by simp [hcs]⟩, h2.fr F (fun h => hg (by rw [h])), h3.trans (F.mono (fun q _ hq => by rw [hq]))⟩
    · have := set_row (set_row (set_row (set_row (set_row hh (p * 5) a) (p * 5 + 1) b) (p * 5 + 2) c) (p * 5 + 3) d) (p * 5 + 4) u
      rw [this]
      simp only [List.setIfInBounds_toArray]
    · rw [hl2, List.take_set, List.take_set, List.take_set, List.take_set, List.take_set, ht, cl_set5 hz _ _ _ _ _ _ hu, hs]

theorem Try.infoOs : (Try.prog.info? 39).map (fun i => (i.zero, i.size, i.bytes)) = some (some (.slice none 0 0), 1, 24) := by kernel_rfl
theorem pushes_ops : PushesF sv 1 39 81 := pushes_sv Try.underlying81 Try.infoOs
def mkO (i k : Nat) : OpE := ⟨-1 - (i : Int), 0, 0, 0, (k : Int)⟩
def tlO (i k : Nat) : OpE := ⟨-1000 - (i : Int), 0, 0, 0, (k : Int)⟩

set_option maxRecDepth 100000 in
set_option maxHeartbeats 8000000 in
theorem grownOps_any (gL K Kc : Nat) (B : Nat → Option Nat) (V : Nat → SV) (T : Nat → List OpE) (w : World) (hT : ∀ j, j < K → SF opc 5 w 32 (B j) (V j).val (T j)) (hN : ∀ j, j < K → (T j).length = (V j).n) (hC : LCs w 39 gL K V) (hL : Lists w 39 gL K B V) (hK : K ≤ 100) (hb : ∀ j, j < K → (V j).n ≤ 1000) (hKc : K ≤ Kc) (hKm : Kc ≤ 9223372036854775807) :
    Calls Try.prog 36 #[.slice (some ⟨gL, 0, none⟩) K Kc] w fun e w' => e = .returned (.bool true) ∧ Fr (fun g => ∃ j, j < K ∧ B j = some g) w w' := by
  have HN := hd hN
  have Hb := hd hb
  have HL := hd hL
  have S0 : Hid (MkR opc 5 32 39 mkO w w gL K B V T 0) := ⟨fun j hj => by simpa using hT j hj, hC, Fr.refl _ _⟩
  clear hT hN hC hL hb
  go_enter Try.func36, Try.ntmps36
  go_wp2
  go_loopw [3] (fun i wr => ∃ a : Nat, a ≤ K ∧ i = .int .i64 a ∧ Hid (MkR opc 5 32 39 mkO w wr gL K B V T a)) (fun i _ => K - (intOf i).toNat)
  case atStart => exact ⟨0, Nat.zero_le _, rfl, S0⟩
  case round =>
    obtain ⟨i, hi, rfl, hr⟩ := hrel
    clear S0
    by_cases hlt : i < K
    · have i1 : (i : Int) < (K : Int) := by omega
      have hNi := hd (HN.out i hlt)
      have hbi := Hb.out i hlt
      have W0 := hd (hr.out.begin hlt)
      have hgi := hd (HL.out.ng i hlt)
      have NX : Hid (∀ wq p, WkR opc 5 32 39 mkO wr wq gL K (B i) (V i) V (T i) i p → (T i).length ≤ p → p ≤ (T i).length → MkR opc 5 32 39 mkO w wq gL K B V T (i + 1)) := fun wq p hq h1 h2 => hr.out.next HL.out hlt hq h1 h2
      have CL : Hid (∀ wq p, WkR opc 5 32 39 mkO wr wq gL K (B i) (V i) V (T i) i p → wq.cell? ⟨gL, i, none⟩ = some (.slice (V i).a (V i).n (V i).c)) := fun wq p hq => hq.2.1.cell i hlt
      clear hr
      generalize V i = s at *
      generalize T i = Ti at *
      generalize B i = bi at *
      obtain ⟨sa, sn, sc⟩ := s
      have hNi' : Ti.length = sn := hNi.out
      clear hNi
      simp only at hbi
      go_wp2
      go_loopw [4] (fun k wq => ∃ a : Nat, a ≤ sn ∧ k = .int .i64 a ∧ Hid (WkR opc 5 32 39 mkO wr wq gL K bi ⟨sa, sn, sc⟩ V Ti i a)) (fun k _ => sn - (intOf k).toNat)
      case atStart => exact ⟨0, Nat.zero_le _, rfl, W0⟩
      case round =>
        obtain ⟨k, hk, rfl, hq⟩ := hrel
        clear W0
        have cl := CL.out _ _ hq.out
        by_cases hkn : k < sn
        · obtain ⟨g, hga, hcs, hfz, hst⟩ := hq.out.step5 sz_opc (by omega) hgi.out
          have hga : sa = some ⟨g, 0, none⟩ := hga
          subst hga
          obtain ⟨v0, c0⟩ := hcs 0 (by omega)
          obtain ⟨v1, c1⟩ := hcs 1 (by omega)
          obtain ⟨v2, c2⟩ := hcs 2 (by omega)
          obtain ⟨v3, c3⟩ := hcs 3 (by omega)
          obtain ⟨v4, c4⟩ := hcs 4 (by omega)
          have f0 := hfz (k * 5 + 0)
          have f1 := hfz (k * 5 + 1)
          have f2 := hfz (k * 5 + 2)
          have f3 := hfz (k * 5 + 3)
          have f4 := hfz (k * 5 + 4)
          simp only [Nat.add_zero] at c0 f0
          clear hcs hfz
          have i2 : (k : Int) < (sn : Int) := by omega
          have S2 := hd (hst (.int .i64 (-1 - (i : Int))) (.int .i64 0) (.int .u8 0) (.int .i64 0) (.int .i64 (k : Int)) rfl)
          clear hq hst
          go_wp2
          exact ⟨⟨k + 1, by omega, by go_num, S2⟩, by simp [intOf]; omega⟩
        · have M2 := hd (NX.out _ _ hq.out (by omega) (by omega))
          clear hq
          go_wp2
          exact ⟨⟨i + 1, by omega, by go_num, M2⟩, by simp [intOf]; omega⟩
    · have i1 : ¬ (i : Int) < (K : Int) := by omega
      have G0 : Hid (GrR opc 5 32 39 mkO tlO w wr gL K B V (.slice none 0 0) 0) := GrR.begin hr.out sz_opc (by omega) HN.out
      clear hr
      go_wp2
      go_loopw [5, 6] (fun gv ii wq => ∃ a : Nat, a ≤ K ∧ ii = .int .i64 a ∧ Hid (GrR opc 5 32 39 mkO tlO w wq gL K B V gv a)) (fun _ ii _ => K - (intOf ii).toNat)
      case atStart => exact ⟨0, Nat.zero_le _, rfl, G0⟩
      case round =>
        obtain ⟨q, hq, rfl, hg⟩ := hrel
        clear G0
        obtain ⟨va, vc, rfl⟩ := hg.out.form
        by_cases hqK : q < K
        · have i2 : (q : Int) < (K : Int) := by omega
          have cl : wr.cell? ⟨gL, q, none⟩ = some (.slice (V q).a (V q).n (V q).c) := by
            obtain ⟨H, vs, β, h⟩ := hg.out
            exact h.lc.cell q hqK
          have I0 : Hid (InR opc 5 32 mkO tlO wr wr (B q) (V q) (V q).n q (.slice (V q).a (V q).n (V q).c) 0) := hg.out.inside hqK
          have hbq := Hb.out q hqK
          have hBq : Hid (∀ g, B q = some g → g < wr.heap.size) := fun g e => Nat.lt_of_lt_of_le (HL.out.lt q g hqK e) hg.out.frm.size
          have II : Hid (∀ wq x, InR opc 5 32 mkO tlO wr wq (B q) (V q) (V q).n q x 64 → ∃ (a b : Option Addr) (c d : Nat) (w3 : World), x = .slice a ((V q).n + 64) c ∧ (∀ ty, (Builtin.append_ #[81, 81] ty #[.slice va q vc, .slice (some ⟨wq.heap.size, 0, none⟩) 1 1]).run Try.prog (wq.alloc (.cells #[.slice a ((V q).n + 64) c] 39)) = .ok (.slice b (q + 1) d) w3) ∧ GrR opc 5 32 39 mkO tlO w w3 gL K B V (.slice b (q + 1) d) (q + 1)) := fun wq x hx => hg.out.step sz_opc HL.out pushes_ops hqK (by omega) hx
          clear hg
          generalize B q = bq at *
          generalize V q = s at *
          obtain ⟨sa, sn, sc⟩ := s
          simp only at hbq
          go_wp2
          go_loopw [7, 8] (fun x k wq => ∃ a : Nat, a ≤ 64 ∧ k = .int .i64 a ∧ Hid (InR opc 5 32 mkO tlO wr wq bq ⟨sa, sn, sc⟩ sn q x a)) (fun _ k _ => 64 - (intOf k).toNat)
          case atStart => exact ⟨0, Nat.zero_le _, rfl, I0⟩
          case round =>
            obtain ⟨k, hk, rfl, hx⟩ := hrel
            clear I0
            obtain ⟨xa, xc, hxv⟩ := hx.out.form
            subst hxv
            by_cases hk64 : k < 64
            · have i3 : (k : Int) < 64 := by omega
              obtain ⟨a3, c3, w3, hap, hI⟩ := hx.out.push pushes_op sz_opc hBq.out (by omega)
              have I3 := hd hI
              simp only [opc, tlO] at hap
              clear hx hI
              go_wp2_with (at_builtin; refine wpList_append_k _ rfl _ _ 39 39 rfl _ _ rfl rfl (hap _) ?_)
              exact ⟨⟨k + 1, by omega, by go_num, I3⟩, by simp [intOf]; omega⟩
            · have i3 : ¬ (k : Int) < 64 := by omega
              obtain rfl : k = 64 := by omega
              obtain ⟨a4, b4, c4, d4, w3, hxv, hap, hG⟩ := II.out _ _ hx.out
              obtain ⟨rfl, -, rfl⟩ := Value.slice.inj hxv
              have G3 := hd hG
              clear hx hG hxv
              go_wp2_with (at_builtin; refine wpList_append_k _ rfl _ _ 81 81 rfl _ _ rfl rfl (hap _) ?_)
              exact ⟨⟨q + 1, by omega, by go_num, G3⟩, by simp [intOf]; omega⟩
        · have i2 : ¬ (q : Int) < (K : Int) := by omega
          have FF := hd hg.out.frm
          obtain ⟨e1, e2, e3⟩ := hg.out.done (by omega)
          obtain ⟨a5, c5, hv5, hc5, hc6, e4⟩ := e3
          obtain ⟨rfl, hqq, rfl⟩ := Value.slice.inj hv5
          subst hqq
          have OLD := hd e1
          have LL := hd e2
          have NEW := hd e4
          clear hg e1 e2 e4 hv5
          go_wp2
          go_loopw [9] (fun ii wq => ∃ a : Nat, a ≤ q ∧ ii = .int .i64 a ∧ wq = wr) (fun ii _ => q - (intOf ii).toNat)
          case atStart => exact ⟨0, Nat.zero_le _, rfl, rfl⟩
          case round =>
            obtain ⟨u, hu, rfl, rfl⟩ := hrel
            by_cases huK : u < q
            · have i3 : (u : Int) < (q : Int) := by omega
              have cl := LL.out.cell u huK
              obtain ⟨gg, hb2, dd, rfl, cg, hd1, hd2, hC0⟩ := NEW.out u huK
              have hC := hd hC0
              obtain ⟨o1, o2, o3, o4⟩ := OLD.out u huK
              have hO := hd o4
              have hbu := Hb.out u huK
              clear hC0 o1 o4
              generalize V u = s at *
              obtain ⟨sa, sn, sc⟩ := s
              simp only at *
              go_wp2
              go_loopw [11] (fun k wq => ∃ a : Nat, a ≤ sn + 64 ∧ k = .int .i64 a ∧ wq = wr) (fun k _ => sn + 64 - (intOf k).toNat)
              case atStart => exact ⟨0, Nat.zero_le _, rfl, rfl⟩
              case round =>
                obtain ⟨k, hk, rfl, rfl⟩ := hrel
                by_cases hkn : k < sn + 64
                · have i4 : (k : Int) < (sn : Int) + 64 := by omega
                  have lH : (mkL mkO sn u ++ mkL tlO 64 u).length = sn + 64 := by rw [List.length_append, mkL_len, mkL_len]
                  have hh := hC.out k (by rw [lH]; exact hkn)
                  rw [mix_at] at hh
                  by_cases hkm : k < sn
                  · rw [if_pos hkm] at hh
                    have h0 := hh 0 (by omega)
                    have h1 := hh 1 (by omega)
                    have h2 := hh 2 (by omega)
                    have h3 := hh 3 (by omega)
                    have h4 := hh 4 (by omega)
                    clear hh
                    obtain ⟨g, -, hga, -, hC2⟩ := hO.out (by omega)
                    have hga : sa = some ⟨g, 0, none⟩ := hga
                    subst hga
                    have bb := hC2 k (by rw [mkL_len]; exact hkm)
                    rw [mkL_at] at bb
                    have b0 := bb 0 (by omega)
                    have b1 := bb 1 (by omega)
                    have b2 := bb 2 (by omega)
                    have b3 := bb 3 (by omega)
                    have b4 := bb 4 (by omega)
                    clear bb
                    simp [opc, mkO] at h0 h1 h2 h3 h4 b0 b1 b2 b3 b4
                    have i5 : (k : Int) < (sn : Int) := by omega
                    clear hC2 lH
                    go_wp2
                    exact ⟨⟨k + 1, by omega, by go_num, by first | rfl | trivial⟩, by simp [intOf]; omega⟩
                  · rw [if_neg hkm] at hh
                    obtain ⟨p, rfl⟩ : ∃ p, k = sn + p := ⟨k - sn, by omega⟩
                    have h0 := hh 0 (by omega)
                    have h1 := hh 1 (by omega)
                    have h2 := hh 2 (by omega)
                    have h3 := hh 3 (by omega)
                    have h4 := hh 4 (by omega)
                    clear hh
                    simp [opc, tlO, show sn + p - sn = p by omega] at h0 h1 h2 h3 h4
                    have i6 : ((sn + p : Nat) : Int) - (sn : Int) = (p : Int) := by omega
                    have i5 : ¬ ((sn + p : Nat) : Int) < (sn : Int) := by omega
                    clear lH
                    go_wp2
                    exact ⟨⟨sn + p + 1, by omega, by go_num, by first | rfl | trivial⟩, by simp [intOf]; omega⟩
                · go_wp2
                  exact ⟨⟨u + 1, by omega, by go_num, by first | rfl | trivial⟩, by simp [intOf]; omega⟩
            · go_wp2
              go_ret
              exact ⟨rfl, FF.out⟩
end Go.Proofs.Ytlmgogonghafeab
