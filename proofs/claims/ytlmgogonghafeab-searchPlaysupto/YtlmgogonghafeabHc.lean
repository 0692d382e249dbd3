/-
  The law's grownInts.
-/
import Derived.Test.YtlmgogonghafeabMH
import Derived.Deep.QuietTactic
import Derived.BigQuiet
namespace Go.Proofs.Ytlmgogonghafeab
open Go.RowKit Go.Lib
set_option linter.unusedVariables false

theorem cl_set1 {α : Type} {f : α → List Value} (hz : Sz f 1) (x : α) (u : Value) (hf : f x = [u]) : ∀ (xs : List α) (p : Nat), (cl f xs).set p u = cl f (xs.set p x)
  | [], p => by simp [cl_nil]
  | y :: xs, p => by
    have hy := (hz y).1
    match hfy : f y, hy with
    | [v], _ =>
      cases p with
      | zero => rw [List.set_cons_zero, cl_cons, cl_cons, hfy, hf]; rfl
      | succ p => rw [List.set_cons_succ, cl_cons, cl_cons, hfy, ← cl_set1 hz x u hf xs p]; rfl

theorem WkR.step1 {α : Type} {f : α → List Value} {e ss : TypeId} {mk : Nat → Nat → α} {wo wq : World} {gL K : Nat} {β : Option Nat} {s : SV} {V : Nat → SV} {T : List α} {i p : Nat} (hz : Sz f 1) (h : WkR f 1 e ss mk wo wq gL K β s V T i p) (hp : p < T.length) (hg : β ≠ some gL) :
    ∃ g, s.a = some ⟨g, 0, none⟩ ∧ (∃ v, wq.cell? ⟨g, p, none⟩ = some v) ∧ wq.frozen? ⟨g, p, none⟩ = false ∧ ∀ u, f (mk i p) = [u] → WkR f 1 e ss mk wo (wq.setCell ⟨g, p, none⟩ u) gL K β s V T i (p + 1) := by
  obtain ⟨h1, h2, h3⟩ := h
  have hl : (mkL mk p i ++ T.drop p).length = T.length := by rw [List.length_append, mkL_len, List.length_drop]; omega
  cases β with
  | none =>
    obtain ⟨-, hn⟩ := h1
    rw [hn] at hl
    simp at hl
    omega
  | some g =>
    obtain ⟨cap, hv, cur, hh, ht, -, hc1, hc2, hcs⟩ := h1
    have hpc : p < cur.length := by rw [hcs]; omega
    refine ⟨g, (Value.slice.inj hv).1, ⟨cur[p], by rw [cell_row hh, List.getElem?_toArray, List.getElem?_eq_getElem hpc]⟩, frozen_row hh p, fun u hu => ?_⟩
    have F : Fr (· = g) wq (wq.setCell ⟨g, p, none⟩ u) := Fr.setCell (S := (· = g)) wq ⟨g, p, none⟩ u rfl
    have hs : (mkL mk p i ++ T.drop p).set p (mk i p) = mkL mk (p + 1) i ++ T.drop (p + 1) := mkL_set mk i p T hp
    have hl2 : (mkL mk (p + 1) i ++ T.drop (p + 1)).length = (mkL mk p i ++ T.drop p).length := by rw [← hs, List.length_set]
    refine ⟨⟨cap, by rw [hl2]; exact hv, cur.set p u, ?_, ?_, rfl, by rw [hl2]; exact hc1, hc2, by rw [List.length_set]; exact hcs⟩, h2.fr F (fun h => hg (by rw [h])), h3.trans (F.mono (fun q _ hq => by rw [hq]))⟩
    · rw [set_row hh p u, List.setIfInBounds_toArray]
    · rw [hl2, List.take_set, ht, cl_set1 hz _ _ hu, hs]

theorem GrR.frm {α : Type} {f : α → List Value} {k : Nat} {e ss : TypeId} {mk tl : Nat → Nat → α} {w wr : World} {gL K i : Nat} {B : Nat → Option Nat} {V : Nat → SV} {gv : Value} (h : GrR f k e ss mk tl w wr gL K B V gv i) : Fr (fun g => ∃ j, j < K ∧ B j = some g) w wr := by
  obtain ⟨H, vs, β, h⟩ := h
  exact h.fr
theorem GrR.form {α : Type} {f : α → List Value} {k : Nat} {e ss : TypeId} {mk tl : Nat → Nat → α} {w wr : World} {gL K i : Nat} {B : Nat → Option Nat} {V : Nat → SV} {gv : Value} (h : GrR f k e ss mk tl w wr gL K B V gv i) : ∃ a c, gv = .slice a i c := by
  obtain ⟨H, vs, β, h⟩ := h
  obtain ⟨a, c, hv, -, -⟩ := h.row.form
  exact ⟨a, c, by rw [hv, h.len]⟩
theorem InR.form {α : Type} {f : α → List Value} {k : Nat} {e : TypeId} {mk tl : Nat → Nat → α} {wo wq : World} {β : Option Nat} {s : SV} {n i p : Nat} {x : Value} (h : InR f k e mk tl wo wq β s n i x p) : ∃ a c, x = .slice a (n + p) c := by
  obtain ⟨β', h1, -⟩ := h
  obtain ⟨a, c, hv, -, -⟩ := h1.form
  exact ⟨a, c, by rw [hv, List.length_append, mkL_len, mkL_len]⟩
theorem Try.infoIs : (Try.prog.info? 36).map (fun i => (i.zero, i.size, i.bytes)) = some (some (.slice none 0 0), 1, 24) := by kernel_rfl
theorem pushes_ints : PushesF sv 1 36 77 := pushes_sv Try.underlying77 Try.infoIs

def mkI (i k : Nat) : Int := -1 - 1000 * (i : Int) - (k : Int)
def tlI (i k : Nat) : Int := 1 + 1000 * (i : Int) + (k : Int)

set_option maxRecDepth 100000 in
set_option maxHeartbeats 8000000 in
theorem grownInts_any (gL K Kc : Nat) (B : Nat → Option Nat) (V : Nat → SV) (T : Nat → List Int) (w : World) (hT : ∀ j, j < K → SF ei 1 w 3 (B j) (V j).val (T j)) (hN : ∀ j, j < K → (T j).length = (V j).n) (hC : LCs w 36 gL K V) (hL : Lists w 36 gL K B V) (hK : K ≤ 100) (hb : ∀ j, j < K → (V j).n ≤ 1000) (hKc : K ≤ Kc) (hKm : Kc ≤ 9223372036854775807) :
    Calls Try.prog 34 #[.slice (some ⟨gL, 0, none⟩) K Kc] w fun e w' => e = .returned (.bool true) ∧ Fr (fun g => ∃ j, j < K ∧ B j = some g) w w' := by
  have HN := hd hN
  have Hb := hd hb
  have HL := hd hL
  have S0 : Hid (MkR ei 1 3 36 mkI w w gL K B V T 0) := ⟨fun j hj => by simpa using hT j hj, hC, Fr.refl _ _⟩
  clear hT hN hC hL hb
  go_enter Try.func34, Try.ntmps34
  go_wp2
  go_loopw [3] (fun i wr => ∃ a : Nat, a ≤ K ∧ i = .int .i64 a ∧ Hid (MkR ei 1 3 36 mkI w wr gL K B V T a)) (fun i _ => K - (intOf i).toNat)
  case atStart => exact ⟨0, Nat.zero_le _, rfl, S0⟩
  case round =>
    obtain ⟨i, hi, rfl, hr⟩ := hrel
    clear S0
    by_cases hlt : i < K
    · have i1 : (i : Int) < (K : Int) := by omega
      have hNi := hd (HN.out i hlt)
      have hbi := Hb.out i hlt
      have W0 := hd (hr.out.begin hlt)
      have hgi := hd (HL.out.ng i hlt)
      have NX : Hid (∀ wq p, WkR ei 1 3 36 mkI wr wq gL K (B i) (V i) V (T i) i p → (T i).length ≤ p → p ≤ (T i).length → MkR ei 1 3 36 mkI w wq gL K B V T (i + 1)) := fun wq p hq h1 h2 => hr.out.next HL.out hlt hq h1 h2
      have CL : Hid (∀ wq p, WkR ei 1 3 36 mkI wr wq gL K (B i) (V i) V (T i) i p → wq.cell? ⟨gL, i, none⟩ = some (.slice (V i).a (V i).n (V i).c)) := fun wq p hq => hq.2.1.cell i hlt
      clear hr
      generalize V i = s at *
      generalize T i = Ti at *
      generalize B i = bi at *
      obtain ⟨sa, sn, sc⟩ := s
      have hNi' : Ti.length = sn := hNi.out
      clear hNi
      simp only at hbi
      go_wp2
      go_loopw [4] (fun k wq => ∃ a : Nat, a ≤ sn ∧ k = .int .i64 a ∧ Hid (WkR ei 1 3 36 mkI wr wq gL K bi ⟨sa, sn, sc⟩ V Ti i a)) (fun k _ => sn - (intOf k).toNat)
      case atStart => exact ⟨0, Nat.zero_le _, rfl, W0⟩
      case round =>
        obtain ⟨k, hk, rfl, hq⟩ := hrel
        clear W0
        have cl := CL.out _ _ hq.out
        by_cases hkn : k < sn
        · obtain ⟨g, hga, ⟨v0, c0⟩, f0, hst⟩ := hq.out.step1 szI (by omega) hgi.out
          have hga : sa = some ⟨g, 0, none⟩ := hga
          subst hga
          have i2 : (k : Int) < (sn : Int) := by omega
          have S2 := hd (hst (.int .i64 (-1 - 1000 * (i : Int) - (k : Int))) rfl)
          clear hq hst
          go_wp2
          exact ⟨⟨k + 1, by omega, by go_num, S2⟩, by simp [intOf]; omega⟩
        · have M2 := hd (NX.out _ _ hq.out (by omega) (by omega))
          clear hq
          go_wp2
          exact ⟨⟨i + 1, by omega, by go_num, M2⟩, by simp [intOf]; omega⟩
    · have i1 : ¬ (i : Int) < (K : Int) := by omega
      have G0 : Hid (GrR ei 1 3 36 mkI tlI w wr gL K B V (.slice none 0 0) 0) := GrR.begin hr.out szI (by omega) HN.out
      clear hr
      go_wp2
      go_loopw [5, 6] (fun gv ii wq => ∃ a : Nat, a ≤ K ∧ ii = .int .i64 a ∧ Hid (GrR ei 1 3 36 mkI tlI w wq gL K B V gv a)) (fun _ ii _ => K - (intOf ii).toNat)
      case atStart => exact ⟨0, Nat.zero_le _, rfl, G0⟩
      case round =>
        obtain ⟨q, hq, rfl, hg⟩ := hrel
        clear G0
        obtain ⟨va, vc, rfl⟩ := hg.out.form
        by_cases hqK : q < K
        · have i2 : (q : Int) < (K : Int) := by omega
          have cl : wr.cell? ⟨gL, q, none⟩ = some (.slice (V q).a (V q).n (V q).c) := by
            obtain ⟨H, vs, β, h⟩ := hg.out
            exact h.lc.cell q hqK
          have I0 : Hid (InR ei 1 3 mkI tlI wr wr (B q) (V q) (V q).n q (.slice (V q).a (V q).n (V q).c) 0) := hg.out.inside hqK
          have hbq := Hb.out q hqK
          have hBq : Hid (∀ g, B q = some g → g < wr.heap.size) := fun g e => Nat.lt_of_lt_of_le (HL.out.lt q g hqK e) hg.out.frm.size
          have II : Hid (∀ wq x, InR ei 1 3 mkI tlI wr wq (B q) (V q) (V q).n q x 64 → ∃ (a b : Option Addr) (c d : Nat) (w3 : World), x = .slice a ((V q).n + 64) c ∧ (∀ ty, (Builtin.append_ #[77, 77] ty #[.slice va q vc, .slice (some ⟨wq.heap.size, 0, none⟩) 1 1]).run Try.prog (wq.alloc (.cells #[.slice a ((V q).n + 64) c] 36)) = .ok (.slice b (q + 1) d) w3) ∧ GrR ei 1 3 36 mkI tlI w w3 gL K B V (.slice b (q + 1) d) (q + 1)) := fun wq x hx => hg.out.step szI HL.out pushes_ints hqK (by omega) hx
          clear hg
          generalize B q = bq at *
          generalize V q = s at *
          obtain ⟨sa, sn, sc⟩ := s
          simp only at hbq
          go_wp2
          go_loopw [7, 8] (fun x k wq => ∃ a : Nat, a ≤ 64 ∧ k = .int .i64 a ∧ Hid (InR ei 1 3 mkI tlI wr wq bq ⟨sa, sn, sc⟩ sn q x a)) (fun _ k _ => 64 - (intOf k).toNat)
          case atStart => exact ⟨0, Nat.zero_le _, rfl, I0⟩
          case round =>
            obtain ⟨k, hk, rfl, hx⟩ := hrel
            clear I0
            obtain ⟨xa, xc, hxv⟩ := hx.out.form
            subst hxv
            by_cases hk64 : k < 64
            · have i3 : (k : Int) < 64 := by omega
              obtain ⟨a3, c3, w3, hap, hI⟩ := hx.out.push pushes_int szI hBq.out (by omega)
              have I3 := hd hI
              simp only [ei, tlI] at hap
              clear hx hI
              go_wp2_with (at_builtin; refine wpList_append_k _ rfl _ _ 36 36 rfl _ _ rfl rfl (hap _) ?_)
              exact ⟨⟨k + 1, by omega, by go_num, I3⟩, by simp [intOf]; omega⟩
            · have i3 : ¬ (k : Int) < 64 := by omega
              obtain rfl : k = 64 := by omega
              obtain ⟨a4, b4, c4, d4, w3, hxv, hap, hG⟩ := II.out _ _ hx.out
              obtain ⟨rfl, -, rfl⟩ := Value.slice.inj hxv
              have G3 := hd hG
              clear hx hG hxv
              go_wp2_with (at_builtin; refine wpList_append_k _ rfl _ _ 77 77 rfl _ _ rfl rfl (hap _) ?_)
              exact ⟨⟨q + 1, by omega, by go_num, G3⟩, by simp [intOf]; omega⟩
        · have i2 : ¬ (q : Int) < (K : Int) := by omega
          have FF := hd hg.out.frm
          obtain ⟨e1, e2, e3⟩ := hg.out.done (by omega)
          obtain ⟨a5, c5, hv5, hc5, hc6, e4⟩ := e3
          obtain ⟨rfl, hqq, rfl⟩ := Value.slice.inj hv5
          subst hqq
          have OLD := hd e1
          have LL := hd e2
          have NEW := hd e4
          clear hg e1 e2 e4 hv5
          go_wp2
          go_loopw [9] (fun ii wq => ∃ a : Nat, a ≤ q ∧ ii = .int .i64 a ∧ wq = wr) (fun ii _ => q - (intOf ii).toNat)
          case atStart => exact ⟨0, Nat.zero_le _, rfl, rfl⟩
          case round =>
            obtain ⟨u, hu, rfl, rfl⟩ := hrel
            by_cases huK : u < q
            · have i3 : (u : Int) < (q : Int) := by omega
              have cl := LL.out.cell u huK
              obtain ⟨gg, hh, dd, rfl, cg, hd1, hd2, hC0⟩ := NEW.out u huK
              have hC := hd hC0
              obtain ⟨o1, o2, o3, o4⟩ := OLD.out u huK
              have hO := hd o4
              have hbu := Hb.out u huK
              clear hC0 o1 o4
              generalize V u = s at *
              obtain ⟨sa, sn, sc⟩ := s
              simp only at *
              go_wp2
              go_loopw [11] (fun k wq => ∃ a : Nat, a ≤ sn + 64 ∧ k = .int .i64 a ∧ wq = wr) (fun k _ => sn + 64 - (intOf k).toNat)
              case atStart => exact ⟨0, Nat.zero_le _, rfl, rfl⟩
              case round =>
                obtain ⟨k, hk, rfl, rfl⟩ := hrel
                by_cases hkn : k < sn + 64
                · have i4 : (k : Int) < (sn : Int) + 64 := by omega
                  have lH : (mkL mkI sn u ++ mkL tlI 64 u).length = sn + 64 := by rw [List.length_append, mkL_len, mkL_len]
                  have h0 := hC.out k (by rw [lH]; exact hkn) 0 (by omega)
                  rw [mix_at] at h0
                  simp only [Nat.mul_one, Nat.add_zero] at h0
                  by_cases hkm : k < sn
                  · rw [if_pos hkm] at h0
                    obtain ⟨g, -, hga, -, hC2⟩ := hO.out (by omega)
                    have hga : sa = some ⟨g, 0, none⟩ := hga
                    subst hga
                    have b0 := hC2 k (by rw [mkL_len]; exact hkm) 0 (by omega)
                    rw [mkL_at] at b0
                    simp only [Nat.mul_one, Nat.add_zero, ei, mkI] at h0 b0
                    have i5 : (k : Int) < (sn : Int) := by omega
                    clear hC2 lH
                    go_wp2
                    exact ⟨⟨k + 1, by omega, by go_num, by first | rfl | trivial⟩, by simp [intOf]; omega⟩
                  · rw [if_neg hkm] at h0
                    obtain ⟨p, rfl⟩ : ∃ p, k = sn + p := ⟨k - sn, by omega⟩
                    simp only [ei, tlI, show sn + p - sn = p by omega] at h0
                    have i5 : ¬ ((sn + p : Nat) : Int) < (sn : Int) := by omega
                    clear lH
                    go_wp2
                    exact ⟨⟨sn + p + 1, by omega, by go_num, by first | rfl | trivial⟩, by simp [intOf]; omega⟩
                · go_wp2
                  exact ⟨⟨u + 1, by omega, by go_num, by first | rfl | trivial⟩, by simp [intOf]; omega⟩
            · go_wp2
              go_ret
              exact ⟨rfl, FF.out⟩
end Go.Proofs.Ytlmgogonghafeab
