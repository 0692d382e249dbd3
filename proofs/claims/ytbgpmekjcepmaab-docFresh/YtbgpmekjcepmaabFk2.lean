/-
  DocFresh: apart.
-/
import Derived.Test.YtbgpmekjcepmaabFj2
import Derived.Test.YtbgpmekjcepmaabFc
import Derived.Deep.QuietTactic
import Derived.BigQuiet
import Derived.Deep.RegionHeld3
import Derived.OwnWalk
namespace Go.Proofs.Ytbgpmekjcepmaab
open Go.RowKit
set_option linter.unusedVariables false

theorem IsE.heap {w w' : World} {a : Option Addr} {n c : Nat} {xs : List El} (h : IsE w a n c xs) (e : w'.heap = w.heap) : IsE w' a n c xs := by
  obtain ⟨h1, h2, h3, h4⟩ := h
  refine ⟨h1, h2, h3, fun hn => ?_⟩
  obtain ⟨b, off, ea, hlt, hc⟩ := h4 hn
  refine ⟨b, off, ea, by rw [e]; exact hlt, fun j v hj => ?_⟩
  rw [World.cell?_of_block (w := w) (by rw [e])]
  exact hc j v hj

theorem applyP_le1 (xs : List El) (o : OpE) : (applyP xs o).length ≤ xs.length + 1 := by
  unfold applyP
  split
  · simp; omega
  · split
    · simp; omega
    · omega

set_option maxRecDepth 100000 in
set_option maxHeartbeats 8000000 in
theorem apart_any (a b ao : Option Addr) (M ca cb n K co : Nat) (RM : List El) (L : List OpE) (w : World) (hE : IsE w a M ca RM) (hF : IsE w b M cb RM) (hO : IsO w ao K co L) (hn : n ≤ M) (hn2 : n ≤ 300) (hK0 : 0 < K) (hK : K ≤ 10) (hL : ∀ o ∈ L, fitsP n o = 0 ∧ 0 ≤ o.ch ∧ o.ch ≤ 255) :
    Calls Try.prog 18 #[.slice a M ca, .slice b M cb, .int .i64 n, .slice ao K co] w fun e w' => e = .returned (.bool true) ∧ Below w.heap.size w w' := by
  have HE := hd hE
  have HF := hd hF
  have HO := hd hO
  have HL := hd hL
  have hc1 := hE.2.1
  have hc2 := hE.2.2.1
  have hi1 : (n : Int) ≤ (ca : Int) := by omega
  have hi2 : (0 : Int) ≤ (n : Int) := by omega
  have S0 : Hid (ApR w w (.slice none 0 0) 0) := ApR.start w
  clear hE hF hO hL
  go_enter Try.func18, Try.ntmps18
  go_wp2
  go_loopw [9, 11] (fun l i wr => ∃ k : Nat, k ≤ K ∧ i = .int .i64 k ∧ Hid (ApR w wr l k)) (fun _ i _ => K - (intOf i).toNat)
  case atStart => exact ⟨0, Nat.zero_le _, rfl, S0⟩
  case round =>
    obtain ⟨k, hk, rfl, hr⟩ := hrel
    clear S0
    by_cases hlt : k < K
    · have kx : k < L.length := by have := HO.out.1; omega
      have hBw := hr.out
      obtain ⟨-, -, -, -, -, -, -, -, -, -, -, hBw⟩ := hBw
      have HO2 := HO.out.below hBw
      obtain ⟨bo, off, rfl, hb⟩ := HO2.addr (by omega)
      obtain ⟨e0, e1, e2, e3, e4⟩ := HO2.at k hlt kx
      have i1 : (k : Int) < (K : Int) := by omega
      have OK := hd (HL.out L[k] (List.getElem_mem kx))
      generalize L[k] = o at *
      obtain ⟨ok, op, oc, ol, oq⟩ := o
      simp only [] at e0 e1 e2 e3 e4 OK
      have E2 := hd ((HE.out.below hBw).take n hn)
      have B2 := hd hBw
      have t2 : (List.take n RM).length ≤ 300 := by rw [List.length_take]; omega
      have T2 := hd t2
      clear t2
      clear HO2 hBw
      go_wp2_with fail
      go_region_held3 (fun W => W.cell? ⟨bo, off + k * 5, none⟩ = some (.int .i64 ok) ∧ W.cell? ⟨bo, off + k * 5 + 1, none⟩ = some (.int .i64 op) ∧ W.cell? ⟨bo, off + k * 5 + 2, none⟩ = some (.int .u8 oc) ∧ W.cell? ⟨bo, off + k * 5 + 3, none⟩ = some (.int .i64 ol) ∧ W.cell? ⟨bo, off + k * 5 + 4, none⟩ = some (.int .i64 oq)) (first | go_keep | (exact ⟨by assumption, by assumption, by assumption, by assumption, by assumption⟩)) (first | (go_at_call 9; refine (apply_good a n ca ok op oc ol oq (List.take n RM) _ (E2.out.heap ?_) OK.out.2.1 OK.out.2.2 OK.out.1).mono ?_; exact rfl; rintro e w3 ⟨v3, rfl, hO3, b3'⟩; have b3 : Below wr.heap.size wr w3 := (below_drewN (Below.refl wr.heap.size wr) 1).trans b3'; have hO3' : OwnE w3 wr.heap.size v3 (applyP (List.take n RM) ⟨ok, op, oc, ol, oq⟩) := hO3; obtain ⟨g3, c3, hg3, rfl, hR3⟩ := hO3'.form; have AL := hd (applyP_le1 (List.take n RM) ⟨ok, op, oc, ol, oq⟩); generalize applyP (List.take n RM) ⟨ok, op, oc, ol, oq⟩ = AP at *; obtain ⟨p, hp⟩ : ∃ p, p = AP.length := ⟨_, rfl⟩; rw [← hp] at hR3 ⊢; have HP := hd hp; have B3 := hd b3; have R3 := hd hR3; have G3 := hd hg3; have x0 := (b3.cell (p := ⟨bo, off + k * 5, none⟩) hb).trans e0; have x1 := (b3.cell (p := ⟨bo, off + k * 5 + 1, none⟩) hb).trans e1; have x2 := (b3.cell (p := ⟨bo, off + k * 5 + 2, none⟩) hb).trans e2; have x3 := (b3.cell (p := ⟨bo, off + k * 5 + 3, none⟩) hb).trans e3; have x4 := (b3.cell (p := ⟨bo, off + k * 5 + 4, none⟩) hb).trans e4; clear b3 b3' hO3 hO3' hR3 hg3 hp e0 e1 e2 e3 e4))
      clear x0 x1 x2 x3 x4 OK E2
      have B3' := hd (B2.out.trans (B3.out.mono B2.out.size))
      have p1 : p ≤ 301 := by have := HP.out; have := AL.out; have := T2.out; omega
      go_wp2_with fail
      refine (same_any a b M M ca cb RM RM _ (HE.out.below B3'.out) (HF.out.below B3'.out)).mono ?_
      rintro e w4 ⟨rfl, m4, rfl⟩
      rw [decide_eq_true rfl]
      have R4 := hd (R3.out.fr (Fr.drewN (fun _ => False) w3 m4) (fun h => h))
      have B4 := hd (below_drewN B3.out m4)
      clear R3 B3 B3'
      generalize w3.drewN m4 = w4 at *
      have k210 : (210 + (k : Int)) ≤ 255 := by omega
      go_wp2_with fail
      refine (fill_any g3 p p c3 (210 + (k : Int)) AP _ R4.out (Nat.le_refl _) (by omega) k210).mono ?_
      rintro e w5 ⟨rfl, hR5, hF5⟩
      rw [List.drop_of_length_le (by have := HP.out; omega), List.append_nil] at hR5
      obtain ⟨v6, w6, hap, hA6⟩ := hr.out.step (B4.out.trans (hF5.below B4.out.size (fun q e => by rw [e]; exact G3.out))) g3 p c3 G3.out (by omega) hR5 (by omega)
      have A6 := hd hA6
      clear hR5 hF5 hr hA6 R4 B4
      go_wp2_with (at_builtin; refine wpList_append_k _ rfl _ _ 54 54 rfl _ _ rfl rfl (hap _) ?_)
      exact ⟨⟨k + 1, by omega, by go_num, A6⟩, by simp [intOf]; omega⟩
    · have i1 : ¬ (k : Int) < (K : Int) := by omega
      have hkk : k = K := by omega
      subst hkk
      obtain ⟨B, N, C, vs, β, t1, t2, t3, t4, t5, t6, t7⟩ := hr.out
      cases β with
      | none =>
        exfalso
        obtain ⟨-, rfl⟩ := t2
        simp at t3
        omega
      | some gL =>
      obtain ⟨cap, rfl, hRV⟩ := t2
      rw [t3] at hRV ⊢
      have capb : k ≤ cap ∧ cap ≤ 9223372036854775807 := by
        obtain ⟨cur, -, -, -, h1, h2, -⟩ := hRV
        exact ⟨h1, h2⟩
      obtain ⟨cap1, cap2⟩ := capb
      have LC0 : LC wr gL k B N C := by
        obtain ⟨cur, h1, h2, -⟩ := hRV
        refine ⟨cur, h1, fun i hi => ?_⟩
        have := t4 i hi
        rw [← h2, List.getElem?_take, if_pos hi] at this
        simpa using this
      have Q0 : Hid (QRel wr wr gL k B N C (tx2 N) tl2 (.slice none 0 0) 0) :=
        ⟨fun _ => [], fun _ => 0, fun _ => 0, [], none, ⟨t1.1, fun j hj => by simpa using t1.2 j hj⟩, LC0, Fr.refl _ _, ⟨rfl, rfl⟩, rfl, fun j h => by omega, fun _ _ => rfl, fun g h => (by cases h)⟩
      have BW : Hid (∀ j, j < k → B j < wr.heap.size) := fun j hj => (t1.2 j hj).lt
      have GW : Hid (gL < wr.heap.size) := by
        obtain ⟨cur, h1, -⟩ := LC0
        exact block_lt h1
      have BA : Hid (∀ j, j < k → w.heap.size ≤ B j) := fun j hj => (t5 j hj).1
      have NB : Hid (∀ j, j < k → N j ≤ 1000) := fun j hj => (t5 j hj).2
      have B1 := hd t7
      clear hr t1 t3 t4 t5 t6 t7 hRV LC0
      go_wp2
      go_loopw [10, 14] (fun m ii wq => ∃ q : Nat, q ≤ k ∧ ii = .int .i64 q ∧ Hid (QRel wr wq gL k B N C (tx2 N) tl2 m q)) (fun _ ii _ => k - (intOf ii).toNat)
      case atStart => exact ⟨0, Nat.zero_le _, rfl, Q0⟩
      case round =>
        obtain ⟨q, hq, rfl, hg⟩ := hrel
        clear Q0
        obtain ⟨P, H, D, vs, β, t1, t2, t3, t4, t5, t6, t7, t8⟩ := hg.out
        by_cases hqK : q < k
        · have i2 : (q : Int) < (k : Int) := by omega
          have cl := t2.cell q hqK
          have row := t1.2 q hqK
          simp only [t7 q (Nat.le_refl _), List.append_nil, tx2, List.length_replicate] at row
          have hnq := NB.out q hqK
          have cN := row.isE.2.1
          have cM := row.isE.2.2.1
          obtain ⟨x', w3, hap, hJ⟩ := jrel_push row (0, 1 + (q : Int), 0) (by omega)
          obtain ⟨g, c, v', w4, hxv, hap2, hQ⟩ := hg.out.step hqK hJ BW.out GW.out (by omega)
          subst hxv
          have Q4 := hd hQ
          simp only [elc] at hap
          clear hg t1 t2 t3 t4 t5 t6 t7 t8 row hJ hQ
          generalize B q = bq at *
          generalize N q = nq at *
          generalize C q = cq at *
          go_wp2_with (at_builtin; first | refine wpList_append_k _ rfl _ _ 22 22 rfl _ _ rfl rfl (hap _) ?_ | refine wpList_append_k _ rfl _ _ 54 54 rfl _ _ rfl rfl (hap2 _) ?_)
          exact ⟨⟨q + 1, by omega, by go_num, Q4⟩, by simp [intOf]; omega⟩
        · have i2 : ¬ (q : Int) < (k : Int) := by omega
          have hqq : q = k := by omega
          obtain ⟨va, vc, rfl, hf⟩ := formK t4 (t5.trans hqq)
          obtain ⟨gg, rfl, hgg, hcell⟩ := hf hK0
          have LL := hd t2
          have TT := hd t1
          have RR : Hid (∀ j, j < k → vs[j]? = some (.slice (some ⟨H j, 0, none⟩) (N j + 1) (D j)) ∧ RowE wr (H j) (N j + 1) (D j) (tx2 N j ++ tl2 j)) := fun j hj => ⟨(t6 j (by omega)).1, (t6 j (by omega)).2.1⟩
          have B2 := hd (B1.out.trans (t3.below B1.out.size (fun y hy => by
            obtain ⟨j, hj, rfl⟩ := hy
            exact BA.out j hj)))
          have CC := hd hcell
          clear hg t1 t2 t3 t4 t5 t6 t7 t8 hf hqq hcell B1
          go_wp2
          go_loopw [15] (fun ii wq => ∃ u mm : Nat, u ≤ k ∧ ii = .int .i64 u ∧ wq = wr.drewN mm) (fun ii _ => k - (intOf ii).toNat)
          case atStart => exact ⟨0, 0, Nat.zero_le _, rfl, rfl⟩
          case round =>
            obtain ⟨u, mm, hu, rfl, rfl⟩ := hrel
            by_cases huK : u < k
            · have i3 : (u : Int) < (k : Int) := by omega
              have cl := LL.out.cell u huK
              obtain ⟨r1, r2⟩ := RR.out u huK
              have cg := (CC.out u huK).trans r1
              have RB := TT.out.2 u huK
              have hbu := NB.out u huK
              have eB : List.take (N u) (tx2 N u ++ P u) = List.replicate (N u) (mk2 u) := by
                rw [List.take_append_of_le_length (by simp [tx2])]
                simp [tx2]
              have iB := RB.isE.take (N u) (by simp [tx2])
              rw [eB] at iB
              have IB := hd (iB.drewN mm)
              have eH : (tx2 N u ++ tl2 u)[N u]'(by simp [tx2, tl2]) = (0, 1 + (u : Int), 0) := by
                rw [List.getElem_append_right (by simp [tx2])]
                simp [tx2, tl2]
              obtain ⟨-, h1, -⟩ := r2.isE.at (N u) (by omega) (by simp [tx2, tl2])
              rw [eH] at h1
              simp only [Nat.zero_add] at h1
              have cH1 := r2.isE.2.1
              have cH2 := r2.isE.2.2.1
              have cl' : (wr.drewN mm).cell? ⟨gL, u, none⟩ = _ := cl
              have cg' : (wr.drewN mm).cell? ⟨gg, u, none⟩ = _ := cg
              have h1' : (wr.drewN mm).cell? _ = _ := h1
              clear r1 r2 RB eB iB eH cl cg h1
              generalize B u = bu at *
              generalize N u = nu at *
              generalize C u = cu at *
              generalize H u = hu' at *
              generalize D u = du at *
              obtain ⟨wz, hz⟩ : ∃ wz, wz = wr.drewN mm := ⟨_, rfl⟩
              have HZ := hd hz
              rw [← hz] at IB cl' cg' h1' ⊢
              clear hz
              have k210 : (210 + (u : Int)) ≤ 255 := by omega
              go_wp2
              go_quiet (first | (go_at_call 21; exact Calls.quiet_of (full_any _ _ _ (210 + (u : Int)) _ (IB.out.drewN _) (by omega) k210)))
              go_wp2
              exact ⟨⟨u + 1, _, by omega, by go_num, by rw [HZ.out]; exact drewN2 _ _ _⟩, by simp [intOf]; omega⟩
            · have i3 : ¬ (u : Int) < (k : Int) := by omega
              have B3 := hd (below_drewN B2.out mm)
              generalize wr.drewN mm = wz at *
              go_wp2_with fail
              refine (same_any a b M M ca cb RM RM _ (HE.out.below B3.out) (HF.out.below B3.out)).mono ?_
              rintro e w9 ⟨rfl, m9, rfl⟩
              rw [decide_eq_true rfl]
              have B9 := hd (below_drewN B3.out m9)
              generalize wz.drewN m9 = wy at *
              go_wp2
              go_ret
              exact ⟨rfl, B9.out⟩

end Go.Proofs.Ytbgpmekjcepmaab
