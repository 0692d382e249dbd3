/-
  SpaceRebuilt: the walk.
-/
import Derived.Test.YtmbnimlibnheeaaDoorRb
namespace Go.Proofs.YtmbnimlibnheeaaDoor
open Go.RowKit
set_option linter.unusedVariables false

def aOp : OpE := ⟨1, 0, 97, 1, 1⟩

set_option maxRecDepth 100000 in
set_option maxHeartbeats 8000000 in
theorem spaceRebuilt_any (f : Bool) (a : Option Addr) (N c : Nat) (a2 : Option Addr) (N2 c2 : Nat) (X : Nat → LV) (ys : List OpE) (w : World) (hT : Table w) (hE : IsL w a N c X) (hO : OkL X) (hE2 : IsO w a2 N2 c2 ys) (hO2 : OkO ys) :
    Calls Tryd.prog 3 #[.bool f, .slice a N c, .slice a2 N2 c2] w fun e w' => e = .returned (.bool true) ∧ Below w.heap.size w w' := by
  have HT := hd hT
  have HE := hd hE
  have HO := hd hO
  have HE2 := hd hE2
  have HO2 := hd hO2
  have HN2 := hd hE2.1
  have hc1 : N2 ≤ c2 := hE2.2.1
  have hc2 : c2 ≤ 9223372036854775807 := hE2.2.2.1
  have hc3 : N ≤ c := hE.1
  have hc4 : c ≤ 9223372036854775807 := hE.2.1
  clear hT hE hO hE2 hO2
  go_enter Tryd.func3, Tryd.ntmps3
  go_wp2_with fail
  refine (mo_new (MO.nil w) 0 f).mono ?_
  rintro e w1 ⟨x, rfl, hM1, -⟩
  have M1 := hd hM1
  clear hM1
  go_wp2_with fail
  refine (mo_new M1.out 1 f).mono ?_
  rintro e w2 ⟨y, rfl, hM2, -⟩
  rw [F2_start] at hM2
  have M2 := hd hM2
  clear hM2 M1
  have okA : OkOp aOp := ⟨by decide, by decide⟩
  have hkE : keepE ⟨f, [], 0⟩ 1 aOp = 0 := by unfold keepE; rw [show validP aOp = 0 from by decide]; simp
  have hkS : keepS ⟨f, [], 0⟩ 1 aOp = ⟨f, [(1, aOp)], 1⟩ := by unfold keepS; rw [if_pos hkE]; rfl
  go_wp2_with fail
  refine (mo_keep M2.out 0 rfl 1 aOp okA).mono ?_
  rintro e w3 ⟨rfl, hM3, -⟩
  rw [hkE]
  rw [F2_0, hkS] at hM3
  have M3 := hd hM3
  clear hM3 M2 hkE hkS okA
  go_wp2_with fail
  refine (mb_queue M3.out 0 rfl).mono ?_
  rintro e w4 ⟨u, rfl, hA, b4⟩
  obtain ⟨g4, c4, rfl, -, -, hq1, hq2⟩ := hA.form
  have S0 : Hid (∃ p, MO w w4 NoK (F2 x p y ⟨f, [], 0⟩) ∧ Rs f p) := ⟨_, M3.out.below b4, ⟨rfl, by simp [Sp.ms], by simp [Sp.ms], by simp, by simp⟩⟩
  clear hA b4 M3
  go_wp2
  go_loopw [10] (fun u wr => ∃ j : Nat, j ≤ N ∧ j ≤ 60 ∧ u = .int .i64 j ∧ Hid (∃ p, MO w wr NoK (F2 x p y ⟨f, [], 0⟩) ∧ Rs f p)) (fun u _ => N - (intOf u).toNat)
  case atStart => exact ⟨0, Nat.zero_le _, by omega, rfl, S0⟩
  case round =>
    obtain ⟨j, hj, hj6, rfl, hr⟩ := hrel
    clear S0
    obtain ⟨p, hM, hRs⟩ := hr.out
    by_cases hlt : j < N ∧ j < 60
    · obtain ⟨hlt, hlt6⟩ := hlt
      obtain ⟨b, off, rfl, hbl, hcs⟩ := HE.out.2.2 (by omega)
      obtain ⟨k0, k1, k2, k3, k4, k5, k6, k7⟩ := hcs j hlt
      have cb : ∀ o, wr.cell? ⟨b, o, none⟩ = w.cell? ⟨b, o, none⟩ := fun o => hM.base.cell (p := ⟨b, o, none⟩) hbl
      rw [← cb] at k0 k1 k2 k3 k4 k5 k6 k7
      have hok := HO.out j
      have bO : ∀ o, Below wr.heap.size wr (wr.alloc o) := fun o => (Below.refl _ _).alloc (Nat.le_refl _) o
      have Z1 : Hid (∀ W, MO w W NoK (F2 x p y ⟨f, [], 0⟩) → Calls Tryd.prog 9 #[.pointer (some ⟨x, 0, none⟩), .int .i64 (X j).mark, (X j).op.val] W fun e w' => (∃ E, e = .returned (.int .i64 E)) ∧ ∃ p, MO w w' NoK (F2 x p y ⟨f, [], 0⟩) ∧ Rs f p) := fun W hW => by
        refine (mo_keep hW 0 rfl _ _ hok).mono ?_
        rintro e w' ⟨rfl, h1, -⟩
        rw [F2_0] at h1
        exact ⟨⟨_, rfl⟩, _, h1, hRs.keep _ _⟩
      have Z2 : Hid (∀ W, MO w W NoK (F2 x p y ⟨f, [], 0⟩) → Calls Tryd.prog 11 #[.pointer (some ⟨x, 0, none⟩), .int .i64 (X j).mark] W fun e w' => (∃ E, e = .returned (.int .i64 E)) ∧ ∃ p, MO w w' NoK (F2 x p y ⟨f, [], 0⟩) ∧ Rs f p) := fun W hW => by
        refine (mo_drop hW 0 rfl _).mono ?_
        rintro e w' ⟨rfl, h1, -⟩
        rw [F2_0] at h1
        exact ⟨⟨_, rfl⟩, _, h1, hRs.drop _⟩
      have Z3 : Hid (∀ W, MO w W NoK (F2 x p y ⟨f, [], 0⟩) → Calls Tryd.prog 12 #[.pointer (some ⟨x, 0, none⟩), (X j).op.val] W fun e w' => (∃ E, e = .returned E) ∧ ∃ p, MO w w' NoK (F2 x p y ⟨f, [], 0⟩) ∧ Rs f p) := fun W hW => by
        refine (mo_cross hW 0 rfl HT.out _ hok).mono ?_
        rintro e w' ⟨rfl, h1, -⟩
        rw [F2_0] at h1
        exact ⟨⟨_, rfl⟩, _, h1, hRs.cross _⟩
      have Z4 : Hid (∀ W, MO w W NoK (F2 x p y ⟨f, [], 0⟩) → ∃ p, MO w W NoK (F2 x p y ⟨f, [], 0⟩) ∧ Rs f p) := fun W hW => ⟨p, hW, hRs⟩
      have HMA : Hid (∀ o, MO w (wr.alloc o) NoK (F2 x p y ⟨f, [], 0⟩)) := fun o => hM.below (bO o)
      clear hr hM hRs hcs cb hok bO hbl
      generalize X j = z at *
      obtain ⟨zk, zw, zm, zo⟩ := z
      obtain ⟨o0, o1, o2, o3, o4⟩ := zo
      simp only [OpE.val] at k0 k1 k2 k3 k4 k5 k6 k7 Z1 Z2 Z3
      have i1 : (j : Int) < (N : Int) := by omega
      have i2 : (j : Int) < 60 := by omega
      by_cases h1 : zk = 1
      · subst h1
        go_wp2_with fail
        refine (Z1.out _ (HMA.out _)).mono ?_
        rintro e w5 ⟨⟨E, rfl⟩, h5⟩
        have Z := hd h5
        clear h5
        go_wp2
        exact ⟨⟨j + 1, by omega, by omega, by go_num, Z⟩, by simp [intOf]; omega⟩
      · by_cases h2 : zk = 2
        · subst h2
          go_wp2_with fail
          refine (Z2.out _ (HMA.out _)).mono ?_
          rintro e w5 ⟨⟨E, rfl⟩, h5⟩
          have Z := hd h5
          clear h5
          go_wp2
          exact ⟨⟨j + 1, by omega, by omega, by go_num, Z⟩, by simp [intOf]; omega⟩
        · by_cases h3 : zk = 3
          · subst h3
            go_wp2_with fail
            refine (Z3.out _ (HMA.out _)).mono ?_
            rintro e w5 ⟨⟨E, rfl⟩, h5⟩
            have Z := hd h5
            clear h5
            go_wp2
            exact ⟨⟨j + 1, by omega, by omega, by go_num, Z⟩, by simp [intOf]; omega⟩
          · have e1 : (zk == 1) = false := by simpa using h1
            have e2 : (zk == 2) = false := by simpa using h2
            have e3 : (zk == 3) = false := by simpa using h3
            have Z : Hid (∃ p, MO w (wr.alloc (.cells #[.int .i64 zk, .bool zw, .int .i64 zm, .int .i64 o0, .int .i64 o1, .int .u8 o2, .int .i64 o3, .int .i64 o4] 33)) NoK (F2 x p y ⟨f, [], 0⟩) ∧ Rs f p) := Z4.out _ (HMA.out _)
            clear h1 h2 h3
            go_wp2
            exact ⟨⟨j + 1, by omega, by omega, by go_num, Z⟩, by simp [intOf]; omega⟩
    · have HM := hd hM
      have HRs := hd hRs
      clear hr hM hRs HE HO
      rcases (by omega : (¬ (j : Int) < (N : Int)) ∨ ((j : Int) < (N : Int) ∧ ¬ (j : Int) < 60)) with i1 | ⟨i1, i2⟩ <;>
      · clear hlt
        go_wp2_with fail
        refine (mb_queue HM.out 0 rfl).mono ?_
        rintro e w5 ⟨u, rfl, hA, b5⟩
        obtain ⟨gq, cq, rfl, hRq, hgq, hcq1, hcq2⟩ := hA.form
        have hn4 : p.q.length ≤ 4096 := by have h := mo_ok HM.out 0 rfl; have := h.n; have := h.m; omega
        obtain ⟨n, hn⟩ : ∃ n, p.q.length = n := ⟨_, rfl⟩
        have HN := hd hn
        rw [hn] at hRq hcq2 hn4 ⊢
        have S2 : Hid (∃ r, MO w w5 (· = gq) (F2 x p y r) ∧ Kn f p 0 r) := ⟨_, HM.out.adds b5 (fun k hk => .inr (by omega)) (fun k hk => by rw [hk]; exact hRq.lt), Kn.start HRs.out⟩
        have R2 := hd hRq
        clear hA b5 hRq hgq hn HM
        go_wp2
        go_loopw [13] (fun u wr => ∃ k : Nat, k ≤ n ∧ u = .int .i64 k ∧ Hid (∃ r, MO w wr (· = gq) (F2 x p y r) ∧ Kn f p k r) ∧ Hid (RowF mkd 6 wr gq n cq 39 p.q)) (fun u _ => n - (intOf u).toNat)
        case atStart => exact ⟨0, Nat.zero_le _, rfl, S2, R2⟩
        case round =>
          obtain ⟨k, hk, rfl, hr, HRq⟩ := hrel
          clear S2 R2
          obtain ⟨r, hM, hKn⟩ := hr.out
          by_cases hkn : k < n
          · have k1 : k < p.q.length := by have := HN.out; omega
            obtain ⟨e1, e2⟩ := hKn.step HRs.out k1
            have hok : OkOp p.q[k].2 := (mo_ok hM 0 rfl).ch _ (List.mem_map_of_mem (List.getElem_mem k1))
            have CK : Hid (∀ W, Below wr.heap.size wr W → Calls Tryd.prog 9 #[.pointer (some ⟨y, 0, none⟩), .int .i64 p.q[k].1, p.q[k].2.val] W fun e w' => e = .returned (.int .i64 (validP p.q[k].2)) ∧ (∃ r, MO w w' (· = gq) (F2 x p y r) ∧ (validP p.q[k].2 = 0 → Kn f p (k + 1) r)) ∧ RowF mkd 6 w' gq n cq 39 p.q) := fun W hW => by
              refine (mo_keep (hM.below hW) 1 rfl _ _ hok).mono ?_
              rintro e w' ⟨rfl, h1, h2⟩
              rw [F2_1] at h1
              rw [e1]
              refine ⟨rfl, ⟨_, h1, e2⟩, ?_⟩
              obtain ⟨cur, hh, rr⟩ := HRq.out
              exact ⟨cur, (h2 gq rfl).trans ((hW.block _ (HRq.out.lt)).trans hh), rr⟩
            have CR : Hid (∀ W, RowF mkd 6 W gq n cq 39 p.q → W.cell? ⟨gq, k * 6, none⟩ = some (.int .i64 p.q[k].1) ∧ W.cell? ⟨gq, k * 6 + 1, none⟩ = some (.int .i64 p.q[k].2.kind) ∧ W.cell? ⟨gq, k * 6 + 2, none⟩ = some (.int .i64 p.q[k].2.pos) ∧ W.cell? ⟨gq, k * 6 + 3, none⟩ = some (.int .u8 p.q[k].2.ch) ∧ W.cell? ⟨gq, k * 6 + 4, none⟩ = some (.int .i64 p.q[k].2.cl) ∧ W.cell? ⟨gq, k * 6 + 5, none⟩ = some (.int .i64 p.q[k].2.sq)) := fun W h => by
              have b0 := h.cell sz_mkd k 0 k1 (by omega)
              have b1 := h.cell sz_mkd k 1 k1 (by omega)
              have b2 := h.cell sz_mkd k 2 k1 (by omega)
              have b3 := h.cell sz_mkd k 3 k1 (by omega)
              have b4 := h.cell sz_mkd k 4 k1 (by omega)
              have b5 := h.cell sz_mkd k 5 k1 (by omega)
              simp [mkd] at b0 b1 b2 b3 b4 b5
              exact ⟨b0, b1, b2, b3, b4, b5⟩
            have CV : Hid (∀ W, Calls Tryd.prog 13 #[p.q[k].2.val] W fun e w' => e = .returned (.int .i64 (validP p.q[k].2)) ∧ Below W.heap.size W w') := fun W => valid_any _ _ _ _ _ W hok.1 hok.2
            clear hr hM hKn e1 e2 hok
            generalize validP p.q[k].2 = V at *
            generalize p.q[k] = pk at *
            obtain ⟨mk, o0, o1, o2, o3, o4⟩ := pk
            simp only [OpE.val] at CK CR CV
            obtain ⟨b0, b1, b2, b3, b4, b5⟩ := CR.out wr HRq.out
            have i3 : (k : Int) < (n : Int) := by omega
            clear k1
            go_wp2_with fail
            refine (CV.out wr).mono ?_
            rintro e wA ⟨rfl, bA⟩
            have RA := HRq.out.fr (S := fun _ => False) (Fr.of_below bA) (fun h => h)
            have CK2 : Hid (∀ U, Below wA.heap.size wA U → Calls Tryd.prog 9 #[.pointer (some ⟨y, 0, none⟩), .int .i64 mk, .agg #[.int .i64 o0, .int .i64 o1, .int .u8 o2, .int .i64 o3, .int .i64 o4]] U fun e w' => e = .returned (.int .i64 V) ∧ (∃ r, MO w w' (· = gq) (F2 x p y r) ∧ (V = 0 → Kn f p (k + 1) r)) ∧ RowF mkd 6 w' gq n cq 39 p.q) := fun U hU => CK.out U (bA.trans (hU.mono bA.size))
            clear b0 b1 b2 b3 b4 b5 CK bA CV
            obtain ⟨b0, b1, b2, b3, b4, b5⟩ := CR.out wA RA
            have gl : gq < wA.heap.size := RA.lt
            clear RA HRq gl
            go_wp2_with fail
            go_region_held3 (fun U => U.cell? ⟨gq, k * 6, none⟩ = some (.int .i64 mk) ∧ U.cell? ⟨gq, k * 6 + 1, none⟩ = some (.int .i64 o0) ∧ U.cell? ⟨gq, k * 6 + 2, none⟩ = some (.int .i64 o1) ∧ U.cell? ⟨gq, k * 6 + 3, none⟩ = some (.int .u8 o2) ∧ U.cell? ⟨gq, k * 6 + 4, none⟩ = some (.int .i64 o3) ∧ U.cell? ⟨gq, k * 6 + 5, none⟩ = some (.int .i64 o4)) (first | (with_reducible exact ⟨by assumption, by assumption, by assumption, by assumption, by assumption, by assumption⟩) | (go_keep; done)) (first | (go_at_call 9; refine (CK2.out _ ?_).mono ?_; (first | exact Below.refl _ _ | exact (Below.refl _ _).drew | exact below_drewN (Below.refl _ _) _); rintro e v ⟨rfl, kv1, kv2⟩; obtain ⟨m0, m1, m2, m3, m4, m5⟩ := CR.out v kv2; have Q3 := hd kv1; have Q4 := hd kv2; clear kv1 kv2))
            by_cases hv : V = 0
            · subst hv
              obtain ⟨r', q1, q2⟩ := Q3.out
              have Z : Hid (∃ r, MO w v (· = gq) (F2 x p y r) ∧ Kn f p (k + 1) r) := ⟨r', q1, q2 rfl⟩
              clear q1 q2 Q3 m0 m1 m2 m3 m4 m5
              go_wp2_with fail
              exact ⟨⟨k + 1, by omega, by go_num, Z, Q4⟩, by simp [intOf]; omega⟩
            · have hv' : (V == 0) = false := by simpa using hv
              obtain ⟨r', q1, -⟩ := Q3.out
              have Z := hd q1.base
              clear q1 Q3 m0 m1 m2 m3 m4 m5 Q4
              go_wp2
              go_ret
              exact ⟨rfl, Z.out⟩
          · obtain rfl : k = n := by omega
            have S3 : Hid (∃ p r, MO w wr (· = gq) (F2 x p y r) ∧ Alk p r) := ⟨p, r, hM, hKn.f.trans HRs.out.f.symm, by rw [hKn.q]; exact List.take_of_length_le (by rw [HN.out]; exact Nat.le_refl _)⟩
            have R3 := HRq
            have hQl := HN
            generalize p.q = Q at *
            have i3 : ¬ (k : Int) < (k : Int) := by omega
            obtain ⟨n, hnk⟩ : ∃ n, k = n := ⟨_, rfl⟩
            subst hnk
            clear hr hM hKn HRq hkn hk HRs HN
            generalize hnn : k = n at *
            clear hnn
            go_wp2
            go_loopw [16] (fun u wr => ∃ i : Nat, i ≤ N2 ∧ i ≤ 60 ∧ u = .int .i64 i ∧ Hid (∃ p r, MO w wr (· = gq) (F2 x p y r) ∧ Alk p r) ∧ Hid (RowF mkd 6 wr gq n cq 39 Q)) (fun u _ => N2 - (intOf u).toNat)
            case atStart => exact ⟨0, Nat.zero_le _, by omega, rfl, S3, R3⟩
            case round =>
              obtain ⟨i, hi, hi6, rfl, hr, HRq⟩ := hrel
              clear S3 R3
              obtain ⟨p, r, hM, hAl⟩ := hr.out
              by_cases hlt : i < N2 ∧ i < 60
              · obtain ⟨hlt, hlt6⟩ := hlt
                have jx : i < ys.length := by have := HN2.out; omega
                obtain ⟨b, off, rfl, hbl⟩ := HE2.out.addr (by omega)
                have hok := HO2.out ys[i] (List.getElem_mem jx)
                have HC : Hid (∀ W, Below w.heap.size w W → W.cell? ⟨b, off + i * 5, none⟩ = some (.int .i64 ys[i].kind) ∧ W.cell? ⟨b, off + i * 5 + 1, none⟩ = some (.int .i64 ys[i].pos) ∧ W.cell? ⟨b, off + i * 5 + 2, none⟩ = some (.int .u8 ys[i].ch) ∧ W.cell? ⟨b, off + i * 5 + 3, none⟩ = some (.int .i64 ys[i].cl) ∧ W.cell? ⟨b, off + i * 5 + 4, none⟩ = some (.int .i64 ys[i].sq)) :=
                  fun W hW => (HE2.out.fr (S := fun _ => False) ⟨hW.os, hW.tape, hW.output, hW.size, fun k hk _ => hW.block k hk⟩ (fun _ _ _ _ h => h)).at i hlt jx
                obtain ⟨hcO, hcA⟩ := hAl.cross ys[i]
                have C1 : Hid (Calls Tryd.prog 12 #[.pointer (some ⟨x, 0, none⟩), ys[i].val] wr fun e w' => e = .returned (.tuple #[(crossO p ys[i]).val, .int .i64 (validP ys[i])]) ∧ MO w w' (· = gq) (F2 x (crossS p ys[i]) y r) ∧ KP (· = gq) wr w') := by
                  refine (mo_cross hM 0 rfl HT.out ys[i] hok).mono ?_
                  rintro e w' ⟨rfl, h1, h2⟩
                  rw [F2_0] at h1
                  exact ⟨rfl, h1, h2⟩
                have C2 : Hid (∀ W K, MO w W K (F2 x (crossS p ys[i]) y r) → Calls Tryd.prog 12 #[.pointer (some ⟨y, 0, none⟩), ys[i].val] W fun e w' => e = .returned (.tuple #[(crossO p ys[i]).val, .int .i64 (validP ys[i])]) ∧ MO w w' K (F2 x (crossS p ys[i]) y (crossS r ys[i])) ∧ KP K W w') := fun W K hW => by
                  refine (mo_cross hW 1 rfl HT.out ys[i] hok).mono ?_
                  rintro e w' ⟨rfl, h1, h2⟩
                  rw [F2_1] at h1
                  rw [hcO]
                  exact ⟨rfl, h1, h2⟩
                have CV : Hid (∀ W, Calls Tryd.prog 13 #[ys[i].val] W fun e w' => e = .returned (.int .i64 (validP ys[i])) ∧ Below W.heap.size W w') := fun W => valid_any _ _ _ _ _ W hok.1 hok.2
                have HAl := hd hcA
                have HB0 := hd hM.base
                clear hr hM hAl hok hcO hcA
                generalize validP ys[i] = V at *
                generalize crossS p ys[i] = p2 at *
                generalize crossS r ys[i] = r2 at *
                generalize crossO p ys[i] = R at *
                generalize ys[i] = z at *
                obtain ⟨zk, zp, zc, zl, zt⟩ := z
                obtain ⟨rk, rp, rc, rq, rs⟩ := R
                simp only [OpE.val] at C1 C2 CV HC
                have i1 : (i : Int) < (N2 : Int) := by omega
                have i2 : (i : Int) < 60 := by omega
                clear jx
                obtain ⟨p0, p1, p2', p3, p4⟩ := HC.out wr HB0.out
                go_wp2_with fail
                refine C1.out.mono ?_
                rintro e wA ⟨rfl, hMA, kA⟩
                have bA : Below wA.heap.size wA (wA.alloc (.cells #[.int .i64 rk, .int .i64 rp, .int .u8 rc, .int .i64 rq, .int .i64 rs] 29)) := (Below.refl _ _).alloc (Nat.le_refl _) _
                have hgA : gq < wA.heap.size := hMA.old gq rfl
                have hM2 := hMA.adds (K' := fun k => k = gq ∨ k = wA.heap.size) bA (fun k hk => hk.imp id (fun h => by omega)) (fun k hk => by simp; omega)
                have XA := hd (heap_alloc_new wA (.cells #[.int .i64 rk, .int .i64 rp, .int .u8 rc, .int .i64 rq, .int .i64 rs] 29))
                have RA : Hid (RowF mkd 6 (wA.alloc (.cells #[.int .i64 rk, .int .i64 rp, .int .u8 rc, .int .i64 rq, .int .i64 rs] 29)) gq n cq 39 Q) := by
                  obtain ⟨cur, hh, rr⟩ := HRq.out
                  exact ⟨cur, (bA.block _ hgA).trans ((kA gq rfl).trans hh), rr⟩
                have M2 := hd hM2
                have HBA := hd hMA.base
                clear p0 p1 p2' p3 p4 C1 hMA kA hM2 HRq HB0
                obtain ⟨p0, p1, p2', p3, p4⟩ := HC.out wA HBA.out
                have hbA : b < wA.heap.size := cell_in p0
                clear bA hgA
                go_wp2_with fail
                refine (C2.out _ _ M2.out).mono ?_
                rintro e wB ⟨rfl, hMB, kB⟩
                have bB : Below wB.heap.size wB (wB.alloc (.cells #[.int .i64 rk, .int .i64 rp, .int .u8 rc, .int .i64 rq, .int .i64 rs] 29)) := (Below.refl _ _).alloc (Nat.le_refl _) _
                have XB := (bB.block _ (hMB.old _ (.inr rfl))).trans ((kB wA.heap.size (.inr rfl)).trans XA.out)
                have YB := heap_alloc_new wB (.cells #[.int .i64 rk, .int .i64 rp, .int .u8 rc, .int .i64 rq, .int .i64 rs] 29)
                obtain ⟨⟨a0, a1, a2', a3, a4⟩, -⟩ := cells5 ((kB wA.heap.size (.inr rfl)).trans XA.out)
                have hsA : wA.heap.size < wB.heap.size := hMB.old _ (.inr rfl)
                have RB : Hid (RowF mkd 6 (wB.alloc (.cells #[.int .i64 rk, .int .i64 rp, .int .u8 rc, .int .i64 rq, .int .i64 rs] 29)) gq n cq 39 Q) := by
                  obtain ⟨cur, hh, rr⟩ := RA.out
                  exact ⟨cur, (bB.block _ (hMB.old _ (.inl rfl))).trans ((kB gq (.inl rfl)).trans hh), rr⟩
                have MB := hd ((hMB.less (K' := (· = gq)) (fun k hk => .inl hk)).below bB)
                clear bB XB YB hMB kB RA M2 XA C2 p0 p1 p2' p3 p4
                go_wp2_with fail
                refine (one_true ⟨rk, rp, rc, rq, rs⟩ _).mono ?_
                rintro e wC ⟨rfl, bC⟩
                have MC := hd (MB.out.below bC)
                have RC := hd (RB.out.fr (S := fun _ => False) (Fr.of_below bC) (fun h => h))
                obtain ⟨p0, p1, p2', p3, p4⟩ := HC.out wC MC.out.base
                clear bC MB RB a0 a1 a2' a3 a4 hsA hbA
                go_wp2_with fail
                refine (CV.out wC).mono ?_
                rintro e wD ⟨rfl, bD⟩
                have MD := hd (MC.out.below bD)
                have RD := hd (RC.out.fr (S := fun _ => False) (Fr.of_below bD) (fun h => h))
                clear bD MC RC p0 p1 p2' p3 p4 HC CV
                have hrem : Int.tmod (i : Int) 5 = ((i % 5 : Nat) : Int) := by rw [Int.tmod_eq_emod_of_nonneg (by omega)]; omega
                have hquo : Int.tdiv (i : Int) 5 = ((i / 5 : Nat) : Int) := by rw [Int.tdiv_eq_ediv_of_nonneg (by omega)]; omega
                have S4 : Hid (∃ p r, MO w wD (· = gq) (F2 x p y r) ∧ Alk p r) := ⟨p2, r2, MD.out, HAl.out⟩
                obtain ⟨i5, hi5⟩ : ∃ k, i / 5 = k := ⟨_, rfl⟩
                obtain ⟨i4, hi4⟩ : ∃ k, i % 5 = k := ⟨_, rfl⟩
                rw [hi5] at hquo
                rw [hi4] at hrem
                have hl4 : i4 < 5 := by omega
                have hl5 : i5 ≤ 12 := by omega
                clear hi4 hi5
                by_cases h4 : i4 = 4
                · subst h4
                  by_cases h5 : i5 < n
                  · have kq : i5 < Q.length := by have := hQl.out; omega
                    have HCE : Hid (∀ W, RowF mkd 6 W gq n cq 39 Q → W.cell? ⟨gq, i5 * 6, none⟩ = some (.int .i64 Q[i5].1)) := fun W h => by
                      have := h.cell sz_mkd i5 0 kq (by omega)
                      simpa [mkd] using this
                    generalize Q[i5].1 = mq at *
                    obtain ⟨hdn, hda⟩ := HAl.out.drop mq
                    have CD1 : Hid (Calls Tryd.prog 11 #[.pointer (some ⟨x, 0, none⟩), .int .i64 mq] wD fun e w' => e = .returned (.int .i64 (dropN p2 mq)) ∧ MO w w' (· = gq) (F2 x (dropS p2 mq) y r2) ∧ RowF mkd 6 w' gq n cq 39 Q) := by
                      refine (mo_drop MD.out 0 rfl mq).mono ?_
                      rintro e w' ⟨rfl, h1, h2⟩
                      rw [F2_0] at h1
                      obtain ⟨cur, hh, rr⟩ := RD.out
                      exact ⟨rfl, h1, cur, (h2 gq rfl).trans hh, rr⟩
                    have CD2 : Hid (∀ W, MO w W (· = gq) (F2 x (dropS p2 mq) y r2) → RowF mkd 6 W gq n cq 39 Q → Calls Tryd.prog 11 #[.pointer (some ⟨y, 0, none⟩), .int .i64 mq] W fun e w' => e = .returned (.int .i64 (dropN p2 mq)) ∧ (∃ p r, MO w w' (· = gq) (F2 x p y r) ∧ Alk p r) ∧ RowF mkd 6 w' gq n cq 39 Q) := fun W hW hR => by
                      refine (mo_drop hW 1 rfl mq).mono ?_
                      rintro e w' ⟨rfl, h1, h2⟩
                      rw [F2_1] at h1
                      rw [hdn]
                      obtain ⟨cur, hh, rr⟩ := hR
                      exact ⟨rfl, ⟨_, _, h1, hda⟩, cur, (h2 gq rfl).trans hh, rr⟩
                    have c5 := HCE.out wD RD.out
                    have i5n : (i5 : Int) < (n : Int) := by omega
                    clear hdn hda kq S4
                    generalize dropN p2 mq = DN at *
                    go_wp2_with fail
                    refine CD1.out.mono ?_
                    rintro e wE ⟨rfl, hME, hRE⟩
                    have cE := HCE.out wE hRE
                    have C3 := hd (CD2.out wE hME hRE)
                    clear hME hRE CD1 CD2 c5
                    go_wp2_with fail
                    refine C3.out.mono ?_
                    rintro e wF ⟨rfl, hMF, hRF⟩
                    have ZF := hd hMF
                    have RF := hd hRF
                    clear hMF hRF C3 cE
                    go_wp2
                    exact ⟨⟨i + 1, by omega, by omega, by go_num, ZF, RF⟩, by simp [intOf]; omega⟩
                  · have i5n : ¬ (i5 : Int) < (n : Int) := by omega
                    go_wp2
                    exact ⟨⟨i + 1, by omega, by omega, by go_num, S4, RD⟩, by simp [intOf]; omega⟩
                · have i4n : ¬ ((i4 : Int) = 4) := by omega
                  have i4b : ((i4 : Int) == 4) = false := by simpa using i4n
                  go_wp2
                  exact ⟨⟨i + 1, by omega, by omega, by go_num, S4, RD⟩, by simp [intOf]; omega⟩
              · have HM := hd hM
                have HAl := hd hAl
                clear hr hM hAl HE2 HO2 HRq
                rcases (by omega : (¬ (i : Int) < (N2 : Int)) ∨ ((i : Int) < (N2 : Int) ∧ ¬ (i : Int) < 60)) with i1 | ⟨i1, i2⟩ <;>
                · clear hlt
                  go_wp2_with fail
                  refine (mb_queue HM.out 0 rfl).mono ?_
                  rintro e wA ⟨u, rfl, hA, bA⟩
                  obtain ⟨gA, cA, rfl, hRA, -, hA1, hA2⟩ := hA.form
                  have MA := hd (HM.out.below bA)
                  have RA := hd hRA
                  clear hA hRA bA
                  go_wp2_with fail
                  refine (mb_queue MA.out 1 rfl).mono ?_
                  rintro e wB ⟨u, rfl, hB, bB⟩
                  obtain ⟨gB, cB, rfl, hRB, -, hB1, hB2⟩ := hB.form
                  have MB := hd (MA.out.below bB)
                  rw [HAl.out.2] at hRB hB2 ⊢
                  have CQ : Hid (Calls Tryd.prog 15 #[.slice (some ⟨gA, 0, none⟩) p.q.length cA, .slice (some ⟨gB, 0, none⟩) p.q.length cB] wB fun e w' => e = .returned (.bool true) ∧ Below wB.heap.size wB w') := queues_true _ _ _ cA cB p.q wB ((RA.out.fr (S := fun _ => False) (Fr.of_below bB) (fun h => h)).isK) hRB.isK
                  clear hB hRB bB RA MA
                  go_wp2_with fail
                  refine CQ.out.mono ?_
                  rintro e wC ⟨rfl, bC⟩
                  have Z := hd (MB.out.base.trans (bC.mono MB.out.base.size))
                  clear bC CQ
                  go_wp2
                  go_ret
                  exact ⟨rfl, Z.out⟩

end Go.Proofs.YtmbnimlibnheeaaDoor
