/-
  swaps: the operations that put one string in the other's place.
-/
import Derived.Test.YtlmgogonghafeabMT
namespace Go.Proofs.Ytlmgogonghafeab
open Go.RowKit Go.Lib
set_option linter.unusedVariables false

def tl (cl fs : Int) (os : List OpE) (k p c : Int) : List OpE := os ++ [⟨k, p, c, cl, fs + (os.length : Int)⟩]
def delS (cl fs pos : Int) : Nat → List OpE → List OpE
  | 0, os => os
  | j + 1, os => tl cl fs (delS cl fs pos j os) 2 pos 0
def insS (cl fs pos : Int) (b : By) : Nat → List OpE → List OpE
  | 0, os => os
  | j + 1, os => tl cl fs (insS cl fs pos b j os) 1 (pos + (j : Int)) ((b.getD j 0).toNat : Int)
/-- Where the k-th place is when those ahead of it have been swapped. -/
def posK (l : List Nat) (m : Nat) (b : By) (k : Nat) : Int := ((l.getD k 0 : Nat) : Int) + (k : Int) * ((b.length : Int) - (m : Int))
def swS (cl fs : Int) (l : List Nat) (m : Nat) (b : By) : Nat → List OpE
  | 0 => []
  | k + 1 => insS cl fs (posK l m b k) b b.length (delS cl fs (posK l m b k) m (swS cl fs l m b k))
theorem delS_len (cl fs pos : Int) (j : Nat) (os : List OpE) : (delS cl fs pos j os).length = os.length + j := by
  induction j with
  | zero => rfl
  | succ j ih => rw [delS, tl, List.length_append, ih]; simp; omega
theorem insS_len (cl fs pos : Int) (b : By) (j : Nat) (os : List OpE) : (insS cl fs pos b j os).length = os.length + j := by
  induction j with
  | zero => rfl
  | succ j ih => rw [insS, tl, List.length_append, ih]; simp; omega
theorem swS_len (cl fs : Int) (l : List Nat) (m : Nat) (b : By) (k : Nat) : (swS cl fs l m b k).length = k * (m + b.length) := by
  induction k with
  | zero => simp [swS]
  | succ k ih => rw [swS, insS_len, delS_len, ih, Nat.succ_mul]; omega

section
variable {w wr wx : World} {cb fb ob : Nat} {cl fs : Int} {os : List OpE}
theorem OpsI.below (h : OpsI w wr cb fb ob cl fs os) (hb : Below wr.heap.size wr wx) : OpsI w wx cb fb ob cl fs os := by
  obtain ⟨β, v, h1, h2, h3⟩ := h.row
  have hF : Fr (fun _ => False) wr wx := Fr.of_below hb
  exact ⟨hF.keeps h.hc (fun e => e), hF.keeps h.hf (fun e => e), ⟨β, v, hF.keeps h1 (fun e => e), h2.fr hF (fun _ _ e => e), h3⟩, h.cb0, h.fb0, h.ob0, h.bel.trans (hb.mono h.bel.size)⟩
theorem OpsI.iter (h : OpsI w wr cb fb ob cl fs os) {it : Nat} {s : ByteArray} {i : Nat} (hi : wr.heap[it]? = some (.stringIter s i)) (hit : w.heap.size ≤ it) (k : Nat) : OpsI w (wr.iterAt it s k) cb fb ob cl fs os := by
  obtain ⟨β, v, h1, h2, h3⟩ := h.row
  have hF : Fr (fun j => j = it) wr (wr.iterAt it s k) := Fr.putObj wr it _
  have hne : ∀ j c t, wr.heap[j]? = some (.cells c t (0, 0)) → ¬ j = it := fun j c t hj e => by rw [e, hi] at hj; cases hj
  refine ⟨hF.keeps h.hc (hne _ _ _ h.hc), hF.keeps h.hf (hne _ _ _ h.hf), ⟨β, v, hF.keeps h1 (hne _ _ _ h1), h2.fr hF (fun g e hs => ?_), h3⟩, h.cb0, h.fb0, h.ob0, h.bel.trans (hF.below h.bel.size (fun j hj => by rw [hj]; exact hit))⟩
  subst e
  obtain ⟨cur, hq⟩ := h2.blk
  rw [hs, hi] at hq
  cases hq
end
/-- Within a loop over a string: the iterator stands at place j. -/
def ItO (w wr : World) (cb fb ob : Nat) (cl fs : Int) (os : List OpE) (it : Nat) (s : ByteArray) (j : Nat) : Prop := OpsI w wr cb fb ob cl fs os ∧ wr.heap[it]? = some (.stringIter s j) ∧ w.heap.size ≤ it

set_option maxRecDepth 100000 in
set_option maxHeartbeats 4000000 in
theorem swaps_any (a : Option Addr) (n c : Nat) (l : List Nat) (s b : ByteArray) (cl fs : Int) (w : World) (hL : IsL w a n c l) (hn : n ≤ 1000) (hs : s.size ≤ 64) (hb : b.size ≤ 64) (hsa : ∀ i (h : i < s.size), (s[i]'h).toNat < 128) (hba : ∀ i (h : i < b.size), (b[i]'h).toNat < 128) (hB : ∀ p ∈ l, p ≤ 1000000000) (hf0 : -1000000 ≤ fs) (hf1 : fs ≤ 1000000) :
    Calls Try.prog 29 #[.slice a n c, .string s, .string b, .int .i64 cl, .int .i64 fs] w fun e w' => ∃ v β, e = .returned v ∧ SF opc 5 w' 32 β v (swS cl fs l s.size b.data.toList n) ∧ (∀ k, β = some k → w.heap.size ≤ k) ∧ Below w.heap.size w w' := by
  have hmf : ∀ (fn : Fn) (first cap : Array Value) (w : World), (Instr.makeFunc fn first cap).run Try.prog w = .ok (.func fn first cap) w := fun _ _ _ _ => rfl
  obtain ⟨hl, hnc, hc, hcell⟩ := hL
  have HLn := hd hl
  have HC := hd hcell
  have HB := hd hB
  have HSA := hd hsa
  have HBA := hd hba
  have CT : Hid (∀ (W : World) (os : List OpE), OpsI w W w.heap.size (w.heap.size + 1) (w.heap.size + 1 + 1) cl fs os → ∀ k p c l s : Int, os.length ≤ 1000000 →
      Calls Try.prog 53 #[.agg #[.int .i64 k, .int .i64 p, .int .u8 c, .int .i64 l, .int .i64 s], .pointer (some ⟨w.heap.size, 0, none⟩), .pointer (some ⟨w.heap.size + 1, 0, none⟩), .pointer (some ⟨w.heap.size + 1 + 1, 0, none⟩)] W fun e w' => e = .returned (.tuple #[]) ∧ OpsI w w' w.heap.size (w.heap.size + 1) (w.heap.size + 1 + 1) cl fs (tl cl fs os k p c) ∧ W.heap.size ≤ w'.heap.size ∧ ∀ (j : Nat) (z : ByteArray) (i : Nat), W.heap[j]? = some (Obj.stringIter z i) → w'.heap[j]? = some (Obj.stringIter z i)) :=
    fun W os h k p c l s hos => tell_any h k p c l s hos hf0 hf1
  clear hl hcell hB hsa hba
  have HBL : Hid (b.data.toList.length = b.size) := by show _ = _; simp
  have S0 : Hid (OpsI w (((w.alloc (.cells #[.int .i64 cl] 3)).alloc (.cells #[.int .i64 fs] 3)).alloc (.cells #[.slice none 0 0] 39)) w.heap.size (w.heap.size + 1) (w.heap.size + 1 + 1) cl fs []) := by
    have b1 : Below w.heap.size w (w.alloc (.cells #[.int .i64 cl] 3)) := (Below.refl _ _).alloc (Nat.le_refl _) _
    have b2 : Below w.heap.size w ((w.alloc (.cells #[.int .i64 cl] 3)).alloc (.cells #[.int .i64 fs] 3)) := b1.alloc b1.size _
    have e1 : (w.alloc (.cells #[.int .i64 cl] 3)).heap.size = w.heap.size + 1 := by simp
    have e2 : ((w.alloc (.cells #[.int .i64 cl] 3)).alloc (.cells #[.int .i64 fs] 3)).heap.size = w.heap.size + 1 + 1 := by simp
    have k1 := heap_alloc_new w (.cells #[.int .i64 cl] 3)
    have k2 := heap_alloc_new (w.alloc (.cells #[.int .i64 cl] 3)) (.cells #[.int .i64 fs] 3)
    have k3 := heap_alloc_new ((w.alloc (.cells #[.int .i64 cl] 3)).alloc (.cells #[.int .i64 fs] 3)) (.cells #[.slice none 0 0] 39)
    rw [e1] at k2
    rw [e2] at k3
    have f2 : Fr (fun _ => False) (w.alloc (.cells #[.int .i64 cl] 3)) ((w.alloc (.cells #[.int .i64 cl] 3)).alloc (.cells #[.int .i64 fs] 3)) := Fr.alloc _ _ _
    have f3 : Fr (fun _ => False) ((w.alloc (.cells #[.int .i64 cl] 3)).alloc (.cells #[.int .i64 fs] 3)) (((w.alloc (.cells #[.int .i64 cl] 3)).alloc (.cells #[.int .i64 fs] 3)).alloc (.cells #[.slice none 0 0] 39)) := Fr.alloc _ _ _
    exact ⟨f3.keeps (f2.keeps k1 (fun e => e)) (fun e => e), f3.keeps k2 (fun e => e), ⟨none, _, k3, ⟨rfl, rfl⟩, fun _ e => by cases e⟩, Nat.le_refl _, by omega, by omega, b2.alloc b2.size _⟩
  go_enter Try.func29, Try.ntmps29
  go_upto_region 4 with fail
  generalize ((w.alloc (.cells #[.int .i64 cl] 3)).alloc (.cells #[.int .i64 fs] 3)).alloc (.cells #[.slice none 0 0] 39) = W0 at *
  go_loopw [21] (fun i wr => ∃ k : Nat, k ≤ n ∧ i = .int .i64 k ∧ Hid (OpsI w wr w.heap.size (w.heap.size + 1) (w.heap.size + 1 + 1) cl fs (swS cl fs l s.size b.data.toList k))) (fun i _ => n - (intOf i).toNat)
  case atStart => exact ⟨0, Nat.zero_le _, rfl, S0⟩
  case round =>
    obtain ⟨k, hk, rfl, HI⟩ := hrel
    clear S0
    by_cases hlt : k < n
    · have hkl : k < l.length := by rw [HLn.out]; exact hlt
      obtain ⟨b0, off, rfl, hb0, hcs⟩ := HC.out (by omega)
      have hB' : Below w.heap.size w wr := HI.out.bel
      have c1 : wr.cell? ⟨b0, off + k, none⟩ = some (.int .i64 ((l[k] : Nat) : Int)) := by rw [hB'.cell (p := ⟨b0, off + k, none⟩) hb0]; exact hcs k hkl
      have hp : l[k] ≤ 1000000000 := HB.out _ (List.getElem_mem hkl)
      obtain ⟨D, hD⟩ : ∃ D : Int, (b.size : Int) - (s.size : Int) = D := ⟨_, rfl⟩
      have hD1 : -64 ≤ D := by omega
      have hD2 : D ≤ 64 := by omega
      obtain ⟨KD, hKD⟩ : ∃ KD : Int, (k : Int) * D = KD := ⟨_, rfl⟩
      have hK1 : -64000 ≤ KD := by
        rw [← hKD]
        have h1 : (k : Int) * (-64) ≤ (k : Int) * D := Int.mul_le_mul_of_nonneg_left hD1 (by omega)
        omega
      have hK2 : KD ≤ 64000 := by
        rw [← hKD]
        have h1 : (k : Int) * D ≤ (k : Int) * 64 := Int.mul_le_mul_of_nonneg_left hD2 (by omega)
        omega
      have PA : Hid (posK l s.size b.data.toList k = ((l[k] : Nat) : Int) + KD) := by
        show _ = _
        unfold posK
        rw [HBL.out, hD, hKD]
        congr 2
        simp [List.getD, hkl]
      have SL : Hid ((swS cl fs l s.size b.data.toList k).length ≤ 128000) := by
        show _ ≤ _
        rw [swS_len, HBL.out]
        have h1 : k * (s.size + b.size) ≤ 1000 * 128 := Nat.mul_le_mul (by omega) (by omega)
        omega
      have SS : Hid (swS cl fs l s.size b.data.toList (k + 1) = insS cl fs (((l[k] : Nat) : Int) + KD) b.data.toList b.size (delS cl fs (((l[k] : Nat) : Int) + KD) s.size (swS cl fs l s.size b.data.toList k))) := by
        show _ = _
        rw [swS, PA.out, HBL.out]
      generalize hP : l[k] = P at *
      generalize swS cl fs l s.size b.data.toList k = os0 at *
      have I0 : Hid (ItO w (wr.iter s 0) w.heap.size (w.heap.size + 1) (w.heap.size + 1 + 1) cl fs os0 wr.heap.size s 0) :=
        ⟨HI.out.below ((Below.refl _ _).alloc (Nat.le_refl _) _), heap_alloc_new wr _, HI.out.bel.size⟩
      clear hcs hB' hP PA HI
      go_upto_region 8 with fail
      generalize wr.iter s 0 = W1 at *
      generalize wr.heap.size = it at *
      go_loopw [] (fun wx => ∃ j : Nat, j ≤ s.size ∧ Hid (ItO w wx w.heap.size (w.heap.size + 1) (w.heap.size + 1 + 1) cl fs (delS cl fs ((P : Int) + KD) j os0) it s j)) (fun wx => s.size - wx.iterPos it)
      case atStart => exact ⟨0, Nat.zero_le _, I0⟩
      case round =>
        obtain ⟨j, hj, HJ⟩ := hrel
        clear I0
        have IP : Hid (wr.iterPos it = j) := by show _ = _; simp [World.iterPos, HJ.out.2.1]
        by_cases hjl : j < s.size
        · have hnx := fun ty => run_next_ascii_at (P := Try.prog) wr it s j ty HJ.out.2.1 hjl (HSA.out j hjl)
          have hI2 := HJ.out.1.iter HJ.out.2.1 HJ.out.2.2 (j + 1)
          have hJ2 := iterAt_heap wr it s j (j + 1) HJ.out.2.1
          have C := hd (CT.out _ _ hI2 2 ((P : Int) + KD) 0 0 0 (by rw [delS_len]; have := SL.out; omega))
          have HI2 := hd hJ2
          obtain ⟨Ch, hCh⟩ : ∃ Ch : Nat, (s[j]'hjl).toNat = Ch := ⟨_, rfl⟩
          rw [hCh] at hnx
          have HIT := hd HJ.out.2.2
          clear hI2 hJ2 HJ hCh
          generalize wr.iterAt it s (j + 1) = w2 at *
          go_wp2_with (go_at_call 53; refine C.out.mono ?_; rintro e w3 ⟨rfl, hO, hsz3, hit3⟩; have IP2 : Hid (w3.iterPos it = j + 1) := (by show _ = _; simp [World.iterPos, hit3 _ _ _ HI2.out]); have Z : Hid (ItO w w3 w.heap.size (w.heap.size + 1) (w.heap.size + 1 + 1) cl fs (delS cl fs ((P : Int) + KD) (j + 1) os0) it s (j + 1)) := ⟨hO, hit3 _ _ _ HI2.out, HIT.out⟩; clear hO hsz3 hit3)
          exact ⟨⟨j + 1, by omega, Z⟩, by rw [IP.out, IP2.out]; omega⟩
        · obtain rfl : j = s.size := by omega
          have hnx := fun ty => run_next_end_at (P := Try.prog) wr it s s.size ty HJ.out.2.1 (by omega)
          have L1 : Hid ((delS cl fs ((P : Int) + KD) s.size os0).length ≤ 128064) := by
            show _ ≤ _
            rw [delS_len]
            have := SL.out
            omega
          have SS := SS; generalize delS cl fs ((P : Int) + KD) s.size os0 = os1 at *
          have I1 : Hid (ItO w (wr.iter b 0) w.heap.size (w.heap.size + 1) (w.heap.size + 1 + 1) cl fs os1 wr.heap.size b 0) :=
            ⟨HJ.out.1.below ((Below.refl _ _).alloc (Nat.le_refl _) _), heap_alloc_new wr _, HJ.out.1.bel.size⟩
          clear HJ
          go_upto_region 11 with fail
          generalize wr.iter b 0 = W2 at *
          generalize wr.heap.size = it2 at *
          go_loopw [] (fun wx => ∃ j : Nat, j ≤ b.size ∧ Hid (ItO w wx w.heap.size (w.heap.size + 1) (w.heap.size + 1 + 1) cl fs (insS cl fs ((P : Int) + KD) b.data.toList j os1) it2 b j)) (fun wx => b.size - wx.iterPos it2)
          case atStart => exact ⟨0, Nat.zero_le _, I1⟩
          case round =>
            obtain ⟨j, hj, HJ⟩ := hrel
            clear I1
            have IP : Hid (wr.iterPos it2 = j) := by show _ = _; simp [World.iterPos, HJ.out.2.1]
            by_cases hjl : j < b.size
            · have hnx := fun ty => run_next_ascii_at (P := Try.prog) wr it2 b j ty HJ.out.2.1 hjl (HBA.out j hjl)
              have hI2 := HJ.out.1.iter HJ.out.2.1 HJ.out.2.2 (j + 1)
              have hJ2 := iterAt_heap wr it2 b j (j + 1) HJ.out.2.1
              obtain ⟨Ch, hCh⟩ : ∃ Ch : Nat, (b[j]'hjl).toNat = Ch := ⟨_, rfl⟩
              have hC128 : Ch < 128 := by rw [← hCh]; exact HBA.out j hjl
              have HG : Hid ((b.data.toList.getD j 0).toNat = Ch) := by
                show _ = _
                rw [← hCh]
                congr 1
                simp [List.getD, hjl]
                rfl
              have C := hd (CT.out _ _ hI2 1 ((P : Int) + KD + (j : Int)) (Ch : Int) 0 0 (by rw [insS_len]; have := L1.out; omega))
              have HI2 := hd hJ2
              rw [hCh] at hnx
              have HIT := hd HJ.out.2.2
              have ST : Hid (insS cl fs ((P : Int) + KD) b.data.toList (j + 1) os1 = tl cl fs (insS cl fs ((P : Int) + KD) b.data.toList j os1) 1 ((P : Int) + KD + (j : Int)) (Ch : Int)) := by
                show _ = _
                rw [insS, HG.out]
              clear hI2 hJ2 HJ hCh HG
              generalize wr.iterAt it2 b (j + 1) = w2 at *
              go_wp2_with (go_at_call 53; refine C.out.mono ?_; rintro e w3 ⟨rfl, hO, hsz3, hit3⟩; have IP2 : Hid (w3.iterPos it2 = j + 1) := (by show _ = _; simp [World.iterPos, hit3 _ _ _ HI2.out]); have Z : Hid (ItO w w3 w.heap.size (w.heap.size + 1) (w.heap.size + 1 + 1) cl fs (insS cl fs ((P : Int) + KD) b.data.toList (j + 1) os1) it2 b (j + 1)) := ⟨(by rw [ST.out]; exact hO), hit3 _ _ _ HI2.out, HIT.out⟩; clear hO hsz3 hit3)
              exact ⟨⟨j + 1, by omega, Z⟩, by rw [IP.out, IP2.out]; omega⟩
            · obtain rfl : j = b.size := by omega
              have hnx := fun ty => run_next_end_at (P := Try.prog) wr it2 b b.size ty HJ.out.2.1 (by omega)
              have Z : Hid (OpsI w wr w.heap.size (w.heap.size + 1) (w.heap.size + 1 + 1) cl fs (swS cl fs l s.size b.data.toList (k + 1))) := by
                show OpsI _ _ _ _ _ _ _ _
                rw [SS.out]
                exact HJ.out.1
              clear HJ
              go_wp2
              exact ⟨⟨k + 1, by omega, by go_num, Z⟩, by simp only [intOf]; omega⟩
    · obtain rfl : k = n := by omega
      obtain ⟨β, v, h1, h2, h3⟩ := HI.out.row
      have c1 : wr.cell? ⟨w.heap.size + 1 + 1, 0, none⟩ = some v := by have := cell_row h1 0; simpa using this
      have Z : Hid (∃ β, SF opc 5 wr 32 β v (swS cl fs l s.size b.data.toList k) ∧ (∀ k, β = some k → w.heap.size ≤ k) ∧ Below w.heap.size w wr) := ⟨β, h2, h3, HI.out.bel⟩
      obtain ⟨a', c', rfl, -, -⟩ := h2.form
      clear HI h1 h2 h3
      go_wp2
      go_ret
      obtain ⟨β, z1, z2, z3⟩ := Z.out
      exact ⟨_, β, rfl, z1, z2, z3⟩
end Go.Proofs.Ytlmgogonghafeab
