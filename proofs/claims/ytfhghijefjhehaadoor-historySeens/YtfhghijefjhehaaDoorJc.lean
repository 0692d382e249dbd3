/-
  The document's counts.
-/
import Derived.Test.YtfhghijefjhehaaDoorMJ
import Derived.Test.YtfhghijefjhehaaDoorHr
import Derived.Laws.Rows
import Derived.Laws.Tables
namespace Go.Proofs.YtfhghijefjhehaaDoor
open Go.RowKit
set_option linter.unusedVariables false

def hisV (C : Int) (aL aE : Option Addr) (nL cL nE cE : Nat) : Array Value := #[.int .i64 C, .slice aL nL cL, .slice aE nE cE]
def evA (e : Ev) (a : Option Addr) (c : Nat) : Array Value := #[.int .i64 e.step, .int .i64 e.site, .int .i64 e.hav, .int .i64 e.made, .int .i64 e.o.kind, .int .i64 e.o.pos, .int .u8 e.o.ch, .int .i64 e.o.cl, .int .i64 e.o.sq, .slice a e.len c]

def lgN (log : List Ed) (k : Nat) (c : Int) : Int := ((lgAt log k c).length : Int)
theorem lgN_step (log : List Ed) (k : Nat) (c : Int) (h : k < log.length) : lgN log (k + 1) c = if log[k].o.cl = c then lgN log k c + 1 else lgN log k c := by
  unfold lgN
  simp only [lgAt, List.getElem?_eq_getElem h, List.length_append]
  split <;> simp
theorem lgN_le (log : List Ed) (k : Nat) (c : Int) : 0 ≤ lgN log k c ∧ lgN log k c ≤ k := by
  induction k with
  | zero => simp [lgN, lgAt]
  | succ k ih =>
    unfold lgN at ih ⊢
    simp only [lgAt, List.length_append]
    split
    · split <;> simp <;> omega
    · simp; omega

/-- The boxes of counts. -/
def CtI (w wr : World) (bx be : Array Value) (f : Int → Int) : Prop :=
  wr.heap[w.heap.size]? = some (.cells bx 25 (0, 0)) ∧ wr.heap[w.heap.size + 1]? = some (.cells be 50 (0, 0)) ∧ wr.heap[w.heap.size + 1 + 1]? = some (.cells (arr65 (fun _ => 0)) 74 (0, 0)) ∧ wr.heap[w.heap.size + 1 + 1 + 1]? = some (.cells (arr65 f) 74 (0, 0)) ∧ Below w.heap.size w wr

theorem ctI_set {w wr : World} {bx be : Array Value} {f g : Int → Int} (h : CtI w wr bx be f) (cN : Nat) (hc : cN < 65) (hg : ∀ d : Nat, d ≠ cN → g d = f d) : CtI w (wr.setCell ⟨w.heap.size + 1 + 1 + 1, cN, none⟩ (.int .i64 (g cN))) bx be g := by
  obtain ⟨h1, h2, h3, h4, h5⟩ := h
  refine ⟨?_, ?_, ?_, ?_, Below.setCell h5 (by simp <;> omega) _⟩
  · rw [Below.heap_setCell _ _ _ _ (by simp <;> omega)]; exact h1
  · rw [Below.heap_setCell _ _ _ _ (by simp <;> omega)]; exact h2
  · rw [Below.heap_setCell _ _ _ _ (by simp)]; exact h3
  · rw [set_row h4, arr65_set f g cN hc hg]

theorem arr65_one (f : Int → Int) : (arr65 f).all (·.oneCell') = true := by
  rw [Array.all_eq_true]
  intro i hi
  simp [arr65, Value.oneCell']
theorem set_rowAt {w : World} {g : Nat} {cur : Array Value} {t : TypeId} (h : w.heap[g]? = some (.cells cur t (0, 0))) (cs : Array Value) : (w.setRow g cs).heap[g]? = some (.cells cs t (0, 0)) := setRow_heap w g cur cs t (0, 0) h

theorem ctI_new (w : World) (bx be : Array Value) : CtI w ((((w.alloc (.cells bx 25)).alloc (.cells be 50)).alloc (.cells Tryd.zeroCells74 74)).alloc (.cells Tryd.zeroCells74 74)) bx be (fun _ => 0) := by
  rw [zero65]
  generalize hw1 : w.alloc (.cells bx 25) = w1
  generalize hw2 : w1.alloc (.cells be 50) = w2
  generalize hw3 : w2.alloc (.cells (arr65 fun _ => 0) 74) = w3
  have s1 : w1.heap.size = w.heap.size + 1 := by rw [← hw1]; simp
  have s2 : w2.heap.size = w.heap.size + 1 + 1 := by rw [← hw2, World.size_alloc, s1]
  have s3 : w3.heap.size = w.heap.size + 1 + 1 + 1 := by rw [← hw3, World.size_alloc, s2]
  have a1 : w1.heap[w.heap.size]? = some (.cells bx 25 (0, 0)) := by rw [← hw1]; exact heap_alloc_new _ _
  have a2 : w2.heap[w.heap.size + 1]? = some (.cells be 50 (0, 0)) := by rw [← hw2, ← s1]; exact heap_alloc_new _ _
  have a3 : w3.heap[w.heap.size + 1 + 1]? = some (.cells (arr65 fun _ => 0) 74 (0, 0)) := by rw [← hw3, ← s2]; exact heap_alloc_new _ _
  have b1 : Below w.heap.size w w1 := by rw [← hw1]; exact (Below.refl _ _).alloc (Nat.le_refl _) _
  have b2 : Below w.heap.size w w2 := by rw [← hw2]; exact b1.alloc (by omega) _
  have b3 : Below w.heap.size w w3 := by rw [← hw3]; exact b2.alloc (by omega) _
  have k2 : ∀ i, i < w.heap.size + 1 → w2.heap[i]? = w1.heap[i]? := fun i hi => by rw [← hw2]; exact heap_alloc_old _ _ (by omega)
  have k3 : ∀ i, i < w.heap.size + 1 + 1 → w3.heap[i]? = w2.heap[i]? := fun i hi => by rw [← hw3]; exact heap_alloc_old _ _ (by omega)
  refine ⟨?_, ?_, ?_, ?_, b3.alloc (by omega) _⟩
  · rw [heap_alloc_old _ _ (by omega), k3 _ (by omega), k2 _ (by omega)]; exact a1
  · rw [heap_alloc_old _ _ (by omega), k3 _ (by omega)]; exact a2
  · rw [heap_alloc_old _ _ (by omega)]; exact a3
  · rw [← s3]; exact heap_alloc_new _ _

set_option maxRecDepth 100000 in
set_option maxHeartbeats 8000000 in
theorem counts_any (C : Int) (aL aE : Option Addr) (nL cL nE cE : Nat) (log : List Ed) (e : Ev) (a : Option Addr) (cp : Nat) (w : World) (hL : IsL w aL nL log) (hn : nL ≤ 4096) (h0 : 0 ≤ e.hav) (h1 : e.hav ≤ nL) (s0 : 0 ≤ e.site) (s1 : e.site ≤ 64) (hc : ∀ j (h : j < log.length), 0 ≤ log[j].o.cl ∧ log[j].o.cl ≤ 64) :
    Calls Tryd.prog 41 #[.agg (hisV C aL aE nL cL nE cE), .agg (evA e a cp)] w fun r w' => r = .returned (.agg (arr65 (nP log e))) ∧ Below w.heap.size w w' := by
  have HL := hd hL
  have HN := hd hn
  have HC := hd hc
  have I0 := hd (ctI_new w (hisV C aL aE nL cL nE cE) (evA e a cp))
  clear hL hn hc
  obtain ⟨st, si, ha, ma, ⟨ok, op, oc, oL, os⟩, ln⟩ := e
  simp only at h0 h1 s0 s1
  obtain ⟨hN, rfl⟩ : ∃ hN : Nat, ha = (hN : Int) := ⟨ha.toNat, by omega⟩
  obtain ⟨sN, rfl⟩ : ∃ sN : Nat, si = (sN : Int) := ⟨si.toNat, by omega⟩
  unfold hisV evA at I0 ⊢
  simp only at I0 ⊢
  go_enter Tryd.func41, Tryd.ntmps41
  go_upto_region 2 with fail
  generalize ((((w.alloc (.cells #[.int .i64 C, .slice aL nL cL, .slice aE nE cE] 25)).alloc (.cells #[.int .i64 st, .int .i64 (sN : Int), .int .i64 (hN : Int), .int .i64 ma, .int .i64 ok, .int .i64 op, .int .u8 oc, .int .i64 oL, .int .i64 os, .slice a ln cp] 50)).alloc (.cells Tryd.zeroCells74 74)).alloc (.cells Tryd.zeroCells74 74)) = w0 at *
  go_wp2_with fail
  go_loopw [6] (fun v wr => ∃ k : Nat, k ≤ hN ∧ v = .int .i64 k ∧ Hid (CtI w wr #[.int .i64 C, .slice aL nL cL, .slice aE nE cE] #[.int .i64 st, .int .i64 (sN : Int), .int .i64 (hN : Int), .int .i64 ma, .int .i64 ok, .int .i64 op, .int .u8 oc, .int .i64 oL, .int .i64 os, .slice a ln cp] (lgN log k))) (fun v _ => hN - (intOf v).toNat)
  case atStart => exact ⟨0, Nat.zero_le _, rfl, I0.out⟩
  case round =>
    obtain ⟨k, hk, rfl, HR⟩ := hrel
    clear I0
    have y1 := cell_row HR.out.2.1 1; have y2 := cell_row HR.out.2.1 2; have y3 := cell_row HR.out.2.1 3
    have x1 := cell_row HR.out.1 1
    simp at x1 y1 y2 y3
    by_cases hlt : k < hN
    · have l1 : k < log.length := by have := HL.out.1; omega
      obtain ⟨b, off, rfl, s1', q⟩ := (HL.out.below HR.out.2.2.2.2 (Nat.le_refl _)).2 (by omega)
      obtain ⟨-, -, -, -, q4, -⟩ := q k l1
      have i1 : (k : Int) < (hN : Int) := by omega
      have i2 : (k : Int) < (nL : Int) := by omega
      have ST := hd (fun c : Int => lgN_step log k c l1)
      have hcl := HC.out k l1
      clear q s1'
      generalize log[k].o.cl = oc' at q4 ST hcl
      obtain ⟨cN, rfl⟩ : ∃ cN : Nat, oc' = (cN : Int) := ⟨oc'.toNat, by omega⟩
      have c65 : (cN : Int) < 65 := by omega
      have z0 := (cell_row HR.out.2.2.2.1 cN).trans (arr65_get _ cN (by omega))
      have f0 := frozen_row HR.out.2.2.2.1 cN
      have hb := lgN_le log k (cN : Int)
      generalize hv : lgN log k (cN : Int) = v0 at z0 hb
      have hn4 := HN.out
      have ew : wrap64 (v0 + 1) = v0 + 1 := wrap64_id (by omega) (by omega)
      have NX := hd (ctI_set (g := lgN log (k + 1)) HR.out cN (by omega) (fun d hd' => by rw [ST.out, if_neg (by omega)]))
      have ev : lgN log (k + 1) (cN : Int) = v0 + 1 := by rw [ST.out, if_pos rfl, hv]
      rw [ev] at NX
      clear HR ST hv ev
      go_wp2
      exact ⟨⟨k + 1, by omega, by go_num, NX.out⟩, by simp [intOf]; omega⟩
    · obtain rfl : k = hN := by omega
      by_cases hs : 0 < sN
      · have i1 : (0 : Int) < (sN : Int) := by omega
        have i2 : (sN : Int) < 65 := by omega
        have z0 := (cell_row HR.out.2.2.2.1 sN).trans (arr65_get _ sN (by omega))
        have f0 := frozen_row HR.out.2.2.2.1 sN
        have NX := hd (ctI_set (g := nP log ⟨st, sN, k, ma, ⟨ok, op, oc, oL, os⟩, ln⟩) HR.out sN (by omega) (fun d hd' => by unfold nP lgN; rw [if_neg (fun h => hd' (by have := h.2; simp only at this; omega))]; rfl))
        rw [show nP log ⟨st, sN, k, ma, ⟨ok, op, oc, oL, os⟩, ln⟩ (sN : Int) = ma from by unfold nP; rw [if_pos ⟨i1, rfl⟩]] at NX
        go_upto_region 8 with fail
        generalize wr.setCell ⟨w.heap.size + 1 + 1 + 1, sN, none⟩ (.int .i64 ma) = wz at *
        go_wp2_with (first
          | refine wpList_load_row rfl 74 _ rfl (w.heap.size + 1 + 1 + 1) rfl 74 (arr65 (nP log ⟨st, sN, k, ma, ⟨ok, op, oc, oL, os⟩, ln⟩)) (0, 0) _ NX.out.2.2.2.1 Tryd.underlying74 rfl (by rw [arr65_size]; kernel_rfl) ?_
          | refine wpList_store_row rfl 74 _ _ rfl (w.heap.size + 1 + 1) (arr65 (nP log ⟨st, sN, k, ma, ⟨ok, op, oc, oL, os⟩, ln⟩)) rfl rfl 74 _ NX.out.2.2.1 (by rw [arr65_size]; kernel_rfl) (by rw [arr65_size, arr65_size]) (arr65_one _) ?_)
        have hz := NX.out.2.2.1
        have ht := set_rowAt hz (arr65 (nP log ⟨st, sN, k, ma, ⟨ok, op, oc, oL, os⟩, ln⟩))
        refine bodyPost_ret (results_cell_row Tryd.results41 _ _ (w.heap.size + 1 + 1) 74 _ (0, 0) _ rfl ht Tryd.underlying74 rfl (by rw [arr65_size]; kernel_rfl)) rfl ?_
        exact ⟨rfl, NX.out.2.2.2.2.trans (Fr.below (Fr.setRow (S := fun i => i = w.heap.size + 1 + 1) wz _ _ rfl) NX.out.2.2.2.2.size (fun i hi => by omega))⟩
      · obtain rfl : sN = 0 := by omega
        have NX : Hid (CtI w wr #[.int .i64 C, .slice aL nL cL, .slice aE nE cE] #[.int .i64 st, .int .i64 ((0 : Nat) : Int), .int .i64 (k : Int), .int .i64 ma, .int .i64 ok, .int .i64 op, .int .u8 oc, .int .i64 oL, .int .i64 os, .slice a ln cp] (nP log ⟨st, ((0 : Nat) : Int), k, ma, ⟨ok, op, oc, oL, os⟩, ln⟩)) := by
          have e : nP log ⟨st, ((0 : Nat) : Int), k, ma, ⟨ok, op, oc, oL, os⟩, ln⟩ = lgN log k := by
            funext c
            unfold nP lgN
            rw [if_neg (fun h => by have := h.1; simp at this)]
            rfl
          rw [e]
          exact HR.out
        go_upto_region 8 with fail
        generalize wr = wz at *
        go_wp2_with (first
          | refine wpList_load_row rfl 74 _ rfl (w.heap.size + 1 + 1 + 1) rfl 74 (arr65 (nP log ⟨st, ((0 : Nat) : Int), k, ma, ⟨ok, op, oc, oL, os⟩, ln⟩)) (0, 0) _ NX.out.2.2.2.1 Tryd.underlying74 rfl (by rw [arr65_size]; kernel_rfl) ?_
          | refine wpList_store_row rfl 74 _ _ rfl (w.heap.size + 1 + 1) (arr65 (nP log ⟨st, ((0 : Nat) : Int), k, ma, ⟨ok, op, oc, oL, os⟩, ln⟩)) rfl rfl 74 _ NX.out.2.2.1 (by rw [arr65_size]; kernel_rfl) (by rw [arr65_size, arr65_size]) (arr65_one _) ?_)
        have hz := NX.out.2.2.1
        have ht := set_rowAt hz (arr65 (nP log ⟨st, ((0 : Nat) : Int), k, ma, ⟨ok, op, oc, oL, os⟩, ln⟩))
        refine bodyPost_ret (results_cell_row Tryd.results41 _ _ (w.heap.size + 1 + 1) 74 _ (0, 0) _ rfl ht Tryd.underlying74 rfl (by rw [arr65_size]; kernel_rfl)) rfl ?_
        exact ⟨rfl, NX.out.2.2.2.2.trans (Fr.below (Fr.setRow (S := fun i => i = w.heap.size + 1 + 1) wz _ _ rfl) NX.out.2.2.2.2.size (fun i hi => by omega))⟩

end Go.Proofs.YtfhghijefjhehaaDoor
