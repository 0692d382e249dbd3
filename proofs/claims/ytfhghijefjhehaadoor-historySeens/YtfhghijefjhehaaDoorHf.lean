/-
  A history in memory; the document's ownAmong.
-/
import Derived.Test.YtfhghijefjhehaaDoorHd
import Derived.Test.YtfhghijefjhehaaDoorHza
import Derived.Deep.DeepCutAuto
import Derived.BigQuiet
namespace Go.Proofs.YtfhghijefjhehaaDoor
open Go.RowKit
set_option linter.unusedVariables false

theorem wrap64_id {n : Int} (h0 : -9223372036854775808 ≤ n) (h1 : n ≤ 9223372036854775807) : wrap64 n = n := by rw [wrap64]; omega

/-- A log in memory. -/
def IsL (w : World) (a : Option Addr) (n : Nat) (log : List Ed) : Prop :=
  log.length = n ∧ (0 < n → ∃ b off, a = some ⟨b, off, none⟩ ∧ b < w.heap.size ∧ ∀ i (h : i < log.length), w.cell? ⟨b, off + i * 6, none⟩ = some (.int .i64 log[i].tag) ∧ w.cell? ⟨b, off + i * 6 + 1, none⟩ = some (.int .i64 log[i].o.kind) ∧
    w.cell? ⟨b, off + i * 6 + 2, none⟩ = some (.int .i64 log[i].o.pos) ∧ w.cell? ⟨b, off + i * 6 + 3, none⟩ = some (.int .u8 log[i].o.ch) ∧ w.cell? ⟨b, off + i * 6 + 4, none⟩ = some (.int .i64 log[i].o.cl) ∧ w.cell? ⟨b, off + i * 6 + 5, none⟩ = some (.int .i64 log[i].o.sq))
/-- Events in memory; of their texts only where they lie. -/
def IsV (w : World) (a : Option Addr) (n : Nat) (evs : List Ev) (A : Nat → Option Addr) (K : Nat → Nat) : Prop :=
  evs.length = n ∧ (0 < n → ∃ b off, a = some ⟨b, off, none⟩ ∧ b < w.heap.size ∧ ∀ i (h : i < evs.length), w.cell? ⟨b, off + i * 10, none⟩ = some (.int .i64 evs[i].step) ∧ w.cell? ⟨b, off + i * 10 + 1, none⟩ = some (.int .i64 evs[i].site) ∧
    w.cell? ⟨b, off + i * 10 + 2, none⟩ = some (.int .i64 evs[i].hav) ∧ w.cell? ⟨b, off + i * 10 + 3, none⟩ = some (.int .i64 evs[i].made) ∧
    w.cell? ⟨b, off + i * 10 + 4, none⟩ = some (.int .i64 evs[i].o.kind) ∧ w.cell? ⟨b, off + i * 10 + 5, none⟩ = some (.int .i64 evs[i].o.pos) ∧ w.cell? ⟨b, off + i * 10 + 6, none⟩ = some (.int .u8 evs[i].o.ch) ∧
    w.cell? ⟨b, off + i * 10 + 7, none⟩ = some (.int .i64 evs[i].o.cl) ∧ w.cell? ⟨b, off + i * 10 + 8, none⟩ = some (.int .i64 evs[i].o.sq) ∧ w.cell? ⟨b, off + i * 10 + 9, none⟩ = some (.slice (A i) evs[i].len (K i)))

theorem IsL.below {w w' : World} {a : Option Addr} {n B : Nat} {log : List Ed} (h : IsL w a n log) (hb : Below B w w') (hB : w.heap.size ≤ B) : IsL w' a n log := by
  refine ⟨h.1, fun hn => ?_⟩
  obtain ⟨b, off, e, hlt, hc⟩ := h.2 hn
  refine ⟨b, off, e, Nat.lt_of_lt_of_le hlt hb.size, fun i hi => ?_⟩
  have k : ∀ j, w'.cell? ⟨b, j, none⟩ = w.cell? ⟨b, j, none⟩ := fun j => hb.cell (p := ⟨b, j, none⟩) (show b < B by omega)
  simp only [k]
  exact hc i hi
theorem IsV.below {w w' : World} {a : Option Addr} {n B : Nat} {evs : List Ev} {A : Nat → Option Addr} {K : Nat → Nat} (h : IsV w a n evs A K) (hb : Below B w w') (hB : w.heap.size ≤ B) : IsV w' a n evs A K := by
  refine ⟨h.1, fun hn => ?_⟩
  obtain ⟨b, off, e, hlt, hc⟩ := h.2 hn
  refine ⟨b, off, e, Nat.lt_of_lt_of_le hlt hb.size, fun i hi => ?_⟩
  have k : ∀ j, w'.cell? ⟨b, j, none⟩ = w.cell? ⟨b, j, none⟩ := fun j => hb.cell (p := ⟨b, j, none⟩) (show b < B by omega)
  simp only [k]
  exact hc i hi

/-- The box of a history. -/
theorem box_hist (w : World) (cs : Array Value) (t : TypeId) : (w.alloc (.cells cs t)).heap[w.heap.size]? = some (.cells cs t (0, 0)) := heap_alloc_new _ _

theorem lgAt_succ (log : List Ed) (k : Nat) (c : Int) (h : k < log.length) : (lgAt log (k + 1) c).length = (lgAt log k c).length + if log[k].o.cl = c then 1 else 0 := by
  simp only [lgAt, List.getElem?_eq_getElem h, List.length_append]
  split <;> rfl
theorem lgAt_le (log : List Ed) (k : Nat) (c : Int) : (lgAt log k c).length ≤ k := by
  induction k with
  | zero => simp [lgAt]
  | succ k ih =>
    simp only [lgAt, List.length_append]
    split
    · split <;> simp <;> omega
    · simp; omega

set_option maxRecDepth 100000 in
set_option maxHeartbeats 4000000 in
theorem ownAmong_any (C c : Int) (aL aE : Option Addr) (nL cL nE cE k : Nat) (log : List Ed) (w : World) (hL : IsL w aL nL log) (hk : k ≤ nL) (hn : nL ≤ 4096) :
    Calls Tryd.prog 30 #[.agg #[.int .i64 C, .slice aL nL cL, .slice aE nE cE], .int .i64 c, .int .i64 k] w fun e w' => e = .returned (.int .i64 ((lgAt log k c).length : Nat)) ∧ Below w.heap.size w w' := by
  have g := box_hist w #[.int .i64 C, .slice aL nL cL, .slice aE nE cE] 25
  have gb : Below w.heap.size w (w.alloc (.cells #[.int .i64 C, .slice aL nL cL, .slice aE nE cE] 25)) := (Below.refl _ _).alloc (Nat.le_refl _) _
  have H1 := hd (hL.below gb (Nat.le_refl _))
  have HG := hd g
  have HB := hd gb
  clear hL g gb
  go_enter Tryd.func30, Tryd.ntmps30
  go_upto_region 1 with fail
  generalize w.alloc (.cells #[.int .i64 C, .slice aL nL cL, .slice aE nE cE] 25) = w0 at *
  go_wp2_with fail
  have x1 := cell_row HG.out 1
  simp at x1
  have HN := hd hn
  have HK := hd hk
  clear hn hk
  go_loopw [7, 8] (fun n b wr => ∃ i : Nat, i ≤ k ∧ b = .int .i64 i ∧ wr = w0 ∧ n = .int .i64 ((lgAt log i c).length : Nat)) (fun _ b _ => k - (intOf b).toNat)
  case atStart => exact ⟨0, Nat.zero_le _, rfl, rfl, rfl⟩
  case round =>
    obtain ⟨i, hi, rfl, rfl, rfl⟩ := hrel
    by_cases hlt : i < k
    · have l1 : i < log.length := by have := H1.out.1; have := HK.out; omega
      obtain ⟨b, off, rfl, s1, q⟩ := H1.out.2 (by have := HK.out; omega)
      obtain ⟨q0, q1, q2, q3, q4, q5⟩ := q i l1
      have HS := hd (lgAt_succ log i c l1)
      have HC := hd (lgAt_le log i c)
      have i1 : (i : Int) < (nL : Int) := by have := HK.out; omega
      have i2 : (i : Int) < (k : Int) := by omega
      generalize lgAt log i c = L at *
      generalize log[i] = x at *
      obtain ⟨tg, ok, op, oc, ol, os⟩ := x
      simp only at q0 q1 q2 q3 q4 q5 HS
      clear q q0 q1 q2 q3 q5
      by_cases hc : ol = c
      · subst hc
        have Z : Hid (∃ j : Nat, j ≤ k ∧ Value.int .i64 (wrap64 ((i : Int) + 1)) = Value.int .i64 j ∧ wr = wr ∧ Value.int .i64 (wrap64 ((L.length : Int) + 1)) = .int .i64 ((lgAt log j ol).length : Nat)) := by
          have e1 := HS.out
          have e2 := HC.out
          have e3 := HN.out
          have e4 := HK.out
          rw [if_pos rfl] at e1
          refine ⟨i + 1, by omega, by rw [wrap64_id (by omega) (by omega)]; rfl, rfl, ?_⟩
          rw [e1, wrap64_id (by omega) (by omega)]
          rfl
        have Z2 : Hid (k - (intOf (Value.int .i64 (wrap64 ((i : Int) + 1)))).toNat < k - (intOf (Value.int .i64 (i : Int))).toNat) := by
          have e3 := HN.out
          have e4 := HK.out
          rw [wrap64_id (by omega) (by omega)]
          simp only [Hid, intOf]
          omega
        clear HS HC
        go_wp2
        exact ⟨by simpa using Z.out, by simpa using Z2.out⟩
      · have hb : (ol == c) = false := by simpa using hc
        have Z : Hid (∃ j : Nat, j ≤ k ∧ Value.int .i64 (wrap64 ((i : Int) + 1)) = Value.int .i64 j ∧ wr = wr ∧ Value.int .i64 (L.length : Int) = .int .i64 ((lgAt log j c).length : Nat)) := by
          have e1 := HS.out
          have e2 := HC.out
          have e3 := HN.out
          have e4 := HK.out
          rw [if_neg hc] at e1
          refine ⟨i + 1, by omega, by rw [wrap64_id (by omega) (by omega)]; rfl, rfl, ?_⟩
          rw [e1]
          rfl
        have Z2 : Hid (k - (intOf (Value.int .i64 (wrap64 ((i : Int) + 1)))).toNat < k - (intOf (Value.int .i64 (i : Int))).toNat) := by
          have e3 := HN.out
          have e4 := HK.out
          rw [wrap64_id (by omega) (by omega)]
          simp only [Hid, intOf]
          omega
        clear HS HC
        go_wp2
        exact ⟨by simpa using Z.out, by simpa using Z2.out⟩
    · obtain rfl : i = k := by omega
      go_wp2
      go_ret
      exact ⟨rfl, HB.out⟩

end Go.Proofs.YtfhghijefjhehaaDoor
