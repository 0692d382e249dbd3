/-
  sameThings; an outbox of things and the document beside it.
-/
import Derived.Test.YtocpfioifamkmaaTd
import Derived.Deep.QuietTactic
import Derived.BigQuiet
import Derived.Deep.RegionHeld3
namespace Go.Proofs.Ytocpfioifamkmaa
open Go.RowKit
set_option linter.unusedVariables false

theorem cell_in {w : World} {b o : Nat} {v : Value} (h : w.cell? ⟨b, o, none⟩ = some v) : b < w.heap.size := by
  by_cases hb : b < w.heap.size
  · exact hb
  · unfold World.cell? at h
    rw [Array.getElem?_eq_none (by show w.heap.size ≤ b; omega)] at h
    simp at h

set_option maxRecDepth 100000 in
set_option maxHeartbeats 8000000 in
theorem sameThings_true (b b' : Nat) (u u' : Value) (xs : List (Int × Int)) (w : World) (h1 : TL w b u xs) (h2 : RL w b' u' xs) (hn : xs.length ≤ 4096) :
    Calls Try.prog 35 #[u, u'] w fun e w' => e = .returned (.bool true) ∧ Below w.heap.size w w' := by
  obtain ⟨g, c, rfl, hR, -, hc2, hc⟩ := h1.form
  obtain ⟨β, hS, -⟩ := h2
  obtain ⟨a, c', rfl, hc3, hc4⟩ := hS.form
  obtain ⟨n, hl⟩ : ∃ n, xs.length = n := ⟨_, rfl⟩
  rw [hl] at hR hc hn hc3 hS ⊢
  have HR := hd hR
  have HS := hd hS
  have HL := hd hl
  clear hR hS hl h1
  go_enter Try.func35, Try.ntmps35
  go_wp2_with fail
  go_loopw [5] (fun v wr => ∃ k : Nat, k ≤ n ∧ v = .int .i64 k ∧ Hid (Below w.heap.size w wr)) (fun v _ => n - (intOf v).toNat)
  case atStart => exact ⟨0, Nat.zero_le _, rfl, Below.refl _ _⟩
  case round =>
    obtain ⟨i, hi, rfl, HB⟩ := hrel
    by_cases hlt : i < n
    · have hil : i < xs.length := by have := HL.out; omega
      have R1 := HR.out.fr (S := fun _ => False) (Fr.of_below HB.out) (fun h => h)
      have S1 := SF.fr (S := fun _ => False) HS.out (Fr.of_below HB.out) (fun _ _ h => h)
      have hca := fun k hk => R1.cell sz_iT i k hil hk
      obtain ⟨γ, rfl, d0, d1⟩ : ∃ γ, a = some ⟨γ, 0, none⟩ ∧ wr.cell? ⟨γ, i * 2, none⟩ = some (.int .i64 xs[i].1) ∧ wr.cell? ⟨γ, i * 2 + 1, none⟩ = some (.int .i64 xs[i].2) := by
        cases β with
        | none =>
          have := S1.2
          rw [this] at hil
          simp at hil
        | some γ =>
          obtain ⟨cap, e1, e2⟩ := S1
          injection e1 with e1 e3 e4
          refine ⟨γ, e1, ?_, ?_⟩
          · have := e2.cell sz_it i 0 hil (by omega)
            simpa [it] using this
          · have := e2.cell sz_it i 1 hil (by omega)
            simpa [it] using this
      have i1 : (i : Int) < (n : Int) := by omega
      clear R1 S1
      generalize xs[i] = z at hca d0 d1
      obtain ⟨z0, z1⟩ := z
      have l0 := hca 0 (by omega)
      have l1 := hca 1 (by omega)
      have l2 := hca 2 (by omega)
      have l3 := hca 3 (by omega)
      have l4 := hca 4 (by omega)
      have l5 := hca 5 (by omega)
      have l6 := hca 6 (by omega)
      simp [iT] at l0 l1 l2 l3 l4 l5 l6 d0 d1
      have C : Hid (∀ U, Below wr.heap.size wr U → Calls Try.prog 30 #[.int .i64 z1] U fun e w' => e = .returned (.agg #[.string (nm z1), .int .i64 0, .int .i64 z1, .int .u8 0, .int .i64 0, .int .i64 (ng z1)]) ∧ Below wr.heap.size wr w') := by
        intro U hU
        refine (thing_any z1 U).mono ?_
        rintro e w' ⟨rfl, h⟩
        exact ⟨rfl, hU.trans (h.mono hU.size)⟩
      generalize nm z1 = nb at l1 C
      generalize ng z1 = ny at l6 C
      have gl : g < wr.heap.size := cell_in l0
      have γl : γ < wr.heap.size := cell_in d0
      have CS : Hid (∀ v, Below wr.heap.size wr v → v.cell? ⟨g, i * 7, none⟩ = some (.int .i64 z0) ∧ v.cell? ⟨g, i * 7 + 1, none⟩ = some (.string nb) ∧ v.cell? ⟨g, i * 7 + 2, none⟩ = some (.int .i64 0) ∧ v.cell? ⟨g, i * 7 + 3, none⟩ = some (.int .i64 z1) ∧ v.cell? ⟨g, i * 7 + 4, none⟩ = some (.int .u8 0) ∧ v.cell? ⟨g, i * 7 + 5, none⟩ = some (.int .i64 0) ∧ v.cell? ⟨g, i * 7 + 6, none⟩ = some (.int .i64 ny) ∧ v.cell? ⟨γ, i * 2, none⟩ = some (.int .i64 z0) ∧ v.cell? ⟨γ, i * 2 + 1, none⟩ = some (.int .i64 z1)) := by
        intro v kv
        have cc : ∀ o, v.cell? ⟨g, o, none⟩ = wr.cell? ⟨g, o, none⟩ := fun o => kv.cell (p := ⟨g, o, none⟩) gl
        have cd : ∀ o, v.cell? ⟨γ, o, none⟩ = wr.cell? ⟨γ, o, none⟩ := fun o => kv.cell (p := ⟨γ, o, none⟩) γl
        exact ⟨(cc _).trans l0, (cc _).trans l1, (cc _).trans l2, (cc _).trans l3, (cc _).trans l4, (cc _).trans l5, (cc _).trans l6, (cd _).trans d0, (cd _).trans d1⟩
      clear hil hca gl γl
      go_wp2_with fail
      go_region_held3 (fun U => U.cell? ⟨g, i * 7, none⟩ = some (.int .i64 z0) ∧ U.cell? ⟨g, i * 7 + 1, none⟩ = some (.string nb) ∧ U.cell? ⟨g, i * 7 + 2, none⟩ = some (.int .i64 0) ∧ U.cell? ⟨g, i * 7 + 3, none⟩ = some (.int .i64 z1) ∧ U.cell? ⟨g, i * 7 + 4, none⟩ = some (.int .u8 0) ∧ U.cell? ⟨g, i * 7 + 5, none⟩ = some (.int .i64 0) ∧ U.cell? ⟨g, i * 7 + 6, none⟩ = some (.int .i64 ny) ∧ U.cell? ⟨γ, i * 2, none⟩ = some (.int .i64 z0) ∧ U.cell? ⟨γ, i * 2 + 1, none⟩ = some (.int .i64 z1)) (first | (with_reducible exact ⟨by assumption, by assumption, by assumption, by assumption, by assumption, by assumption, by assumption, by assumption, by assumption⟩) | (go_keep; done)) (first | (go_at_call 30; refine (C.out _ ?_).mono ?_; (first | exact Below.refl _ _ | exact (Below.refl _ _).drew | exact below_drewN (Below.refl _ _) _); rintro e v ⟨rfl, kv⟩; obtain ⟨m0, m1, m2, m3, m4, m5, m6, m7, m8⟩ := CS.out v kv; have Q3 := hd kv; clear kv))
      go_wp2_with fail
      exact ⟨⟨i + 1, by omega, by go_num, by repeat (first | exact HB.out.trans (Q3.out.mono HB.out.size) | refine Below.drew ?_ | refine below_drewN ?_ _)⟩, by simp [intOf]; omega⟩
    · have i1 : ¬ (i : Int) < (n : Int) := by omega
      go_wp2
      go_ret
      exact ⟨rfl, HB.out⟩

end Go.Proofs.Ytocpfioifamkmaa
