/-
  span.empty, spotsOf.
-/
import Derived.Test.YtkkklfnooeofcaaBd
import Derived.Deep.RegionHeld3
import Derived.Deep.QuietTactic
import Derived.BigQuiet
import Derived.Deep.DeepCutAuto
namespace Go.Proofs.Ytkkklfnooeofcaa
open Go.RowKit Go.Maps Go.ChangeMaps Go.MapKept Go.WideMaps
set_option linter.unusedVariables false

theorem run_makeMapN (n : Int) (w : World) : (Instr.makeMap 77 (some (.int .i64 n))).run Try.prog w = .ok (.map (some w.heap.size)) (w.alloc (.map #[] 0)) := by
  simp [Instr.makeMap, run_underlying Try.underlying77, asInt, asIntOf, Result.andThen]

theorem empty_any (s t : Int) (w : World) : Calls Try.prog 40 #[.agg #[.int .i64 s, .int .i64 t]] w fun e w' => e = .returned (.bool (s == t)) ∧ Below w.heap.size w w' := by
  go_enter Try.func40, Try.ntmps40
  go_wp2
  go_ret
  exact ⟨by simp, (Below.refl _ _).alloc (Nat.le_refl _) _⟩

theorem take_snoc {α : Type} (l : List α) (k : Nat) (h : k < l.length) : l.take (k + 1) = l.take k ++ [l[k]] := List.take_succ_eq_append_getElem h

theorem put_spot {w wr : World} {b : Nat} {ys : List El} {x0 x1 x2 : Int} (hx : wfE (x0, x1, x2)) (h : SM wr b ys) {k f : Nat} (hk : ys.length = k ∧ k < 9223372036854775807) (hs : spP (ys ++ [(x0, x1, x2)]) (x0, x1, x2) = some (f, k + 1)) (hb : Below w.heap.size w wr) (hwb : w.heap.size ≤ b) :
    ∃ w', (Instr.mapUpdate 77 (.map (some b)) (.agg #[.int .u8 x0, .int .i64 x1, .int .i64 x2]) (.agg #[.int .i64 f, .int .i64 ((k : Int) + 1)])).run Try.prog ((wr.alloc (.cells #[.int .u8 x0, .int .i64 x1, .int .i64 x2] 57)).alloc (.cells #[.int .i64 f, .int .i64 ((k : Int) + 1)] 84)) = .ok () w' ∧ SM w' b (ys ++ [(x0, x1, x2)]) ∧ Below w.heap.size w w' := by
  have b1 : Below wr.heap.size wr ((wr.alloc (.cells #[.int .u8 x0, .int .i64 x1, .int .i64 x2] 57)).alloc (.cells #[.int .i64 f, .int .i64 ((k : Int) + 1)] 84)) := ((Below.refl _ _).alloc (Nat.le_refl _) _).alloc (by simp) _
  obtain ⟨w', hrun, h1, h2⟩ := (h.below b1).put hx (by omega) hs (v := .agg #[.int .i64 f, .int .i64 ((k : Int) + 1)]) (by simp [spV])
  have b2 : Below w.heap.size w _ := hb.trans (b1.mono hb.size)
  exact ⟨w', hrun, h1, b2.trans (h2.below b2.size (fun k hk => by omega))⟩

set_option maxRecDepth 100000 in
set_option maxHeartbeats 4000000 in
theorem spots_any (a : Option Addr) (n c : Nat) (xs : List El) (w : World) (hE : IsE w a n c xs) (hw : ∀ x ∈ xs, wfE x) :
    Calls Try.prog 29 #[.slice a n c] w fun e w' => ∃ b, e = .returned (.map (some b)) ∧ SM w' b xs ∧ w.heap.size ≤ b ∧ Below w.heap.size w w' := by
  have hmk := run_makeMapN
  have hn63 : n ≤ 9223372036854775807 := Nat.le_trans hE.2.1 hE.2.2.1
  have HL := hd hE.1
  have HE := hd hE
  have HW := hd hw
  clear hE hw
  go_enter Try.func29, Try.ntmps29
  go_wp2
  have I0 : Hid (SM (w.alloc (.map #[] 0)) w.heap.size (xs.take 0) ∧ Below w.heap.size w (w.alloc (.map #[] 0))) := ⟨SM.made w, (Below.refl _ _).alloc (Nat.le_refl _) _⟩
  go_loopw [13] (fun v wr => ∃ k : Nat, k ≤ n ∧ v = .int .i64 k ∧ Hid (SM wr w.heap.size (xs.take k) ∧ Below w.heap.size w wr)) (fun v _ => n - (intOf v).toNat)
  case atStart => exact ⟨0, Nat.zero_le _, rfl, I0⟩
  case round =>
    obtain ⟨k, hk, rfl, HI⟩ := hrel
    clear I0
    by_cases hlt : k < n
    · have hx : k < xs.length := by rw [HL.out]; exact hlt
      have hEr := HE.out.below HI.out.2
      obtain ⟨ab, off, ha, habl⟩ := hEr.addr (by omega)
      subst ha
      obtain ⟨e0, e1, e2⟩ := hEr.at k hlt hx
      have HX := hd (HW.out xs[k] (List.getElem_mem hx))
      have HT := hd (take_snoc xs k hx)
      generalize xs[k] = x at *
      obtain ⟨x0, x1, x2⟩ := x
      simp only at e0 e1 e2
      clear hEr habl
      have bX : Below wr.heap.size wr (wr.alloc (.cells #[.int .u8 x0, .int .i64 x1, .int .i64 x2] 57)) := (Below.refl _ _).alloc (Nat.le_refl _) _
      have lk := (HI.out.1.below bX).look HX.out
      simp only [elV, spV] at lk
      cases hs : spP (xs.take k) (x0, x1, x2) with
      | none =>
        rw [hs] at lk
        simp only [Option.getD_none, Option.isSome_none] at lk
        have PT := hd (put_spot HX.out (HI.out.1) (k := k) ⟨by rw [List.length_take]; omega, by omega⟩ (f := k) (by
          rw [spP_snoc, if_pos rfl, hs]
          simp only [List.length_take, Nat.min_eq_left (Nat.le_of_lt hx)]) HI.out.2 (Nat.le_refl _))
        clear bX HX HI
        obtain ⟨w', hrun, hZ⟩ := PT.out
        have Z := hd hZ
        clear hZ PT hs
        rw [← HT.out] at Z
        go_upto_region 9 with fail
        go_wp2
        exact ⟨⟨k + 1, by omega, by trivial, Z⟩, by simp [intOf]; omega⟩
      | some s =>
        rw [hs] at lk
        obtain ⟨s0, s1⟩ := s
        simp only [Option.getD_some, Option.isSome_some] at lk
        have PT := hd (put_spot HX.out (HI.out.1) (k := k) ⟨by rw [List.length_take]; omega, by omega⟩ (f := s0) (by
          rw [spP_snoc, if_pos rfl, hs]
          simp only [List.length_take, Nat.min_eq_left (Nat.le_of_lt hx)]) HI.out.2 (Nat.le_refl _))
        clear bX HX HI
        obtain ⟨w', hrun, hZ⟩ := PT.out
        have Z := hd hZ
        clear hZ PT hs
        rw [← HT.out] at Z
        go_upto_region 9 with fail
        go_wp2
        exact ⟨⟨k + 1, by omega, by trivial, Z⟩, by simp [intOf]; omega⟩
    · have Z := HI
      have e : xs.take k = xs := List.take_of_length_le (by rw [HL.out]; omega)
      rw [e] at Z
      clear HI e
      go_wp2
      go_ret
      exact ⟨_, rfl, Z.out.1, Nat.le_refl _, Z.out.2⟩

end Go.Proofs.Ytkkklfnooeofcaa
