/-
  Texts put together: La Lb.
-/
import Derived.Test.YtkkklfnooeofcabMIa
import Derived.Laws.StructEq
/-! La -/
namespace Go.Proofs.Ytkkklfnooeofcab
open Go.RowKit Go.Maps Go.ChangeMaps Go.MapKept Go.WideMaps
set_option linter.unusedVariables false

theorem SF.rp {w : World} {β : Option Nat} {a : Option Addr} {n c : Nat} {xs : List (Int × ByteArray)} (h : SF rpc 2 w 90 β (.slice a n c) xs) (k : Nat) (hk : k < xs.length) : ∃ b, a = some ⟨b, 0, none⟩ ∧ w.cell? ⟨b, k * 2, none⟩ = some (.int .i64 xs[k].1) ∧ w.cell? ⟨b, k * 2 + 1, none⟩ = some (.string xs[k].2) := by
  cases β with
  | none =>
    obtain ⟨-, rfl⟩ := h
    simp at hk
  | some g =>
    obtain ⟨cap, h, hR⟩ := h
    injection h with h1 h2 h3
    refine ⟨g, h1, ?_, ?_⟩
    · have := hR.cell sz_rpc k 0 hk (by omega)
      simpa [rpc] using this
    · have := hR.cell sz_rpc k 1 hk (by omega)
      simpa [rpc] using this

set_option maxRecDepth 100000 in
set_option maxHeartbeats 4000000 in
theorem eqReplies_true (u v : Value) (β β' : Option Nat) (xs : List (Int × ByteArray)) (w : World) (hu : SF rpc 2 w 90 β u xs) (hv : SF rpc 2 w 90 β' v xs) :
    Calls Try.prog 15 #[u, v] w fun e w' => e = .returned (.bool true) ∧ ∃ m, w' = w.drewN m := by
  obtain ⟨a1, c, rfl, hc, hc'⟩ := hu.form
  obtain ⟨a2, d, rfl, hd1, hd2⟩ := hv.form
  have RU := hd (fun k hk => hu.rp k hk)
  have RV := hd (fun k hk => hv.rp k hk)
  obtain ⟨n, hn⟩ : ∃ n, xs.length = n := ⟨_, rfl⟩
  rw [hn] at hc hd1 ⊢
  have HN := hd hn
  clear hu hv hn
  go_enter Try.func15, Try.ntmps15
  go_wp2
  go_loopw [5] (fun i wr => ∃ k m : Nat, k ≤ n ∧ i = .int .i64 k ∧ wr = w.drewN m) (fun i _ => n - (intOf i).toNat)
  case atStart => exact ⟨0, 0, Nat.zero_le _, rfl, rfl⟩
  case round =>
    obtain ⟨k, m, hk, rfl, rfl⟩ := hrel
    by_cases hlt : k < n
    · have kx : k < xs.length := by have := HN.out; omega
      obtain ⟨b1, rfl, x0, x1⟩ := RU.out k kx
      obtain ⟨b2, rfl, y0, y1⟩ := RV.out k kx
      have i1 : (k : Int) < (n : Int) := by omega
      generalize xs[k] = x at *
      obtain ⟨xa, xb⟩ := x
      simp only [] at x0 x1 y0 y1
      go_wp2
      go_quiet (fail)
      go_wp2
      exact ⟨⟨k + 1, _, by omega, by go_num, rfl⟩, by simp [intOf]; omega⟩
    · obtain rfl : k = n := by omega
      go_wp2
      go_ret
      exact ⟨rfl, _, rfl⟩

set_option maxRecDepth 100000 in
set_option maxHeartbeats 4000000 in
theorem eqNote_true (n : Nt) (s : Nat × Nat) (u v : Value) (β β' : Option Nat) (w : World) (hu : SF rpc 2 w 90 β u n.sd) (hv : SF rpc 2 w 90 β' v n.sd) :
    Calls Try.prog 12 #[.agg (ntA n s u), .agg (ntA n s v)] w fun e w' => e = .returned (.bool true) ∧ Below w.heap.size w w' := by
  have hB : Below w.heap.size w ((w.alloc (.cells (ntA n s u) 47)).alloc (.cells (ntA n s v) 47)) := ((Below.refl _ _).alloc (Nat.le_refl _) _).alloc (by simp) _
  have CE := hd (eqReplies_true u v β β' n.sd _ (hu.fr (S := fun _ => False) (Fr.of_below hB) (fun _ _ h => h)) (hv.fr (S := fun _ => False) (Fr.of_below hB) (fun _ _ h => h)))
  obtain ⟨a1, c, rfl, hc, hc'⟩ := hu.form
  obtain ⟨a2, d, rfl, hd1, hd2⟩ := hv.form
  have HB := hd hB
  unfold ntA at *
  generalize n.sd.length = m at *
  generalize n.id = id at *
  generalize n.cl = cc at *
  generalize n.wo = wo at *
  generalize n.sh = sh at *
  obtain ⟨p, q⟩ := s
  simp only at *
  generalize ((p : Int) == (q : Int)) = g at *
  clear hu hv hB hc hc' hd1 hd2
  cases g <;> cases sh <;>
  · go_enter Try.func12, Try.ntmps12
    go_wp2_with fail
    refine CE.out.mono ?_
    rintro e w' ⟨rfl, m, rfl⟩
    go_wp2
    go_ret
    exact ⟨rfl, below_drewN HB.out _⟩

end Go.Proofs.Ytkkklfnooeofcab

/-! Lb -/
namespace Go.Proofs.Ytkkklfnooeofcab
open Go.RowKit Go.Maps Go.ChangeMaps Go.MapKept Go.WideMaps
set_option linter.unusedVariables false

/-- The note that fixed lays. -/
def soB : ByteArray := ⟨#[115, 111]⟩
def el1 : El := (120, 1, 1)
def nt1 : Nt := ⟨1, 3, soB, false, [], [el1]⟩
theorem wf_el1 : wfE el1 := ⟨⟨by decide, by decide⟩, ⟨by decide, by decide⟩, by decide, by decide⟩
theorem say_so : sayE 3 soB = 0 := by decide
theorem reach1 : reachP [el1] [el1] = (0, 1) := by decide

set_option maxRecDepth 100000 in
set_option maxHeartbeats 4000000 in
theorem fixed_any (w : World) : Calls Try.prog 4 #[] w fun e w' => ∃ r O g, e = .returned (.tuple #[.pointer (some ⟨r, 0, none⟩), .slice (some ⟨g, 0, none⟩) 1 1, .bool true]) ∧ BD w' O r 1 [nt1] ∧ w'.heap[g]? = some (.cells #[.int .u8 120, .int .i64 1, .int .i64 1] 41 (0, 0)) ∧ w.heap.size ≤ g ∧ ¬ O g ∧ (∀ k, O k → w.heap.size ≤ k) ∧ Below w.heap.size w w' := by
  go_enter Try.func4, Try.ntmps4
  go_wp2_with fail
  refine (new_any w).mono ?_
  rintro e w1 ⟨r, O, rfl, hD, hO, b1⟩
  have HD := hd hD
  have HO := hd hO
  have HB1 := hd b1
  clear hD hO b1
  go_wp2_with fail
  have bE : Below w1.heap.size w1 (w1.alloc (.cells #[.int .u8 120, .int .i64 1, .int .i64 1] 41)) := (Below.refl _ _).alloc (Nat.le_refl _) _
  have hg := heap_alloc_new w1 (.cells #[.int .u8 120, .int .i64 1, .int .i64 1] 41)
  have hE : IsE (w1.alloc (.cells #[.int .u8 120, .int .i64 1, .int .i64 1] 41)) (some ⟨w1.heap.size, 0, none⟩) 1 1 [el1] := by
    refine ⟨rfl, Nat.le_refl _, by omega, fun _ => ⟨w1.heap.size, 0, rfl, by simp, fun j v hj => ?_⟩⟩
    rw [Nat.zero_add, cell_row hg]
    simpa [cE, elc, el1] using hj
  have HG := hd hg
  have HE := hd hE
  have HB2 := hd (HB1.out.trans (bE.mono HB1.out.size))
  have CP := hd (put_good O r 0 [] _ (HD.out.below bE) (some ⟨w1.heap.size, 0, none⟩) 1 1 [el1] hE (by intro x hx; rw [List.mem_singleton.1 hx]; exact wf_el1) 0 1 (by omega) (by omega) 3 soB say_so (by decide) (by omega) ⟨by decide, by decide⟩)
  have HNO := hd (show ¬ O w1.heap.size from fun h => by have := HD.out.old _ h; omega)
  clear bE hg hE
  generalize w1.alloc (.cells #[.int .u8 120, .int .i64 1, .int .i64 1] 41) = w2 at *
  refine CP.out.mono ?_
  rintro e w3 ⟨rfl, O3, hD3, hO3, hF3⟩
  have hD3' : BD w3 O3 r 1 ([] ++ nt1 :: []) := hD3
  have hE3 : IsE w3 (some ⟨w1.heap.size, 0, none⟩) 1 1 [el1] := HE.out.fr hF3 (fun _ b off e => by injection e with e; injection e with e1 e2; rw [← e1]; exact HNO.out)
  have CL := hd (look_good O3 r 1 [] [] nt1 w3 hD3' (some ⟨w1.heap.size, 0, none⟩) 1 1 [el1] hE3 (by intro x hx; rw [List.mem_singleton.1 hx]; exact wf_el1) ⟨by decide, by decide⟩)
  have HG3 := hd (hF3.keeps HG.out HNO.out)
  have HO3 := hd (show (∀ k, O3 k → w.heap.size ≤ k) ∧ ¬ O3 w1.heap.size from ⟨fun k hk => by rcases hO3 k hk with h | h; exact HO.out k h; have := HB2.out.size; omega, fun h => by rcases hO3 _ h with h | h; exact HNO.out h; have := block_lt HG.out; omega⟩)
  have HB3 := hd (HB2.out.trans (hF3.below HB2.out.size (fun k hk => HO.out k hk)))
  have HD3 := hd hD3'
  clear hD3 hD3' hE3 hO3 hF3
  go_wp2_with fail
  refine CL.out.mono ?_
  rintro e w4 ⟨u, β, rfl, hS, -, b4⟩
  have HD4 := hd (HD3.out.below b4)
  have HG4 := hd ((Fr.of_below b4 : Fr (fun _ => False) w3 w4).keeps HG3.out (fun h => h))
  have HB4 := hd (HB3.out.trans (b4.mono HB3.out.size))
  obtain ⟨au, cu, hu, -, -⟩ := hS.form
  subst hu
  have HS := hd hS
  clear hS b4 CL
  rw [show (nt1.el) = [el1] from rfl, reach1]
  have CQ : Hid (∀ W, Below w4.heap.size w4 W → Calls Try.prog 12 #[.agg #[.int .i64 1, .int .i64 3, .string ⟨#[115, 111]⟩, .int .i64 0, .int .i64 1, .bool false, .bool false, .slice au 0 cu], .agg #[.int .i64 1, .int .i64 3, .string ⟨#[115, 111]⟩, .int .i64 0, .int .i64 1, .bool false, .bool false, .slice none 0 0]] W fun e w' => e = .returned (.bool true) ∧ Below W.heap.size W w') := fun W hW => eqNote_true nt1 (0, 1) (.slice au nt1.sd.length cu) (.slice none 0 0) β none W (HS.out.fr (S := fun _ => False) (Fr.of_below hW) (fun _ _ h => h)) ⟨rfl, rfl⟩
  simp only [ntA, nt1, soB]
  go_wp2_with fail
  refine (CQ.out _ (((Below.refl _ _).alloc (Nat.le_refl _) _).alloc (by simp) _)).mono ?_
  rintro e w5 ⟨rfl, b5⟩
  have b5' : Below w4.heap.size w4 w5 := (((Below.refl _ _).alloc (Nat.le_refl _) _).alloc (by simp) _ : Below w4.heap.size w4 _).trans (b5.mono (by simp; omega))
  have Z : Hid (BD w5 O3 r 1 [nt1] ∧ w5.heap[w1.heap.size]? = some (.cells #[.int .u8 120, .int .i64 1, .int .i64 1] 41 (0, 0)) ∧ w.heap.size ≤ w1.heap.size ∧ ¬ O3 w1.heap.size ∧ (∀ k, O3 k → w.heap.size ≤ k) ∧ Below w.heap.size w w5) := ⟨HD4.out.below b5', (Fr.of_below b5' : Fr (fun _ => False) w4 w5).keeps HG4.out (fun h => h), HB1.out.size, HO3.out.2, HO3.out.1, HB4.out.trans (b5'.mono HB4.out.size)⟩
  clear b5 b5' CQ
  go_wp2
  refine bodyPost_ret (v := .tuple #[.pointer (some ⟨r, 0, none⟩), .slice (some ⟨w1.heap.size, 0, none⟩) 1 1, .bool true]) (by simp [results, Try.results4, go_sem]) rfl ?_
  exact ⟨r, O3, _, rfl, Z.out⟩

end Go.Proofs.Ytkkklfnooeofcab
