/-
  The laws' turned.
-/
import Derived.Test.YtkkklfnooeofcaaFa
namespace Go.Proofs.Ytkkklfnooeofcaa
open Go.RowKit Go.Maps Go.ChangeMaps Go.MapKept Go.WideMaps
set_option linter.unusedVariables false

/-- The element that the k-th turn puts in. -/
def zE (k : Nat) : El := (90, 33 + (k : Int) / 64, 1 + (k : Int) % 64)
theorem wf_zE (k : Nat) (h : k ≤ 2047) : wfE (zE k) := by
  unfold wfE zE
  refine ⟨⟨by simp only; omega, by simp only; omega⟩, ⟨by simp only; omega, by simp only; omega⟩, by simp only; omega, by simp only; omega⟩

def TuP (xs : List El) (k : Nat) (pos : Int) (del : Bool) (ys : List El) : Prop :=
  ∃ p : Nat, pos = p ∧ ((del = true ∧ p < xs.length ∧ ys = xs.take p ++ xs.drop (p + 1)) ∨ (del = false ∧ p ≤ xs.length ∧ ys = xs.take p ++ zE k :: xs.drop p))
theorem TuP.len {xs ys : List El} {k : Nat} {pos : Int} {del : Bool} (h : TuP xs k pos del ys) : ys.length ≤ xs.length + 1 := by
  obtain ⟨p, -, ⟨-, h1, rfl⟩ | ⟨-, h1, rfl⟩⟩ := h <;> simp <;> omega
theorem TuP.wf {xs ys : List El} {k : Nat} {pos : Int} {del : Bool} (h : TuP xs k pos del ys) (hk : k ≤ 2047) (hx : ∀ x ∈ xs, wfE x) : ∀ x ∈ ys, wfE x := by
  intro x hy
  obtain ⟨p, -, ⟨-, h1, rfl⟩ | ⟨-, h1, rfl⟩⟩ := h
  · rcases List.mem_append.1 hy with h | h
    · exact hx x (List.mem_of_mem_take h)
    · exact hx x (List.mem_of_mem_drop h)
  · rcases List.mem_append.1 hy with h | h
    · exact hx x (List.mem_of_mem_take h)
    · rcases List.mem_cons.1 h with rfl | h
      · exact wf_zE k hk
      · exact hx x (List.mem_of_mem_drop h)

theorem fits_ins {n : Nat} {p l s : Int} (hn : n ≤ 4095) (h0 : 0 ≤ p) (h1 : p ≤ n) (l0 : 1 ≤ l) (l1 : l ≤ 64) (s0 : 1 ≤ s) (s1 : s ≤ 64) : fitsP (n : Int) ⟨1, p, 90, l, s⟩ = 0 := by
  have e1 : inR l 1 64 = true := by simp [inR]; omega
  have e2 : inR s 1 64 = true := by simp [inR]; omega
  have e3 : inR p 0 4095 = true := by simp [inR]; omega
  have e4 : inR (n : Int) 0 4096 = true := by simp [inR]; omega
  have e5 : inR 90 32 126 = true := by decide
  have hv : validP ⟨1, p, 90, l, s⟩ = 0 := by simp [validP, holdP, pointP, e1, e2, e3, e5]
  unfold fitsP
  rw [hv]
  simp [e4]
  omega
theorem fits_del {n : Nat} {p l s : Int} (hn : n ≤ 4096) (h0 : 0 ≤ p) (h1 : p < n) (l0 : 1 ≤ l) (l1 : l ≤ 64) (s0 : 1 ≤ s) (s1 : s ≤ 64) : fitsP (n : Int) ⟨2, p, 0, l, s⟩ = 0 := by
  have e1 : inR l 1 64 = true := by simp [inR]; omega
  have e2 : inR s 1 64 = true := by simp [inR]; omega
  have e3 : inR p 0 4095 = true := by simp [inR]; omega
  have e4 : inR (n : Int) 0 4096 = true := by simp [inR]; omega
  have hv : validP ⟨2, p, 0, l, s⟩ = 0 := by simp [validP, holdP, pointP, e1, e2, e3]
  unfold fitsP
  rw [hv]
  simp [e4]
  omega

set_option maxRecDepth 100000 in
set_option maxHeartbeats 4000000 in
theorem turned_any (a : Option Addr) (n c : Nat) (xs : List El) (out : Bool) (N : Int) (k : Nat) (w : World) (hE : IsE w a n c xs) (hn : n ≤ 4095) (hk : k ≤ 2047) :
    Calls Try.prog 23 #[.slice a n c, .agg #[.bool out, .int .i64 N], .int .i64 (k : Int)] w fun e w' => ∃ v pos del ys, e = .returned (.tuple #[v, .int .i64 pos, .bool del, .bool true]) ∧ OwnE w' w.heap.size v ys ∧ TuP xs k pos del ys ∧ (out = false → del = false) ∧ Below w.heap.size w w' := by
  have HE := hd hE
  have HL := hd hE.1
  have hc := hE.2.1
  have hc63 := hE.2.2.1
  clear hE
  have hl0 : Hid (1 ≤ 33 + (k : Int) / 64 ∧ 33 + (k : Int) / 64 ≤ 64 ∧ 1 ≤ 1 + (k : Int) % 64 ∧ 1 + (k : Int) % 64 ≤ 64) := ⟨by omega, by omega, by omega, by omega⟩
  have b2 : ∀ x : Int, Below w.heap.size w ((w.alloc (.cells #[.bool out, .int .i64 N] 55)).alloc (.cells #[.int .i64 1, .int .i64 x, .int .u8 90, .int .i64 (33 + (k : Int) / 64), .int .i64 (1 + (k : Int) % 64)] 90)) := fun x => ((Below.refl _ _).alloc (Nat.le_refl _) _).alloc (by simp) _
  have B2 := hd b2
  clear b2
  by_cases hd0 : out = true ∧ 0 < n
  · obtain ⟨rfl, hn0⟩ := hd0
    have hn1 : (0 : Int) < (n : Int) := by omega
    have bD : ∀ x : Int, Below w.heap.size w ((w.alloc (.cells #[.bool true, .int .i64 N] 55)).alloc (.cells #[.int .i64 2, .int .i64 x, .int .u8 0, .int .i64 (33 + (k : Int) / 64), .int .i64 (1 + (k : Int) % 64)] 90)) := fun x => ((Below.refl _ _).alloc (Nat.le_refl _) _).alloc (by simp) _
    have BD' := hd bD
    clear bD
    go_enter Try.func23, Try.ntmps23
    go_wp2_with fail
    refine (lwithin_any N 0 (n : Int) _ (by omega) (by omega) (by omega)).mono ?_
    rintro e w' ⟨x1, rfl, hx1, rfl⟩
    clear hx1
    go_wp2_with fail
    refine (lwithin_any N 0 ((n : Int) - 1) _ (by omega) (by omega) (by omega)).mono ?_
    rintro e w' ⟨x2, rfl, hx2, rfl⟩
    have HX2 := hd hx2
    clear hx2
    go_upto_region 6 with fail
    have hb1 : ((w.alloc (.cells #[.bool true, .int .i64 N] 55)).alloc (.cells #[.int .i64 2, .int .i64 x2, .int .u8 0, .int .i64 (33 + (k : Int) / 64), .int .i64 (1 + (k : Int) % 64)] 90)).heap[w.heap.size + 1]? = some (.cells #[.int .i64 2, .int .i64 x2, .int .u8 0, .int .i64 (33 + (k : Int) / 64), .int .i64 (1 + (k : Int) % 64)] 90 (0, 0)) := by
      have := heap_alloc_new (w.alloc (.cells #[.bool true, .int .i64 N] 55)) (.cells #[.int .i64 2, .int .i64 x2, .int .u8 0, .int .i64 (33 + (k : Int) / 64), .int .i64 (1 + (k : Int) % 64)] 90)
      rwa [World.size_alloc] at this
    have BB := hd (BD'.out x2)
    have HB1 := hd hb1
    have CA := hd (apply_good a n c 2 x2 0 (33 + (k : Int) / 64) (1 + (k : Int) % 64) xs _ (HE.out.below BB.out) (by omega) (by omega) (fits_del (by omega) HX2.out.1 (by have := HX2.out.2.1; omega) hl0.out.1 hl0.out.2.1 hl0.out.2.2.1 hl0.out.2.2.2))
    clear hb1
    go_wp2_with fail
    generalize (w.alloc (.cells #[.bool true, .int .i64 N] 55)).alloc (.cells #[.int .i64 2, .int .i64 x2, .int .u8 0, .int .i64 (33 + (k : Int) / 64), .int .i64 (1 + (k : Int) % 64)] 90) = w2 at *
    refine CA.out.mono ?_
    rintro e u ⟨v, rfl, hO, bu⟩
    have hbu := (Fr.of_below bu : Fr (fun _ => False) w2 u).keeps HB1.out (fun h => h)
    have c0 := cell_row hbu 0
    have c1 := cell_row hbu 1
    simp at c0 c1
    have Z : Hid (OwnE u w.heap.size v (applyP xs ⟨2, x2, 0, 33 + (k : Int) / 64, 1 + (k : Int) % 64⟩) ∧ TuP xs k x2 true (applyP xs ⟨2, x2, 0, 33 + (k : Int) / 64, 1 + (k : Int) % 64⟩) ∧ Below w.heap.size w u) := by
      obtain ⟨g, hg, hs⟩ := hO
      refine ⟨⟨g, Nat.le_trans BB.out.size hg, hs⟩, ?_, BB.out.trans (bu.mono BB.out.size)⟩
      have h1 := HX2.out.1
      have h2 := HX2.out.2.1
      have h3 := HL.out
      refine ⟨x2.toNat, by omega, .inl ⟨rfl, by omega, ?_⟩⟩
      simp [applyP]
    obtain ⟨gg, cg, -, hv, -⟩ := hO.form
    subst hv
    clear hO bu hbu CA
    go_upto_region 7 with fail
    go_quiet (fail)
    have Z2 := hd (Z.out)
    clear Z
    go_wp2
    refine bodyPost_ret (v := .tuple #[.slice (some ⟨gg, 0, none⟩) (applyP xs ⟨2, x2, 0, 33 + (k : Int) / 64, 1 + (k : Int) % 64⟩).length cg, .int .i64 x2, .bool true, .bool true]) (by simp [results, Try.results23, go_sem]) rfl ?_
    refine ⟨_, _, _, _, rfl, ?_, Z2.out.2.1, by simp, ?_⟩
    · obtain ⟨g', hg', hs'⟩ := Z2.out.1
      exact ⟨g', hg', hs'.fr (Fr.drewN (fun _ => False) _ _) (fun _ _ h => h)⟩
    · exact below_drewN Z2.out.2.2 _
  · obtain rfl | ⟨rfl, hn0⟩ : out = false ∨ (out = true ∧ ¬ (0 : Int) < (n : Int)) := by
      cases out
      · exact .inl rfl
      · refine .inr ⟨rfl, fun h => hd0 ⟨rfl, by omega⟩⟩
    · clear hd0
      go_enter Try.func23, Try.ntmps23
      go_wp2_with fail
      refine (lwithin_any N 0 (n : Int) _ (by omega) (by omega) (by omega)).mono ?_
      rintro e w' ⟨x1, rfl, hx1, rfl⟩
      have HX1 := hd hx1
      clear hx1
      go_upto_region 6 with fail
      have hb1 : ((w.alloc (.cells #[.bool false, .int .i64 N] 55)).alloc (.cells #[.int .i64 1, .int .i64 x1, .int .u8 90, .int .i64 (33 + (k : Int) / 64), .int .i64 (1 + (k : Int) % 64)] 90)).heap[w.heap.size + 1]? = some (.cells #[.int .i64 1, .int .i64 x1, .int .u8 90, .int .i64 (33 + (k : Int) / 64), .int .i64 (1 + (k : Int) % 64)] 90 (0, 0)) := by
        have := heap_alloc_new (w.alloc (.cells #[.bool false, .int .i64 N] 55)) (.cells #[.int .i64 1, .int .i64 x1, .int .u8 90, .int .i64 (33 + (k : Int) / 64), .int .i64 (1 + (k : Int) % 64)] 90)
        rwa [World.size_alloc] at this
      have BB := hd (B2.out x1)
      have HB1 := hd hb1
      have CA := hd (apply_good a n c 1 x1 90 (33 + (k : Int) / 64) (1 + (k : Int) % 64) xs _ (HE.out.below BB.out) (by omega) (by omega) (fits_ins hn HX1.out.1 HX1.out.2.1 hl0.out.1 hl0.out.2.1 hl0.out.2.2.1 hl0.out.2.2.2))
      clear hb1
      go_wp2_with fail
      generalize (w.alloc (.cells #[.bool false, .int .i64 N] 55)).alloc (.cells #[.int .i64 1, .int .i64 x1, .int .u8 90, .int .i64 (33 + (k : Int) / 64), .int .i64 (1 + (k : Int) % 64)] 90) = w2 at *
      refine CA.out.mono ?_
      rintro e u ⟨v, rfl, hO, bu⟩
      have hbu := (Fr.of_below bu : Fr (fun _ => False) w2 u).keeps HB1.out (fun h => h)
      have c0 := cell_row hbu 0
      have c1 := cell_row hbu 1
      simp at c0 c1
      have Z : Hid (OwnE u w.heap.size v (applyP xs ⟨1, x1, 90, 33 + (k : Int) / 64, 1 + (k : Int) % 64⟩) ∧ TuP xs k x1 false (applyP xs ⟨1, x1, 90, 33 + (k : Int) / 64, 1 + (k : Int) % 64⟩) ∧ Below w.heap.size w u) := by
        obtain ⟨g, hg, hs⟩ := hO
        refine ⟨⟨g, Nat.le_trans BB.out.size hg, hs⟩, ?_, BB.out.trans (bu.mono BB.out.size)⟩
        have h1 := HX1.out.1
        have h2 := HX1.out.2.1
        have h3 := HL.out
        refine ⟨x1.toNat, by omega, .inr ⟨rfl, by omega, ?_⟩⟩
        simp [applyP, zE]
      obtain ⟨gg, cg, -, hv, -⟩ := hO.form
      subst hv
      clear hO bu hbu CA
      go_upto_region 7 with fail
      go_quiet (fail)
      have Z2 := hd (Z.out)
      clear Z
      go_wp2
      refine bodyPost_ret (v := .tuple #[.slice (some ⟨gg, 0, none⟩) (applyP xs ⟨1, x1, 90, 33 + (k : Int) / 64, 1 + (k : Int) % 64⟩).length cg, .int .i64 x1, .bool false, .bool true]) (by simp [results, Try.results23, go_sem]) rfl ?_
      refine ⟨_, _, _, _, rfl, ?_, Z2.out.2.1, by simp, ?_⟩
      · obtain ⟨g', hg', hs'⟩ := Z2.out.1
        exact ⟨g', hg', hs'.fr (Fr.drewN (fun _ => False) _ _) (fun _ _ h => h)⟩
      · exact below_drewN Z2.out.2.2 _
    · clear hd0
      go_enter Try.func23, Try.ntmps23
      go_wp2_with fail
      refine (lwithin_any N 0 (n : Int) _ (by omega) (by omega) (by omega)).mono ?_
      rintro e w' ⟨x1, rfl, hx1, rfl⟩
      have HX1 := hd hx1
      clear hx1
      go_upto_region 6 with fail
      have hb1 : ((w.alloc (.cells #[.bool true, .int .i64 N] 55)).alloc (.cells #[.int .i64 1, .int .i64 x1, .int .u8 90, .int .i64 (33 + (k : Int) / 64), .int .i64 (1 + (k : Int) % 64)] 90)).heap[w.heap.size + 1]? = some (.cells #[.int .i64 1, .int .i64 x1, .int .u8 90, .int .i64 (33 + (k : Int) / 64), .int .i64 (1 + (k : Int) % 64)] 90 (0, 0)) := by
        have := heap_alloc_new (w.alloc (.cells #[.bool true, .int .i64 N] 55)) (.cells #[.int .i64 1, .int .i64 x1, .int .u8 90, .int .i64 (33 + (k : Int) / 64), .int .i64 (1 + (k : Int) % 64)] 90)
        rwa [World.size_alloc] at this
      have BB := hd (B2.out x1)
      have HB1 := hd hb1
      have CA := hd (apply_good a n c 1 x1 90 (33 + (k : Int) / 64) (1 + (k : Int) % 64) xs _ (HE.out.below BB.out) (by omega) (by omega) (fits_ins hn HX1.out.1 HX1.out.2.1 hl0.out.1 hl0.out.2.1 hl0.out.2.2.1 hl0.out.2.2.2))
      clear hb1
      go_wp2_with fail
      generalize (w.alloc (.cells #[.bool true, .int .i64 N] 55)).alloc (.cells #[.int .i64 1, .int .i64 x1, .int .u8 90, .int .i64 (33 + (k : Int) / 64), .int .i64 (1 + (k : Int) % 64)] 90) = w2 at *
      refine CA.out.mono ?_
      rintro e u ⟨v, rfl, hO, bu⟩
      have hbu := (Fr.of_below bu : Fr (fun _ => False) w2 u).keeps HB1.out (fun h => h)
      have c0 := cell_row hbu 0
      have c1 := cell_row hbu 1
      simp at c0 c1
      have Z : Hid (OwnE u w.heap.size v (applyP xs ⟨1, x1, 90, 33 + (k : Int) / 64, 1 + (k : Int) % 64⟩) ∧ TuP xs k x1 false (applyP xs ⟨1, x1, 90, 33 + (k : Int) / 64, 1 + (k : Int) % 64⟩) ∧ Below w.heap.size w u) := by
        obtain ⟨g, hg, hs⟩ := hO
        refine ⟨⟨g, Nat.le_trans BB.out.size hg, hs⟩, ?_, BB.out.trans (bu.mono BB.out.size)⟩
        have h1 := HX1.out.1
        have h2 := HX1.out.2.1
        have h3 := HL.out
        refine ⟨x1.toNat, by omega, .inr ⟨rfl, by omega, ?_⟩⟩
        simp [applyP, zE]
      obtain ⟨gg, cg, -, hv, -⟩ := hO.form
      subst hv
      clear hO bu hbu CA
      go_upto_region 7 with fail
      go_quiet (fail)
      have Z2 := hd (Z.out)
      clear Z
      go_wp2
      refine bodyPost_ret (v := .tuple #[.slice (some ⟨gg, 0, none⟩) (applyP xs ⟨1, x1, 90, 33 + (k : Int) / 64, 1 + (k : Int) % 64⟩).length cg, .int .i64 x1, .bool false, .bool true]) (by simp [results, Try.results23, go_sem]) rfl ?_
      refine ⟨_, _, _, _, rfl, ?_, Z2.out.2.1, by simp, ?_⟩
      · obtain ⟨g', hg', hs'⟩ := Z2.out.1
        exact ⟨g', hg', hs'.fr (Fr.drewN (fun _ => False) _ _) (fun _ _ h => h)⟩
      · exact below_drewN Z2.out.2.2 _

end Go.Proofs.Ytkkklfnooeofcaa
