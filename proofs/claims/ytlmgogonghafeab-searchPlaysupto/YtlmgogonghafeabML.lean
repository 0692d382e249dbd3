/-
  Texts put together: Hq Hg Hh Hi.
-/
import Derived.Test.YtlmgogonghafeabMC
import Derived.Laws.StructEq
import Derived.Test.YtlmgogonghafeabMF
import Derived.Test.YtlmgogonghafeabMR
import Derived.Test.YtlmgogonghafeabNx
/-! Hq -/
namespace Go.Proofs.Ytlmgogonghafeab
open Go.RowKit
set_option linter.unusedVariables false

set_option maxRecDepth 100000 in
set_option maxHeartbeats 4000000 in
theorem equal_same (a b : Option Addr) (n c d : Nat) (xs : List El) (w : World) (hx : IsE w a n c xs) (hy : IsE w b n d xs) :
    Calls Try.prog 9 #[.slice a n c, .slice b n d] w fun e w' => e = .returned (.bool true) ∧ Below w.heap.size w w' := by
  have hc := hx.2.1
  have hc' := hx.2.2.1
  have LX := hd hx.1
  have HX := hd hx
  have HY := hd hy
  clear hx hy
  go_enter Try.func9, Try.ntmps9
  go_wp2
  go_loopw [14] (fun i wr => ∃ k : Nat, k ≤ n ∧ i = .int .i64 k ∧ Hid (Below w.heap.size w wr)) (fun i _ => n - (intOf i).toNat)
  case atStart => exact ⟨0, Nat.zero_le _, rfl, Below.refl _ _⟩
  case round =>
    obtain ⟨k, hk, rfl, hB⟩ := hrel
    by_cases hlt : k < n
    · have X2 := HX.out.below hB.out
      have Y2 := HY.out.below hB.out
      obtain ⟨b1, o1, rfl, l1⟩ := X2.addr (by omega)
      obtain ⟨b2, o2, rfl, l2⟩ := Y2.addr (by omega)
      have kx : k < xs.length := by have := LX.out; omega
      obtain ⟨x0, x1, x2⟩ := X2.at k hlt kx
      obtain ⟨y0, y1, y2⟩ := Y2.at k hlt kx
      have i1 : (k : Int) < (n : Int) := by omega
      generalize xs[k] = x at *
      obtain ⟨xa, xb, xc⟩ := x
      simp only [] at x0 x1 x2 y0 y1 y2
      have B2 : Hid (Below w.heap.size w (wr.alloc (.cells #[.int .u8 xa, .int .i64 xb, .int .i64 xc] 25))) := hB.out.alloc hB.out.size _
      have z0 : (wr.alloc (.cells #[.int .u8 xa, .int .i64 xb, .int .i64 xc] 25)).cell? ⟨b2, o2 + k * 3, none⟩ = some (.int .u8 xa) := by
        rw [World.cell?_alloc_past _ b2 _ l2]; exact y0
      have z1 : (wr.alloc (.cells #[.int .u8 xa, .int .i64 xb, .int .i64 xc] 25)).cell? ⟨b2, o2 + k * 3 + 1, none⟩ = some (.int .i64 xb) := by
        rw [World.cell?_alloc_past _ b2 _ l2]; exact y1
      have z2 : (wr.alloc (.cells #[.int .u8 xa, .int .i64 xb, .int .i64 xc] 25)).cell? ⟨b2, o2 + k * 3 + 2, none⟩ = some (.int .i64 xc) := by
        rw [World.cell?_alloc_past _ b2 _ l2]; exact y2
      have n2 : ¬ b2 = wr.heap.size := by omega
      clear kx X2 Y2 hB
      go_wp2
      go_quiet (fail)
      go_wp2
      exact ⟨⟨k + 1, by omega, by go_num, below_drewN B2.out _⟩, by simp [intOf]; omega⟩
    · obtain rfl : k = n := by omega
      go_wp2
      go_ret
      exact ⟨by simp, hB.out⟩
end Go.Proofs.Ytlmgogonghafeab

/-! Hg -/
namespace Go.Proofs.Ytlmgogonghafeab
open Go.RowKit Go.Lib
set_option linter.unusedVariables false

/-- append of a whole text onto an empty list of the call's own. -/
theorem run_copied (w : World) (g : Nat) (a : Option Addr) (n c : Nat) (xs : List El) (hg : w.heap[g]? = some (.cells #[] 25 (0, 0))) (hE : IsE w a n c xs) (hn : n ≤ 1000) :
    ∃ v' w', (∀ ty, (Builtin.append_ #[22, 22] ty #[.slice (some ⟨g, 0, none⟩) 0 0, .slice a n c]).run Try.prog w = .ok v' w') ∧ OwnE w' g v' xs ∧ Fr (fun _ => False) w w' := by
  obtain ⟨i0, hi0, hz0, hz1, hz2⟩ := info_parts Try.infoE
  by_cases h0 : n = 0
  · subst h0
    obtain rfl := List.eq_nil_of_length_eq_zero hE.1
    refine ⟨.slice (some ⟨g, 0, none⟩) 0 0, w, fun ty => ?_, ⟨g, Nat.le_refl _, 0, rfl, [], hg, rfl, rfl, Nat.le_refl _, by omega, rfl⟩, Fr.refl _ _⟩
    have hl : ∀ (x : Addr), (loadCells x 0).run Try.prog w = .ok #[] w := fun x => by simpa using run_loadCells_list (P := Try.prog) w x [] (by simp)
    cases a <;> simp [Builtin.append_, run_underlying Try.underlying22, Builtin.lenOf, Builtin.firstCells, sizeOf, typeInfo, hi0, storeCells, hl]
  · obtain ⟨h1, h2, h3, h4⟩ := hE
    obtain ⟨b, off, rfl, hlt, hc⟩ := h4 (by omega)
    have hr := fun ty => run_append_grow (P := Try.prog) w 22 ty 25 i0 _ Try.underlying22 hi0 hz0 ⟨g, 0, none⟩ 0 0 [] (by simp) (by simp) ⟨b, off, none⟩ n c (cE xs) (by rw [hz1, cE_len, h1]) (fun j v hj => by rw [add_lit]; exact hc j v hj) (by omega) (by omega) (growslice_fits (by omega) (by rw [hz2]; omega))
    have hG1 := grownCap_ge w (0 + n) 0 25
    have hG2 := grownCap_le_maxLen w (0 + n) 0 25 (by unfold maxLen; omega)
    generalize grownCap w (0 + n) 0 25 = G at hr hG1 hG2
    refine ⟨_, _, hr, ⟨w.heap.size, Nat.le_of_lt (block_lt hg), G, by rw [h1, Nat.zero_add], ?_⟩, (Fr.drew _ w).trans (Fr.alloc _ _ _)⟩
    rw [Nat.zero_add] at hG1
    refine ⟨((cE xs).toArray ++ Builtin.zeroCells #[.int .u8 0, .int .i64 0, .int .i64 0] (G - (0 + n))).toList, ?_, ?_, rfl, by omega, hG2, ?_⟩
    · rw [show w.heap.size = w.drew.heap.size from rfl, heap_alloc_new]
      simp [Value.cells]
    · rw [Array.toList_append, List.toList_toArray, ← cE_len, List.take_left]
    · rw [Array.toList_append, List.length_append, zero_len, List.toList_toArray, cE_len, h1]
      omega

section
variable {α : Type} {f : α → List Value} {k : Nat} {e : TypeId}
theorem cl_setk (hz : Sz f k) : ∀ (xs : List α) (i j : Nat) (u : Value) (x : α) (hi : i < xs.length), j < k → f x = (f xs[i]).set j u → (cl f xs).set (i * k + j) u = cl f (xs.set i x)
  | y :: ys, 0, j, u, x, hi, hj, hx => by
    rw [Nat.zero_mul, Nat.zero_add, cl_cons, List.set_cons_zero, cl_cons, List.set_append_left _ _ (by rw [(hz y).1]; exact hj), hx]
    rfl
  | y :: ys, i + 1, j, u, x, hi, hj, hx => by
    have h1 : (i + 1) * k + j = k + (i * k + j) := by rw [Nat.add_mul]; omega
    rw [h1, cl_cons, List.set_cons_succ, cl_cons, List.set_append_right _ _ (by rw [(hz y).1]; omega), (hz y).1, Nat.add_sub_cancel_left, cl_setk hz ys i j u x (by simpa using hi) hj (by simpa using hx)]
/-- One cell of an element is stored. -/
theorem SF.setk {w : World} {g : Nat} {v : Value} {xs : List α} (h : SF f k w e (some g) v xs) (hz : Sz f k) (i j : Nat) (u : Value) (x : α) (hi : i < xs.length) (hj : j < k) (hx : f x = (f xs[i]).set j u) : SF f k (w.setCell ⟨g, i * k + j, none⟩ u) e (some g) v (xs.set i x) := by
  obtain ⟨cap, hv, cur, hh, ht, hl, hc1, hc2, hcs⟩ := h
  refine ⟨cap, by rw [List.length_set]; exact hv, cur.set (i * k + j) u, ?_, ?_, rfl, by rw [List.length_set]; exact hc1, hc2, by rw [List.length_set]; exact hcs⟩
  · rw [set_row hh _ u, List.setIfInBounds_toArray]
  · rw [List.length_set, List.take_set, ht, cl_setk hz xs i j u x hi hj hx]
theorem SF.frozen {w : World} {g : Nat} {v : Value} {xs : List α} (h : SF f k w e (some g) v xs) (i : Nat) : w.frozen? ⟨g, i, none⟩ = false := by
  obtain ⟨cur, hh⟩ := h.blk
  exact frozen_row hh i
theorem SF.cell {w : World} {g : Nat} {v : Value} {xs : List α} (h : SF f k w e (some g) v xs) (hz : Sz f k) (i j : Nat) (hi : i < xs.length) (hj : j < k) : w.cell? ⟨g, i * k + j, none⟩ = (f xs[i])[j]? := by
  obtain ⟨cap, hv, hR⟩ := h
  exact hR.cell hz i j hi hj
end

/-- The first i elements got another character. -/
def mkE (q : Int) (xs : List El) (i : Nat) : List El := (xs.take i).map (fun x => (q, x.2)) ++ xs.drop i
theorem mkE_len (q : Int) (xs : List El) (i : Nat) : (mkE q xs i).length = xs.length := by simp [mkE]; omega
theorem mkE_zero (q : Int) (xs : List El) : mkE q xs 0 = xs := by simp [mkE]
theorem mkE_set (q : Int) (xs : List El) (i : Nat) (h : i < xs.length) : (mkE q xs i).set i (q, xs[i].2) = mkE q xs (i + 1) := by
  unfold mkE
  rw [List.set_append_right _ _ (by simp; omega), List.drop_eq_getElem_cons h]
  have : i - ((xs.take i).map (fun x : El => (q, x.2))).length = 0 := by simp; omega
  rw [this, List.set_cons_zero, List.take_succ_eq_append_getElem h, List.map_append, List.append_assoc]
  rfl
theorem mkE_at (q : Int) (xs : List El) (i : Nat) (h : i < xs.length) (h2 : i < (mkE q xs i).length) : (mkE q xs i)[i] = xs[i] := by
  have h3 : (mkE q xs i)[i]? = xs[i]? := by
    unfold mkE
    rw [List.getElem?_append_right (by simp; omega)]
    simp [show min i xs.length = i by omega]
  rw [List.getElem?_eq_getElem h2, List.getElem?_eq_getElem h] at h3
  exact Option.some.inj h3
theorem mkE_all (q : Int) (xs : List El) : mkE q xs xs.length = xs.map (fun x => (q, x.2)) := by simp [mkE]
theorem tB_mk (q : Nat) (xs : List El) : tB (mkE (q : Int) xs xs.length) = List.replicate xs.length (UInt8.ofNat q) := by
  rw [mkE_all]
  unfold tB
  rw [List.map_map]
  apply List.ext_getElem
  · simp
  · intro i h1 h2
    simp

/-- While the elements are marked. -/
def MkI (q : Int) (w wr : World) (M n c : Nat) (xs : List El) (i : Nat) : Prop := SF elc 3 wr 25 (some M) (.slice (some ⟨M, 0, none⟩) n c) (mkE q xs i) ∧ Fr (· = M) w wr
theorem MkI.step {q : Int} {w wr : World} {M n c : Nat} {xs : List El} {i : Nat} (h : MkI q w wr M n c xs i) (hi : i < xs.length) : (∃ v, wr.cell? ⟨M, i * 3, none⟩ = some v) ∧ wr.frozen? ⟨M, i * 3, none⟩ = false ∧ MkI q w (wr.setCell ⟨M, i * 3, none⟩ (.int .u8 q)) M n c xs (i + 1) := by
  have hl : i < (mkE q xs i).length := by rw [mkE_len]; exact hi
  have h0 := h.1.cell sz_elc i 0 hl (by omega)
  rw [Nat.add_zero] at h0
  refine ⟨⟨_, h0⟩, h.1.frozen _, ?_, h.2.trans (Fr.setCell wr _ _ rfl)⟩
  have := h.1.setk sz_elc i 0 (.int .u8 q) (q, xs[i].2) hl (by omega) (by rw [mkE_at q xs i hi hl]; rfl)
  rw [mkE_set q xs i hi, Nat.add_zero] at this
  exact this

theorem SF.isL {W : World} {β : Option Nat} {a : Option Addr} {m c : Nat} {l : List Nat} (h : SF ei 1 W 3 β (.slice a m c) (nI l)) : IsL W a m c l := by
  have h0 : IsN { W with heap := #[] } W (.slice a m c) l := ⟨β, h, fun g _ => by simp⟩
  obtain ⟨a', c', hv, hL⟩ := h0.isL
  obtain ⟨rfl, rfl, rfl⟩ := Value.slice.inj hv
  exact hL
theorem SF.isW {W : World} {β : Option Nat} {a : Option Addr} {m c : Nat} {l : List ByteArray} (h : SF eSt 1 W 9 β (.slice a m c) l) : IsW W a m c l := by
  have h0 : StI { W with heap := #[] } { W with heap := #[] } (.slice none 0 0) [] := ⟨none, ⟨rfl, rfl⟩, fun g h => (by cases h), Below.refl _ _⟩
  obtain ⟨a', c', hv, hlc, hc⟩ := h.form
  obtain ⟨rfl, rfl, rfl⟩ := Value.slice.inj hv
  refine ⟨rfl, hlc, hc, fun hn => ?_⟩
  cases β with
  | none =>
    obtain ⟨-, h⟩ := h
    rw [h] at hn
    simp at hn
  | some g =>
    have hlt := h.lt g rfl
    obtain ⟨cap, hv2, hR⟩ := h
    obtain ⟨rfl, -, -⟩ := Value.slice.inj hv2
    refine ⟨g, 0, rfl, hlt, fun k hk => ?_⟩
    have := hR.cell szE k 0 hk (by omega)
    simp [eSt] at this
    simpa using this
theorem ints_below (a b : Option Addr) (n c d : Nat) (l : List Nat) (w : World) (ha : IsL w a n c l) (hb : IsL w b n d l) :
    Calls Try.prog 14 #[.slice a n c, .slice b n d] w fun e w' => e = .returned (.bool true) ∧ Below w.heap.size w w' :=
  (ints_true a b n c d l w ha hb).mono fun e w' ⟨h1, m, h2⟩ => ⟨h1, by rw [h2]; exact below_drewN (Below.refl _ _) m⟩
theorem words_below (a b : Option Addr) (n c d : Nat) (l : List ByteArray) (w : World) (ha : IsW w a n c l) (hb : IsW w b n d l) :
    Calls Try.prog 15 #[.slice a n c, .slice b n d] w fun e w' => e = .returned (.bool true) ∧ Below w.heap.size w w' :=
  (words_true a b n c d l w ha hb).mono fun e w' ⟨h1, m, h2⟩ => ⟨h1, by rw [h2]; exact below_drewN (Below.refl _ _) m⟩

theorem ints_grown {base : Nat} {W : World} {L : List (Option Nat × SV × List Int)} (h : LLs ei 1 3 base W L) (K : Nat) (hK : L.length = K) (hK2 : K ≤ 100) (hb : ∀ p ∈ L, p.2.1.n ≤ 1000) (cs : Array Value) (hcs : cs = (L.map fun p => p.2.1.val).toArray) :
    Calls Try.prog 34 #[.slice (some ⟨W.heap.size, 0, none⟩) K K] (W.alloc (.cells cs 36)) fun e w' => e = .returned (.bool true) ∧ Fr (Bks L) (W.alloc (.cells cs 36)) w' := by
  subst hK hcs
  have h2 : LLs ei 1 3 base (W.alloc (.cells (L.map fun p => p.2.1.val).toArray 36)) L := h.below ((Below.refl _ _).alloc (Nat.le_refl _) _)
  exact (grownInts_any W.heap.size L.length L.length (fun j => (L.getD j dL).1) (fun j => (L.getD j dL).2.1) (fun j => (L.getD j dL).2.2) _ h2.hT h2.hN (LLs.hC (heap_alloc_new _ _)) (h2.hL (by simp) (fun p hp e1 => by have := (h.sf p hp).lt _ e1; omega)) hK2 (fun j hj => hb _ (getD_mem L j hj)) (Nat.le_refl _) (by omega)).mono fun e w' ⟨h3, h4⟩ => ⟨h3, h4.mono (fun g _ hg => Bks.of hg)⟩
theorem words_grown {base : Nat} {W : World} {L : List (Option Nat × SV × List ByteArray)} (h : LLs eSt 1 9 base W L) (K : Nat) (hK : L.length = K) (hK2 : K ≤ 100) (hb : ∀ p ∈ L, p.2.1.n ≤ 1000) (cs : Array Value) (hcs : cs = (L.map fun p => p.2.1.val).toArray) :
    Calls Try.prog 35 #[.slice (some ⟨W.heap.size, 0, none⟩) K K] (W.alloc (.cells cs 42)) fun e w' => e = .returned (.bool true) ∧ Fr (Bks L) (W.alloc (.cells cs 42)) w' := by
  subst hK hcs
  have h2 : LLs eSt 1 9 base (W.alloc (.cells (L.map fun p => p.2.1.val).toArray 42)) L := h.below ((Below.refl _ _).alloc (Nat.le_refl _) _)
  exact (grownWords_any W.heap.size L.length L.length (fun j => (L.getD j dL).1) (fun j => (L.getD j dL).2.1) (fun j => (L.getD j dL).2.2) _ h2.hT h2.hN (LLs.hC (heap_alloc_new _ _)) (h2.hL (by simp) (fun p hp e1 => by have := (h.sf p hp).lt _ e1; omega)) hK2 (fun j hj => hb _ (getD_mem L j hj)) (Nat.le_refl _) (by omega)).mono fun e w' ⟨h3, h4⟩ => ⟨h3, h4.mono (fun g _ hg => Bks.of hg)⟩
theorem ops_grown {base : Nat} {W : World} {L : List (Option Nat × SV × List OpE)} (h : LLs opc 5 32 base W L) (K : Nat) (hK : L.length = K) (hK2 : K ≤ 100) (hb : ∀ p ∈ L, p.2.1.n ≤ 1000) (cs : Array Value) (hcs : cs = (L.map fun p => p.2.1.val).toArray) :
    Calls Try.prog 36 #[.slice (some ⟨W.heap.size, 0, none⟩) K K] (W.alloc (.cells cs 39)) fun e w' => e = .returned (.bool true) ∧ Fr (Bks L) (W.alloc (.cells cs 39)) w' := by
  subst hK hcs
  have h2 : LLs opc 5 32 base (W.alloc (.cells (L.map fun p => p.2.1.val).toArray 39)) L := h.below ((Below.refl _ _).alloc (Nat.le_refl _) _)
  exact (grownOps_any W.heap.size L.length L.length (fun j => (L.getD j dL).1) (fun j => (L.getD j dL).2.1) (fun j => (L.getD j dL).2.2) _ h2.hT h2.hN (LLs.hC (heap_alloc_new _ _)) (h2.hL (by simp) (fun p hp e1 => by have := (h.sf p hp).lt _ e1; omega)) hK2 (fun j hj => hb _ (getD_mem L j hj)) (Nat.le_refl _) (by omega)).mono fun e w' ⟨h3, h4⟩ => ⟨h3, h4.mono (fun g _ hg => Bks.of hg)⟩
end Go.Proofs.Ytlmgogonghafeab

/-! Hh -/
namespace Go.Proofs.Ytlmgogonghafeab
open Go.RowKit Go.Lib
set_option linter.unusedVariables false

theorem MkI.isE {q : Int} {w wr : World} {M n c : Nat} {xs : List El} {i : Nat} (h : MkI q w wr M n c xs i) (hn : xs.length = n) : IsE wr (some ⟨M, 0, none⟩) n c (mkE q xs i) := by
  obtain ⟨a', c', hv, hE, -⟩ := (sf_se h.1).form
  obtain ⟨rfl, h2, rfl⟩ := Value.slice.inj hv
  rw [mkE_len, hn] at hE
  exact hE
theorem IsW.below {w w' : World} {a : Option Addr} {n c : Nat} {l : List ByteArray} (h : IsW w a n c l) (hb : Below w.heap.size w w') : IsW w' a n c l := by
  obtain ⟨h1, h2, h3, h4⟩ := h
  refine ⟨h1, h2, h3, fun hn => ?_⟩
  obtain ⟨b, off, e, hlt, hc⟩ := h4 hn
  exact ⟨b, off, e, Nat.lt_of_lt_of_le hlt hb.size, fun k hk => by rw [hb.cell (p := ⟨b, off + k, none⟩) hlt]; exact hc k hk⟩
theorem swL_le (T p b : By) (cl : Int) : (swL T p b cl 1).length ≤ 1000 := Nat.le_trans (swL_len T p b cl 1 (by omega)) (by omega)

theorem run_copied2 (w : World) (a : Option Addr) (n c : Nat) (xs : List El) (hE : IsE w a n c xs) (hn : n ≤ 1000) :
    ∃ M cM w1, (∀ ty, (Builtin.append_ #[22, 22] ty #[.slice (some ⟨w.heap.size, 0, none⟩) 0 0, .slice a n c]).run Try.prog (w.alloc (.cells #[] 25)) = .ok (.slice (some ⟨M, 0, none⟩) n cM) w1) ∧ w.heap.size ≤ M ∧
      SF elc 3 w1 25 (some M) (.slice (some ⟨M, 0, none⟩) n cM) xs ∧ IsE w1 (some ⟨M, 0, none⟩) n cM xs ∧ Below w.heap.size w w1 := by
  have hl : xs.length = n := hE.1
  have b0 : Below w.heap.size w (w.alloc (.cells #[] 25)) := (Below.refl w.heap.size w).alloc (Nat.le_refl _) _
  obtain ⟨v0, w1, hr, hO, hF⟩ := run_copied (w.alloc (.cells #[] 25)) w.heap.size a n c xs (heap_alloc_new _ _) (hE.below b0) hn
  obtain ⟨M, cM, hM, rfl, hR⟩ := hO.form
  rw [hl] at hr hR
  have hS : SE w1 (some M) (.slice (some ⟨M, 0, none⟩) xs.length cM) xs := ⟨cM, rfl, by rw [hl]; exact hR⟩
  rw [hl] at hS
  exact ⟨M, cM, w1, hr, hM, se_sf hS, hR.isE, b0.trans (hF.below b0.size (fun _ h => h.elim))⟩
/-- append, where a guard asks whether it is wanted. -/
theorem wpList_append_g (w : World) {ops : Array Oper} {rest : List Oper} {o : Oper} {a : Act} {Q : Exit → Act → World → Prop} (hw : Region.wanted o (yielded ops a.tmps) = true) (d s : Operand) (t t' : TypeId)
    (ho : o.op = .call { callee := .builtin .append, args := #[d, s], argTypes := #[t, t'] }) (v u : Value) (hd' : a.eval d = v) (hs : a.eval s = u) {v' : Value} {w' : World}
    (hr : (Builtin.append_ #[t, t'] o.type #[v, u]).run Try.prog w = .ok v' w') (h : wpList Try.prog ops Q rest (a.put o.dst v') w') : wpList Try.prog ops Q (o :: rest) a w := by
  refine wpList_step fun K hK => ?_
  rw [if_pos hw]
  unfold Oper.wp
  simp [execOp, ho, resolve, invoke, builtin, hd', hs, hr, Result.andThen]
  exact hK _ _ h
theorem LLs.grown {α : Type} {f : α → List Value} {k : Nat} {e : TypeId} {base : Nat} {W W' : World} {L : List (Option Nat × SV × List α)} (h : LLs f k e base W L) (hb : base ≤ W.heap.size) {o : Obj} (hF : Fr (Bks L) (W.alloc o) W') : Below base W W' := by
  have h1 : Below W.heap.size W (W.alloc o) := (Below.refl _ _).alloc (Nat.le_refl _) _
  exact (h1.mono hb).trans ((h.below h1).frame (Nat.le_trans hb h1.size) hF)
theorem LLs.grownO {α β : Type} {f : α → List Value} {f2 : β → List Value} {k k2 : Nat} {e e2 : TypeId} {base base2 : Nat} {W W' : World} {L : List (Option Nat × SV × List α)} {L2 : List (Option Nat × SV × List β)} (h2 : LLs f2 k2 e2 base2 W L2) (h : LLs f k e base W L) (hne : e2 ≠ e) {o : Obj} (hF : Fr (Bks L) (W.alloc o) W') : LLs f2 k2 e2 base2 W' L2 := by
  have h1 : Below W.heap.size W (W.alloc o) := (Below.refl _ _).alloc (Nat.le_refl _) _
  exact (h2.below h1).other (h.below h1) hne hF

set_option maxRecDepth 100000 in
set_option maxHeartbeats 8000000 in
theorem twice_any (a : Option Addr) (n c : Nat) (xs : List El) (w : World) (hE : IsE w a n c xs) (hn : n ≤ 1000) (h0 : 0 < n) (hk : tB xs ≠ List.replicate n 107) :
    Calls Try.prog 16 #[.slice a n c] w fun e w' => e = .returned (.bool true) ∧ Below w.heap.size w w' := by
  have HLN : Hid (xs.length = n) := hE.1
  obtain ⟨T, hT⟩ : ∃ T, tB xs = T := ⟨_, rfl⟩
  have HTl : Hid (T.length = n) := by show _ = _; rw [← hT]; simp [tB]; exact HLN.out
  obtain ⟨M, cM, w1, hr, hM, hS1, hE1, b1⟩ := run_copied2 w a n c xs hE hn
  have B1 := hd b1
  have HE1 := hd hE1
  have HS1 := hd hS1
  have HM := hd hM
  have CT := text_any (some ⟨M, 0, none⟩) n cM xs w1 hE1 (by omega)
  rw [bstr_tB, hT] at CT
  have CT := hd CT
  have CN := hd (fun W (hW : Below w1.heap.size w1 W) => new_any (some ⟨M, 0, none⟩) n cM xs W (HE1.out.below hW) (by omega))
  rw [hT] at CN
  have HK := hd hk
  rw [hT] at HK
  have HT := hd hT
  have PAB : Hid (patB (⟨#[97, 98]⟩ : ByteArray).data.toList = true) := by show _ = _; decide
  have PB : Hid (patB (⟨#[98]⟩ : ByteArray).data.toList = true) := by show _ = _; decide
  have PC : Hid (fillB (⟨#[99]⟩ : ByteArray).data.toList = true) := by show _ = _; decide
  have HLA : Hid ((plc T (⟨#[97, 98]⟩ : ByteArray).data.toList).length ≤ 1000) := by
    have := fnd_len (T := T) (p := (⟨#[97, 98]⟩ : ByteArray).data.toList) (s0 := 0) (t := T.length) (by decide)
    have h3 := HTl.out
    show _ ≤ _
    unfold plc
    omega
  have HLB : Hid ((plc T (⟨#[98]⟩ : ByteArray).data.toList).length ≤ 1000) := by
    have := fnd_len (T := T) (p := (⟨#[98]⟩ : ByteArray).data.toList) (s0 := 0) (t := T.length) (by decide)
    have h3 := HTl.out
    show _ ≤ _
    unfold plc
    omega
  clear hE hk hT hM b1 hE1 hS1
  go_enter Try.func16, Try.ntmps16
  go_upto_region 2 with (at_builtin; refine wpList_append_k _ rfl _ _ 22 22 rfl _ _ rfl rfl (hr _) ?_)
  clear hr
  go_upto_region 3 with (go_at_call 6; refine CT.out.mono ?_; rintro e w2 ⟨rfl, hb2⟩)
  have D2 := hd hb2
  clear hb2 CT
  go_upto_region 4 with (go_at_call 7; refine (CN.out _ D2.out).mono ?_; rintro e w3 ⟨x, rfl, hIx, hx, hb3⟩)
  have D3 := hd (D2.out.trans (hb3.mono D2.out.size))
  have HX3 := hd hIx
  clear hb3 hIx hx D2
  go_upto_region 5 with (go_at_call 7; refine (CN.out _ D3.out).mono ?_; rintro e w4 ⟨y, rfl, hIy, hy, hb4⟩)
  have D4 := hd (D3.out.trans (hb4.mono D3.out.size))
  have HX := hd (HX3.out.below hb4)
  have HY := hd hIy
  clear hb4 hIy hy D3 HX3 CN
  obtain ⟨LA, hLA⟩ : ∃ LA, plc T (⟨#[97, 98]⟩ : ByteArray).data.toList = LA := ⟨_, rfl⟩
  obtain ⟨LB, hLB⟩ : ∃ LB, plc T (⟨#[98]⟩ : ByteArray).data.toList = LB := ⟨_, rfl⟩
  rw [hLA] at HLA
  rw [hLB] at HLB
  have CA := hd (fun W (hW : Below w4.heap.size w4 W) => find_good x T ⟨#[97, 98]⟩ W (HX.out.below hW) (by have := HTl.out; omega) PAB.out)
  have CAy := hd (fun W (hW : Below w4.heap.size w4 W) => find_good y T ⟨#[97, 98]⟩ W (HY.out.below hW) (by have := HTl.out; omega) PAB.out)
  have CB := hd (fun W (hW : Below w4.heap.size w4 W) => find_good x T ⟨#[98]⟩ W (HX.out.below hW) (by have := HTl.out; omega) PB.out)
  rw [hLA] at CA CAy
  rw [hLB] at CB
  have CW := hd (fun W (hW : Below w4.heap.size w4 W) => words_any x T W (HX.out.below hW) (by have := HTl.out; omega))
  have CWy := hd (fun W (hW : Below w4.heap.size w4 W) => words_any y T W (HY.out.below hW) (by have := HTl.out; omega))
  have CS := hd (fun W (hW : Below w4.heap.size w4 W) => (swap_good x T ⟨#[97, 98]⟩ ⟨#[99]⟩ 1 1 W (HX.out.below hW) (by have := HTl.out; omega) PAB.out PC.out (by omega)).mono fun e w' h => h.ll)
  have CSy := hd (fun W (hW : Below w4.heap.size w4 W) => (swap_good y T ⟨#[97, 98]⟩ ⟨#[99]⟩ 1 1 W (HY.out.below hW) (by have := HTl.out; omega) PAB.out PC.out (by omega)).mono fun e w' h => h.ll)
  obtain ⟨PL, hPL⟩ : ∃ PL, swL T (⟨#[97, 98]⟩ : ByteArray).data.toList (⟨#[99]⟩ : ByteArray).data.toList 1 1 = PL := ⟨_, rfl⟩
  obtain ⟨ge, hge⟩ : ∃ ge, swE T (⟨#[97, 98]⟩ : ByteArray).data.toList (⟨#[99]⟩ : ByteArray).data.toList 1 1 = ge := ⟨_, rfl⟩
  have HPL : Hid (PL.length ≤ 1000) := by show _ ≤ _; rw [← hPL]; exact swL_le _ _ _ _
  simp only [hPL, hge] at CS CSy
  clear hPL hge
  have CX := hd (fun W (hW : Below w4.heap.size w4 W) => itext_any x T W (HX.out.below hW) (by have := HTl.out; omega))
  have CXy := hd (fun W (hW : Below w4.heap.size w4 W) => itext_any y T W (HY.out.below hW) (by have := HTl.out; omega))
  have L0 : Hid (LLs ei 1 3 w4.heap.size w4 []) := LLs.nil
  have S0 : Hid (LLs eSt 1 9 w4.heap.size w4 []) := LLs.nil
  clear hLA hLB HX HY PAB PB PC
  go_upto_region 7 with fail
  go_upto_region 8 with (go_at_call 11; refine (CA.out _ (Below.refl _ _)).mono ?_; rintro e w5 ⟨va, rfl, hN, hb⟩)
  obtain ⟨βa, aa, ca, rfl, hS, hβ, hL⟩ := hN.ll
  have E5 := hd hb
  have L1 := hd (L0.out.push hb (Nat.le_refl _) hS hβ)
  have Ia := hd hL
  clear hN hb hS hβ hL L0
  go_upto_region 9 with (go_at_call 11; refine (CA.out _ E5.out).mono ?_; rintro e w6 ⟨vb, rfl, hN, hb⟩)
  obtain ⟨βb, ab, cb, rfl, hS, hβ, hL⟩ := hN.ll
  have E6 := hd (E5.out.trans (hb.mono E5.out.size))
  have L2 := hd (L1.out.push hb E5.out.size hS hβ)
  have Ib := hd hL
  have Ia := hd (Ia.out.below hb)
  clear hN hb hS hβ hL L1 E5 CA
  go_upto_region 10 with (go_at_call 11; refine (CB.out _ E6.out).mono ?_; rintro e w7 ⟨vc, rfl, hN, hb⟩)
  obtain ⟨βc, ac, cc, rfl, hS, hβ, hL⟩ := hN.ll
  have E7 := hd (E6.out.trans (hb.mono E6.out.size))
  have L3 := hd (L2.out.push hb E6.out.size hS hβ)
  have Ib := hd (Ib.out.below hb)
  have Ia := hd (Ia.out.below hb)
  clear hN hb hS hβ hL L2 E6 CB
  go_upto_region 11 with (go_at_call 11; refine (CAy.out _ E7.out).mono ?_; rintro e w8 ⟨vf, rfl, hN, hb⟩)
  obtain ⟨βf, af, cf, rfl, hS, hβ, hL⟩ := hN.ll
  have E8 := hd (E7.out.trans (hb.mono E7.out.size))
  have L4 := hd (L3.out.push hb E7.out.size hS hβ)
  have If := hd hL
  have Ib := hd (Ib.out.below hb)
  have Ia := hd (Ia.out.below hb)
  clear hN hb hS hβ hL L3 E7 CAy
  go_upto_region 12 with (go_at_call 13; refine (CW.out _ E8.out).mono ?_; rintro e w9 ⟨vw, vn, ks, rfl, hWd, hSt, hN, hb⟩)
  obtain ⟨βw, aw, cw, rfl, hS2, hβ2, hL2⟩ := hSt.ll
  obtain ⟨βn, an, cn, rfl, hS, hβ, hL⟩ := hN.ll
  rw [List.length_map] at hS hL hS2 hL2
  simp only [List.length_map]
  have E9 := hd (E8.out.trans (hb.mono E8.out.size))
  have L5 := hd (L4.out.push hb E8.out.size hS hβ)
  have S1 := hd ((S0.out.below E8.out).push hb E8.out.size hS2 hβ2)
  have HKS : Hid (ks.length ≤ 1000) := by have h1 := wds_len hWd; have h2 := HTl.out; show _ ≤ _; omega
  have WD := hd hWd
  have Iw := hd hL2
  have In := hd hL
  have If := hd (If.out.below hb)
  have Ib := hd (Ib.out.below hb)
  have Ia := hd (Ia.out.below hb)
  clear hN hb hS hβ hL hS2 hβ2 hL2 hSt hWd L4 S0 E8
  go_upto_region 13 with (go_at_call 13; refine (CW.out _ E9.out).mono ?_; rintro e w10 ⟨vv, vm, ks2, rfl, hWd, hSt, hN, hb⟩)
  obtain rfl : ks = ks2 := wds_one WD.out hWd
  obtain ⟨βv, av, cv, rfl, hS2, hβ2, hL2⟩ := hSt.ll
  obtain ⟨βm, am, cm, rfl, hS, hβ, hL⟩ := hN.ll
  rw [List.length_map] at hS hL hS2 hL2
  simp only [List.length_map]
  have E10 := hd (E9.out.trans (hb.mono E9.out.size))
  have L6 := hd (L5.out.push hb E9.out.size hS hβ)
  have S2 := hd (S1.out.push hb E9.out.size hS2 hβ2)
  have Iv := hd hL2
  have Im := hd hL
  have Iw := hd (Iw.out.below hb)
  have In := hd (In.out.below hb)
  have If := hd (If.out.below hb)
  have Ib := hd (Ib.out.below hb)
  have Ia := hd (Ia.out.below hb)
  clear hN hb hS hβ hL hS2 hβ2 hL2 hSt hWd L5 S1 E9 CW
  go_upto_region 14 with (go_at_call 13; refine (CWy.out _ E10.out).mono ?_; rintro e w11 ⟨vu, vk, ks2, rfl, hWd, hSt, hN, hb⟩)
  obtain rfl : ks = ks2 := wds_one WD.out hWd
  obtain ⟨βu, au, cu, rfl, hS2, hβ2, hL2⟩ := hSt.ll
  obtain ⟨βk, ak, ck, rfl, hS, hβ, hL⟩ := hN.ll
  rw [List.length_map] at hS hL hS2 hL2
  simp only [List.length_map]
  have E11 := hd (E10.out.trans (hb.mono E10.out.size))
  have L7 := hd (L6.out.push hb E10.out.size hS hβ)
  have S3 := hd (S2.out.push hb E10.out.size hS2 hβ2)
  have I1 := hd (fun W (hW : Below w11.heap.size w11 W) => ints_below aa ab LA.length ca cb LA W ((Ia.out.below hb).below hW) ((Ib.out.below hb).below hW))
  have I2 := hd (fun W (hW : Below w11.heap.size w11 W) => ints_below aa af LA.length ca cf LA W ((Ia.out.below hb).below hW) ((If.out.below hb).below hW))
  have I3 := hd (fun W (hW : Below w11.heap.size w11 W) => ints_below an am _ cn cm _ W ((In.out.below hb).below hW) ((Im.out.below hb).below hW))
  have I4 := hd (fun W (hW : Below w11.heap.size w11 W) => ints_below an ak _ cn ck _ W ((In.out.below hb).below hW) (hL.below hW))
  have J1 := hd (fun W (hW : Below w11.heap.size w11 W) => words_below aw av _ cw cv _ W ((Iw.out.below hb).below hW) ((Iv.out.below hb).below hW))
  have J2 := hd (fun W (hW : Below w11.heap.size w11 W) => words_below aw au _ cw cu _ W ((Iw.out.below hb).below hW) (hL2.below hW))
  clear hN hb hS hβ hL hS2 hβ2 hL2 hSt hWd L6 S2 E10 CWy Ia Ib If In Im Iw Iv
  generalize ks.map (fun k => (wdP T).count k) = KC at *
  generalize ks.map bsA = KW at *
  generalize ks.length = m at *
  have HB := hd (Below.refl w11.heap.size w11)
  go_upto_region 16 with (first
    | (go_at_call 14; refine (I1.out _ HB.out).mono ?_; rintro e wq ⟨rfl, hq⟩; replace HB := hd (HB.out.trans (hq.mono HB.out.size)); clear hq I1)
    | (go_at_call 14; refine (I2.out _ HB.out).mono ?_; rintro e wq ⟨rfl, hq⟩; replace HB := hd (HB.out.trans (hq.mono HB.out.size)); clear hq I2)
    | (go_at_call 15; refine (J1.out _ HB.out).mono ?_; rintro e wq ⟨rfl, hq⟩; replace HB := hd (HB.out.trans (hq.mono HB.out.size)); clear hq J1)
    | (go_at_call 15; refine (J2.out _ HB.out).mono ?_; rintro e wq ⟨rfl, hq⟩; replace HB := hd (HB.out.trans (hq.mono HB.out.size)); clear hq J2)
    | (go_at_call 14; refine (I3.out _ HB.out).mono ?_; rintro e wq ⟨rfl, hq⟩; replace HB := hd (HB.out.trans (hq.mono HB.out.size)); clear hq I3)
    | (go_at_call 14; refine (I4.out _ HB.out).mono ?_; rintro e w12 ⟨rfl, hq⟩; replace HB := hd (HB.out.trans (hq.mono HB.out.size)); clear hq I4))
  have E12 := hd (E11.out.trans (HB.out.mono E11.out.size))
  have L8 := hd (L7.out.below HB.out)
  have S8 := hd (S3.out.below HB.out)
  clear HB L7 S3 E11
  simp only [List.nil_append, List.cons_append] at L8 S8
  have GI := hd (ints_grown L8.out 7 rfl (by omega) (by
    have h1 := HLA.out
    have h2 := HLB.out
    have h3 := HKS.out
    intro p hp
    simp only [List.mem_cons, List.not_mem_nil, or_false] at hp
    rcases hp with rfl | rfl | rfl | rfl | rfl | rfl | rfl
    · exact h1
    · exact h1
    · exact h2
    · exact h1
    · exact h3
    · exact h3
    · exact h3) #[.slice aa LA.length ca, .slice ab LA.length cb, .slice ac LB.length cc, .slice af LA.length cf, .slice an m cn, .slice am m cm, .slice ak m ck] rfl)
  generalize hI7 : [(βa, (⟨aa, LA.length, ca⟩ : SV), nI LA), (βb, ⟨ab, LA.length, cb⟩, nI LA), (βc, ⟨ac, LB.length, cc⟩, nI LB), (βf, ⟨af, LA.length, cf⟩, nI LA), (βn, ⟨an, m, cn⟩, nI KC), (βm, ⟨am, m, cm⟩, nI KC), (βk, ⟨ak, m, ck⟩, nI KC)] = I7 at *
  generalize hS7 : [(βw, (⟨aw, m, cw⟩ : SV), KW), (βv, ⟨av, m, cv⟩, KW), (βu, ⟨au, m, cu⟩, KW)] = S7 at *
  have GW := hd (fun W' (h : LLs eSt 1 9 w4.heap.size W' S7) => words_grown h 3 (by rw [← hS7]; rfl) (by omega) (by
    have h3 := HKS.out
    intro p hp
    rw [← hS7] at hp
    simp only [List.mem_cons, List.not_mem_nil, or_false] at hp
    rcases hp with rfl | rfl | rfl
    · exact h3
    · exact h3
    · exact h3) #[.slice aw m cw, .slice av m cv, .slice au m cu] (by rw [← hS7]; rfl))
  clear hI7 hS7
  go_upto_region 18 with (first
    | (go_at_call 34; refine GI.out.mono ?_; rintro e w13 ⟨rfl, hq⟩; have D13 := hd (L8.out.grown E12.out.size hq); have S9 := hd (S8.out.grownO L8.out (by decide) hq); clear hq GI L8 S8)
    | (go_at_call 35; refine (GW.out _ S9.out).mono ?_; rintro e w14 ⟨rfl, hq⟩; have D14 := hd (S9.out.grown (Nat.le_trans E12.out.size D13.out.size) hq); clear hq GW S9))
  have E14 := hd ((E12.out.trans D13.out).trans D14.out)
  clear E12 D13 D14
  go_upto_region 19 with (go_at_call 12; refine (CS.out _ E14.out).mono ?_; rintro e w15 ⟨βp, ap, cp, rfl, hS, hβ, hb⟩)
  have E15 := hd (E14.out.trans (hb.mono E14.out.size))
  have O1 := hd ((LLs.nil : LLs opc 5 32 w4.heap.size w14 []).push hb E14.out.size hS hβ)
  clear hS hβ hb E14 CS
  go_upto_region 20 with (go_at_call 12; refine (CSy.out _ E15.out).mono ?_; rintro e w16 ⟨βq, aq, cq, rfl, hS, hβ, hb⟩)
  have E16 := hd (E15.out.trans (hb.mono E15.out.size))
  have O2 := hd (O1.out.push hb E15.out.size hS hβ)
  clear hS hβ hb E15 CSy O1
  simp only [List.nil_append, List.cons_append] at O2
  generalize hS7 : [(βp, (⟨ap, PL.length, cp⟩ : SV), PL), (βq, ⟨aq, PL.length, cq⟩, PL)] = S7 at *
  have GO := hd (fun W' (h : LLs opc 5 32 w4.heap.size W' S7) => ops_grown h 2 (by rw [← hS7]; rfl) (by omega) (by
    have h3 := HPL.out
    intro p hp
    rw [← hS7] at hp
    simp only [List.mem_cons, List.not_mem_nil, or_false] at hp
    rcases hp with rfl | rfl
    · exact h3
    · exact h3) #[.slice ap PL.length cp, .slice aq PL.length cq] (by rw [← hS7]; rfl))
  clear hS7
  have HB := hd (Below.refl w16.heap.size w16)
  go_wp2_with (first
    | (go_at_call 10; refine (CX.out _ (E16.out.trans (HB.out.mono E16.out.size))).mono ?_; rintro e wq ⟨rfl, hq⟩; replace HB := hd (HB.out.trans (hq.mono HB.out.size)); clear hq CX)
    | (go_at_call 10; refine (CXy.out _ (E16.out.trans (HB.out.mono E16.out.size))).mono ?_; rintro e wq ⟨rfl, hq⟩; replace HB := hd (HB.out.trans (hq.mono HB.out.size)); clear hq CXy)
    | (go_at_call 36; refine (GO.out _ (O2.out.below HB.out)).mono ?_; rintro e w17 ⟨rfl, hq⟩; have D17 := hd ((O2.out.below HB.out).grown (Nat.le_trans E16.out.size HB.out.size) hq); clear hq GO))
  have E17 := hd ((E16.out.trans (HB.out.mono E16.out.size)).trans D17.out)
  have F17 := hd (D4.out.trans (E17.out.mono D4.out.size))
  clear HB D17 O2 E16 E17 D4
  have M0 : Hid (MkI 107 w17 w17 M n cM xs 0) := ⟨by rw [mkE_zero]; exact HS1.out.fr (S := fun _ => False) (Fr.of_below F17.out) (fun _ _ h => h), Fr.refl _ _⟩
  have HB17 := hd (B1.out.trans (F17.out.mono B1.out.size))
  clear HS1 F17 HE1
  go_loopw [25] (fun iv wr => ∃ k : Nat, iv = .int .i64 k ∧ k ≤ n ∧ Hid (MkI 107 w17 wr M n cM xs k)) (fun iv _ => n - (intOf iv).toNat)
  case atStart => exact ⟨0, rfl, Nat.zero_le _, M0⟩
  case round =>
    obtain ⟨k, rfl, hk, hS⟩ := hrel
    clear M0
    by_cases hlt : k < n
    · obtain ⟨⟨v0, f0⟩, f1, st⟩ := hS.out.step (by rw [HLN.out]; exact hlt)
      have ST := hd st
      have i1 : (k : Int) < (n : Int) := by omega
      clear hS st
      go_wp2
      exact ⟨⟨k + 1, by go_num, by omega, ST.out⟩, by simp only [intOf]; omega⟩
    · obtain rfl : n = k := by omega
      have hE := hS.out.isE HLN.out
      have hR : tB (mkE 107 xs n) = List.replicate n 107 := by
        have := tB_mk 107 xs
        rw [HLN.out] at this
        exact this
      have HE := hd hE
      have BR := hd (HB17.out.trans (hS.out.2.below (B := w.heap.size) HB17.out.size (fun g hg => by rw [hg]; exact HM.out)))
      generalize mkE 107 xs n = ys at *
      obtain ⟨R, hRR⟩ : ∃ R : By, List.replicate n 107 = R := ⟨_, rfl⟩
      rw [hRR] at hR HK
      have HRn : Hid (R.length = n) := by show _ = _; rw [← hRR]; simp
      have CN := hd (new_any (some ⟨M, 0, none⟩) n cM ys wr hE (by omega))
      rw [hR] at CN
      have HR := hd hR
      have hne : ¬ bsA R = bsA T := fun e => HK.out (by rw [← bsA_list T, ← e, bsA_list])
      have hne2 : ((bsA R).toList == (bsA T).toList) = false := by
        rw [toL, toL, bsA_list, bsA_list, beq_eq_false_iff_ne]
        exact fun e => hne (by rw [e])
      clear hne
      have hn0 : ¬ (n : Int) = 0 := by omega
      clear hS hE hR hRR HB17 HK HT
      go_upto_region 27 with (go_at_call 7; refine CN.out.mono ?_; rintro e w18 ⟨z, rfl, hIz, hz, hb⟩)
      have CZ := hd (fun W (hW : Below w18.heap.size w18 W) => itext_any z R W (hIz.below hW) (by have := HRn.out; omega))
      have RC := hd (fun W (hW : Below w18.heap.size w18 W) => run_copied2 W (some ⟨M, 0, none⟩) n cM ys ((HE.out.below hb).below hW) hn)
      have CT2 := hd (fun W g cc (hE : IsE W (some ⟨g, 0, none⟩) n cc ys) => text_any (some ⟨g, 0, none⟩) n cc ys W hE (by omega))
      simp only [bstr_tB, HR.out] at CT2
      have HB := hd (Below.refl w18.heap.size w18)
      have E18 := hd (BR.out.trans (hb.mono BR.out.size))
      clear hIz hz hb CN HE HR BR
      generalize bsA R = RR at *
      generalize bsA T = TT at *
      go_wp2_with (first
        | (go_at_call 10; refine (CZ.out _ HB.out).mono ?_; rintro e wq ⟨rfl, hq⟩; replace HB := hd (HB.out.trans (hq.mono HB.out.size)); clear hq)
        | (go_at_call 6; refine (CT2.out _ _ _ hE5).mono ?_; rintro e wq ⟨rfl, hq⟩; replace HB := hd (HB.out.trans (hq.mono HB.out.size)); clear hq hE5)
        | (at_builtin; obtain ⟨M5, c5, w20, hr5, hM5, hS5, hE5, hb5⟩ := RC.out _ HB.out; refine wpList_append_g _ (by go_simp) _ _ 22 22 rfl _ _ rfl rfl (hr5 _) ?_; replace HB := hd (HB.out.trans (hb5.mono HB.out.size)); clear hr5 hM5 hS5 hb5))
      go_ret
      exact ⟨by simp, E18.out.trans (HB.out.mono E18.out.size)⟩
end Go.Proofs.Ytlmgogonghafeab

/-! Hi -/
namespace Go.Proofs.Ytlmgogonghafeab
open Go.RowKit Go.Lib
set_option linter.unusedVariables false

/-- The first i elements are as u says. -/
def mkG {α : Type} (u : α → α) (xs : List α) (i : Nat) : List α := (xs.take i).map u ++ xs.drop i
section
variable {α : Type} {f : α → List Value} {k : Nat} {e : TypeId} {u : α → α}
theorem mkG_len (xs : List α) (i : Nat) : (mkG u xs i).length = xs.length := by simp [mkG]; omega
theorem mkG_zero (xs : List α) : mkG u xs 0 = xs := by simp [mkG]
theorem mkG_all (xs : List α) : mkG u xs xs.length = xs.map u := by simp [mkG]
theorem mkG_at (xs : List α) (i : Nat) (h : i < xs.length) (h2 : i < (mkG u xs i).length) : (mkG u xs i)[i] = xs[i] := by
  have h3 : (mkG u xs i)[i]? = xs[i]? := by
    unfold mkG
    rw [List.getElem?_append_right (by simp; omega)]
    simp [show min i xs.length = i by omega]
  rw [List.getElem?_eq_getElem h2, List.getElem?_eq_getElem h] at h3
  exact Option.some.inj h3
theorem mkG_set (xs : List α) (i : Nat) (h : i < xs.length) : (mkG u xs i).set i (u xs[i]) = mkG u xs (i + 1) := by
  unfold mkG
  rw [List.set_append_right _ _ (by simp; omega), List.drop_eq_getElem_cons h]
  have : i - ((xs.take i).map u).length = 0 := by simp; omega
  rw [this, List.set_cons_zero, List.take_succ_eq_append_getElem h, List.map_append, List.append_assoc]
  rfl
/-- One store on the way. -/
theorem SF.mark {w : World} {β : Option Nat} {a : Option Addr} {n c : Nat} {xs : List α} {i j : Nat} {val : Value} (h : SF f k w e β (.slice a n c) (mkG u xs i)) (hz : Sz f k) (hi : i < xs.length) (hj : j < k) (hu : ∀ x, f (u x) = (f x).set j val) :
    ∃ g, a = some ⟨g, 0, none⟩ ∧ β = some g ∧ (∃ v, w.cell? ⟨g, i * k + j, none⟩ = some v) ∧ w.frozen? ⟨g, i * k + j, none⟩ = false ∧ SF f k (w.setCell ⟨g, i * k + j, none⟩ val) e β (.slice a n c) (mkG u xs (i + 1)) ∧ Fr (· = g) w (w.setCell ⟨g, i * k + j, none⟩ val) := by
  have hl : i < (mkG u xs i).length := by rw [mkG_len]; exact hi
  cases β with
  | none =>
    obtain ⟨-, h2⟩ := h
    rw [h2] at hl
    simp at hl
  | some g =>
    have ha : a = some ⟨g, 0, none⟩ := by
      obtain ⟨cap, hv, -⟩ := h
      exact (Value.slice.inj hv).1
    have h0 := h.cell hz i j hl hj
    have hlen := (hz (mkG u xs i)[i]).1
    refine ⟨g, ha, rfl, ⟨_, by rw [h0, List.getElem?_eq_getElem (by rw [hlen]; exact hj)]⟩, h.frozen _, ?_, Fr.setCell w _ _ rfl⟩
    have := h.setk hz i j val (u xs[i]) hl hj (by rw [mkG_at xs i hi hl]; exact hu _)
    rw [mkG_set xs i hi] at this
    exact this

/-- What an append of one leaves: the list as it was seen, the new one's last, and where anything else may stand. -/
theorem push_view {w w' : World} {β : Option Nat} {s : SV} {xs : List α} {x : α} {v' : Value} {o : Obj} (h : SF f k w e β s.val xs) (hz : Sz f k) (hN : NowF f k (w.alloc o) w' e β v' (xs ++ [x])) :
    ∃ g c, v' = .slice (some ⟨g, 0, none⟩) (xs.length + 1) c ∧ xs.length + 1 ≤ c ∧ c ≤ 9223372036854775807 ∧ g < w'.heap.size ∧ (∀ q, q < k → w'.cell? ⟨g, xs.length * k + q, none⟩ = (f x)[q]?) ∧ HL f k w' β s xs ∧ Fr (fun b => β = some b) w w' ∧ (β = some g ∨ w.heap.size ≤ g) := by
  have b0 : Fr (fun _ => False) w (w.alloc o) := Fr.alloc _ _ _
  obtain ⟨g, hS, hg⟩ := hN
  have hv := hS.lt g rfl
  have hC := hS.hc hz
  have hF : Fr (fun b => β = some b) w w' := by
    rcases hg with ⟨e1, hF⟩ | ⟨e1, hF⟩
    · exact (b0.mono (fun _ _ h => h.elim)).trans (hF.mono (fun b _ hb => by rw [hb]; exact e1))
    · exact (b0.mono (fun _ _ h => h.elim)).trans (hF.mono (fun _ _ h => h.elim))
  have hView : HL f k w' β s xs := by
    have h1 := h.hl hz
    rcases hg with ⟨e1, -⟩ | ⟨e1, hF2⟩
    · subst e1
      exact h1.again hF.size hC.pre
    · exact (h1.fr b0 (fun _ _ h => h)).fr hF2 (fun _ _ h => h)
  obtain ⟨cap, hvv, hR⟩ := hS
  obtain ⟨cur, hh, ht, hl, hn, hm, hs⟩ := hR
  rw [List.length_append, List.length_singleton] at hvv hn
  refine ⟨g, cap, hvv, hn, hm, hv, fun q hq => ?_, hView, hF, ?_⟩
  · have := hC xs.length (by rw [List.length_append]; simp) q hq
    rw [this]
    congr 1
    simp
  · rcases hg with ⟨e1, -⟩ | ⟨e1, -⟩
    · exact .inl e1
    · exact .inr (by rw [e1]; exact b0.size)
end

/-- The lists l, w, c, p of the law at their blocks. -/
structure QS (βl βw βc βp : Option Nat) (vl vw vc vp : SV) (W wr : World) (Ll : List Int) (Lw : List ByteArray) (Lc : List Int) (Lp : List OpE) : Prop where
  l : SF ei 1 wr 3 βl vl.val Ll
  w : SF eSt 1 wr 9 βw vw.val Lw
  c : SF ei 1 wr 3 βc vc.val Lc
  p : SF opc 5 wr 32 βp vp.val Lp
  fr : Fr (fun g => βl = some g ∨ βw = some g ∨ βc = some g ∨ βp = some g) W wr
  lc : ∀ g, βl = some g → ¬ βc = some g
theorem SF.apart {α β : Type} {f : α → List Value} {f2 : β → List Value} {k k2 : Nat} {e e2 : TypeId} {w : World} {b b2 : Option Nat} {v v2 : Value} {xs : List α} {ys : List β} (h : SF f k w e b v xs) (h2 : SF f2 k2 w e2 b2 v2 ys) (hne : e ≠ e2) : ∀ g, b = some g → ¬ b2 = some g := by
  intro g h3 h4
  subst h3 h4
  obtain ⟨c1, e1⟩ := h.blk
  obtain ⟨c2, e3⟩ := h2.blk
  rw [e1] at e3
  injection e3 with e3
  injection e3 with q1 q2 q3
  exact hne q2
section
variable {βl βw βc βp : Option Nat} {vl vw vc vp : SV} {W wr wx : World} {Ll Lc : List Int} {Lw : List ByteArray} {Lp : List OpE}
theorem QS.setl {Ll' : List Int} {g : Nat} (h : QS βl βw βc βp vl vw vc vp W wr Ll Lw Lc Lp) (hg : βl = some g) (hS : SF ei 1 wx 3 βl vl.val Ll') (hF : Fr (· = g) wr wx) : QS βl βw βc βp vl vw vc vp W wx Ll' Lw Lc Lp :=
  ⟨hS, h.w.fr hF (fun q hq e => by subst e; exact h.l.apart h.w (by decide) _ hg hq), h.c.fr hF (fun q hq e => by subst e; exact h.lc _ hg hq), h.p.fr hF (fun q hq e => by subst e; exact h.l.apart h.p (by decide) _ hg hq), h.fr.trans (hF.mono (fun q _ e => .inl (by rw [e]; exact hg))), h.lc⟩
theorem QS.setw {Lw' : List ByteArray} {g : Nat} (h : QS βl βw βc βp vl vw vc vp W wr Ll Lw Lc Lp) (hg : βw = some g) (hS : SF eSt 1 wx 9 βw vw.val Lw') (hF : Fr (· = g) wr wx) : QS βl βw βc βp vl vw vc vp W wx Ll Lw' Lc Lp :=
  ⟨h.l.fr hF (fun q hq e => by subst e; exact h.w.apart h.l (by decide) _ hg hq), hS, h.c.fr hF (fun q hq e => by subst e; exact h.w.apart h.c (by decide) _ hg hq), h.p.fr hF (fun q hq e => by subst e; exact h.w.apart h.p (by decide) _ hg hq), h.fr.trans (hF.mono (fun q _ e => .inr (.inl (by rw [e]; exact hg)))), h.lc⟩
theorem QS.setc {Lc' : List Int} {g : Nat} (h : QS βl βw βc βp vl vw vc vp W wr Ll Lw Lc Lp) (hg : βc = some g) (hS : SF ei 1 wx 3 βc vc.val Lc') (hF : Fr (· = g) wr wx) : QS βl βw βc βp vl vw vc vp W wx Ll Lw Lc' Lp :=
  ⟨h.l.fr hF (fun q hq e => by subst e; exact h.lc _ hq hg), h.w.fr hF (fun q hq e => by subst e; exact h.c.apart h.w (by decide) _ hg hq), hS, h.p.fr hF (fun q hq e => by subst e; exact h.c.apart h.p (by decide) _ hg hq), h.fr.trans (hF.mono (fun q _ e => .inr (.inr (.inl (by rw [e]; exact hg))))), h.lc⟩
theorem QS.setp {Lp' : List OpE} {g : Nat} (h : QS βl βw βc βp vl vw vc vp W wr Ll Lw Lc Lp) (hg : βp = some g) (hS : SF opc 5 wx 32 βp vp.val Lp') (hF : Fr (· = g) wr wx) : QS βl βw βc βp vl vw vc vp W wx Ll Lw Lc Lp' :=
  ⟨h.l.fr hF (fun q hq e => by subst e; exact h.p.apart h.l (by decide) _ hg hq), h.w.fr hF (fun q hq e => by subst e; exact h.p.apart h.w (by decide) _ hg hq), h.c.fr hF (fun q hq e => by subst e; exact h.p.apart h.c (by decide) _ hg hq), hS, h.fr.trans (hF.mono (fun q _ e => .inr (.inr (.inr (by rw [e]; exact hg))))), h.lc⟩

theorem sz_ei : Sz ei 1 := fun x => ⟨rfl, fun v hv => by simp [ei] at hv; subst hv; rfl⟩
def mkPos (z : Int) (o : OpE) : OpE := ⟨o.kind, z, o.ch, o.cl, o.sq⟩
theorem QS.stepl {z : Int} {L : List Int} {k : Nat} (h : QS βl βw βc βp vl vw vc vp W wr (mkG (fun _ => z) L k) Lw Lc Lp) (hk : k < L.length) :
    ∃ g, vl.a = some ⟨g, 0, none⟩ ∧ (∃ v, wr.cell? ⟨g, k, none⟩ = some v) ∧ wr.frozen? ⟨g, k, none⟩ = false ∧ QS βl βw βc βp vl vw vc vp W (wr.setCell ⟨g, k, none⟩ (.int .i64 z)) (mkG (fun _ => z) L (k + 1)) Lw Lc Lp := by
  obtain ⟨g, h1, h2, h3, h4, h5, h6⟩ := h.l.mark sz_ei hk (show 0 < 1 by omega) (fun x => (show ei z = (ei x).set 0 (.int .i64 z) from rfl))
  simp only [Nat.mul_one, Nat.add_zero] at h3 h4 h5 h6
  exact ⟨g, h1, h3, h4, h.setl h2 h5 h6⟩
theorem QS.stepw {z : ByteArray} {L : List ByteArray} {k : Nat} (h : QS βl βw βc βp vl vw vc vp W wr Ll (mkG (fun _ => z) L k) Lc Lp) (hk : k < L.length) :
    ∃ g, vw.a = some ⟨g, 0, none⟩ ∧ (∃ v, wr.cell? ⟨g, k, none⟩ = some v) ∧ wr.frozen? ⟨g, k, none⟩ = false ∧ QS βl βw βc βp vl vw vc vp W (wr.setCell ⟨g, k, none⟩ (.string z)) Ll (mkG (fun _ => z) L (k + 1)) Lc Lp := by
  obtain ⟨g, h1, h2, h3, h4, h5, h6⟩ := h.w.mark szE hk (show 0 < 1 by omega) (fun x => (show eSt z = (eSt x).set 0 (.string z) from rfl))
  simp only [Nat.mul_one, Nat.add_zero] at h3 h4 h5 h6
  exact ⟨g, h1, h3, h4, h.setw h2 h5 h6⟩
theorem QS.stepc {z : Int} {L : List Int} {k : Nat} (h : QS βl βw βc βp vl vw vc vp W wr Ll Lw (mkG (fun _ => z) L k) Lp) (hk : k < L.length) :
    ∃ g, vc.a = some ⟨g, 0, none⟩ ∧ (∃ v, wr.cell? ⟨g, k, none⟩ = some v) ∧ wr.frozen? ⟨g, k, none⟩ = false ∧ QS βl βw βc βp vl vw vc vp W (wr.setCell ⟨g, k, none⟩ (.int .i64 z)) Ll Lw (mkG (fun _ => z) L (k + 1)) Lp := by
  obtain ⟨g, h1, h2, h3, h4, h5, h6⟩ := h.c.mark sz_ei hk (show 0 < 1 by omega) (fun x => (show ei z = (ei x).set 0 (.int .i64 z) from rfl))
  simp only [Nat.mul_one, Nat.add_zero] at h3 h4 h5 h6
  exact ⟨g, h1, h3, h4, h.setc h2 h5 h6⟩
theorem QS.stepp {z : Int} {L : List OpE} {k : Nat} (h : QS βl βw βc βp vl vw vc vp W wr Ll Lw Lc (mkG (mkPos z) L k)) (hk : k < L.length) :
    ∃ g, vp.a = some ⟨g, 0, none⟩ ∧ (∃ v, wr.cell? ⟨g, k * 5 + 1, none⟩ = some v) ∧ wr.frozen? ⟨g, k * 5 + 1, none⟩ = false ∧ QS βl βw βc βp vl vw vc vp W (wr.setCell ⟨g, k * 5 + 1, none⟩ (.int .i64 z)) Ll Lw Lc (mkG (mkPos z) L (k + 1)) := by
  obtain ⟨g, h1, h2, h3, h4, h5, h6⟩ := h.p.mark sz_opc hk (show 1 < 5 by omega) (fun x => (show opc (mkPos z x) = (opc x).set 1 (.int .i64 z) from rfl))
  exact ⟨g, h1, h3, h4, h.setp h2 h5 h6⟩
theorem mkG_const {α : Type} (z : α) (xs : List α) (n : Nat) (hn : xs.length = n) : (mkG (fun _ => z) xs n).length = n ∧ ∀ x ∈ mkG (fun _ => z) xs n, x = z := by
  subst hn
  refine ⟨mkG_len _ _, fun x hx => ?_⟩
  rw [mkG_all] at hx
  obtain ⟨y, -, e⟩ := List.mem_map.1 hx
  exact e.symm
theorem mkG_pos (z : Int) (xs : List OpE) (n : Nat) (hn : xs.length = n) : (mkG (mkPos z) xs n).length = n ∧ ∀ x ∈ mkG (mkPos z) xs n, x.pos = z := by
  subst hn
  refine ⟨mkG_len _ _, fun x hx => ?_⟩
  rw [mkG_all] at hx
  obtain ⟨y, -, e⟩ := List.mem_map.1 hx
  rw [← e]
  rfl
/-- The lists as they are seen once they were lengthened, and the lengthened ones' last. -/
structure QV (βl βw βc βp : Option Nat) (vl vw vc vp : SV) (Ll : List Int) (Lw : List ByteArray) (Lc : List Int) (Lp : List OpE) (gh gj go : Nat) (wr : World) : Prop where
  l : HL ei 1 wr βl vl Ll
  w : HL eSt 1 wr βw vw Lw
  c : HL ei 1 wr βc vc Lc
  p : HL opc 5 wr βp vp Lp
  h : wr.cell? ⟨gh, Ll.length, none⟩ = some (.int .i64 (-1))
  j : wr.cell? ⟨gj, Lc.length, none⟩ = some (.int .i64 (-2))
  o : wr.cell? ⟨go, Lw.length, none⟩ = some (.string ⟨#[33]⟩)
  hb : gh < wr.heap.size
  jb : gj < wr.heap.size
  ob : go < wr.heap.size
theorem QV.below {gh gj go : Nat} (h : QV βl βw βc βp vl vw vc vp Ll Lw Lc Lp gh gj go wr) (hb : Below wr.heap.size wr wx) : QV βl βw βc βp vl vw vc vp Ll Lw Lc Lp gh gj go wx :=
  ⟨h.l.fr (Fr.of_below (S := fun _ => False) hb) (fun _ _ h => h), h.w.fr (Fr.of_below (S := fun _ => False) hb) (fun _ _ h => h), h.c.fr (Fr.of_below (S := fun _ => False) hb) (fun _ _ h => h), h.p.fr (Fr.of_below (S := fun _ => False) hb) (fun _ _ h => h),
    by rw [hb.cell (p := ⟨gh, Ll.length, none⟩) h.hb]; exact h.h, by rw [hb.cell (p := ⟨gj, Lc.length, none⟩) h.jb]; exact h.j, by rw [hb.cell (p := ⟨go, Lw.length, none⟩) h.ob]; exact h.o, Nat.lt_of_lt_of_le h.hb hb.size, Nat.lt_of_lt_of_le h.jb hb.size, Nat.lt_of_lt_of_le h.ob hb.size⟩

theorem HL.get {α : Type} {f : α → List Value} {k : Nat} {w : World} {β : Option Nat} {s : SV} {xs : List α} (h : HL f k w β s xs) (i q : Nat) (hi : i < s.n) (hq : q < k) :
    ∃ g x, s.a = some ⟨g, 0, none⟩ ∧ x ∈ xs ∧ w.cell? ⟨g, i * k + q, none⟩ = (f x)[q]? := by
  obtain ⟨h1, h2, h3, h4⟩ := h
  obtain ⟨g, -, e2, -, hC⟩ := h4 (by omega)
  exact ⟨g, xs[i], e2, List.getElem_mem _, hC i (by omega) q hq⟩
theorem QV.getl {gh gj go k : Nat} (h : QV βl βw βc βp vl vw vc vp Ll Lw Lc Lp gh gj go wr) (z : Int) (hz : ∀ x ∈ Ll, x = z) (hk : k < vl.n) : ∃ g, vl.a = some ⟨g, 0, none⟩ ∧ wr.cell? ⟨g, k, none⟩ = some (.int .i64 z) := by
  obtain ⟨g, x, e, hx, hc⟩ := h.l.get k 0 hk (by omega)
  simp only [Nat.mul_one, Nat.add_zero] at hc
  exact ⟨g, e, by rw [hc, hz x hx]; rfl⟩
theorem QV.getw {gh gj go k : Nat} (h : QV βl βw βc βp vl vw vc vp Ll Lw Lc Lp gh gj go wr) (z : ByteArray) (hz : ∀ x ∈ Lw, x = z) (hk : k < vw.n) : ∃ g, vw.a = some ⟨g, 0, none⟩ ∧ wr.cell? ⟨g, k, none⟩ = some (.string z) := by
  obtain ⟨g, x, e, hx, hc⟩ := h.w.get k 0 hk (by omega)
  simp only [Nat.mul_one, Nat.add_zero] at hc
  exact ⟨g, e, by rw [hc, hz x hx]; rfl⟩
theorem QV.getc {gh gj go k : Nat} (h : QV βl βw βc βp vl vw vc vp Ll Lw Lc Lp gh gj go wr) (z : Int) (hz : ∀ x ∈ Lc, x = z) (hk : k < vc.n) : ∃ g, vc.a = some ⟨g, 0, none⟩ ∧ wr.cell? ⟨g, k, none⟩ = some (.int .i64 z) := by
  obtain ⟨g, x, e, hx, hc⟩ := h.c.get k 0 hk (by omega)
  simp only [Nat.mul_one, Nat.add_zero] at hc
  exact ⟨g, e, by rw [hc, hz x hx]; rfl⟩
theorem QV.getp {gh gj go k : Nat} (h : QV βl βw βc βp vl vw vc vp Ll Lw Lc Lp gh gj go wr) (z : Int) (hz : ∀ x ∈ Lp, x.pos = z) (hk : k < vp.n) : ∃ g, vp.a = some ⟨g, 0, none⟩ ∧ wr.cell? ⟨g, k * 5 + 1, none⟩ = some (.int .i64 z) := by
  obtain ⟨g, x, e, hx, hc⟩ := h.p.get k 1 hk (by omega)
  exact ⟨g, e, by rw [hc, ← hz x hx]; rfl⟩

/-- The law's three appends. -/
theorem QS.appends (h : QS βl βw βc βp vl vw vc vp W wr Ll Lw Lc Lp) (hl : Ll.length ≤ 1000) (hw : Lw.length ≤ 1000) (hc : Lc.length ≤ 1000) :
    ∃ gh ch w1, (∀ ty, (Builtin.append_ #[36, 36] ty #[vl.val, .slice (some ⟨wr.heap.size, 0, none⟩) 1 1]).run Try.prog (wr.alloc (.cells #[.int .i64 (-1)] 3)) = .ok (.slice (some ⟨gh, 0, none⟩) (Ll.length + 1) ch) w1) ∧
    ∃ gj cj w2, (∀ ty, (Builtin.append_ #[36, 36] ty #[vc.val, .slice (some ⟨w1.heap.size, 0, none⟩) 1 1]).run Try.prog (w1.alloc (.cells #[.int .i64 (-2)] 3)) = .ok (.slice (some ⟨gj, 0, none⟩) (Lc.length + 1) cj) w2) ∧
    ∃ go co w3, (∀ ty, (Builtin.append_ #[42, 42] ty #[vw.val, .slice (some ⟨w2.heap.size, 0, none⟩) 1 1]).run Try.prog (w2.alloc (.cells #[.string ⟨#[33]⟩] 9)) = .ok (.slice (some ⟨go, 0, none⟩) (Lw.length + 1) co) w3) ∧
    QV βl βw βc βp vl vw vc vp Ll Lw Lc Lp gh gj go w3 ∧ Fr (fun g => βl = some g ∨ βw = some g ∨ βc = some g ∨ βp = some g) W w3 ∧ (Ll.length + 1 ≤ ch ∧ ch ≤ 9223372036854775807) ∧ (Lc.length + 1 ≤ cj ∧ cj ≤ 9223372036854775807) ∧ Lw.length + 1 ≤ co ∧ co ≤ 9223372036854775807 := by
  have lw := h.l.apart h.w (by decide)
  have lp := h.l.apart h.p (by decide)
  have cw := h.c.apart h.w (by decide)
  have cp := h.c.apart h.p (by decide)
  have wp := h.w.apart h.p (by decide)
  have lc := h.lc
  have llt := h.l.lt
  have wlt := h.w.lt
  have clt := h.c.lt
  have plt := h.p.lt
  obtain ⟨v1, w1, r1, n1⟩ := pushes_int wr βl vl.val Ll (-1) h.l (by omega)
  obtain ⟨gh, ch, rfl, h1, h2, h3, h4, hL, f1, h5⟩ := push_view h.l (fun x => ⟨rfl, fun v hv => by simp [ei] at hv; subst hv; rfl⟩) n1
  have s1 := f1.size
  have c1 : SF ei 1 w1 3 βc vc.val Lc := h.c.fr f1 (fun q hq e => lc q e hq)
  have ww1 : SF eSt 1 w1 9 βw vw.val Lw := h.w.fr f1 (fun q hq e => lw q e hq)
  have p1 : SF opc 5 w1 32 βp vp.val Lp := h.p.fr f1 (fun q hq e => lp q e hq)
  refine ⟨gh, ch, w1, r1, ?_⟩
  obtain ⟨v2, w2, r2, n2⟩ := pushes_int w1 βc vc.val Lc (-2) c1 (by omega)
  obtain ⟨gj, cj, rfl, j1, j2, j3, j4, hC, f2, j5⟩ := push_view c1 (fun x => ⟨rfl, fun v hv => by simp [ei] at hv; subst hv; rfl⟩) n2
  have s2 := f2.size
  have ww2 : SF eSt 1 w2 9 βw vw.val Lw := ww1.fr f2 (fun q hq e => cw q e hq)
  have p2 : SF opc 5 w2 32 βp vp.val Lp := p1.fr f2 (fun q hq e => cp q e hq)
  refine ⟨gj, cj, w2, r2, ?_⟩
  obtain ⟨v3, w3, r3, n3⟩ := pushes_str w2 βw vw.val Lw ⟨#[33]⟩ ww2 (by omega)
  obtain ⟨go, co, rfl, o1, o2, o3, o4, hW, f3, o5⟩ := push_view ww2 szE n3
  have s3 := f3.size
  have p3 : SF opc 5 w3 32 βp vp.val Lp := p2.fr f3 (fun q hq e => wp q e hq)
  refine ⟨go, co, w3, r3, ⟨?_, hW, ?_, ?_, ?_, ?_, ?_, by omega, by omega, o3⟩, ?_, ⟨h1, h2⟩, ⟨j1, j2⟩, o1, o2⟩
  · exact (hL.fr f2 (fun q hq e => lc q hq e)).fr f3 (fun q hq e => lw q hq e)
  · exact hC.fr f3 (fun q hq e => cw q hq e)
  · exact p3.hl (fun x => ⟨rfl, fun v hv => by simp [opc] at hv; rcases hv with rfl | rfl | rfl | rfl | rfl <;> rfl⟩)
  · have e1 : w1.cell? ⟨gh, Ll.length, none⟩ = some (.int .i64 (-1)) := by
      have := h4 0 (by omega)
      rw [Nat.mul_one, Nat.add_zero] at this
      rw [this]; rfl
    have e2 := f2.cell (p := ⟨gh, Ll.length, none⟩) h3 (fun e => by
      rcases h5 with h5 | h5
      · exact lc _ h5 e
      · have : gh < _ := clt _ e; omega)
    have e3 := f3.cell (p := ⟨gh, Ll.length, none⟩) (by show gh < _; omega) (fun e => by
      rcases h5 with h5 | h5
      · exact lw _ h5 e
      · have := wlt _ e; simp only at this; omega)
    rw [e3, e2]; exact e1
  · have e1 : w2.cell? ⟨gj, Lc.length, none⟩ = some (.int .i64 (-2)) := by
      have := j4 0 (by omega)
      rw [Nat.mul_one, Nat.add_zero] at this
      rw [this]; rfl
    have e3 := f3.cell (p := ⟨gj, Lc.length, none⟩) j3 (fun e => by
      rcases j5 with h5 | h5
      · exact cw _ h5 e
      · have := wlt _ e; simp only at this; omega)
    rw [e3]; exact e1
  · have := o4 0 (by omega)
    rw [Nat.mul_one, Nat.add_zero] at this
    rw [this]; rfl
  · exact h.fr.trans (((f1.mono (fun q _ e => .inl e)).trans (f2.mono (fun q _ e => .inr (.inr (.inl e))))).trans (f3.mono (fun q _ e => .inr (.inl e))))
end
end Go.Proofs.Ytlmgogonghafeab
