/-
  Texts put together: In Hf Hq.
-/
import Derived.Test.YtlmgogonghafeabRt
import Derived.Deep.QuietTactic
import Derived.BigQuiet
import Derived.Test.YtlmgogonghafeabHe
import Derived.Test.YtlmgogonghafeabWq
import Derived.Test.YtlmgogonghafeabSp
import Derived.Test.YtlmgogonghafeabTx
import Derived.Laws.StructEq
/-! In -/
namespace Go.Proofs.Ytlmgogonghafeab
open Go.RowKit Go.Lib
set_option linter.unusedVariables false

set_option maxRecDepth 100000 in
set_option maxHeartbeats 4000000 in
theorem ints_true (a b : Option Addr) (n c d : Nat) (l : List Nat) (w : World) (ha : IsL w a n c l) (hb : IsL w b n d l) :
    Calls Try.prog 14 #[.slice a n c, .slice b n d] w fun e w' => e = .returned (.bool true) ∧ ∃ m, w' = w.drewN m := by
  obtain ⟨hl, hc, hc', h1⟩ := ha
  obtain ⟨-, hd', hd'', h2⟩ := hb
  have H1 := hd h1
  have H2 := hd h2
  have HN := hd hl
  clear h1 h2 hl
  go_enter Try.func14, Try.ntmps14
  go_wp2
  go_loopw [5] (fun i wr => ∃ k m : Nat, k ≤ n ∧ i = .int .i64 k ∧ wr = w.drewN m) (fun i _ => n - (intOf i).toNat)
  case atStart => exact ⟨0, 0, Nat.zero_le _, rfl, rfl⟩
  case round =>
    obtain ⟨k, m, hk, rfl, rfl⟩ := hrel
    by_cases hlt : k < n
    · have kx : k < l.length := by rw [HN.out]; exact hlt
      obtain ⟨b1, o1, rfl, -, x0⟩ := H1.out (by omega)
      obtain ⟨b2, o2, rfl, -, y0⟩ := H2.out (by omega)
      have x0 := x0 k kx
      have y0 := y0 k kx
      have i1 : (k : Int) < (n : Int) := by omega
      generalize l[k] = x at *
      go_wp2
      go_big_quiet (fail)
      go_wp2
      go_roundw
      case rel => exact ⟨k + 1, _, by omega, by go_num, rfl⟩
      case measure => simp only [intOf]; omega
    · obtain rfl : k = n := by omega
      go_wp2
      go_ret
      exact ⟨rfl, _, rfl⟩

/-- The slice value at a holds the strings l. -/
def IsW (w : World) (a : Option Addr) (n c : Nat) (l : List ByteArray) : Prop :=
  l.length = n ∧ n ≤ c ∧ c ≤ 9223372036854775807 ∧ (0 < n → ∃ b off, a = some ⟨b, off, none⟩ ∧ b < w.heap.size ∧ ∀ k (h : k < l.length), w.cell? ⟨b, off + k, none⟩ = some (.string l[k]))

set_option maxRecDepth 100000 in
set_option maxHeartbeats 4000000 in
theorem words_true (a b : Option Addr) (n c d : Nat) (l : List ByteArray) (w : World) (ha : IsW w a n c l) (hb : IsW w b n d l) :
    Calls Try.prog 15 #[.slice a n c, .slice b n d] w fun e w' => e = .returned (.bool true) ∧ ∃ m, w' = w.drewN m := by
  obtain ⟨hl, hc, hc', h1⟩ := ha
  obtain ⟨-, hd', hd'', h2⟩ := hb
  have H1 := hd h1
  have H2 := hd h2
  have HN := hd hl
  clear h1 h2 hl
  go_enter Try.func15, Try.ntmps15
  go_wp2
  go_loopw [5] (fun i wr => ∃ k m : Nat, k ≤ n ∧ i = .int .i64 k ∧ wr = w.drewN m) (fun i _ => n - (intOf i).toNat)
  case atStart => exact ⟨0, 0, Nat.zero_le _, rfl, rfl⟩
  case round =>
    obtain ⟨k, m, hk, rfl, rfl⟩ := hrel
    by_cases hlt : k < n
    · have kx : k < l.length := by rw [HN.out]; exact hlt
      obtain ⟨b1, o1, rfl, -, x0⟩ := H1.out (by omega)
      obtain ⟨b2, o2, rfl, -, y0⟩ := H2.out (by omega)
      have x0 := x0 k kx
      have y0 := y0 k kx
      have i1 : (k : Int) < (n : Int) := by omega
      generalize l[k] = x at *
      go_wp2
      go_big_quiet (fail)
      go_wp2
      go_roundw
      case rel => exact ⟨k + 1, _, by omega, by go_num, rfl⟩
      case measure => simp only [intOf]; omega
    · obtain rfl : k = n := by omega
      go_wp2
      go_ret
      exact ⟨rfl, _, rfl⟩
end Go.Proofs.Ytlmgogonghafeab

/-! Hf -/
namespace Go.Proofs.Ytlmgogonghafeab
open Go.RowKit Go.Lib
set_option linter.unusedVariables false

section
variable {α : Type} {f : α → List Value} {k : Nat} {e ss : TypeId} {base : Nat} {W W' : World} {L : List (Option Nat × SV × List α)}

structure LLs (f : α → List Value) (k : Nat) (e : TypeId) (base : Nat) (W : World) (L : List (Option Nat × SV × List α)) : Prop where
  sf : ∀ p ∈ L, SF f k W e p.1 p.2.1.val p.2.2
  lo : ∀ p ∈ L, ∀ g, p.1 = some g → base ≤ g
  pw : L.Pairwise fun p q => ∀ g, p.1 = some g → q.1 ≠ some g
theorem LLs.nil : LLs f k e base W [] := ⟨fun _ h => (by cases h), fun _ h => (by cases h), List.Pairwise.nil⟩
theorem LLs.below (h : LLs f k e base W L) (hb : Below W.heap.size W W') : LLs f k e base W' L :=
  ⟨fun p hp => (h.sf p hp).fr (S := fun _ => False) (Fr.of_below hb) (fun _ _ h => h), h.lo, h.pw⟩
theorem LLs.push {β : Option Nat} {s : SV} {xs : List α} (h : LLs f k e base W L) (hb : Below W.heap.size W W') (hbase : base ≤ W.heap.size) (hS : SF f k W' e β s.val xs) (hβ : ∀ g, β = some g → W.heap.size ≤ g) : LLs f k e base W' (L ++ [(β, s, xs)]) := by
  refine ⟨fun p hp => ?_, fun p hp g hg => ?_, ?_⟩
  · rcases List.mem_append.1 hp with hp | hp
    · exact (h.below hb).sf p hp
    · obtain rfl := List.mem_singleton.1 hp
      exact hS
  · rcases List.mem_append.1 hp with hp | hp
    · exact h.lo p hp g hg
    · obtain rfl := List.mem_singleton.1 hp
      exact Nat.le_trans hbase (hβ g hg)
  · refine List.pairwise_append.2 ⟨h.pw, List.pairwise_singleton _ _, fun p hp q hq g h1 h2 => ?_⟩
    obtain rfl := List.mem_singleton.1 hq
    have e1 := (h.sf p hp).lt g h1
    have e2 := hβ g h2
    omega
def dL : Option Nat × SV × List α := (none, ⟨none, 0, 0⟩, [])
theorem getD_mem (L : List (Option Nat × SV × List α)) (j : Nat) (h : j < L.length) : L.getD j dL ∈ L := by
  rw [List.getD_eq_getElem?_getD, List.getElem?_eq_getElem h]
  exact List.getElem_mem h
theorem LLs.hT (h : LLs f k e base W L) : ∀ j, j < L.length → SF f k W e (L.getD j dL).1 (L.getD j dL).2.1.val (L.getD j dL).2.2 := fun j hj => h.sf _ (getD_mem L j hj)
theorem LLs.hN (h : LLs f k e base W L) : ∀ j, j < L.length → (L.getD j dL).2.2.length = (L.getD j dL).2.1.n := fun j hj => by
  obtain ⟨a, c, hv, -, -⟩ := (h.hT j hj).form
  exact (Value.slice.inj hv).2.1.symm
theorem LLs.hC {gL : Nat} (hg : W.heap[gL]? = some (.cells (L.map fun p => p.2.1.val).toArray ss (0, 0))) : LCs W ss gL L.length (fun j => (L.getD j dL).2.1) := by
  refine ⟨_, hg, fun i hi => ?_⟩
  rw [List.getElem?_toArray, List.getElem?_map, List.getElem?_eq_getElem hi]
  simp only [List.getD_eq_getElem?_getD, List.getElem?_eq_getElem hi]
  rfl
theorem LLs.hL {gL : Nat} (h : LLs f k e base W L) (hg : gL < W.heap.size) (hn : ∀ p ∈ L, p.1 ≠ some gL) : Lists W ss gL L.length (fun j => (L.getD j dL).1) (fun j => (L.getD j dL).2.1) := by
  refine ⟨fun i j g hi hj h1 h2 => ?_, fun i g hi h1 => (h.hT i hi).lt g h1, fun i hi => hn _ (getD_mem L i hi), hg⟩
  have hp := List.pairwise_iff_getElem.1 h.pw
  have e1 : ∀ i (hi : i < L.length), L.getD i dL = L[i] := fun i hi => by rw [List.getD_eq_getElem?_getD, List.getElem?_eq_getElem hi]; rfl
  simp only [e1 i hi] at h1
  simp only [e1 j hj] at h2
  rcases Nat.lt_trichotomy i j with h3 | h3 | h3
  · exact absurd h2 (hp i j hi hj h3 g h1)
  · exact h3
  · exact absurd h1 (hp j i hj hi h3 g h2)
/-- The blocks of the lists. -/
def Bks (L : List (Option Nat × SV × List α)) (g : Nat) : Prop := ∃ p ∈ L, p.1 = some g
theorem Bks.of {L : List (Option Nat × SV × List α)} {g : Nat} (h : ∃ j, j < L.length ∧ (L.getD j dL).1 = some g) : Bks L g := by
  obtain ⟨j, hj, h⟩ := h
  exact ⟨_, getD_mem L j hj, h⟩
theorem LLs.frame (h : LLs f k e base W L) (hb : base ≤ W.heap.size) (hF : Fr (Bks L) W W') : Below base W W' := hF.below hb (fun g ⟨p, hp, hg⟩ => h.lo p hp g hg)
/-- Lists of another kind stay. -/
theorem LLs.other {β : Type} {f2 : β → List Value} {k2 : Nat} {e2 : TypeId} {L2 : List (Option Nat × SV × List β)} {base2 : Nat} (h2 : LLs f2 k2 e2 base2 W L2) (h : LLs f k e base W L) (hne : e2 ≠ e) (hF : Fr (Bks L) W W') : LLs f2 k2 e2 base2 W' L2 := by
  refine ⟨fun p hp => (h2.sf p hp).fr hF (fun g hg ⟨q, hq, hqg⟩ => ?_), h2.lo, h2.pw⟩
  have s1 := h2.sf p hp
  have s2 := h.sf q hq
  rw [hg] at s1
  rw [hqg] at s2
  obtain ⟨c1, b1⟩ := s1.blk
  obtain ⟨c2, b2⟩ := s2.blk
  rw [b1] at b2
  injection b2 with b2
  injection b2 with b3 b4 b5
  exact hne b4
end

theorem IsN.ll {w W : World} {v : Value} {l : List Nat} (h : IsN w W v l) : ∃ β a c, v = .slice a l.length c ∧ SF ei 1 W 3 β (SV.val ⟨a, l.length, c⟩) (nI l) ∧ (∀ g, β = some g → w.heap.size ≤ g) ∧ IsL W a l.length c l := by
  obtain ⟨a, c, rfl, hL⟩ := h.isL
  obtain ⟨β, h1, h2⟩ := h
  exact ⟨β, a, c, rfl, h1, h2, hL⟩
theorem rise_one : ∀ {l m : List By}, l.Pairwise (· < ·) → m.Pairwise (· < ·) → (∀ x, x ∈ l ↔ x ∈ m) → l = m
  | [], [], _, _, _ => rfl
  | [], b :: m, _, _, h => absurd ((h b).2 List.mem_cons_self) (by simp)
  | a :: l, [], _, _, h => absurd ((h a).1 List.mem_cons_self) (by simp)
  | a :: l, b :: m, hl, hm, h => by
    obtain ⟨hl1, hl2⟩ := List.pairwise_cons.1 hl
    obtain ⟨hm1, hm2⟩ := List.pairwise_cons.1 hm
    have e : a = b := by
      rcases List.mem_cons.1 ((h a).1 List.mem_cons_self) with e | e
      · exact e
      · rcases List.mem_cons.1 ((h b).2 List.mem_cons_self) with e2 | e2
        · exact e2.symm
        · exact absurd (hm1 a e) (List.lt_asymm (hl1 b e2))
    subst e
    rw [rise_one hl2 hm2 fun x => ⟨fun hx => ?_, fun hx => ?_⟩]
    · rcases List.mem_cons.1 ((h x).1 (List.mem_cons_of_mem _ hx)) with e | e
      · subst e
        exact absurd (hl1 x hx) (List.lt_irrefl _)
      · exact e
    · rcases List.mem_cons.1 ((h x).2 (List.mem_cons_of_mem _ hx)) with e | e
      · subst e
        exact absurd (hm1 x hx) (List.lt_irrefl _)
      · exact e
theorem wds_one {ws ks ks' : List By} (h : Wds ws ks) (h' : Wds ws ks') : ks = ks' := rise_one h.sort h'.sort fun x => (h.mem x).trans (h'.mem x).symm
theorem rise_nodup {l : List By} (h : l.Pairwise (· < ·)) : l.Nodup := h.imp (fun {a b} h e => by subst e; exact List.lt_irrefl _ h)
theorem nodup_le : ∀ {l m : List By}, l.Nodup → (∀ x ∈ l, x ∈ m) → l.length ≤ m.length
  | [], _, _, _ => by simp
  | a :: l, m, hn, hs => by
    obtain ⟨h1, h2⟩ := List.nodup_cons.1 hn
    have h3 : ∀ x ∈ l, x ∈ m.erase a := fun x hx => (List.mem_erase_of_ne (fun e => h1 (by rw [← e]; exact hx))).2 (hs x (List.mem_cons_of_mem _ hx))
    have h4 := nodup_le h2 h3
    have h5 := List.length_erase_of_mem (hs a List.mem_cons_self)
    have h6 := List.length_pos_of_mem (hs a List.mem_cons_self)
    simp only [List.length_cons]
    omega
theorem wds_len {T : By} {ks : List By} (h : Wds (wdP T) ks) : ks.length ≤ T.length := by
  have h1 := nodup_le (rise_nodup h.sort) (fun x hx => (h.mem x).1 hx)
  have h2 := wdF_len T []
  simp at h2
  unfold wdP at h1
  omega
theorem StI.ll {w W : World} {v : Value} {l : List ByteArray} (h : StI w W v l) : ∃ β a c, v = .slice a l.length c ∧ SF eSt 1 W 9 β (SV.val ⟨a, l.length, c⟩) l ∧ (∀ g, β = some g → w.heap.size ≤ g) ∧ IsW W a l.length c l := by
  obtain ⟨a, c, rfl, h1, h2, h3⟩ := h.cells
  obtain ⟨β, k1, k2, k3⟩ := h
  refine ⟨β, a, c, rfl, k1, k2, rfl, h1, h2, fun h0 => ?_⟩
  obtain ⟨g, e, -, hg, hc⟩ := h3 h0
  exact ⟨g, 0, e, hg, fun k hk => by rw [Nat.zero_add]; exact hc k hk⟩
/-- The operations that Swap answers, none with an error. -/
def swL (T p b : By) (cl fs : Int) : List OpE := if swE T p b cl fs = 0 then swS cl fs (apP T p) p.length b (apP T p).length else []
theorem SwR.ll {w w' : World} {T p b : By} {cl fs : Int} {e : Ending} (h : SwR w w' T p b cl fs e) : ∃ β a c, e = .returned (.tuple #[.slice a (swL T p b cl fs).length c, .int .i64 (swE T p b cl fs)]) ∧ SF opc 5 w' 32 β (SV.val ⟨a, (swL T p b cl fs).length, c⟩) (swL T p b cl fs) ∧ (∀ g, β = some g → w.heap.size ≤ g) ∧ Below w.heap.size w w' := by
  obtain ⟨hb, h⟩ := h
  rcases h with ⟨h0, rfl⟩ | ⟨h0, v, β, rfl, hS, hβ⟩
  · refine ⟨none, none, 0, ?_, ?_, fun g hg => (by cases hg), hb⟩
    · rw [swL, if_neg h0]
      rfl
    · rw [swL, if_neg h0]
      exact ⟨rfl, rfl⟩
  · rw [swL, if_pos h0]
    obtain ⟨a, c, rfl, -, -⟩ := hS.form
    exact ⟨β, a, c, by rw [h0], hS, hβ, hb⟩
theorem swL_len (T p b : By) (cl fs : Int) (h1 : 1 ≤ fs) : (swL T p b cl fs).length ≤ 64 := by
  unfold swL
  split
  · rename_i h
    rw [swS_len]
    unfold swE at h
    split at h
    · omega
    · rename_i h2
      unfold cntP at h2
      omega
  · simp
end Go.Proofs.Ytlmgogonghafeab

/-! Hq -/
namespace Go.Proofs.Ytlmgogonghafeab
open Go.RowKit
set_option linter.unusedVariables false

set_option maxRecDepth 100000 in
set_option maxHeartbeats 4000000 in
theorem equal_same (a b : Option Addr) (n c d : Nat) (xs : List El) (w : World) (hx : IsE w a n c xs) (hy : IsE w b n d xs) :
    Calls Try.prog 9 #[.slice a n c, .slice b n d] w fun e w' => e = .returned (.bool true) ∧ Below w.heap.size w w' := by
  have hc := hx.2.1
  have hc' := hx.2.2.1
  have LX := hd hx.1
  have HX := hd hx
  have HY := hd hy
  clear hx hy
  go_enter Try.func9, Try.ntmps9
  go_wp2
  go_loopw [14] (fun i wr => ∃ k : Nat, k ≤ n ∧ i = .int .i64 k ∧ Hid (Below w.heap.size w wr)) (fun i _ => n - (intOf i).toNat)
  case atStart => exact ⟨0, Nat.zero_le _, rfl, Below.refl _ _⟩
  case round =>
    obtain ⟨k, hk, rfl, hB⟩ := hrel
    by_cases hlt : k < n
    · have X2 := HX.out.below hB.out
      have Y2 := HY.out.below hB.out
      obtain ⟨b1, o1, rfl, l1⟩ := X2.addr (by omega)
      obtain ⟨b2, o2, rfl, l2⟩ := Y2.addr (by omega)
      have kx : k < xs.length := by have := LX.out; omega
      obtain ⟨x0, x1, x2⟩ := X2.at k hlt kx
      obtain ⟨y0, y1, y2⟩ := Y2.at k hlt kx
      have i1 : (k : Int) < (n : Int) := by omega
      generalize xs[k] = x at *
      obtain ⟨xa, xb, xc⟩ := x
      simp only [] at x0 x1 x2 y0 y1 y2
      have B2 : Hid (Below w.heap.size w (wr.alloc (.cells #[.int .u8 xa, .int .i64 xb, .int .i64 xc] 25))) := hB.out.alloc hB.out.size _
      have z0 : (wr.alloc (.cells #[.int .u8 xa, .int .i64 xb, .int .i64 xc] 25)).cell? ⟨b2, o2 + k * 3, none⟩ = some (.int .u8 xa) := by
        rw [World.cell?_alloc_past _ b2 _ l2]; exact y0
      have z1 : (wr.alloc (.cells #[.int .u8 xa, .int .i64 xb, .int .i64 xc] 25)).cell? ⟨b2, o2 + k * 3 + 1, none⟩ = some (.int .i64 xb) := by
        rw [World.cell?_alloc_past _ b2 _ l2]; exact y1
      have z2 : (wr.alloc (.cells #[.int .u8 xa, .int .i64 xb, .int .i64 xc] 25)).cell? ⟨b2, o2 + k * 3 + 2, none⟩ = some (.int .i64 xc) := by
        rw [World.cell?_alloc_past _ b2 _ l2]; exact y2
      have n2 : ¬ b2 = wr.heap.size := by omega
      clear kx X2 Y2 hB
      go_wp2
      go_quiet (fail)
      go_wp2
      exact ⟨⟨k + 1, by omega, by go_num, below_drewN B2.out _⟩, by simp [intOf]; omega⟩
    · obtain rfl : k = n := by omega
      go_wp2
      go_ret
      exact ⟨by simp, hB.out⟩
end Go.Proofs.Ytlmgogonghafeab
