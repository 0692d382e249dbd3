/-
  Texts put together: In Hf Qd.
-/
import Derived.Test.YtlmgogonghafeabMR
import Derived.Deep.QuietTactic
import Derived.BigQuiet
import Derived.Test.YtlmgogonghafeabHe
import Derived.Test.YtlmgogonghafeabWq
import Derived.Test.YtlmgogonghafeabSp
/-! In -/
namespace Go.Proofs.Ytlmgogonghafeab
open Go.RowKit Go.Lib
set_option linter.unusedVariables false

set_option maxRecDepth 100000 in
set_option maxHeartbeats 4000000 in
theorem ints_true (a b : Option Addr) (n c d : Nat) (l : List Nat) (w : World) (ha : IsL w a n c l) (hb : IsL w b n d l) :
    Calls Try.prog 14 #[.slice a n c, .slice b n d] w fun e w' => e = .returned (.bool true) ∧ ∃ m, w' = w.drewN m := by
  obtain ⟨hl, hc, hc', h1⟩ := ha
  obtain ⟨-, hd', hd'', h2⟩ := hb
  have H1 := hd h1
  have H2 := hd h2
  have HN := hd hl
  clear h1 h2 hl
  go_enter Try.func14, Try.ntmps14
  go_wp2
  go_loopw [5] (fun i wr => ∃ k m : Nat, k ≤ n ∧ i = .int .i64 k ∧ wr = w.drewN m) (fun i _ => n - (intOf i).toNat)
  case atStart => exact ⟨0, 0, Nat.zero_le _, rfl, rfl⟩
  case round =>
    obtain ⟨k, m, hk, rfl, rfl⟩ := hrel
    by_cases hlt : k < n
    · have kx : k < l.length := by rw [HN.out]; exact hlt
      obtain ⟨b1, o1, rfl, -, x0⟩ := H1.out (by omega)
      obtain ⟨b2, o2, rfl, -, y0⟩ := H2.out (by omega)
      have x0 := x0 k kx
      have y0 := y0 k kx
      have i1 : (k : Int) < (n : Int) := by omega
      generalize l[k] = x at *
      go_wp2
      go_big_quiet (fail)
      go_wp2
      go_roundw
      case rel => exact ⟨k + 1, _, by omega, by go_num, rfl⟩
      case measure => simp only [intOf]; omega
    · obtain rfl : k = n := by omega
      go_wp2
      go_ret
      exact ⟨rfl, _, rfl⟩

/-- The slice value at a holds the strings l. -/
def IsW (w : World) (a : Option Addr) (n c : Nat) (l : List ByteArray) : Prop :=
  l.length = n ∧ n ≤ c ∧ c ≤ 9223372036854775807 ∧ (0 < n → ∃ b off, a = some ⟨b, off, none⟩ ∧ b < w.heap.size ∧ ∀ k (h : k < l.length), w.cell? ⟨b, off + k, none⟩ = some (.string l[k]))

set_option maxRecDepth 100000 in
set_option maxHeartbeats 4000000 in
theorem words_true (a b : Option Addr) (n c d : Nat) (l : List ByteArray) (w : World) (ha : IsW w a n c l) (hb : IsW w b n d l) :
    Calls Try.prog 15 #[.slice a n c, .slice b n d] w fun e w' => e = .returned (.bool true) ∧ ∃ m, w' = w.drewN m := by
  obtain ⟨hl, hc, hc', h1⟩ := ha
  obtain ⟨-, hd', hd'', h2⟩ := hb
  have H1 := hd h1
  have H2 := hd h2
  have HN := hd hl
  clear h1 h2 hl
  go_enter Try.func15, Try.ntmps15
  go_wp2
  go_loopw [5] (fun i wr => ∃ k m : Nat, k ≤ n ∧ i = .int .i64 k ∧ wr = w.drewN m) (fun i _ => n - (intOf i).toNat)
  case atStart => exact ⟨0, 0, Nat.zero_le _, rfl, rfl⟩
  case round =>
    obtain ⟨k, m, hk, rfl, rfl⟩ := hrel
    by_cases hlt : k < n
    · have kx : k < l.length := by rw [HN.out]; exact hlt
      obtain ⟨b1, o1, rfl, -, x0⟩ := H1.out (by omega)
      obtain ⟨b2, o2, rfl, -, y0⟩ := H2.out (by omega)
      have x0 := x0 k kx
      have y0 := y0 k kx
      have i1 : (k : Int) < (n : Int) := by omega
      generalize l[k] = x at *
      go_wp2
      go_big_quiet (fail)
      go_wp2
      go_roundw
      case rel => exact ⟨k + 1, _, by omega, by go_num, rfl⟩
      case measure => simp only [intOf]; omega
    · obtain rfl : k = n := by omega
      go_wp2
      go_ret
      exact ⟨rfl, _, rfl⟩
end Go.Proofs.Ytlmgogonghafeab

/-! Hf -/
namespace Go.Proofs.Ytlmgogonghafeab
open Go.RowKit Go.Lib
set_option linter.unusedVariables false

section
variable {α : Type} {f : α → List Value} {k : Nat} {e ss : TypeId} {base : Nat} {W W' : World} {L : List (Option Nat × SV × List α)}

structure LLs (f : α → List Value) (k : Nat) (e : TypeId) (base : Nat) (W : World) (L : List (Option Nat × SV × List α)) : Prop where
  sf : ∀ p ∈ L, SF f k W e p.1 p.2.1.val p.2.2
  lo : ∀ p ∈ L, ∀ g, p.1 = some g → base ≤ g
  pw : L.Pairwise fun p q => ∀ g, p.1 = some g → q.1 ≠ some g
theorem LLs.nil : LLs f k e base W [] := ⟨fun _ h => (by cases h), fun _ h => (by cases h), List.Pairwise.nil⟩
theorem LLs.below (h : LLs f k e base W L) (hb : Below W.heap.size W W') : LLs f k e base W' L :=
  ⟨fun p hp => (h.sf p hp).fr (S := fun _ => False) (Fr.of_below hb) (fun _ _ h => h), h.lo, h.pw⟩
theorem LLs.push {β : Option Nat} {s : SV} {xs : List α} (h : LLs f k e base W L) (hb : Below W.heap.size W W') (hbase : base ≤ W.heap.size) (hS : SF f k W' e β s.val xs) (hβ : ∀ g, β = some g → W.heap.size ≤ g) : LLs f k e base W' (L ++ [(β, s, xs)]) := by
  refine ⟨fun p hp => ?_, fun p hp g hg => ?_, ?_⟩
  · rcases List.mem_append.1 hp with hp | hp
    · exact (h.below hb).sf p hp
    · obtain rfl := List.mem_singleton.1 hp
      exact hS
  · rcases List.mem_append.1 hp with hp | hp
    · exact h.lo p hp g hg
    · obtain rfl := List.mem_singleton.1 hp
      exact Nat.le_trans hbase (hβ g hg)
  · refine List.pairwise_append.2 ⟨h.pw, List.pairwise_singleton _ _, fun p hp q hq g h1 h2 => ?_⟩
    obtain rfl := List.mem_singleton.1 hq
    have e1 := (h.sf p hp).lt g h1
    have e2 := hβ g h2
    omega
def dL : Option Nat × SV × List α := (none, ⟨none, 0, 0⟩, [])
theorem getD_mem (L : List (Option Nat × SV × List α)) (j : Nat) (h : j < L.length) : L.getD j dL ∈ L := by
  rw [List.getD_eq_getElem?_getD, List.getElem?_eq_getElem h]
  exact List.getElem_mem h
theorem LLs.hT (h : LLs f k e base W L) : ∀ j, j < L.length → SF f k W e (L.getD j dL).1 (L.getD j dL).2.1.val (L.getD j dL).2.2 := fun j hj => h.sf _ (getD_mem L j hj)
theorem LLs.hN (h : LLs f k e base W L) : ∀ j, j < L.length → (L.getD j dL).2.2.length = (L.getD j dL).2.1.n := fun j hj => by
  obtain ⟨a, c, hv, -, -⟩ := (h.hT j hj).form
  exact (Value.slice.inj hv).2.1.symm
theorem LLs.hC {gL : Nat} (hg : W.heap[gL]? = some (.cells (L.map fun p => p.2.1.val).toArray ss (0, 0))) : LCs W ss gL L.length (fun j => (L.getD j dL).2.1) := by
  refine ⟨_, hg, fun i hi => ?_⟩
  rw [List.getElem?_toArray, List.getElem?_map, List.getElem?_eq_getElem hi]
  simp only [List.getD_eq_getElem?_getD, List.getElem?_eq_getElem hi]
  rfl
theorem LLs.hL {gL : Nat} (h : LLs f k e base W L) (hg : gL < W.heap.size) (hn : ∀ p ∈ L, p.1 ≠ some gL) : Lists W ss gL L.length (fun j => (L.getD j dL).1) (fun j => (L.getD j dL).2.1) := by
  refine ⟨fun i j g hi hj h1 h2 => ?_, fun i g hi h1 => (h.hT i hi).lt g h1, fun i hi => hn _ (getD_mem L i hi), hg⟩
  have hp := List.pairwise_iff_getElem.1 h.pw
  have e1 : ∀ i (hi : i < L.length), L.getD i dL = L[i] := fun i hi => by rw [List.getD_eq_getElem?_getD, List.getElem?_eq_getElem hi]; rfl
  simp only [e1 i hi] at h1
  simp only [e1 j hj] at h2
  rcases Nat.lt_trichotomy i j with h3 | h3 | h3
  · exact absurd h2 (hp i j hi hj h3 g h1)
  · exact h3
  · exact absurd h1 (hp j i hj hi h3 g h2)
/-- The blocks of the lists. -/
def Bks (L : List (Option Nat × SV × List α)) (g : Nat) : Prop := ∃ p ∈ L, p.1 = some g
theorem Bks.of {L : List (Option Nat × SV × List α)} {g : Nat} (h : ∃ j, j < L.length ∧ (L.getD j dL).1 = some g) : Bks L g := by
  obtain ⟨j, hj, h⟩ := h
  exact ⟨_, getD_mem L j hj, h⟩
theorem LLs.frame (h : LLs f k e base W L) (hb : base ≤ W.heap.size) (hF : Fr (Bks L) W W') : Below base W W' := hF.below hb (fun g ⟨p, hp, hg⟩ => h.lo p hp g hg)
/-- Lists of another kind stay. -/
theorem LLs.other {β : Type} {f2 : β → List Value} {k2 : Nat} {e2 : TypeId} {L2 : List (Option Nat × SV × List β)} {base2 : Nat} (h2 : LLs f2 k2 e2 base2 W L2) (h : LLs f k e base W L) (hne : e2 ≠ e) (hF : Fr (Bks L) W W') : LLs f2 k2 e2 base2 W' L2 := by
  refine ⟨fun p hp => (h2.sf p hp).fr hF (fun g hg ⟨q, hq, hqg⟩ => ?_), h2.lo, h2.pw⟩
  have s1 := h2.sf p hp
  have s2 := h.sf q hq
  rw [hg] at s1
  rw [hqg] at s2
  obtain ⟨c1, b1⟩ := s1.blk
  obtain ⟨c2, b2⟩ := s2.blk
  rw [b1] at b2
  injection b2 with b2
  injection b2 with b3 b4 b5
  exact hne b4
end

theorem IsN.ll {w W : World} {v : Value} {l : List Nat} (h : IsN w W v l) : ∃ β a c, v = .slice a l.length c ∧ SF ei 1 W 3 β (SV.val ⟨a, l.length, c⟩) (nI l) ∧ (∀ g, β = some g → w.heap.size ≤ g) ∧ IsL W a l.length c l := by
  obtain ⟨a, c, rfl, hL⟩ := h.isL
  obtain ⟨β, h1, h2⟩ := h
  exact ⟨β, a, c, rfl, h1, h2, hL⟩
theorem rise_one : ∀ {l m : List By}, l.Pairwise (· < ·) → m.Pairwise (· < ·) → (∀ x, x ∈ l ↔ x ∈ m) → l = m
  | [], [], _, _, _ => rfl
  | [], b :: m, _, _, h => absurd ((h b).2 List.mem_cons_self) (by simp)
  | a :: l, [], _, _, h => absurd ((h a).1 List.mem_cons_self) (by simp)
  | a :: l, b :: m, hl, hm, h => by
    obtain ⟨hl1, hl2⟩ := List.pairwise_cons.1 hl
    obtain ⟨hm1, hm2⟩ := List.pairwise_cons.1 hm
    have e : a = b := by
      rcases List.mem_cons.1 ((h a).1 List.mem_cons_self) with e | e
      · exact e
      · rcases List.mem_cons.1 ((h b).2 List.mem_cons_self) with e2 | e2
        · exact e2.symm
        · exact absurd (hm1 a e) (List.lt_asymm (hl1 b e2))
    subst e
    rw [rise_one hl2 hm2 fun x => ⟨fun hx => ?_, fun hx => ?_⟩]
    · rcases List.mem_cons.1 ((h x).1 (List.mem_cons_of_mem _ hx)) with e | e
      · subst e
        exact absurd (hl1 x hx) (List.lt_irrefl _)
      · exact e
    · rcases List.mem_cons.1 ((h x).2 (List.mem_cons_of_mem _ hx)) with e | e
      · subst e
        exact absurd (hm1 x hx) (List.lt_irrefl _)
      · exact e
theorem wds_one {ws ks ks' : List By} (h : Wds ws ks) (h' : Wds ws ks') : ks = ks' := rise_one h.sort h'.sort fun x => (h.mem x).trans (h'.mem x).symm
theorem rise_nodup {l : List By} (h : l.Pairwise (· < ·)) : l.Nodup := h.imp (fun {a b} h e => by subst e; exact List.lt_irrefl _ h)
theorem nodup_le : ∀ {l m : List By}, l.Nodup → (∀ x ∈ l, x ∈ m) → l.length ≤ m.length
  | [], _, _, _ => by simp
  | a :: l, m, hn, hs => by
    obtain ⟨h1, h2⟩ := List.nodup_cons.1 hn
    have h3 : ∀ x ∈ l, x ∈ m.erase a := fun x hx => (List.mem_erase_of_ne (fun e => h1 (by rw [← e]; exact hx))).2 (hs x (List.mem_cons_of_mem _ hx))
    have h4 := nodup_le h2 h3
    have h5 := List.length_erase_of_mem (hs a List.mem_cons_self)
    have h6 := List.length_pos_of_mem (hs a List.mem_cons_self)
    simp only [List.length_cons]
    omega
theorem wds_len {T : By} {ks : List By} (h : Wds (wdP T) ks) : ks.length ≤ T.length := by
  have h1 := nodup_le (rise_nodup h.sort) (fun x hx => (h.mem x).1 hx)
  have h2 := wdF_len T []
  simp at h2
  unfold wdP at h1
  omega
theorem StI.ll {w W : World} {v : Value} {l : List ByteArray} (h : StI w W v l) : ∃ β a c, v = .slice a l.length c ∧ SF eSt 1 W 9 β (SV.val ⟨a, l.length, c⟩) l ∧ (∀ g, β = some g → w.heap.size ≤ g) ∧ IsW W a l.length c l := by
  obtain ⟨a, c, rfl, h1, h2, h3⟩ := h.cells
  obtain ⟨β, k1, k2, k3⟩ := h
  refine ⟨β, a, c, rfl, k1, k2, rfl, h1, h2, fun h0 => ?_⟩
  obtain ⟨g, e, -, hg, hc⟩ := h3 h0
  exact ⟨g, 0, e, hg, fun k hk => by rw [Nat.zero_add]; exact hc k hk⟩
/-- The operations that Swap answers, none with an error. -/
def swL (T p b : By) (cl fs : Int) : List OpE := if swE T p b cl fs = 0 then swS cl fs (apP T p) p.length b (apP T p).length else []
theorem SwR.ll {w w' : World} {T p b : By} {cl fs : Int} {e : Ending} (h : SwR w w' T p b cl fs e) : ∃ β a c, e = .returned (.tuple #[.slice a (swL T p b cl fs).length c, .int .i64 (swE T p b cl fs)]) ∧ SF opc 5 w' 32 β (SV.val ⟨a, (swL T p b cl fs).length, c⟩) (swL T p b cl fs) ∧ (∀ g, β = some g → w.heap.size ≤ g) ∧ Below w.heap.size w w' := by
  obtain ⟨hb, h⟩ := h
  rcases h with ⟨h0, rfl⟩ | ⟨h0, v, β, rfl, hS, hβ⟩
  · refine ⟨none, none, 0, ?_, ?_, fun g hg => (by cases hg), hb⟩
    · rw [swL, if_neg h0]
      rfl
    · rw [swL, if_neg h0]
      exact ⟨rfl, rfl⟩
  · rw [swL, if_pos h0]
    obtain ⟨a, c, rfl, -, -⟩ := hS.form
    exact ⟨β, a, c, by rw [h0], hS, hβ, hb⟩
theorem swL_len (T p b : By) (cl fs : Int) (h1 : 1 ≤ fs) : (swL T p b cl fs).length ≤ 64 := by
  unfold swL
  split
  · rename_i h
    rw [swS_len]
    unfold swE at h
    split at h
    · omega
    · rename_i h2
      unfold cntP at h2
      omega
  · simp
end Go.Proofs.Ytlmgogonghafeab

/-! Qd -/
namespace Go.Proofs.Ytlmgogonghafeab
open Go.RowKit Go.Lib
set_option linter.unusedVariables false

def putS (w : By) (s : Bool × List (By × Nat)) (p : By × Nat) : Bool × List (By × Nat) :=
  (s.1 || decide (w < p.1) || decide (p.1 = w), s.2 ++ (if s.1 = false ∧ w < p.1 then [(w, 1)] else []) ++ [(p.1, if p.1 = w then p.2 + 1 else p.2)])
def putR (w : By) (L : List (By × Nat)) : List (By × Nat) :=
  if (L.foldl (putS w) (false, [])).1 = true then (L.foldl (putS w) (false, [])).2 else (L.foldl (putS w) (false, [])).2 ++ [(w, 1)]
theorem by_tri (a b : By) : a < b ∨ a = b ∨ b < a := by
  by_cases h1 : a < b
  · exact .inl h1
  · by_cases h2 : b < a
    · exact .inr (.inr h2)
    · exact .inr (.inl (List.le_antisymm (by exact h2) (by exact h1)))
theorem by_ne {a b : By} (h : a < b) : a ≠ b := fun e => by subst e; exact List.lt_irrefl _ h
theorem by_as {a b : By} (h : a < b) : ¬ b < a := List.lt_asymm h
theorem foldl_lt (w : By) : ∀ (L : List (By × Nat)) (o : List (By × Nat)), (∀ p ∈ L, p.1 < w) → L.foldl (putS w) (false, o) = (false, o ++ L)
  | [], o, _ => by simp
  | p :: L, o, h => by
    have h0 := h p List.mem_cons_self
    rw [List.foldl_cons]
    have e : putS w (false, o) p = (false, o ++ [p]) := by
      unfold putS
      have h1 := by_as h0
      have h2 := by_ne h0
      simp [h1, h2]
    rw [e, foldl_lt w L _ (fun q hq => h q (List.mem_cons_of_mem _ hq))]
    simp
theorem foldl_gt (w : By) : ∀ (L : List (By × Nat)) (o : List (By × Nat)), (∀ p ∈ L, w < p.1) → L.foldl (putS w) (true, o) = (true, o ++ L)
  | [], o, _ => by simp
  | p :: L, o, h => by
    have h0 := h p List.mem_cons_self
    rw [List.foldl_cons]
    have e : putS w (true, o) p = (true, o ++ [p]) := by
      unfold putS
      have h2 : ¬ p.1 = w := fun e => by_ne h0 e.symm
      simp [h2]
    rw [e, foldl_gt w L _ (fun q hq => h q (List.mem_cons_of_mem _ hq))]
    simp
theorem put_split (w : By) : ∀ (L : List (By × Nat)), (L.map (·.1)).Pairwise (· < ·) → ∃ A B, (∀ p ∈ A, p.1 < w) ∧ (∀ p ∈ B, w < p.1) ∧ (L = A ++ B ∨ ∃ n, L = A ++ (w, n) :: B)
  | [], _ => ⟨[], [], by simp, by simp, .inl rfl⟩
  | p :: L, h => by
    rw [List.map_cons, List.pairwise_cons] at h
    obtain ⟨h1, h2⟩ := h
    have hgt : ∀ q ∈ L, p.1 < q.1 := fun q hq => h1 _ (List.mem_map.2 ⟨q, hq, rfl⟩)
    rcases by_tri p.1 w with h3 | h3 | h3
    · obtain ⟨A, B, q1, q2, q3⟩ := put_split w L h2
      refine ⟨p :: A, B, fun q hq => ?_, q2, ?_⟩
      · rcases List.mem_cons.1 hq with rfl | hq
        · exact h3
        · exact q1 q hq
      · rcases q3 with q3 | ⟨n, q3⟩
        · exact .inl (by rw [q3]; rfl)
        · exact .inr ⟨n, by rw [q3]; rfl⟩
    · refine ⟨[], L, by simp, fun q hq => by rw [← h3]; exact hgt q hq, .inr ⟨p.2, ?_⟩⟩
      obtain ⟨x, n⟩ := p
      simp only at h3
      subst h3
      rfl
    · exact ⟨[], p :: L, by simp, fun q hq => by
        rcases List.mem_cons.1 hq with rfl | hq
        · exact h3
        · exact List.lt_trans h3 (hgt q hq), .inl rfl⟩
theorem putR_new {w : By} {A B : List (By × Nat)} (hA : ∀ p ∈ A, p.1 < w) (hB : ∀ p ∈ B, w < p.1) : putR w (A ++ B) = A ++ (w, 1) :: B := by
  unfold putR
  rw [List.foldl_append, foldl_lt w A _ hA]
  cases B with
  | nil => simp
  | cons p B =>
    have h0 := hB p List.mem_cons_self
    have h2 : ¬ p.1 = w := fun e => by_ne h0 e.symm
    rw [List.foldl_cons]
    have e : putS w (false, [] ++ A) p = (true, A ++ [(w, 1), p]) := by
      unfold putS
      simp [h0, h2]
    rw [e, foldl_gt w B _ (fun q hq => hB q (List.mem_cons_of_mem _ hq))]
    simp
theorem putR_old {w : By} {n : Nat} {A B : List (By × Nat)} (hA : ∀ p ∈ A, p.1 < w) (hB : ∀ p ∈ B, w < p.1) : putR w (A ++ (w, n) :: B) = A ++ (w, n + 1) :: B := by
  unfold putR
  rw [List.foldl_append, foldl_lt w A _ hA, List.foldl_cons]
  have e : putS w (false, [] ++ A) (w, n) = (true, A ++ [(w, n + 1)]) := by
    unfold putS
    simp [List.lt_irrefl]
  rw [e, foldl_gt w B _ hB]
  simp

/-- The words, sorted, each with how often it stands. -/
structure SW (ws : List By) (L : List (By × Nat)) : Prop where
  sort : (L.map (·.1)).Pairwise (· < ·)
  mem : ∀ k, k ∈ L.map (·.1) ↔ k ∈ ws
  cnt : ∀ p ∈ L, p.2 = ws.count p.1
theorem SW.nil : SW [] [] := ⟨List.Pairwise.nil, fun k => by simp, fun p hp => by simp at hp⟩
theorem SW.build {ws : List By} {w : By} {A B : List (By × Nat)} {n : Nat} (hA : ∀ p ∈ A, p.1 < w) (hB : ∀ p ∈ B, w < p.1) (sA : (A.map (·.1)).Pairwise (· < ·)) (sB : (B.map (·.1)).Pairwise (· < ·)) (hm : ∀ k, (k ∈ A.map (·.1) ∨ k ∈ B.map (·.1) ∨ k = w) ↔ (k ∈ ws ∨ k = w))
    (cA : ∀ p ∈ A, p.2 = ws.count p.1) (cB : ∀ p ∈ B, p.2 = ws.count p.1) (hn : n = ws.count w + 1) : SW (ws ++ [w]) (A ++ (w, n) :: B) := by
  have ne : ∀ k : By, k ≠ w → (ws ++ [w]).count k = ws.count k := fun k hk => by
    rw [List.count_append, List.count_cons_of_ne (fun e => hk e.symm), List.count_nil, Nat.add_zero]
  refine ⟨?_, fun k => ?_, fun p hp => ?_⟩
  · rw [List.map_append, List.map_cons, List.pairwise_append]
    refine ⟨sA, List.pairwise_cons.2 ⟨fun k hk => ?_, sB⟩, fun a ha b hb => ?_⟩
    · obtain ⟨p, hp, rfl⟩ := List.mem_map.1 hk
      exact hB p hp
    · obtain ⟨p, hp, rfl⟩ := List.mem_map.1 ha
      rcases List.mem_cons.1 hb with rfl | hb
      · exact hA p hp
      · obtain ⟨q, hq, rfl⟩ := List.mem_map.1 hb
        exact List.lt_trans (hA p hp) (hB q hq)
  · rw [List.map_append, List.map_cons, List.mem_append, List.mem_cons, List.mem_append, List.mem_singleton, ← hm k]
    constructor
    · rintro (h | h | h)
      · exact .inl h
      · exact .inr (.inr h)
      · exact .inr (.inl h)
    · rintro (h | h | h)
      · exact .inl h
      · exact .inr (.inr h)
      · exact .inr (.inl h)
  · rcases List.mem_append.1 hp with hp | hp
    · rw [ne _ (by_ne (hA p hp))]
      exact cA p hp
    · rcases List.mem_cons.1 hp with rfl | hp
      · rw [hn, List.count_append, List.count_cons_self, List.count_nil]
      · rw [ne _ (fun e => by_ne (hB p hp) e.symm)]
        exact cB p hp
theorem SW.put {ws : List By} {L : List (By × Nat)} (h : SW ws L) (w : By) : SW (ws ++ [w]) (putR w L) := by
  obtain ⟨A, B, hA, hB, hL⟩ := put_split w L h.sort
  rcases hL with rfl | ⟨n, rfl⟩
  · rw [putR_new hA hB]
    have hs := h.sort
    rw [List.map_append, List.pairwise_append] at hs
    have hno : w ∉ ws := fun hw => by
      have := (h.mem w).2 hw
      rw [List.map_append, List.mem_append] at this
      rcases this with hq | hq
      · obtain ⟨p, hp, e⟩ := List.mem_map.1 hq
        exact by_ne (hA p hp) e
      · obtain ⟨p, hp, e⟩ := List.mem_map.1 hq
        exact by_ne (hB p hp) e.symm
    refine SW.build hA hB hs.1 hs.2.1 (fun k => ?_) (fun p hp => h.cnt p (List.mem_append.2 (.inl hp))) (fun p hp => h.cnt p (List.mem_append.2 (.inr hp))) (by rw [List.count_eq_zero.2 hno])
    rw [← or_assoc, ← List.mem_append, ← List.map_append, h.mem]
  · rw [putR_old hA hB]
    have hs := h.sort
    rw [List.map_append, List.map_cons, List.pairwise_append, List.pairwise_cons] at hs
    have hn := h.cnt (w, n) (by simp)
    refine SW.build hA hB hs.1 hs.2.1.2 (fun k => ?_) (fun p hp => h.cnt p (List.mem_append.2 (.inl hp))) (fun p hp => h.cnt p (List.mem_append.2 (.inr (List.mem_cons_of_mem _ hp)))) (by simp only at hn; omega)
    have := h.mem k
    rw [List.map_append, List.map_cons, List.mem_append, List.mem_cons] at this
    rw [← this]
    constructor
    · rintro (h | h | h)
      · exact .inl (.inl h)
      · exact .inl (.inr (.inr h))
      · exact .inr h
    · rintro ((h | h | h) | h)
      · exact .inl h
      · exact .inr (.inr h)
      · exact .inr (.inl h)
      · exact .inr (.inr h)
theorem SW.wds {ws : List By} {L : List (By × Nat)} (h : SW ws L) : Wds ws (L.map (·.1)) ∧ L.map (·.2) = (L.map (·.1)).map (fun k => ws.count k) := by
  refine ⟨⟨h.sort, h.mem⟩, ?_⟩
  rw [List.map_map]
  exact List.map_congr_left fun p hp => h.cnt p hp

/-- One character more: the word under way, and the words so far. -/
def wdS (s : By × List By) (c : UInt8) : By × List By := if ltB c = true then (s.1 ++ [c], s.2) else if s.1 = [] then ([], s.2) else ([], s.2 ++ [s.1])
theorem wdS_all : ∀ (T cur : By) (ws : List By), ((T ++ [32]).foldl wdS (cur, ws)).2 = ws ++ wdF T cur
  | [], cur, ws => by
    rw [List.nil_append, List.foldl_cons, List.foldl_nil, wdF]
    unfold wdS
    rw [if_neg (by decide)]
    by_cases h : cur = []
    · simp [h]
    · simp [h]
  | c :: T, cur, ws => by
    rw [List.cons_append, List.foldl_cons, wdF]
    by_cases h : ltB c = true
    · have e : wdS (cur, ws) c = (cur ++ [c], ws) := by unfold wdS; rw [if_pos h]
      rw [e, wdS_all T, if_pos h]
    · rw [if_neg h]
      by_cases h2 : cur = []
      · have e : wdS (cur, ws) c = ([], ws) := by unfold wdS; rw [if_neg h, if_pos h2]
        rw [e, wdS_all T, if_pos h2]
      · have e : wdS (cur, ws) c = ([], ws ++ [cur]) := by unfold wdS; rw [if_neg h, if_neg h2]
        rw [e, wdS_all T, if_neg h2, List.append_assoc]
        rfl
theorem wdS_take {T : By} {k : Nat} (hk : k < T.length) (s : By × List By) : (T.take (k + 1)).foldl wdS s = wdS ((T.take k).foldl wdS s) T[k] := by
  rw [List.take_succ_eq_append_getElem hk, List.foldl_append]
  rfl
theorem wdS_len : ∀ (T : By) (s : By × List By), (T.foldl wdS s).1.length ≤ s.1.length + T.length ∧ (T.foldl wdS s).2.length ≤ s.2.length + T.length
  | [], s => by simp
  | c :: T, s => by
    rw [List.foldl_cons]
    obtain ⟨h1, h2⟩ := wdS_len T (wdS s c)
    have : (wdS s c).1.length ≤ s.1.length + 1 ∧ (wdS s c).2.length ≤ s.2.length + 1 := by
      unfold wdS
      split
      · simp
      · split
        · simp
        · simp
    rw [List.length_cons]
    omega
end Go.Proofs.Ytlmgogonghafeab
