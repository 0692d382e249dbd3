/-
  Two outboxes of the program and two of the document, that share nothing; sameItems, site.
-/
import Derived.Test.YtocpfioifamkmabKb
import Derived.Test.YtocpfioifamkmabBc
import Derived.Deep.QuietTactic
import Derived.BigQuiet
namespace Go.Proofs.Ytocpfioifamkmab
open Go.RowKit
set_option linter.unusedVariables false

set_option maxRecDepth 100000 in
set_option maxHeartbeats 4000000 in
theorem sameItems_true (b b' : Nat) (u u' : Value) (xs : List (Int × Int)) (w : World) (h1 : IL w b u xs) (h2 : RL w b' u' xs) (hn : xs.length ≤ 4096) :
    Calls Try.prog 23 #[u, u'] w fun e w' => e = .returned (.bool true) ∧ Below w.heap.size w w' := by
  obtain ⟨g, c, rfl, hR, -, hc2, hc⟩ := h1.form
  obtain ⟨β, hS, -⟩ := h2
  obtain ⟨a, c', rfl, hc3, hc4⟩ := hS.form
  obtain ⟨n, hl⟩ : ∃ n, xs.length = n := ⟨_, rfl⟩
  rw [hl] at hR hc hn hc3 hS ⊢
  have HR := hd hR
  have HS := hd hS
  have HL := hd hl
  clear hR hS hl h1
  go_enter Try.func23, Try.ntmps23
  go_wp2_with fail
  go_loopw [5] (fun v wr => ∃ k : Nat, k ≤ n ∧ v = .int .i64 k ∧ Hid (Below w.heap.size w wr)) (fun v _ => n - (intOf v).toNat)
  case atStart => exact ⟨0, Nat.zero_le _, rfl, Below.refl _ _⟩
  case round =>
    obtain ⟨i, hi, rfl, HB⟩ := hrel
    by_cases hlt : i < n
    · have hil : i < xs.length := by have := HL.out; omega
      have R1 := HR.out.fr (S := fun _ => False) (Fr.of_below HB.out) (fun h => h)
      have S1 := SF.fr (S := fun _ => False) HS.out (Fr.of_below HB.out) (fun _ _ h => h)
      have c0 : wr.cell? ⟨g, i * 2, none⟩ = some (.int .i64 xs[i].1) := by
        have := R1.cell sz_it i 0 hil (by omega)
        simpa [it] using this
      have c1 : wr.cell? ⟨g, i * 2 + 1, none⟩ = some (.int .i64 xs[i].2) := by
        have := R1.cell sz_it i 1 hil (by omega)
        simpa [it] using this
      obtain ⟨γ, rfl, d0, d1⟩ : ∃ γ, a = some ⟨γ, 0, none⟩ ∧ wr.cell? ⟨γ, i * 2, none⟩ = some (.int .i64 xs[i].1) ∧ wr.cell? ⟨γ, i * 2 + 1, none⟩ = some (.int .i64 xs[i].2) := by
        cases β with
        | none =>
          have := S1.2
          rw [this] at hil
          simp at hil
        | some γ =>
          obtain ⟨cap, e1, e2⟩ := S1
          injection e1 with e1 e3 e4
          refine ⟨γ, e1, ?_, ?_⟩
          · have := e2.cell sz_it i 0 hil (by omega)
            simpa [it] using this
          · have := e2.cell sz_it i 1 hil (by omega)
            simpa [it] using this
      have i1 : (i : Int) < (n : Int) := by omega
      clear R1 S1
      generalize xs[i].1 = z0 at c0 d0
      generalize xs[i].2 = z1 at c1 d1
      clear hil
      go_wp2_with fail
      go_quiet (fail)
      go_wp2_with fail
      exact ⟨⟨i + 1, by omega, by go_num, by repeat (first | exact HB.out | refine Below.drew ?_ | refine below_drewN ?_ _)⟩, by simp [intOf]; omega⟩
    · have i1 : ¬ (i : Int) < (n : Int) := by omega
      go_wp2
      go_ret
      exact ⟨rfl, HB.out⟩

/-- Two of the program and two of the document; the blocks of K are none of theirs. -/
structure PA (w0 w : World) (K : Nat → Prop) (N : Nat) (X Y : Nat → Nat) (px py : Nat → St) : Prop where
  tags : ∃ T : Nat → Nat, (∀ i, i < N → ∃ S, BoxAt w (X i) (px i) S ∧ ∀ k, S k → T k = 2 * i + 1 ∧ w0.heap.size ≤ k) ∧ (∀ i, i < N → ∃ S, RAt w (Y i) (py i) S ∧ ∀ k, S k → T k = 2 * i + 2 ∧ w0.heap.size ≤ k) ∧ ∀ k, K k → T k = 0
  base : Below w0.heap.size w0 w
  old : ∀ k, K k → k < w.heap.size

def tagN (n i : Nat) (T : Nat → Nat) : Nat → Nat := fun k => if n ≤ k then i else T k
theorem tag_new {n i k : Nat} {T : Nat → Nat} (h : n ≤ k) : tagN n i T k = i := by simp [tagN, h]
theorem tag_old {n i k : Nat} {T : Nat → Nat} (h : k < n) : tagN n i T k = T k := by simp [tagN]; omega
theorem site_two (n : Int) : bits .and .i64 n 1 = n % 2 := by
  have h1 : (BitVec.ofInt 64 1).toNat = 2 ^ 1 - 1 := by decide
  have key : (BitVec.ofInt 64 n &&& BitVec.ofInt 64 1).toNat = (n % ((2 ^ 64 : Nat) : Int)).toNat % 2 ^ 1 := by
    rw [BitVec.toNat_and, BitVec.toNat_ofInt, h1, Nat.and_two_pow_sub_one_eq_mod]
  show IntKind.i64.wrap ((BitVec.ofInt 64 n &&& BitVec.ofInt 64 1).toNat : Nat) = n % 2
  rw [key, IntKind.wrap_i64]
  omega
theorem site_any (n : Int) (w : World) : Calls Try.prog 8 #[.int .i64 n] w fun e w' => e = .returned (.int .i64 ((n % 2).toNat : Nat)) ∧ w' = w := by
  have h := site_two n
  have h2 : n % 2 = ((n % 2).toNat : Nat) := by omega
  rw [h2] at h
  generalize (n % 2).toNat = i at h
  clear h2
  go_enter Try.func8, Try.ntmps8
  go_wp2
  go_ret
  exact ⟨rfl, rfl⟩

def upd {α : Type} (f : Nat → α) (i : Nat) (a : α) : Nat → α := fun j => if j = i then a else f j
theorem upd_same {α : Type} (f : Nat → α) (i : Nat) (a : α) : upd f i a i = a := by simp [upd]
theorem upd_self {α : Type} (f : Nat → α) (i : Nat) : upd f i (f i) = f := by
  funext j
  unfold upd
  split
  · next h => rw [h]
  · rfl
theorem upd_upd {α : Type} (f : Nat → α) (i : Nat) (a b : α) : upd (upd f i a) i b = upd f i b := by
  funext j
  unfold upd
  split <;> rfl

section
variable {w0 w w' : World} {K : Nat → Prop} {N : Nat} {X Y : Nat → Nat} {px py : Nat → St}

theorem PA.adds {K' : Nat → Prop} (h : PA w0 w K N X Y px py) (hb : Below w.heap.size w w') (h1 : ∀ k, K' k → K k ∨ w.heap.size ≤ k) (h2 : ∀ k, K' k → k < w'.heap.size) : PA w0 w' K' N X Y px py := by
  obtain ⟨T, hx, hy, hk⟩ := h.tags
  refine ⟨⟨tagN w.heap.size 0 T, fun i hi => ?_, fun i hi => ?_, fun k hk' => ?_⟩, h.base.trans (hb.mono h.base.size), h2⟩
  · obtain ⟨S, h3, h4⟩ := hx i hi
    exact ⟨S, h3.below hb, fun k hk => ⟨by have := h3.old k hk; rw [tag_old (by omega)]; exact (h4 k hk).1, (h4 k hk).2⟩⟩
  · obtain ⟨S, h3, h4⟩ := hy i hi
    exact ⟨S, h3.below hb, fun k hk => ⟨by have := h3.old k hk; rw [tag_old (by omega)]; exact (h4 k hk).1, (h4 k hk).2⟩⟩
  · by_cases hn : w.heap.size ≤ k
    · rw [tag_new hn]
    · rw [tag_old (by omega)]
      rcases h1 k hk' with h5 | h5
      · exact hk k h5
      · exact absurd h5 hn
theorem PA.below (h : PA w0 w K N X Y px py) (hb : Below w.heap.size w w') : PA w0 w' K N X Y px py ∧ KP K w w' :=
  ⟨h.adds hb (fun k hk => .inl hk) (fun k hk => Nat.lt_of_lt_of_le (h.old k hk) hb.size), fun k hk => hb.block k (h.old k hk)⟩
theorem PA.less {K' : Nat → Prop} (h : PA w0 w K N X Y px py) (h1 : ∀ k, K' k → K k) : PA w0 w K' N X Y px py := h.adds (Below.refl _ _) (fun k hk => .inl (h1 k hk)) (fun k hk => h.old k (h1 k hk))

theorem PA.nowX (h : PA w0 w K N X Y px py) {i : Nat} (hi : i < N) : ∃ S, BoxAt w (X i) (px i) S ∧ ∀ p' w', Now w w' (X i) p' S → PA w0 w' K N X Y (upd px i p') py ∧ KP K w w' := by
  obtain ⟨T, hx, hy, hk⟩ := h.tags
  obtain ⟨S, h1, h2⟩ := hx i hi
  refine ⟨S, h1, fun p' w' hN => ?_⟩
  obtain ⟨S', h3, h4, h5⟩ := hN
  have hs := h.base.size
  refine ⟨⟨⟨tagN w.heap.size (2 * i + 1) T, fun j hj => ?_, fun j hj => ?_, fun k hk' => ?_⟩, h.base.trans (h5.below hs (fun k hk => (h2 k hk).2)), fun k hk => Nat.lt_of_lt_of_le (h.old k hk) h5.size⟩, fun k hk' => h5.block k (h.old k hk') (fun hS => by have := (h2 k hS).1; have := hk k hk'; omega)⟩
  · by_cases hji : j = i
    · subst hji
      rw [upd_same]
      refine ⟨S', h3, fun k hk => ?_⟩
      rcases h4 k hk with h6 | h6
      · have := h1.old k h6
        rw [tag_old (by omega)]
        exact h2 k h6
      · rw [tag_new h6]
        exact ⟨rfl, by omega⟩
    · obtain ⟨Sj, h6, h7⟩ := hx j hj
      refine ⟨Sj, ?_, fun k hk => ?_⟩
      · rw [show upd px i p' j = px j by simp [upd, hji]]
        exact h6.fr h5 (fun k hk hs => by have := (h2 k hs).1; have := (h7 k hk).1; omega)
      · have := h6.old k hk
        rw [tag_old (by omega)]
        exact h7 k hk
  · obtain ⟨Sj, h6, h7⟩ := hy j hj
    refine ⟨Sj, h6.fr h5 (fun k hk hs => by have := (h2 k hs).1; have := (h7 k hk).1; omega), fun k hk => ?_⟩
    have := h6.old k hk
    rw [tag_old (by omega)]
    exact h7 k hk
  · have := h.old k hk'
    rw [tag_old (by omega)]
    exact hk k hk'

theorem PA.nowY (h : PA w0 w K N X Y px py) {i : Nat} (hi : i < N) : ∃ S, RAt w (Y i) (py i) S ∧ ∀ p' w', RNow w w' (Y i) p' S → PA w0 w' K N X Y px (upd py i p') ∧ KP K w w' := by
  obtain ⟨T, hx, hy, hk⟩ := h.tags
  obtain ⟨S, h1, h2⟩ := hy i hi
  refine ⟨S, h1, fun p' w' hN => ?_⟩
  obtain ⟨S', h3, h4, h5⟩ := hN
  have hs := h.base.size
  refine ⟨⟨⟨tagN w.heap.size (2 * i + 2) T, fun j hj => ?_, fun j hj => ?_, fun k hk' => ?_⟩, h.base.trans (h5.below hs (fun k hk => (h2 k hk).2)), fun k hk => Nat.lt_of_lt_of_le (h.old k hk) h5.size⟩, fun k hk' => h5.block k (h.old k hk') (fun hS => by have := (h2 k hS).1; have := hk k hk'; omega)⟩
  · obtain ⟨Sj, h6, h7⟩ := hx j hj
    refine ⟨Sj, h6.fr h5 (fun k hk hs => by have := (h2 k hs).1; have := (h7 k hk).1; omega), fun k hk => ?_⟩
    have := h6.old k hk
    rw [tag_old (by omega)]
    exact h7 k hk
  · by_cases hji : j = i
    · subst hji
      rw [upd_same]
      refine ⟨S', h3, fun k hk => ?_⟩
      rcases h4 k hk with h6 | h6
      · have := h1.old k h6
        rw [tag_old (by omega)]
        exact h2 k h6
      · rw [tag_new h6]
        exact ⟨rfl, by omega⟩
    · obtain ⟨Sj, h6, h7⟩ := hy j hj
      refine ⟨Sj, ?_, fun k hk => ?_⟩
      · rw [show upd py i p' j = py j by simp [upd, hji]]
        exact h6.fr h5 (fun k hk hs => by have := (h2 k hs).1; have := (h7 k hk).1; omega)
      · have := h6.old k hk
        rw [tag_old (by omega)]
        exact h7 k hk
  · have := h.old k hk'
    rw [tag_old (by omega)]
    exact hk k hk'

/-- New ones take the place i. -/
theorem PA.put {N' i x y m : Nat} {p : St} {Sx Sy : Nat → Prop} (h : PA w0 w K N X Y px py) (hb : Below w.heap.size w w') (hx : BoxAt w' x p Sx) (hx1 : ∀ k, Sx k → w.heap.size ≤ k ∧ k < m) (hy : RAt w' y p Sy) (hy1 : ∀ k, Sy k → w.heap.size ≤ k ∧ m ≤ k) (hN : ∀ j, j < N' → j ≠ i → j < N) :
    PA w0 w' K N' (upd X i x) (upd Y i y) (upd px i p) (upd py i p) := by
  obtain ⟨T, h1, h2, hk⟩ := h.tags
  have hs := h.base.size
  refine ⟨⟨fun k => if k < w.heap.size then T k else if k < m then 2 * i + 1 else 2 * i + 2, fun j hj => ?_, fun j hj => ?_, fun k hk' => ?_⟩, h.base.trans (hb.mono hs), fun k hk => Nat.lt_of_lt_of_le (h.old k hk) hb.size⟩
  · by_cases hji : j = i
    · subst hji
      rw [upd_same, upd_same]
      refine ⟨Sx, hx, fun k hk => ?_⟩
      have := hx1 k hk
      have e : (if k < w.heap.size then T k else if k < m then 2 * j + 1 else 2 * j + 2) = 2 * j + 1 := by rw [if_neg (by omega), if_pos this.2]
      exact ⟨e, by omega⟩
    · obtain ⟨S, h3, h4⟩ := h1 j (hN j hj hji)
      refine ⟨S, ?_, fun k hk => ?_⟩
      · rw [show upd X i x j = X j by simp [upd, hji], show upd px i p j = px j by simp [upd, hji]]
        exact h3.below hb
      · have := h3.old k hk
        have e : (if k < w.heap.size then T k else if k < m then 2 * i + 1 else 2 * i + 2) = T k := by rw [if_pos this]
        exact ⟨e.trans (h4 k hk).1, (h4 k hk).2⟩
  · by_cases hji : j = i
    · subst hji
      rw [upd_same, upd_same]
      refine ⟨Sy, hy, fun k hk => ?_⟩
      have := hy1 k hk
      have e : (if k < w.heap.size then T k else if k < m then 2 * j + 1 else 2 * j + 2) = 2 * j + 2 := by rw [if_neg (by omega), if_neg (by omega)]
      exact ⟨e, by omega⟩
    · obtain ⟨S, h3, h4⟩ := h2 j (hN j hj hji)
      refine ⟨S, ?_, fun k hk => ?_⟩
      · rw [show upd Y i y j = Y j by simp [upd, hji], show upd py i p j = py j by simp [upd, hji]]
        exact h3.below hb
      · have := h3.old k hk
        have e : (if k < w.heap.size then T k else if k < m then 2 * i + 1 else 2 * i + 2) = T k := by rw [if_pos this]
        exact ⟨e.trans (h4 k hk).1, (h4 k hk).2⟩
  · have := h.old k hk'
    have e : (if k < w.heap.size then T k else if k < m then 2 * i + 1 else 2 * i + 2) = T k := by rw [if_pos this]
    exact e.trans (hk k hk')

/-- A write into a block of K. -/
theorem PA.write (h : PA w0 w K N X Y px py) (g i : Nat) (v : Value) (hg : K g) (hg0 : w0.heap.size ≤ g) : PA w0 (w.setCell ⟨g, i, none⟩ v) K N X Y px py := by
  obtain ⟨T, h1, h2, hk⟩ := h.tags
  have hF : Fr (· = g) w (w.setCell ⟨g, i, none⟩ v) := Fr.setCell _ _ _ rfl
  refine ⟨⟨T, fun j hj => ?_, fun j hj => ?_, hk⟩, h.base.trans (hF.below h.base.size (fun k hk => by omega)), fun k hk => Nat.lt_of_lt_of_le (h.old k hk) hF.size⟩
  · obtain ⟨S, h3, h4⟩ := h1 j hj
    exact ⟨S, h3.fr hF (fun k hk' he => by have := (h4 k hk').1; rw [he] at this; have := hk g hg; omega), h4⟩
  · obtain ⟨S, h3, h4⟩ := h2 j hj
    exact ⟨S, h3.fr hF (fun k hk' he => by have := (h4 k hk').1; rw [he] at this; have := hk g hg; omega), h4⟩
end

end Go.Proofs.Ytocpfioifamkmab
