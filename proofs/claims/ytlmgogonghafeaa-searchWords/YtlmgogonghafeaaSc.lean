/-
  places: the marks of a pattern.
-/
import Derived.Test.YtlmgogonghafeaaSb
import Derived.WalkMore
import Derived.Deep.DeepCutAuto
namespace Go.Proofs.Ytlmgogonghafeaa
open Go.RowKit Go.Shelf Go.Lib
set_option linter.unusedVariables false
attribute [local go_sem] Oper.semAt_some

theorem zeroM : Try.zeroCells91 = mkc (fun _ => 0) := by kernel_rfl
/-- Within the loop over the pattern. -/
structure MkS (w : World) (B : Nat) (most : Int) (s : ByteArray) (k : Nat) (M : Nat → Nat) (W : World) : Prop where
  mb : W.heap[B]? = some (.cells #[.int .i64 most] 3 (0, 0))
  mrk : W.heap[B + 1]? = some (.cells (mkc M) 91 (0, 0))
  it : W.heap[B + 1 + 1]? = some (.stringIter s k)
  sz : W.heap.size = B + 1 + 1 + 1
  bel : Below B w W
  ok : ∀ c : UInt8, MK s.data.toList k c (M c.toNat)
theorem MkS.start (w : World) (most : Int) (s : ByteArray) : MkS w w.heap.size most s 0 (fun _ => 0) (((w.alloc (.cells #[.int .i64 most] 3)).alloc (.cells Try.zeroCells91 91)).iter s 0) := by
  have b1 : Below w.heap.size w (w.alloc (.cells #[.int .i64 most] 3)) := (Below.refl _ _).alloc (Nat.le_refl _) _
  have b2 : Below w.heap.size w ((w.alloc (.cells #[.int .i64 most] 3)).alloc (.cells Try.zeroCells91 91)) := b1.alloc (by simp) _
  have e : ∀ u : World, u.iter s 0 = u.alloc (.stringIter s 0) := fun u => rfl
  rw [e]
  refine ⟨?_, ?_, ?_, by simp, b2.alloc (by simp; omega) _, fun c => MK.zero⟩
  · exact (Below.heap_alloc _ _ _ (by simp; omega)).trans ((Below.heap_alloc _ _ _ (by simp)).trans (heap_alloc_new w _))
  · rw [← zeroM]
    refine (Below.heap_alloc _ _ _ (by simp)).trans ?_
    have := heap_alloc_new (w.alloc (.cells #[.int .i64 most] 3)) (.cells Try.zeroCells91 91)
    rwa [World.size_alloc] at this
  · have := heap_alloc_new ((w.alloc (.cells #[.int .i64 most] 3)).alloc (.cells Try.zeroCells91 91)) (.stringIter s 0)
    rwa [World.size_alloc, World.size_alloc] at this
theorem MkS.next {w W : World} {B k : Nat} {most : Int} {s : ByteArray} {M : Nat → Nat} (h : MkS w B most s k M W) (hk : k < s.size) (h64 : s.size ≤ 64) (W2 : World) (hW : W2 = W.iterAt (B + 1 + 1) s (k + 1)) :
    MkS w B most s (k + 1) (fun c => if c = (s[k]'hk).toNat then M c ||| 2 ^ k else M c) (W2.setCell ⟨B + 1, (s[k]'hk).toNat, none⟩ (.int .u64 ((M (s[k]'hk).toNat ||| 2 ^ k : Nat) : Int))) := by
  have e0 : ∀ j, j ≠ B + 1 + 1 → W2.heap[j]? = W.heap[j]? := fun j hj => by
    rw [hW]
    unfold World.iterAt
    simp only []
    rw [Array.getElem?_setIfInBounds_ne (Ne.symm hj)]
  have e1 : W2.heap[B + 1 + 1]? = some (.stringIter s (k + 1)) := by rw [hW]; exact iterAt_heap W (B + 1 + 1) s k (k + 1) h.it
  have hs : W2.heap.size = W.heap.size := by rw [hW]; simp [World.iterAt]
  have hF2 : Fr (fun j => j = B + 1 + 1) W W2 := ⟨by rw [hW]; rfl, by rw [hW]; rfl, by rw [hW]; rfl, by omega, fun j _ hj => e0 j hj⟩
  have hF : Fr (fun j => j = B + 1) W2 (W2.setCell ⟨B + 1, (s[k]'hk).toNat, none⟩ (.int .u64 ((M (s[k]'hk).toNat ||| 2 ^ k : Nat) : Int))) := Fr.setCell W2 _ _ rfl
  have hc : (s[k]'hk).toNat < 256 := (s[k]'hk).toNat_lt
  have hBw : B ≤ W.heap.size := by have := h.sz; omega
  refine ⟨hF.keeps ((e0 B (by omega)).trans h.mb) (by omega), ?_, hF.keeps e1 (by omega), by rw [World.size_setCell]; rw [hs]; exact h.sz, (h.bel.trans (hF2.below hBw (fun j e => by omega))).trans (hF.below (by omega) (fun j e => by omega)), fun c => ?_⟩
  · have := set_row ((e0 (B + 1) (by omega)).trans h.mrk) (s[k]'hk).toNat (.int .u64 ((M (s[k]'hk).toNat ||| 2 ^ k : Nat) : Int))
    rw [mkc_set _ _ _ hc] at this
    rw [this]
    congr 3
    funext c
    by_cases e : c = (s[k]'hk).toNat
    · subst e; simp
    · simp [e]
  · have hg : s.data.toList[k]? = some (s[k]'hk) := by
      rw [List.getElem?_eq_getElem (by simpa using hk)]
      rfl
    by_cases e : c = s[k]'hk
    · subst e
      simp only [if_true]
      exact (h.ok _).same hg
    · have e' : c.toNat ≠ (s[k]'hk).toNat := fun h => e (UInt8.toNat_inj.1 h)
      simp only [e', if_false]
      refine (h.ok c).other ?_
      rw [hg]
      exact fun e2 => e (Option.some.inj e2).symm

theorem or_val (M k : Nat) (hM : M < 2 ^ k) (hk : k < 64) : bits .or .u64 ((M : Nat) : Int) (2 ^ k) = ((M ||| 2 ^ k : Nat) : Int) := by
  have h2 : 2 ^ k < 18446744073709551616 := by
    have := Nat.pow_lt_pow_right (a := 2) (by omega) hk
    simpa using this
  have := bits_or_u64_nat M (2 ^ k) (by omega) h2
  simpa using this
theorem shl_val (k : Nat) (hk : k < 64) : IntKind.u64.wrap (2 ^ k) = 2 ^ k := by
  have h2 : 2 ^ k < 18446744073709551616 := by
    have := Nat.pow_lt_pow_right (a := 2) (by omega) hk
    simpa using this
  rw [IntKind.wrap_u64]
  have : ((2 : Int) ^ k) = ((2 ^ k : Nat) : Int) := by simp
  rw [this]
  generalize 2 ^ k = q at *
  omega

theorem MkS.drew {w W : World} {B k : Nat} {most : Int} {s : ByteArray} {M : Nat → Nat} (h : MkS w B most s k M W) : MkS w B most s k M W.drew := ⟨h.mb, h.mrk, h.it, h.sz, ⟨h.bel.os, h.bel.tape, h.bel.output, h.bel.size, h.bel.block⟩, h.ok⟩
theorem MkS.ip {w W : World} {B k : Nat} {most : Int} {s : ByteArray} {M : Nat → Nat} (h : MkS w B most s k M W) : W.iterPos (B + 1 + 1) = k := by simp [World.iterPos, h.it]

set_option maxRecDepth 100000 in
set_option maxHeartbeats 8000000 in
theorem from_any (a : Option Addr) (n c : Nat) (pos : Int) (w : World) :
    Calls Try.prog 46 #[.slice a n c, .int .i64 pos] w fun e w' => e = .returned (.func (.func 60) #[] #[.pointer (some ⟨w.heap.size, 0, none⟩), .pointer (some ⟨w.heap.size + 1, 0, none⟩)]) ∧ w' = (w.alloc (.cells #[.slice a n c] 71)).alloc (.cells #[.int .i64 pos] 3) := by
  go_enter Try.func46, Try.ntmps46
  go_wp2
  go_ret
  exact ⟨rfl, rfl⟩

/-- What stands ahead of the range. -/
theorem MkS.ends {w W : World} {most last pos : Int} {s : ByteArray} {M : Nat → Nat} {k : Nat} {a : Option Addr} {n c : Nat} (h : MkS w w.heap.size most s k M W) :
    PlS w w.heap.size most last M a n c pos 0 (.slice none 0 0) [] (((((W.alloc (.cells #[.slice none 0 0] 27)).alloc (.cells #[.int .u64 0] 90)).alloc (.cells #[.int .i64 last] 3)).alloc (.cells #[.slice a n c] 71)).alloc (.cells #[.int .i64 pos] 3)) := by
  have e3 : W.heap.size = w.heap.size + 3 := h.sz
  have b0 : Below W.heap.size W (((((W.alloc (.cells #[.slice none 0 0] 27)).alloc (.cells #[.int .u64 0] 90)).alloc (.cells #[.int .i64 last] 3)).alloc (.cells #[.slice a n c] 71)).alloc (.cells #[.int .i64 pos] 3)) :=
    (((((Below.refl _ _).alloc (Nat.le_refl _) _).alloc (by simp) _).alloc (by simp; omega) _).alloc (by simp; omega) _).alloc (by simp; omega) _
  refine ⟨(b0.block _ (block_lt h.mb)).trans h.mb, (b0.block _ (block_lt h.mrk)).trans h.mrk, ?_, ?_, ?_, ?_, ?_, ⟨none, ⟨rfl, rfl⟩, fun g hg => by cases hg⟩, h.bel.trans (b0.mono h.bel.size)⟩
  · have := heap_alloc_new W (.cells #[.slice none 0 0] 27)
    rw [e3] at this
    exact (Below.heap_alloc _ _ _ (by simp; omega)).trans ((Below.heap_alloc _ _ _ (by simp; omega)).trans ((Below.heap_alloc _ _ _ (by simp; omega)).trans ((Below.heap_alloc _ _ _ (by simp; omega)).trans this)))
  · have := heap_alloc_new (W.alloc (.cells #[.slice none 0 0] 27)) (.cells #[.int .u64 0] 90)
    rw [World.size_alloc, e3] at this
    exact (Below.heap_alloc _ _ _ (by simp; omega)).trans ((Below.heap_alloc _ _ _ (by simp; omega)).trans ((Below.heap_alloc _ _ _ (by simp; omega)).trans this))
  · have := heap_alloc_new ((W.alloc (.cells #[.slice none 0 0] 27)).alloc (.cells #[.int .u64 0] 90)) (.cells #[.int .i64 last] 3)
    rw [World.size_alloc, World.size_alloc, e3] at this
    exact (Below.heap_alloc _ _ _ (by simp; omega)).trans ((Below.heap_alloc _ _ _ (by simp; omega)).trans this)
  · have := heap_alloc_new (((W.alloc (.cells #[.slice none 0 0] 27)).alloc (.cells #[.int .u64 0] 90)).alloc (.cells #[.int .i64 last] 3)) (.cells #[.slice a n c] 71)
    rw [World.size_alloc, World.size_alloc, World.size_alloc, e3] at this
    exact (Below.heap_alloc _ _ _ (by simp; omega)).trans this
  · have := heap_alloc_new ((((W.alloc (.cells #[.slice none 0 0] 27)).alloc (.cells #[.int .u64 0] 90)).alloc (.cells #[.int .i64 last] 3)).alloc (.cells #[.slice a n c] 71)) (.cells #[.int .i64 pos] 3)
    rw [World.size_alloc, World.size_alloc, World.size_alloc, World.size_alloc, e3] at this
    exact this

end Go.Proofs.Ytlmgogonghafeaa
