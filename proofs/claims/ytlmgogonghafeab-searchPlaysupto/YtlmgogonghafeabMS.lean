/-
  Texts put together: Sc Sd.
-/
import Derived.Test.YtlmgogonghafeabMA
import Derived.WalkMore
import Derived.Deep.DeepCutAuto
/-! Sc -/
namespace Go.Proofs.Ytlmgogonghafeab
open Go.RowKit Go.Shelf Go.Lib
set_option linter.unusedVariables false
attribute [local go_sem] Oper.semAt_some

theorem zeroM : Try.zeroCells102 = mkc (fun _ => 0) := by kernel_rfl
/-- Within the loop over the pattern. -/
structure MkS (w : World) (B : Nat) (most : Int) (s : ByteArray) (k : Nat) (M : Nat → Nat) (W : World) : Prop where
  mb : W.heap[B]? = some (.cells #[.int .i64 most] 3 (0, 0))
  mrk : W.heap[B + 1]? = some (.cells (mkc M) 102 (0, 0))
  it : W.heap[B + 1 + 1]? = some (.stringIter s k)
  sz : W.heap.size = B + 1 + 1 + 1
  bel : Below B w W
  ok : ∀ c : UInt8, MK s.data.toList k c (M c.toNat)
theorem MkS.start (w : World) (most : Int) (s : ByteArray) : MkS w w.heap.size most s 0 (fun _ => 0) (((w.alloc (.cells #[.int .i64 most] 3)).alloc (.cells Try.zeroCells102 102)).iter s 0) := by
  have b1 : Below w.heap.size w (w.alloc (.cells #[.int .i64 most] 3)) := (Below.refl _ _).alloc (Nat.le_refl _) _
  have b2 : Below w.heap.size w ((w.alloc (.cells #[.int .i64 most] 3)).alloc (.cells Try.zeroCells102 102)) := b1.alloc (by simp) _
  have e : ∀ u : World, u.iter s 0 = u.alloc (.stringIter s 0) := fun u => rfl
  rw [e]
  refine ⟨?_, ?_, ?_, by simp, b2.alloc (by simp; omega) _, fun c => MK.zero⟩
  · exact (Below.heap_alloc _ _ _ (by simp; omega)).trans ((Below.heap_alloc _ _ _ (by simp)).trans (heap_alloc_new w _))
  · rw [← zeroM]
    refine (Below.heap_alloc _ _ _ (by simp)).trans ?_
    have := heap_alloc_new (w.alloc (.cells #[.int .i64 most] 3)) (.cells Try.zeroCells102 102)
    rwa [World.size_alloc] at this
  · have := heap_alloc_new ((w.alloc (.cells #[.int .i64 most] 3)).alloc (.cells Try.zeroCells102 102)) (.stringIter s 0)
    rwa [World.size_alloc, World.size_alloc] at this
theorem MkS.next {w W : World} {B k : Nat} {most : Int} {s : ByteArray} {M : Nat → Nat} (h : MkS w B most s k M W) (hk : k < s.size) (h64 : s.size ≤ 64) (W2 : World) (hW : W2 = W.iterAt (B + 1 + 1) s (k + 1)) :
    MkS w B most s (k + 1) (fun c => if c = (s[k]'hk).toNat then M c ||| 2 ^ k else M c) (W2.setCell ⟨B + 1, (s[k]'hk).toNat, none⟩ (.int .u64 ((M (s[k]'hk).toNat ||| 2 ^ k : Nat) : Int))) := by
  have e0 : ∀ j, j ≠ B + 1 + 1 → W2.heap[j]? = W.heap[j]? := fun j hj => by
    rw [hW]
    unfold World.iterAt
    simp only []
    rw [Array.getElem?_setIfInBounds_ne (Ne.symm hj)]
  have e1 : W2.heap[B + 1 + 1]? = some (.stringIter s (k + 1)) := by rw [hW]; exact iterAt_heap W (B + 1 + 1) s k (k + 1) h.it
  have hs : W2.heap.size = W.heap.size := by rw [hW]; simp [World.iterAt]
  have hF2 : Fr (fun j => j = B + 1 + 1) W W2 := ⟨by rw [hW]; rfl, by rw [hW]; rfl, by rw [hW]; rfl, by omega, fun j _ hj => e0 j hj⟩
  have hF : Fr (fun j => j = B + 1) W2 (W2.setCell ⟨B + 1, (s[k]'hk).toNat, none⟩ (.int .u64 ((M (s[k]'hk).toNat ||| 2 ^ k : Nat) : Int))) := Fr.setCell W2 _ _ rfl
  have hc : (s[k]'hk).toNat < 256 := (s[k]'hk).toNat_lt
  have hBw : B ≤ W.heap.size := by have := h.sz; omega
  refine ⟨hF.keeps ((e0 B (by omega)).trans h.mb) (by omega), ?_, hF.keeps e1 (by omega), by rw [World.size_setCell]; rw [hs]; exact h.sz, (h.bel.trans (hF2.below hBw (fun j e => by omega))).trans (hF.below (by omega) (fun j e => by omega)), fun c => ?_⟩
  · have := set_row ((e0 (B + 1) (by omega)).trans h.mrk) (s[k]'hk).toNat (.int .u64 ((M (s[k]'hk).toNat ||| 2 ^ k : Nat) : Int))
    rw [mkc_set _ _ _ hc] at this
    rw [this]
    congr 3
    funext c
    by_cases e : c = (s[k]'hk).toNat
    · subst e; simp
    · simp [e]
  · have hg : s.data.toList[k]? = some (s[k]'hk) := by
      rw [List.getElem?_eq_getElem (by simpa using hk)]
      rfl
    by_cases e : c = s[k]'hk
    · subst e
      simp only [if_true]
      exact (h.ok _).same hg
    · have e' : c.toNat ≠ (s[k]'hk).toNat := fun h => e (UInt8.toNat_inj.1 h)
      simp only [e', if_false]
      refine (h.ok c).other ?_
      rw [hg]
      exact fun e2 => e (Option.some.inj e2).symm

theorem or_val (M k : Nat) (hM : M < 2 ^ k) (hk : k < 64) : bits .or .u64 ((M : Nat) : Int) (2 ^ k) = ((M ||| 2 ^ k : Nat) : Int) := by
  have h2 : 2 ^ k < 18446744073709551616 := by
    have := Nat.pow_lt_pow_right (a := 2) (by omega) hk
    simpa using this
  have := bits_or_u64_nat M (2 ^ k) (by omega) h2
  simpa using this
theorem shl_val (k : Nat) (hk : k < 64) : IntKind.u64.wrap (2 ^ k) = 2 ^ k := by
  have h2 : 2 ^ k < 18446744073709551616 := by
    have := Nat.pow_lt_pow_right (a := 2) (by omega) hk
    simpa using this
  rw [IntKind.wrap_u64]
  have : ((2 : Int) ^ k) = ((2 ^ k : Nat) : Int) := by simp
  rw [this]
  generalize 2 ^ k = q at *
  omega

theorem MkS.drew {w W : World} {B k : Nat} {most : Int} {s : ByteArray} {M : Nat → Nat} (h : MkS w B most s k M W) : MkS w B most s k M W.drew := ⟨h.mb, h.mrk, h.it, h.sz, ⟨h.bel.os, h.bel.tape, h.bel.output, h.bel.size, h.bel.block⟩, h.ok⟩
theorem MkS.ip {w W : World} {B k : Nat} {most : Int} {s : ByteArray} {M : Nat → Nat} (h : MkS w B most s k M W) : W.iterPos (B + 1 + 1) = k := by simp [World.iterPos, h.it]

set_option maxRecDepth 100000 in
set_option maxHeartbeats 8000000 in
theorem from_any (a : Option Addr) (n c : Nat) (pos : Int) (w : World) :
    Calls Try.prog 52 #[.slice a n c, .int .i64 pos] w fun e w' => e = .returned (.func (.func 71) #[] #[.pointer (some ⟨w.heap.size, 0, none⟩), .pointer (some ⟨w.heap.size + 1, 0, none⟩)]) ∧ w' = (w.alloc (.cells #[.slice a n c] 57)).alloc (.cells #[.int .i64 pos] 3) := by
  go_enter Try.func52, Try.ntmps52
  go_wp2
  go_ret
  exact ⟨rfl, rfl⟩

/-- What stands ahead of the range. -/
theorem MkS.ends {w W : World} {most last pos : Int} {s : ByteArray} {M : Nat → Nat} {k : Nat} {a : Option Addr} {n c : Nat} (h : MkS w w.heap.size most s k M W) :
    PlS w w.heap.size most last M a n c pos 0 (.slice none 0 0) [] (((((W.alloc (.cells #[.slice none 0 0] 36)).alloc (.cells #[.int .u64 0] 101)).alloc (.cells #[.int .i64 last] 3)).alloc (.cells #[.slice a n c] 57)).alloc (.cells #[.int .i64 pos] 3)) := by
  have e3 : W.heap.size = w.heap.size + 3 := h.sz
  have b0 : Below W.heap.size W (((((W.alloc (.cells #[.slice none 0 0] 36)).alloc (.cells #[.int .u64 0] 101)).alloc (.cells #[.int .i64 last] 3)).alloc (.cells #[.slice a n c] 57)).alloc (.cells #[.int .i64 pos] 3)) :=
    (((((Below.refl _ _).alloc (Nat.le_refl _) _).alloc (by simp) _).alloc (by simp; omega) _).alloc (by simp; omega) _).alloc (by simp; omega) _
  refine ⟨(b0.block _ (block_lt h.mb)).trans h.mb, (b0.block _ (block_lt h.mrk)).trans h.mrk, ?_, ?_, ?_, ?_, ?_, ⟨none, ⟨rfl, rfl⟩, fun g hg => by cases hg⟩, h.bel.trans (b0.mono h.bel.size)⟩
  · have := heap_alloc_new W (.cells #[.slice none 0 0] 36)
    rw [e3] at this
    exact (Below.heap_alloc _ _ _ (by simp; omega)).trans ((Below.heap_alloc _ _ _ (by simp; omega)).trans ((Below.heap_alloc _ _ _ (by simp; omega)).trans ((Below.heap_alloc _ _ _ (by simp; omega)).trans this)))
  · have := heap_alloc_new (W.alloc (.cells #[.slice none 0 0] 36)) (.cells #[.int .u64 0] 101)
    rw [World.size_alloc, e3] at this
    exact (Below.heap_alloc _ _ _ (by simp; omega)).trans ((Below.heap_alloc _ _ _ (by simp; omega)).trans ((Below.heap_alloc _ _ _ (by simp; omega)).trans this))
  · have := heap_alloc_new ((W.alloc (.cells #[.slice none 0 0] 36)).alloc (.cells #[.int .u64 0] 101)) (.cells #[.int .i64 last] 3)
    rw [World.size_alloc, World.size_alloc, e3] at this
    exact (Below.heap_alloc _ _ _ (by simp; omega)).trans ((Below.heap_alloc _ _ _ (by simp; omega)).trans this)
  · have := heap_alloc_new (((W.alloc (.cells #[.slice none 0 0] 36)).alloc (.cells #[.int .u64 0] 101)).alloc (.cells #[.int .i64 last] 3)) (.cells #[.slice a n c] 57)
    rw [World.size_alloc, World.size_alloc, World.size_alloc, e3] at this
    exact (Below.heap_alloc _ _ _ (by simp; omega)).trans this
  · have := heap_alloc_new ((((W.alloc (.cells #[.slice none 0 0] 36)).alloc (.cells #[.int .u64 0] 101)).alloc (.cells #[.int .i64 last] 3)).alloc (.cells #[.slice a n c] 57)) (.cells #[.int .i64 pos] 3)
    rw [World.size_alloc, World.size_alloc, World.size_alloc, World.size_alloc, e3] at this
    exact this

end Go.Proofs.Ytlmgogonghafeab

/-! Sd -/
namespace Go.Proofs.Ytlmgogonghafeab
open Go.RowKit Go.Shelf Go.Lib
set_option linter.unusedVariables false
attribute [local go_sem] Oper.semAt_some

/-- Where piece j begins. -/
def beg (ps : List Pc) (j : Nat) : Nat := (txP (ps.take j)).length
theorem beg_zero (ps : List Pc) : beg ps 0 = 0 := rfl
theorem beg_succ {ps : List Pc} {j : Nat} (hj : j < ps.length) : beg ps (j + 1) = beg ps j + ps[j].bs.length := by
  unfold beg
  rw [txP_succ hj, List.length_append]
theorem beg_all (ps : List Pc) : beg ps ps.length = (txP ps).length := by unfold beg; rw [List.take_length]
theorem beg_le {ps : List Pc} {j : Nat} (hj : j ≤ ps.length) : beg ps j ≤ (txP ps).length := by
  have : txP ps = txP (ps.take j) ++ txP (ps.drop j) := by rw [← txP_app, List.take_append_drop]
  unfold beg
  rw [this, List.length_append]
  omega
theorem wrS {x : Int} (h1 : -9223372036854775808 ≤ x) (h2 : x ≤ 9223372036854775807) : wrap64 x = x := by
  unfold wrap64
  omega
theorem wrA {x y z : Nat} (h : z = x + y) (hz : z ≤ 4000000000000000) : wrap64 ((x : Int) + (y : Int)) = ((z : Nat) : Int) := by
  rw [wrS (by omega) (by omega)]
  omega
theorem wrB {p : Int} {x y : Nat} (h : p = ((x + y : Nat) : Int)) (hp : p ≤ 9223372036854775807) : wrap64 (p - (x : Int)) = (y : Int) := by
  rw [wrS (by omega) (by omega)]
  omega
theorem meas {n k : Nat} (h : k < n) : n - (intOf (.int .i64 ((k + 1 : Nat) : Int))).toNat < n - (intOf (.int .i64 ((k : Nat) : Int))).toNat := by
  simp only [intOf]
  omega
theorem mx_le {bk sk mx len b1 : Nat} (h : mx = bk + sk) (hs : sk < len) (hb : b1 = bk + len) (h1 : b1 ≤ 4000000000000000) : mx ≤ 4000000000000000 := by omega
def encP (ps : List Pc) (s0 : Nat) (j : Fin ps.length) : Array Value :=
  #[.int .i64 ((beg ps j.1 + (s0 - beg ps j.1) : Nat) : Int), .slice (some ⟨ps[j.1].b, ps[j.1].off + (s0 - beg ps j.1), none⟩) (ps[j.1].bs.length - (s0 - beg ps j.1)) (ps[j.1].bs.length - (s0 - beg ps j.1))]

set_option maxRecDepth 100000 in
set_option maxHeartbeats 8000000 in
theorem from1_any {l D B m : Nat} {r : Loop} {St : Nat → World → Prop} {X : World → Prop} {a : Option Addr} {n c : Nat} {ps : List Pc} {pos : Int} (W1 : World)
    (hSt : ∀ t W, St t W → W.cell? ⟨B + 6, 0, none⟩ = some (.slice a n c) ∧ W.cell? ⟨B + 7, 0, none⟩ = some (.int .i64 pos) ∧ IsP W a n c ps) (hT : (txP ps).length ≤ 4000000000000000) (hpos : pos ≤ 9223372036854775807)
    (hL1 : LB l D r W1) (h0 : St 0 W1)
    (hY : ∀ (j : Fin ps.length) W, LB l D r W → (pos.toNat - beg ps j.1 < ps[j.1].bs.length ∧ St (beg ps j.1 - pos.toNat) W) → YieldAt Fence.wide m Try.prog l (encP ps pos.toNat j) W fun e W' => (e = .returned (.bool true) ∧ LB l D r W' ∧ St (beg ps (j.1 + 1) - pos.toNat) W') ∨ (e = .returned (.bool false) ∧ X W')) :
    CallsIn Fence.wide (m + 1) Try.prog 71 (#[.func (.yield l) #[] #[]] ++ #[.pointer (some ⟨B + 6, 0, none⟩), .pointer (some ⟨B + 7, 0, none⟩)]) W1 fun e W' => (∃ v, e = .returned v) ∧ ((LB l D r W' ∧ St ((txP ps).length - pos.toNat) W') ∨ X W') := by
  have HSt := hd hSt
  have HT := hd hT
  have HY := hd hY
  have hn1 : 1 ≤ m + 1 := by omega
  obtain ⟨q1, q2, q3⟩ := hSt 0 W1 h0
  have S0 : Hid (LB l D r W1 ∧ St (beg ps 0 - pos.toNat) W1) := ⟨hL1, by rw [beg_zero, Nat.zero_sub]; exact h0⟩
  have HN : Hid (ps.length = n ∧ n ≤ c ∧ c ≤ 9223372036854775807) := ⟨q3.len, q3.le, q3.cap⟩
  clear hSt hT hY q3 hL1 h0
  have HPos := hd hpos
  clear hpos
  refine callsIn_of_wp Try.func71 rfl trivial ?_ rfl
  simp only [Try.ntmps71, List.size_toArray, List.length_cons, List.length_nil, Nat.reduceAdd, Nat.reduceSub, Array.replicate_succ, Array.replicate_zero, List.push_toArray, List.append_toArray, List.nil_append, List.cons_append]
  gi_wp2
  clear q1 q2
  gi_loopw [4, 10] (fun b i wr => ∃ k : Nat, k ≤ n ∧ b = .int .i64 ((beg ps k : Nat) : Int) ∧ i = .int .i64 ((k : Nat) : Int) ∧ Hid (LB l D r wr ∧ St (beg ps k - pos.toNat) wr)) (fun _ i _ => n - (intOf i).toNat)
  case atStart => exact ⟨0, Nat.zero_le _, rfl, rfl, S0⟩
  case round =>
    obtain ⟨k, hk, rfl, rfl, hS⟩ := hrel
    clear S0
    by_cases hlt : k < n
    · have hkp : k < ps.length := by have := HN.out.1; omega
      obtain ⟨q1, q2, q3⟩ := HSt.out _ _ hS.out.2
      obtain ⟨g, off, rfl, hg, hc⟩ := q3.row (by omega)
      have ck := hc k hkp
      obtain ⟨o1, o2, o3, o4⟩ := q3.all ps[k] (List.getElem_mem hkp)
      have hb1 := beg_succ hkp
      have hb2 := beg_le (ps := ps) (j := k + 1) hkp
      have hb3 := HT.out
      have YK := hd (HY.out ⟨k, hkp⟩ wr hS.out.1)
      simp only [encP, Pc.val] at YK ck
      generalize ps[k] = pk at *
      obtain ⟨pb, po, pc, pbs⟩ := pk
      simp only at *
      have i1 : (k : Int) < (n : Int) := by omega
      have HB := hd (show beg ps (k + 1) = beg ps k + pbs.length ∧ beg ps (k + 1) ≤ 4000000000000000 from ⟨hb1, by omega⟩)
      have HC := hd (show pbs.length ≤ pc ∧ pc ≤ 9223372036854775807 from ⟨o2, o3⟩)
      clear q3 hc o1 o2 o3 o4 hb1 hb2 hb3 HY HSt
      generalize beg ps k = bk at *
      obtain ⟨sk, mx, hmx⟩ : ∃ sk mx : Nat, Hid (pos.toNat - bk = sk ∧ mx = bk + sk ∧ (if (bk : Int) < pos then pos = ((mx : Nat) : Int) else sk = 0)) := by
        refine ⟨pos.toNat - bk, bk + (pos.toNat - bk), rfl, rfl, ?_⟩
        split <;> omega
      have e1 := hmx.out.1
      have e2 := hmx.out.2.1
      have e3 := hmx.out.2.2
      rw [e1, ← e2] at YK
      have YS : Hid (sk < pbs.length → YieldAt Fence.wide m Try.prog l #[.int .i64 ((mx : Nat) : Int), .slice (some ⟨pb, po + sk, none⟩) (pbs.length - sk) (pbs.length - sk)] wr fun e W' => (e = .returned (.bool true) ∧ LB l D r W' ∧ St (beg ps (k + 1) - pos.toNat) W') ∨ (e = .returned (.bool false) ∧ X W')) := fun h => YK.out ⟨h, hS.out.2⟩
      have NO : Hid (¬ sk < pbs.length → LB l D r wr ∧ St (beg ps (k + 1) - pos.toNat) wr) := fun h => ⟨hS.out.1, by
        have h1 := HB.out.1
        have : beg ps (k + 1) - pos.toNat = bk - pos.toNat := by omega
        rw [this]
        exact hS.out.2⟩
      have w3 : wrap64 ((bk : Int) + (pbs.length : Int)) = ((beg ps (k + 1) : Nat) : Int) := wrA HB.out.1 HB.out.2
      have HX := hd (And.intro e2 e3)
      have HPP := HPos.out
      have W5 : Hid (wrap64 ((k : Int) + 1) = ((k + 1 : Nat) : Int)) := by
        have := HN.out
        have h := wrS (x := (k : Int) + 1) (by omega) (by omega)
        rw [h]
        rfl
      clear YK e1 e2 e3 hS
      by_cases hp : (bk : Int) < pos
      · have e4 : pos = ((mx : Nat) : Int) := by have := HX.out.2; rw [if_pos hp] at this; exact this
        have w1 : wrap64 (pos - (bk : Int)) = (sk : Int) := wrB (by rw [e4, HX.out.1]) HPP
        clear e4 HPP
        by_cases hs : sk < pbs.length
        · have w2 : wrap64 ((bk : Int) + (sk : Int)) = ((mx : Nat) : Int) := wrA HX.out.1 (mx_le HX.out.1 hs HB.out.1 HB.out.2)
          obtain ⟨fn, tmps, assign, body, hy, hR⟩ := YS.out hs
          have hs' : (sk : Int) < (pbs.length : Int) := by omega
          have hc1 : (pbs.length : Int) ≤ (pc : Int) := by have := HC.out; omega
          have hc2 : ¬ sk = pbs.length := by omega
          have HW := hd w3
          clear YS NO w3
          gi_wp2
          refine hR.mono ?_
          rintro e W' (⟨rfl, hL, hst⟩ | ⟨rfl, hx⟩)
          · have Z : Hid (LB l D r W' ∧ St (beg ps (k + 1) - pos.toNat) W') := ⟨hL, hst⟩
            clear hL hst hR hy q1 q2 ck hs' hc1 hc2 w1 w2
            gi_wp2
            exact ⟨⟨k + 1, by omega, by rw [HW.out], by rw [W5.out], Z⟩, by rw [W5.out]; exact meas hlt⟩
          · have Z : Hid (X W') := hx
            clear hx hR hy q1 q2 ck hs' hc1 hc2 w1 w2
            gi_wp2
            first
              | (refine bodyPost_end (results_none rfl _ _ _) rfl ?_; exact ⟨⟨_, rfl⟩, .inr Z.out⟩)
              | (refine bodyPost_ret (results_none rfl _ _ _) rfl ?_; exact ⟨⟨_, rfl⟩, .inr Z.out⟩)
        · have Z := hd (NO.out hs)
          have hs' : ¬ (sk : Int) < (pbs.length : Int) := by omega
          have HW := hd w3
          clear YS NO w3 hs
          gi_wp2
          refine ⟨fun _ h => (by cases h), ?_⟩
          gi_wp2
          exact ⟨⟨k + 1, by omega, by rw [HW.out], by rw [W5.out], Z⟩, by rw [W5.out]; exact meas hlt⟩
      · have e4 : sk = 0 := by have := HX.out.2; rw [if_neg hp] at this; exact this
        have w0 : Value.int IntKind.i64 0 = Value.int IntKind.i64 (sk : Int) := by rw [e4]; rfl
        have W0 := hd w0
        clear w0
        have hp' : pos ≤ (bk : Int) := by omega
        have HE4 := hd e4
        clear HPP e4
        gi_upto_region 5 with fail
        rw [W0.out]
        clear W0 hp hp' q1 q2 ck
        by_cases hs : sk < pbs.length
        · have w2 : wrap64 ((bk : Int) + (sk : Int)) = ((mx : Nat) : Int) := wrA HX.out.1 (mx_le HX.out.1 hs HB.out.1 HB.out.2)
          obtain ⟨fn, tmps, assign, body, hy, hR⟩ := YS.out hs
          have hs' : (sk : Int) < (pbs.length : Int) := by omega
          have hc1 : (pbs.length : Int) ≤ (pc : Int) := by have := HC.out; omega
          have hc2 : ¬ sk = pbs.length := by omega
          have HW := hd w3
          clear YS NO w3
          gi_wp2
          refine hR.mono ?_
          rintro e W' (⟨rfl, hL, hst⟩ | ⟨rfl, hx⟩)
          · have Z : Hid (LB l D r W' ∧ St (beg ps (k + 1) - pos.toNat) W') := ⟨hL, hst⟩
            clear hL hst hR hy  hs' hc1 hc2 w2
            gi_wp2
            exact ⟨⟨k + 1, by omega, by rw [HW.out], by rw [W5.out], Z⟩, by rw [W5.out]; exact meas hlt⟩
          · have Z : Hid (X W') := hx
            clear hx hR hy  hs' hc1 hc2 w2
            gi_wp2
            first
              | (refine bodyPost_end (results_none rfl _ _ _) rfl ?_; exact ⟨⟨_, rfl⟩, .inr Z.out⟩)
              | (refine bodyPost_ret (results_none rfl _ _ _) rfl ?_; exact ⟨⟨_, rfl⟩, .inr Z.out⟩)
        · have Z := hd (NO.out hs)
          have hs' : ¬ (sk : Int) < (pbs.length : Int) := by omega
          have HW := hd w3
          clear YS NO w3 hs
          gi_wp2
          refine ⟨fun _ h => (by cases h), ?_⟩
          gi_wp2
          exact ⟨⟨k + 1, by omega, by rw [HW.out], by rw [W5.out], Z⟩, by rw [W5.out]; exact meas hlt⟩
    · obtain rfl : k = n := by omega
      have Z := hd hS.out
      rw [← HN.out.1, beg_all] at Z
      clear hS
      gi_wp2
      first
        | (refine bodyPost_end (results_none rfl _ _ _) rfl ?_; exact ⟨⟨_, rfl⟩, .inl Z.out⟩)
        | (refine bodyPost_ret (results_none rfl _ _ _) rfl ?_; exact ⟨⟨_, rfl⟩, .inl Z.out⟩)
end Go.Proofs.Ytlmgogonghafeab
