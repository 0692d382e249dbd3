/-
  The laws one and queues.
-/
import Derived.Test.YtmbnimlibnheeabDoorMo
import Derived.Deep.RegionHeld3
namespace Go.Proofs.YtmbnimlibnheeabDoor
open Go.RowKit
set_option linter.unusedVariables false

theorem cell_in {w : World} {p : Addr} {v : Value} (h : w.cell? p = some v) : p.block < w.heap.size := by
  by_cases hg : p.block < w.heap.size
  · exact hg
  · have h2 : w.heap[p.block]? = none := Array.getElem?_eq_none (by omega)
    simp [World.cell?, h2] at h

set_option maxHeartbeats 4000000 in
theorem one_true (o : OpE) (w : World) : Calls Tryd.prog 29 #[o.val, o.val] w fun e w' => e = .returned (.bool true) ∧ Below w.heap.size w w' := by
  obtain ⟨k, p, c, q, s⟩ := o
  simp only [OpE.val]
  go_enter Tryd.func29, Tryd.ntmps29
  go_wp2
  go_ret
  exact ⟨rfl, ((Below.refl _ _).alloc (Nat.le_refl _) _).alloc (by simp) _⟩

/-- The slice at a, of n elements and capacity c, holds xs in w. -/
def IsK (w : World) (a : Option Addr) (n c : Nat) (xs : List (Int × OpE)) : Prop :=
  xs.length = n ∧ n ≤ c ∧ c ≤ 9223372036854775807 ∧
  (0 < n → ∃ b off, a = some ⟨b, off, none⟩ ∧ b < w.heap.size ∧ ∀ i (h : i < xs.length) j, j < 6 → w.cell? ⟨b, off + i * 6 + j, none⟩ = (mkd xs[i])[j]?)
theorem IsK.below {w w' : World} {B : Nat} {a : Option Addr} {n c : Nat} {xs : List (Int × OpE)} (h : IsK w a n c xs) (hb : Below B w w') (hB : w.heap.size ≤ B) : IsK w' a n c xs := by
  obtain ⟨h1, h2, h3, h4⟩ := h
  refine ⟨h1, h2, h3, fun hn => ?_⟩
  obtain ⟨b, off, e, hlt, hc⟩ := h4 hn
  refine ⟨b, off, e, Nat.lt_of_lt_of_le hlt hb.size, fun i hi j hj => ?_⟩
  rw [hb.cell (p := ⟨b, off + i * 6 + j, none⟩) (Nat.lt_of_lt_of_le hlt hB)]
  exact hc i hi j hj
theorem RowF.isK {w : World} {g N c : Nat} {xs : List (Int × OpE)} (h : RowF mkd 6 w g N c 84 xs) : IsK w (some ⟨g, 0, none⟩) N c xs := by
  have h' := h
  obtain ⟨cur, -, -, h1, h2, h3, -⟩ := h'
  refine ⟨h1, h2, h3, fun hn => ⟨g, 0, rfl, h.lt, fun i hi j hj => ?_⟩⟩
  rw [Nat.zero_add]
  exact h.cell sz_mkd i j hi hj
theorem IsK.drop {w : World} {b off n c : Nat} {xs : List (Int × OpE)} (h : IsK w (some ⟨b, off, none⟩) n c xs) (d : Nat) (hd' : d ≤ n) : IsK w (some ⟨b, off + d * 6, none⟩) (n - d) (c - d) (xs.drop d) := by
  obtain ⟨h1, h2, h3, h4⟩ := h
  refine ⟨by simp; omega, by omega, by omega, fun hn => ?_⟩
  obtain ⟨b', off', e, hlt, hc⟩ := h4 (by omega)
  simp at e
  obtain ⟨rfl, rfl⟩ := e
  refine ⟨b, _, rfl, hlt, fun i hi j hj => ?_⟩
  have := hc (d + i) (by simp at hi; omega) j hj
  rw [show off + d * 6 + i * 6 + j = off + (d + i) * 6 + j by omega, this]
  simp
theorem IsK.take {w : World} {a : Option Addr} {n c : Nat} {xs : List (Int × OpE)} (h : IsK w a n c xs) (d : Nat) (hd' : d ≤ n) : IsK w a d c (xs.take d) := by
  obtain ⟨h1, h2, h3, h4⟩ := h
  refine ⟨by simp; omega, by omega, by omega, fun hn => ?_⟩
  obtain ⟨b, off, e, hlt, hc⟩ := h4 (by omega)
  refine ⟨b, off, e, hlt, fun i hi j hj => ?_⟩
  have := hc i (by simp at hi; omega) j hj
  rw [this]
  simp
theorem IsK.at {w : World} {b off n c : Nat} {xs : List (Int × OpE)} (h : IsK w (some ⟨b, off, none⟩) n c xs) (i : Nat) (hi : i < n) (hx : i < xs.length) :
    w.cell? ⟨b, off + i * 6, none⟩ = some (.int .i64 xs[i].1) ∧ w.cell? ⟨b, off + i * 6 + 1, none⟩ = some (.int .i64 xs[i].2.kind) ∧ w.cell? ⟨b, off + i * 6 + 2, none⟩ = some (.int .i64 xs[i].2.pos) ∧ w.cell? ⟨b, off + i * 6 + 3, none⟩ = some (.int .u8 xs[i].2.ch) ∧ w.cell? ⟨b, off + i * 6 + 4, none⟩ = some (.int .i64 xs[i].2.cl) ∧ w.cell? ⟨b, off + i * 6 + 5, none⟩ = some (.int .i64 xs[i].2.sq) := by
  obtain ⟨h1, h2, h3, h4⟩ := h
  obtain ⟨b', off', e, hlt, hc⟩ := h4 (by omega)
  have e' := Option.some.inj e
  simp at e'
  obtain ⟨rfl, rfl⟩ := e'
  refine ⟨hc i hx 0 (by omega), hc i hx 1 (by omega), hc i hx 2 (by omega), hc i hx 3 (by omega), hc i hx 4 (by omega), hc i hx 5 (by omega)⟩
theorem IsK.addr {w : World} {a : Option Addr} {n c : Nat} {xs : List (Int × OpE)} (h : IsK w a n c xs) (hn : 0 < n) : ∃ b off, a = some ⟨b, off, none⟩ ∧ b < w.heap.size := by
  obtain ⟨b, off, e, hlt, _⟩ := h.2.2.2 hn
  exact ⟨b, off, e, hlt⟩

set_option maxRecDepth 100000 in
set_option maxHeartbeats 4000000 in
theorem queues_true (a1 a2 : Option Addr) (n c1 c2 : Nat) (xs : List (Int × OpE)) (w : World) (h1 : IsK w a1 n c1 xs) (h2 : IsK w a2 n c2 xs) :
    Calls Tryd.prog 16 #[.slice a1 n c1, .slice a2 n c2] w fun e w' => e = .returned (.bool true) ∧ Below w.heap.size w w' := by
  have hl1 : n ≤ c1 := h1.2.1
  have hl2 : n ≤ c2 := h2.2.1
  have hk1 : c1 ≤ 9223372036854775807 := h1.2.2.1
  have hk2 : c2 ≤ 9223372036854775807 := h2.2.2.1
  have HN := hd h1.1
  have H1 := hd h1
  have H2 := hd h2
  clear h1 h2
  go_enter Tryd.func16, Tryd.ntmps16
  go_wp2
  go_loopw [5] (fun i wr => ∃ j : Nat, j ≤ n ∧ i = .int .i64 j ∧ Hid (Below w.heap.size w wr)) (fun i _ => n - (intOf i).toNat)
  case atStart => exact ⟨0, Nat.zero_le _, rfl, Below.refl _ _⟩
  case round =>
    obtain ⟨j, hj, rfl, HB⟩ := hrel
    by_cases hlt : j < n
    · obtain ⟨b, off, rfl, -⟩ := H1.out.addr (by omega)
      obtain ⟨d, of2, rfl, -⟩ := H2.out.addr (by omega)
      have jx : j < xs.length := by have := HN.out; omega
      obtain ⟨p0, p1, p2, p3, p4, p5⟩ := (H1.out.below HB.out (Nat.le_refl _)).at j hlt jx
      obtain ⟨q0, q1, q2, q3, q4, q5⟩ := (H2.out.below HB.out (Nat.le_refl _)).at j hlt jx
      generalize xs[j] = z at *
      obtain ⟨mm, zk, zp, zc, zl, zs⟩ := z
      simp only at p0 p1 p2 p3 p4 p5 q0 q1 q2 q3 q4 q5
      have i1 : (j : Int) < (n : Int) := by omega
      have C : Hid (∀ U, Below wr.heap.size wr U → Calls Tryd.prog 29 #[.agg #[.int .i64 zk, .int .i64 zp, .int .u8 zc, .int .i64 zl, .int .i64 zs], .agg #[.int .i64 zk, .int .i64 zp, .int .u8 zc, .int .i64 zl, .int .i64 zs]] U fun e w' => e = .returned (.bool true) ∧ Below wr.heap.size wr w') := by
        intro U hU
        refine (one_true ⟨zk, zp, zc, zl, zs⟩ U).mono ?_
        rintro e w' ⟨rfl, h⟩
        exact ⟨rfl, hU.trans (h.mono hU.size)⟩
      have bl : b < wr.heap.size := cell_in p0
      have dl : d < wr.heap.size := cell_in q0
      have CS : Hid (∀ v, Below wr.heap.size wr v → v.cell? ⟨b, off + j * 6, none⟩ = some (.int .i64 mm) ∧ v.cell? ⟨b, off + j * 6 + 1, none⟩ = some (.int .i64 zk) ∧ v.cell? ⟨b, off + j * 6 + 2, none⟩ = some (.int .i64 zp) ∧ v.cell? ⟨b, off + j * 6 + 3, none⟩ = some (.int .u8 zc) ∧ v.cell? ⟨b, off + j * 6 + 4, none⟩ = some (.int .i64 zl) ∧ v.cell? ⟨b, off + j * 6 + 5, none⟩ = some (.int .i64 zs) ∧ v.cell? ⟨d, of2 + j * 6, none⟩ = some (.int .i64 mm) ∧ v.cell? ⟨d, of2 + j * 6 + 1, none⟩ = some (.int .i64 zk) ∧ v.cell? ⟨d, of2 + j * 6 + 2, none⟩ = some (.int .i64 zp) ∧ v.cell? ⟨d, of2 + j * 6 + 3, none⟩ = some (.int .u8 zc) ∧ v.cell? ⟨d, of2 + j * 6 + 4, none⟩ = some (.int .i64 zl) ∧ v.cell? ⟨d, of2 + j * 6 + 5, none⟩ = some (.int .i64 zs)) := by
        intro v kv
        have cb : ∀ o, v.cell? ⟨b, o, none⟩ = wr.cell? ⟨b, o, none⟩ := fun o => kv.cell (p := ⟨b, o, none⟩) bl
        have cd : ∀ o, v.cell? ⟨d, o, none⟩ = wr.cell? ⟨d, o, none⟩ := fun o => kv.cell (p := ⟨d, o, none⟩) dl
        exact ⟨(cb _).trans p0, (cb _).trans p1, (cb _).trans p2, (cb _).trans p3, (cb _).trans p4, (cb _).trans p5, (cd _).trans q0, (cd _).trans q1, (cd _).trans q2, (cd _).trans q3, (cd _).trans q4, (cd _).trans q5⟩
      clear jx bl dl
      go_wp2_with fail
      go_region_held3 (fun U => U.cell? ⟨b, off + j * 6, none⟩ = some (.int .i64 mm) ∧ U.cell? ⟨b, off + j * 6 + 1, none⟩ = some (.int .i64 zk) ∧ U.cell? ⟨b, off + j * 6 + 2, none⟩ = some (.int .i64 zp) ∧ U.cell? ⟨b, off + j * 6 + 3, none⟩ = some (.int .u8 zc) ∧ U.cell? ⟨b, off + j * 6 + 4, none⟩ = some (.int .i64 zl) ∧ U.cell? ⟨b, off + j * 6 + 5, none⟩ = some (.int .i64 zs) ∧ U.cell? ⟨d, of2 + j * 6, none⟩ = some (.int .i64 mm) ∧ U.cell? ⟨d, of2 + j * 6 + 1, none⟩ = some (.int .i64 zk) ∧ U.cell? ⟨d, of2 + j * 6 + 2, none⟩ = some (.int .i64 zp) ∧ U.cell? ⟨d, of2 + j * 6 + 3, none⟩ = some (.int .u8 zc) ∧ U.cell? ⟨d, of2 + j * 6 + 4, none⟩ = some (.int .i64 zl) ∧ U.cell? ⟨d, of2 + j * 6 + 5, none⟩ = some (.int .i64 zs)) (first | (with_reducible exact ⟨by assumption, by assumption, by assumption, by assumption, by assumption, by assumption, by assumption, by assumption, by assumption, by assumption, by assumption, by assumption⟩) | (go_keep; done)) (first | (go_at_call 29; refine (C.out _ ?_).mono ?_; (first | exact Below.refl _ _ | exact (Below.refl _ _).drew | exact below_drewN (Below.refl _ _) _); rintro e v ⟨rfl, kv⟩; obtain ⟨m0, m1, m2, m3, m4, m5, m6, m7, m8, m9, m10, m11⟩ := CS.out v kv; have Q3 := hd kv; clear kv))
      go_wp2_with fail
      exact ⟨⟨j + 1, by omega, by go_num, by repeat (first | exact HB.out.trans (Q3.out.mono HB.out.size) | refine Below.drew ?_ | refine below_drewN ?_ _)⟩, by simp [intOf]; omega⟩
    · obtain rfl : j = n := by omega
      have i1 : ¬ (j : Int) < (j : Int) := by omega
      go_wp2
      go_ret
      exact ⟨rfl, HB.out⟩

end Go.Proofs.YtmbnimlibnheeabDoor
