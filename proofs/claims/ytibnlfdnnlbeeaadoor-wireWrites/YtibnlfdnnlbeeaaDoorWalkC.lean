/-
  grow.
-/
import Derived.Test.YtibnlfdnnlbeeaaDoorParts
namespace Go.Proofs.YtibnlfdnnlbeeaaDoor
open Go.RowKit

theorem wpList_make_cap {P : Program} (w : World) {ops : Array Oper} {rest : List Oper} {o : Oper} {a : Act} {Q : Exit → Act → World → Prop}
    (hg : o.guard = none) (l c : Operand) (t : TypeId) (hop : o.op = Op.makeSlice t l c)
    (e : TypeId) (i : TypeInfo) (z : Value) (h1 : P.underlying t = some (.slice e)) (h2 : P.info? e = some i) (h3 : i.zero = some z) (h4 : i.size = 1) (h5 : z.cells = #[z])
    (kl kc : IntKind) (L C : Int) (n m : Nat) (hl : a.eval l = .int kl L) (hc : a.eval c = .int kc C) (hL : L = (n : Int)) (hC : C = (m : Int)) (hnm : n ≤ m) (b2 : i.bytes * m ≤ 281474976710656) (b3 : m ≤ 9223372036854775807)
    (hK : ∀ w' : World, Hid (w'.heap[w.heap.size]? = some (.cells (List.replicate m z).toArray e (0, 0))) → w.grownBy w' none → w'.heap.size = w.heap.size + 1 → wpList P ops Q rest (a.put o.dst (.slice (some ⟨w.heap.size, 0, none⟩) n m)) w') :
    wpList P ops Q (o :: rest) a w := by
  refine wpList_plain hg fun K hK' => ?_
  subst hL
  subst hC
  have hb : (i.bytes : Int) * (m : Int) ≤ 281474976710656 := by
    have q : ∀ p : Nat, p ≤ 281474976710656 → (p : Int) ≤ 281474976710656 := by omega
    have := q _ b2
    rw [Int.natCast_mul] at this
    exact this
  have hrun := run_make (P := P) w t e i z h1 h2 h3 kl kc n m (by omega) (by omega) hb (by omega)
  simp only [Int.toNat_natCast] at hrun
  unfold Oper.wp
  simp [execOp, hop, hl, hc, hrun, Result.andThen]
  refine hK' _ _ (hK _ ?_ (World.grownBy_alloc _ _ _) (Array.size_push ..))
  show (w.alloc _).heap[w.heap.size]? = _
  rw [heap_alloc_new]
  have e2 : madeCells z.cells (m * i.size) = (List.replicate m z).toArray := by
    rw [h4, h5, Nat.mul_one]
    apply Array.toList_inj.1
    rw [toList_madeCells_one]
  rw [e2]

theorem own_of_splice {w : World} {base g n m : Nat} {xs : List Int} (hb : base ≤ g) (hl : xs.length = n) (hnm : n ≤ m) (hm : m ≤ 9223372036854775807)
    (h : w.heap[g]? = some (.cells (splice (List.replicate m (Value.int .u8 0)) 0 (ints xs)).toArray 5 (0, 0))) : OwnB w base (.slice (some ⟨g, 0, none⟩) n m) n xs := by
  refine ⟨by simp [ints, hl], .inr ⟨g, m, _, rfl, hb, h, hnm, hm, ?_, ?_⟩⟩
  · simp [splice, ints, hl]; omega
  · have e : splice (List.replicate m (Value.int .u8 0)) 0 (ints xs) = ints xs ++ List.replicate (m - n) (Value.int .u8 0) := by simp [splice, ints, hl]
    rw [e]
    show (ints xs ++ _).take (n * 1) = _
    rw [List.take_append_of_le_length (by simp [ints, hl])]
    exact List.take_of_length_le (by simp [ints, hl])

theorem ints_one (xs : List Int) : ∀ v ∈ ints xs, v.oneCell' = true := ints_oneCell _ _

theorem cells_of_isB {w : World} {a : Option Addr} {n c : Nat} {xs : List Int} (h : IsB w a n c xs) (hp : 0 < (ints xs).length) :
    ∃ ad, a = some ad ∧ ∀ j v, (ints xs)[j]? = some v → w.cell? (ad.add j) = some v := by
  obtain ⟨h1, h2, h3, h4⟩ := h
  have hn : 0 < n := by simpa [ints, h1] using hp
  obtain ⟨b, off, rfl, hb, hc⟩ := h4 hn
  refine ⟨_, rfl, fun j v hj => ?_⟩
  have hjl : j < n := by
    have := (List.getElem?_eq_some_iff.1 hj).1
    simpa [ints, h1] using this
  have := hc j hjl
  simp only [ints, List.getElem?_map] at hj
  rw [List.getElem?_eq_getElem (by omega)] at hj
  simp at hj
  subst hj
  have ea : (⟨b, off, none⟩ : Addr).add j = ⟨b, off + j, none⟩ := by
    by_cases h0 : j = 0
    · subst h0; simp [Addr.add]
    · simp [Addr.add, h0]
  rw [ea, this]
  simp [List.getElem?_eq_getElem (show j < xs.length by omega)]

set_option maxHeartbeats 400000 in
theorem grow_any (a : Option Addr) (n c m : Nat) (xs : List Int) (w : World) (h : IsB w a n c xs) (hn : n ≤ 140737488351232) (hm : m ≤ 1000) :
    Calls Tryd.prog 66 #[.slice a n c, .int .i64 m] w fun e w' => ∃ v, e = .returned v ∧ OwnB w' w.heap.size v n xs ∧ Below w.heap.size w w' := by
  have H := h
  obtain ⟨h1, h2, h3, h4⟩ := h
  clear h4
  obtain ⟨i0, hi, hz0, hz1, hz2⟩ := info_parts Tryd.info5
  have HH : Hid (IsB w a n c xs) := H
  clear H
  go_enter Tryd.func66, Tryd.ntmps66
  go_wp2_with (first | (at_make; refine wpList_make_cap _ rfl _ _ 22 rfl 5 i0 (.int .u8 0) Tryd.underlying22 hi hz0 hz1 rfl _ _ _ _ n (n + m) rfl rfl rfl (by omega) (by omega) (by rw [hz2]; omega) (by omega) ?_; intro w1 hown hgrow hsz) | (refine wpList_copy_splice rfl (.tmp 13) (.tmp 14) 22 22 rfl 5 Tryd.underlying22 (by kernel_rfl) _ _ n (n + m) n c rfl rfl w.heap.size 0 (List.replicate (n + m) (.int .u8 0)) 5 hown.out (ints xs) (by simp [ints, h1]) ?k1 (by simp [ints, h1]) (ints_one _) w.heap.size w ?k2 (Nat.le_refl _) ?_) | go_in)
  case k2 => exact (Below.refl _ _).grown hgrow (Nat.le_refl _) (by simp)
  case k1 => exact fun hp => cells_of_isB (HH.out.below ((Below.refl _ _).grown hgrow (Nat.le_refl _) (by simp))) hp
  intro w2 hown2 hbel
  clear hown hgrow
  go_wp2
  go_ret
  exact ⟨_, rfl, own_of_splice (Nat.le_refl _) h1 (by omega) (by omega) hown2.out, hbel⟩

end Go.Proofs.YtibnlfdnnlbeeaaDoor
