/-
  What meant asks, without memory.
-/
import Derived.Test.YtmkgkgdngjmcmabDoorQe
import Derived.Test.YtmkgkgdngjmcmabDoorUm
namespace Go.Proofs.YtmkgkgdngjmcmabDoor
set_option linter.unusedVariables false

theorem placeP_left {x : El} : ∀ {us vs : List El} {k : Nat}, x ∈ us → placeP x (us ++ vs) k < ((k + us.length : Nat) : Int)
  | y :: ys, vs, k, h => by
    rw [List.cons_append, placeP]
    by_cases e : y = x
    · rw [if_pos e, List.length_cons]; omega
    · rw [if_neg e, List.length_cons]
      have h' : x ∈ ys := by
        rcases List.mem_cons.mp h with h | h
        · exact absurd h.symm e
        · exact h
      have := placeP_left (vs := vs) (k := k + 1) h'
      omega

theorem placeP_right {x : El} : ∀ {us vs : List El} {k : Nat}, x ∉ us → placeP x (us ++ vs) k = placeP x vs (k + us.length)
  | [], vs, k, _ => rfl
  | y :: ys, vs, k, h => by
    rw [List.cons_append, placeP, if_neg (fun e => h (by rw [e]; exact List.mem_cons_self)), placeP_right (fun e => h (List.mem_cons_of_mem _ e)), List.length_cons]
    congr 1
    omega

theorem take_lt {d : List El} (hd : d.Nodup) {i p : Nat} (hi : i < d.length) (h : d[i] ∈ d.take p) : i < p := by
  obtain ⟨j, hj, e⟩ := List.mem_take_iff_getElem.mp h
  have : j = i := (List.getElem_inj hd).mp e
  omega

theorem drop_le {d : List El} (hd : d.Nodup) {i p : Nat} (hi : i < d.length) (h : d[i] ∈ d.drop p) : p ≤ i := by
  obtain ⟨j, hj, e⟩ := List.mem_drop_iff_getElem.mp h
  have : p + j = i := (List.getElem_inj hd).mp e
  omega

theorem meant_pure {d e : List El} {p : Nat} {c : Int} {a2 : OpE} (h : InsS d p c e a2) (hd : d.Nodup) (h1 : ∀ z ∈ d, z.2.1 = 1) :
    ∃ q : Nat, a2 = ⟨1, (q : Int), c, 2, 1⟩ ∧ FitO e.length a2 ∧ (putP e a2).length = e.length + 1 ∧ placeP (c, 2, 1) (putP e a2) 0 = q ∧
      ∀ i (hi : i < d.length), 0 ≤ placeP d[i] (putP e a2) 0 → (placeP d[i] (putP e a2) 0 < (q : Int) ↔ i < p) := by
  obtain ⟨L, R, rfl, rfl, hL, hR, h2⟩ := h
  have hp : putP (L ++ R) ⟨1, (L.length : Int), c, 2, 1⟩ = L ++ (c, 2, 1) :: R := by rw [putP_ins, ins_at]
  have hm : ((c, 2, 1) : El) ∉ L := fun h => h2 _ (List.mem_append_left _ h) rfl
  refine ⟨L.length, rfl, .inr (.inl ⟨rfl, L.length, rfl, by simp⟩), by rw [hp]; simp; omega, by rw [hp, placeP_app hm]; simp, fun i hi h0 => ?_⟩
  rw [hp] at h0 ⊢
  have hc := h1 _ (List.getElem_mem hi)
  by_cases hl : d[i] ∈ L
  · have := placeP_left (vs := (c, 2, 1) :: R) (k := 0) hl
    exact ⟨fun _ => take_lt hd hi (hL _ hl hc), fun _ => by simpa using this⟩
  · have hmem := placeP_iff.mp h0
    have hr : d[i] ∈ R := by
      rcases List.mem_append.mp hmem with h | h
      · exact absurd h hl
      · rcases List.mem_cons.mp h with h | h
        · rw [h] at hc; simp at hc
        · exact h
    have h5 := placeP_mem (k := 0 + L.length) (List.mem_cons_of_mem (c, 2, 1) hr)
    rw [← placeP_right hl] at h5
    have h6 := drop_le hd hi (hR _ hr hc)
    constructor
    · intro h; omega
    · intro h; omega

/-- Where an insertion starts. -/
theorem ins_start {d : List El} {p : Nat} {c : Int} (hp : p ≤ d.length) (h1 : ∀ z ∈ d, z.2.1 = 1) : InsS d p c d ⟨1, (p : Int), c, 2, 1⟩ := by
  refine ⟨d.take p, d.drop p, (List.take_append_drop p d).symm, ?_, fun z hz _ => hz, fun z hz _ => hz, fun z hz h => ?_⟩
  · rw [List.length_take, Nat.min_eq_left hp]
  · have := h1 z hz; omega

/-- Where a deletion starts. -/
theorem del_start {d : List El} {p : Nat} {c : Int} (hp : p < d.length) (hd : d.Nodup) : DelS d[p] c d ⟨2, (p : Int), c, 2, 1⟩ := by
  refine .inr ⟨d.take p, d.drop (p + 1), ?_, ?_, fun h => ?_, fun h => ?_⟩
  · rw [← List.drop_eq_getElem_cons hp, List.take_append_drop]
  · rw [List.length_take, Nat.min_eq_left (by omega)]
  · have := take_lt hd hp h; omega
  · have := drop_le hd hp h; omega

/-- What a deletion leaves. -/
theorem del_pure {y : El} {c : Int} {e : List El} {a2 : OpE} (h : DelS y c e a2) : FitO e.length a2 ∧ a2.cl = 2 ∧ a2.sq = 1 ∧ y ∉ putP e a2 ∧
    ((a2.kind = 0 ∧ y ∉ e ∧ (putP e a2).length = e.length) ∨ (a2.kind = 2 ∧ y ∈ e ∧ (putP e a2).length + 1 = e.length)) := by
  rcases h with ⟨rfl, h⟩ | ⟨L, R, rfl, rfl, hL, hR⟩
  · exact ⟨.inl ⟨rfl, rfl, rfl⟩, rfl, rfl, by rw [putP_nop]; exact h, .inl ⟨rfl, h, by rw [putP_nop]⟩⟩
  · have hp : putP (L ++ y :: R) ⟨2, (L.length : Int), c, 2, 1⟩ = L ++ R := by
      rw [putP_del, List.eraseIdx_append_of_length_le (Nat.le_refl _), Nat.sub_self, List.eraseIdx_cons_zero]
    refine ⟨.inr (.inr ⟨rfl, L.length, rfl, by simp⟩), rfl, rfl, ?_, .inr ⟨rfl, by simp, by rw [hp]; simp; omega⟩⟩
    rw [hp]
    intro h
    rcases List.mem_append.mp h with h | h
    · exact hL h
    · exact hR h

end Go.Proofs.YtmkgkgdngjmcmabDoor
