/-
  Where an element stands in a text.
-/
import Derived.Test.YtmkgkgdngjmcmabDoorEf
namespace Go.Proofs.YtmkgkgdngjmcmabDoor
open Go.RowKit
set_option linter.unusedVariables false

/-- The first place of x in xs, counted from k on, or -1. -/
def placeP (x : El) : List El → Nat → Int
  | [], _ => -1
  | y :: ys, k => if y = x then k else placeP x ys (k + 1)

theorem placeP_not {x : El} : ∀ {xs : List El} {k : Nat}, x ∉ xs → placeP x xs k = -1
  | [], k, _ => rfl
  | y :: ys, k, h => by
    rw [placeP, if_neg (fun e => h (by rw [e]; exact List.mem_cons_self)), placeP_not (fun e => h (List.mem_cons_of_mem _ e))]

theorem placeP_mem {x : El} : ∀ {xs : List El} {k : Nat}, x ∈ xs → (k : Int) ≤ placeP x xs k
  | y :: ys, k, h => by
    rw [placeP]
    by_cases e : y = x
    · rw [if_pos e]; exact Int.le_refl _
    · rw [if_neg e]
      have h' : x ∈ ys := by
        rcases List.mem_cons.mp h with h | h
        · exact absurd h.symm e
        · exact h
      have := placeP_mem (k := k + 1) h'
      omega

/-- It stands there, or not at all. -/
theorem placeP_iff {x : El} {xs : List El} : 0 ≤ placeP x xs 0 ↔ x ∈ xs := by
  constructor
  · intro h
    apply Classical.byContradiction
    intro n
    rw [placeP_not n] at h
    omega
  · intro h
    have := placeP_mem (k := 0) h
    omega

/-- With nothing of it ahead, it stands where it stands. -/
theorem placeP_app {x : El} : ∀ {us vs : List El} {k : Nat}, x ∉ us → placeP x (us ++ x :: vs) k = ((k + us.length : Nat) : Int)
  | [], vs, k, _ => by rw [List.nil_append, placeP, if_pos rfl]; simp
  | y :: ys, vs, k, h => by
    rw [List.cons_append, placeP, if_neg (fun e => h (by rw [e]; exact List.mem_cons_self)), placeP_app (fun e => h (List.mem_cons_of_mem _ e)), List.length_cons]
    congr 1
    omega

theorem placeP_at {x : El} {xs : List El} {k : Nat} (h : k < xs.length) : placeP x (xs.drop k) k = if xs[k] = x then (k : Int) else placeP x (xs.drop (k + 1)) (k + 1) := by
  rw [List.drop_eq_getElem_cons h, placeP]

set_option maxRecDepth 100000 in
set_option maxHeartbeats 4000000 in
/-- place. -/
theorem place_any (u : Value) (z : El) (xs : List El) (w : World) (hu : AtE w u xs) :
    Calls Tryd.prog 21 #[u, .agg #[.int .u8 z.1, .int .i64 z.2.1, .int .i64 z.2.2]] w fun e w' => e = .returned (.int .i64 (placeP z xs 0)) ∧ Below w.heap.size w w' := by
  obtain ⟨b1, o1, c, rfl, hx⟩ := hu
  obtain ⟨n, hn⟩ : ∃ n, n = xs.length := ⟨_, rfl⟩
  rw [← hn] at hx ⊢
  have hc : n ≤ 9223372036854775807 := by have := hx.2.1; have := hx.2.2.1; omega
  have LX := hd hx.1
  have HX := hd hx
  clear hx hn
  obtain ⟨z0, z1, z2⟩ := z
  go_enter Tryd.func21, Tryd.ntmps21
  go_wp2
  have B0 : Hid (Below w.heap.size w (w.alloc (.cells #[.int .u8 z0, .int .i64 z1, .int .i64 z2] 50))) := (Below.refl _ _).alloc (Nat.le_refl _) _
  have hz : (w.alloc (.cells #[.int .u8 z0, .int .i64 z1, .int .i64 z2] 50)).heap[w.heap.size]? = some (.cells #[.int .u8 z0, .int .i64 z1, .int .i64 z2] 50 (0, 0)) := heap_alloc_new w _
  have HX2 : Hid (IsE (w.alloc (.cells #[.int .u8 z0, .int .i64 z1, .int .i64 z2] 50)) (some ⟨b1, o1, none⟩) n c xs) := hd (HX.out.below B0.out)
  generalize w.alloc (.cells #[.int .u8 z0, .int .i64 z1, .int .i64 z2] 50) = W at *
  have c0 : W.cell? ⟨w.heap.size, 0, none⟩ = some (.int .u8 z0) := by simp [World.cell?, hz]
  have c1 : W.cell? ⟨w.heap.size, 1, none⟩ = some (.int .i64 z1) := by simp [World.cell?, hz]
  have c2 : W.cell? ⟨w.heap.size, 2, none⟩ = some (.int .i64 z2) := by simp [World.cell?, hz]
  have HZ := hd hz
  clear HX hz
  go_loopw [5] (fun i wr => ∃ k m : Nat, k ≤ n ∧ i = .int .i64 k ∧ wr = W.drewN m ∧ Hid (placeP (z0, z1, z2) xs 0 = placeP (z0, z1, z2) (xs.drop k) k)) (fun i _ => n - (intOf i).toNat)
  case atStart => exact ⟨0, 0, Nat.zero_le _, rfl, rfl, (rfl : _ = _)⟩
  case round =>
    obtain ⟨k, m, hk, rfl, rfl, hr⟩ := hrel
    by_cases hlt : k < n
    · have kx : k < xs.length := by have := LX.out; omega
      obtain ⟨x0, x1, x2⟩ := HX2.out.at k hlt kx
      have FA := hd (hr.out.trans (placeP_at kx))
      have i1 : (k : Int) < (n : Int) := by omega
      generalize xs[k] = x at *
      obtain ⟨xa, xb, xc⟩ := x
      simp only [] at x0 x1 x2
      clear hr
      by_cases t : (xa, xb, xc) = (z0, z1, z2)
      · have R : Hid (placeP (z0, z1, z2) xs 0 = (k : Int)) := by rw [FA.out, if_pos t]; exact (rfl : _ = _)
        obtain ⟨rfl, rfl, rfl⟩ : xa = z0 ∧ xb = z1 ∧ xc = z2 := by simpa using t
        clear FA t
        go_wp2
        go_quiet (fail)
        go_wp2
        go_ret
        exact ⟨by rw [R.out]; rfl, (B0.out.trans ((Fr.drewN (fun _ => False) W _).below B0.out.size (fun k h => h.elim))).trans ((Fr.drewN (fun _ => False) (W.drewN m) _).below (by have := B0.out.size; simpa using this) (fun k h => h.elim))⟩
      · have R : Hid (placeP (z0, z1, z2) xs 0 = placeP (z0, z1, z2) (xs.drop (k + 1)) (k + 1)) := by rw [FA.out, if_neg t]; exact (rfl : _ = _)
        have t' : (xa == z0) = false ∨ (xa = z0 ∧ (xb == z1) = false) ∨ (xa = z0 ∧ xb = z1 ∧ (xc == z2) = false) := by
          by_cases h0 : xa = z0
          · by_cases h1 : xb = z1
            · by_cases h2 : xc = z2
              · exact absurd (by rw [h0, h1, h2]) t
              · exact .inr (.inr ⟨h0, h1, by simpa using h2⟩)
            · exact .inr (.inl ⟨h0, by simpa using h1⟩)
          · exact .inl (by simpa using h0)
        clear FA t
        rcases t' with t | ⟨rfl, t⟩ | ⟨rfl, rfl, t⟩
        all_goals
          go_wp2
          go_quiet (fail)
          go_wp2
          exact ⟨⟨k + 1, _, by omega, by go_num, rfl, R⟩, by simp [intOf]; omega⟩
    · obtain rfl : k = n := by omega
      have R : Hid (placeP (z0, z1, z2) xs 0 = -1) := by rw [hr.out, List.drop_of_length_le (by have := LX.out; omega)]; exact (rfl : _ = _)
      clear hr
      go_wp2
      go_ret
      exact ⟨by rw [R.out]; rfl, B0.out.trans ((Fr.drewN (fun _ => False) W _).below B0.out.size (fun k h => h.elim))⟩

end Go.Proofs.YtmkgkgdngjmcmabDoor
