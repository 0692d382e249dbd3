/-
  Inboxes among several objects; the laws within, eq, fixed.
-/
import Derived.Test.YtpjnhjijipcjkaaMa
import Derived.Test.YtpjnhjijipcjkaaJd
namespace Go.Proofs.Ytpjnhjijipcjkaa
open Go.RowKit
set_option linter.unusedVariables false

/-- A list of numbers that the call has made, from block base on. -/
def IV (w : World) (base : Nat) (v : Value) (xs : List Int) : Prop := ∃ β, SF ei 1 w 3 β v xs ∧ ∀ g, β = some g → base ≤ g

theorem IV.kp {w w' : World} {b : Nat} {v : Value} {xs : List Int} (h : IV w b v xs) (hk : ∀ k, b ≤ k → k < w.heap.size → w'.heap[k]? = w.heap[k]?) : IV w' b v xs := by
  obtain ⟨β, hS, hg⟩ := h
  refine ⟨β, ?_, hg⟩
  cases β with
  | none => exact hS
  | some g =>
    obtain ⟨cap, hv, cur, hh, r⟩ := hS
    exact ⟨cap, hv, cur, (hk g (hg g rfl) (block_lt hh)).trans hh, r⟩

def inO (x : Nat) (p : Ib) : Thg := fun w S => InAt 82 w x p S ∧ ∀ q ∈ p.H, IOk q.2
theorem frm_in (x : Nat) (p : Ib) : Frm (inO x p) := ⟨fun _ _ _ _ h hF hS => ⟨h.1.fr hF hS, h.2⟩, fun _ _ h => h.1.old⟩

theorem iok_put {p : Ib} (h : ∀ q ∈ p.H, IOk q.2) (n y : Int) : ∀ q ∈ (iputS p n (.int .i64 y)).H, IOk q.2 := by
  unfold iputS
  split
  · intro q hq
    simp at hq
    rcases hq with hq | rfl
    · exact h q hq
    · exact ⟨y, rfl⟩
  · exact h
theorem iok_toss {p : Ib} (h : ∀ q ∈ p.H, IOk q.2) : ∀ q ∈ (itossS p).H, IOk q.2 := fun q hq => h q (cut_mem hq).1
theorem iok_pop {p : Ib} (h : ∀ q ∈ p.H, IOk q.2) : ∀ q ∈ (ipopS p).H, IOk q.2 := by
  unfold ipopS
  split
  · exact fun q hq => h q (cut_mem hq).1
  · exact h

section
variable {w0 w : World} {K : Nat → Prop} {F : Nat → Thg} {x : Nat} {p : Ib}
theorem mi_new (h : MO w0 w K F) (i R : Nat) (h1 : 1 ≤ R) (h2 : R ≤ 4096) : Calls Try.prog 11 #[.int .i64 R] w fun e w' => ∃ x, e = .returned (.tuple #[.pointer (some ⟨x, 0, none⟩), .int .i64 0]) ∧ MO w0 w' K (setO F i (inO x ⟨R, 0, []⟩)) ∧ KP K w w' := by
  refine (i_new_good R w h1 h2).mono ?_
  rintro e w' ⟨x, rfl, S, h3, h4, h5⟩
  exact ⟨x, rfl, h.put i (frm_in _ _) (S' := S) ⟨h3, by simp⟩ h4 h5, h.kp h5⟩
theorem mi_put (h : MO w0 w K F) (i : Nat) (hi : F i = inO x p) (n y : Int) : Calls Try.prog 14 #[.pointer (some ⟨x, 0, none⟩), .int .i64 n, .int .i64 y] w fun e w' => e = .returned (.int .i64 (iputE p n)) ∧ MO w0 w' K (setO F i (inO x (iputS p n (.int .i64 y)))) ∧ KP K w w' := by
  obtain ⟨S, h1, h2⟩ := h.now i
  rw [hi] at h1
  refine (i_put x p n y S w h1.1).mono ?_
  rintro e w' ⟨rfl, h3, h5⟩
  exact ⟨rfl, h2 _ w' S (frm_in _ _) ⟨h3, iok_put h1.2 n y⟩ (fun k hk => .inl hk) h5⟩
theorem mi_toss (h : MO w0 w K F) (i : Nat) (hi : F i = inO x p) : Calls Try.prog 38 #[.pointer (some ⟨x, 0, none⟩)] w fun e w' => e = .returned (.int .i64 (itossE p)) ∧ MO w0 w' K (setO F i (inO x (itossS p))) ∧ KP K w w' := by
  obtain ⟨S, h1, h2⟩ := h.now i
  rw [hi] at h1
  refine (i_toss x p S w h1.1).mono ?_
  rintro e w' ⟨rfl, h3, h5⟩
  exact ⟨rfl, h2 _ w' S (frm_in _ _) ⟨h3, iok_toss h1.2⟩ (fun k hk => .inl hk) h5⟩
theorem mi_pop (h : MO w0 w K F) (i : Nat) (hi : F i = inO x p) : Calls Try.prog 16 #[.pointer (some ⟨x, 0, none⟩)] w fun e w' => e = .returned (.int .i64 (itossE p)) ∧ MO w0 w' K (setO F i (inO x (ipopS p))) ∧ KP K w w' := by
  obtain ⟨S, h1, h2⟩ := h.now i
  rw [hi] at h1
  refine (i_pop x p S w h1.1).mono ?_
  rintro e w' ⟨rfl, h3, h5⟩
  exact ⟨rfl, h2 _ w' S (frm_in _ _) ⟨h3, iok_pop h1.2⟩ (fun k hk => .inl hk) h5⟩
theorem mi_reset (h : MO w0 w K F) (i : Nat) (hi : F i = inO x p) : Calls Try.prog 64 #[.pointer (some ⟨x, 0, none⟩)] w fun e w' => e = .returned (.tuple #[]) ∧ MO w0 w' K (setO F i (inO x (iresetS p))) ∧ KP K w w' := by
  obtain ⟨S, h1, h2⟩ := h.now i
  rw [hi] at h1
  refine (i_reset x p S w h1.1).mono ?_
  rintro e w' ⟨rfl, h3, h5⟩
  exact ⟨rfl, h2 _ w' S (frm_in _ _) ⟨h3, by simp [iresetS]⟩ (fun k hk => .inl hk) h5⟩
theorem mi_cum (h : MO w0 w K F) (i : Nat) (hi : F i = inO x p) : Calls Try.prog 17 #[.pointer (some ⟨x, 0, none⟩)] w fun e w' => e = .returned (.int .i64 p.c) ∧ w' = w := by
  obtain ⟨S, h1, -⟩ := h.now i
  rw [hi] at h1
  obtain ⟨⟨b, hK, -⟩, -⟩ := h1
  exact i_cum x b p w hK
theorem below_drewN' (w : World) (z : Nat) : RowKit.Below w.heap.size w (w.drewN z) := below_drewN (Below.refl _ _) _
theorem mi_head (h : MO w0 w K F) (i : Nat) (hi : F i = inO x p) : Calls Try.prog 15 #[.pointer (some ⟨x, 0, none⟩)] w fun e w' => e = .returned (.tuple #[atK p.H (p.c + 1) iz, .bool p.hd]) ∧ MO w0 w' K F ∧ KP K w w' := by
  obtain ⟨S, h1, -⟩ := h.now i
  rw [hi] at h1
  obtain ⟨⟨b, hK, -⟩, hv⟩ := h1
  refine (i_head x b p w hK hv).mono ?_
  rintro e w' ⟨rfl, z, rfl⟩
  exact ⟨rfl, h.below (below_drewN' _ _), h.kp (below_drewN' _ _)⟩
theorem mi_held (h : MO w0 w K F) (i : Nat) (hi : F i = inO x p) : Calls Try.prog 21 #[.pointer (some ⟨x, 0, none⟩)] w fun e w' => ∃ v, e = .returned v ∧ IV w' w.heap.size v (heldL p) ∧ MO w0 w' (fun k => K k ∨ (w.heap.size ≤ k ∧ k < w'.heap.size)) F ∧ KP K w w' := by
  obtain ⟨S, h1, -⟩ := h.now i
  rw [hi] at h1
  obtain ⟨⟨b, hK, -⟩, hv⟩ := h1
  refine (i_held x b p w hK).mono ?_
  rintro e w' ⟨u, rfl, h3, hb⟩
  refine ⟨u, rfl, h3, h.adds hb (fun k hk => hk.imp id (fun h => h.1)) ?_, h.kp hb⟩
  rintro k (hk | hk)
  · exact Nat.lt_of_lt_of_le (h.old k hk) hb.size
  · exact hk.2
theorem mi_ok (h : MO w0 w K F) (i : Nat) (hi : F i = inO x p) : p.ok ∧ ∀ q ∈ p.H, IOk q.2 := by
  obtain ⟨S, h1, -⟩ := h.now i
  rw [hi] at h1
  exact ⟨h1.1.ok, h1.2⟩
end

def noF : Nat → Thg := fun _ => noObj
theorem setO_setO (F : Nat → Thg) (i : Nat) (G G' : Thg) : setO (setO F i G) i G' = setO F i G' := by
  funext j
  unfold setO
  split <;> rfl
theorem setO_comm (F : Nat → Thg) (G G' : Thg) : setO (setO F 1 G) 0 G' = setO (setO F 0 G') 1 G := by
  funext j
  unfold setO
  by_cases h0 : j = 0
  · subst h0; simp
  · by_cases h1 : j = 1
    · subst h1; simp
    · simp [h0, h1]

/-- One inbox alone. -/
def IX (w0 w : World) (x : Nat) (p : Ib) (K : Nat → Prop) : Prop := MO w0 w K (setO noF 0 (inO x p))
theorem MO.nil' (w : World) : MO w w NoK noF := MO.nil w
section
variable {w0 w : World} {K : Nat → Prop} {x : Nat} {p : Ib}
theorem ix_new (R : Nat) (w : World) (h1 : 1 ≤ R) (h2 : R ≤ 4096) : Calls Try.prog 11 #[.int .i64 R] w fun e w' => ∃ x, e = .returned (.tuple #[.pointer (some ⟨x, 0, none⟩), .int .i64 0]) ∧ IX w w' x ⟨R, 0, []⟩ NoK := by
  refine (mi_new (MO.nil' w) 0 R h1 h2).mono ?_
  rintro e w' ⟨x, rfl, h, -⟩
  exact ⟨x, rfl, h⟩
theorem ix_put (h : IX w0 w x p K) (n y : Int) : Calls Try.prog 14 #[.pointer (some ⟨x, 0, none⟩), .int .i64 n, .int .i64 y] w fun e w' => e = .returned (.int .i64 (iputE p n)) ∧ IX w0 w' x (iputS p n (.int .i64 y)) K ∧ KP K w w' := by
  refine (mi_put h 0 (setO_same _ _ _) n y).mono ?_
  rintro e w' ⟨rfl, h1, h2⟩
  rw [setO_setO] at h1
  exact ⟨rfl, h1, h2⟩
theorem ix_toss (h : IX w0 w x p K) : Calls Try.prog 38 #[.pointer (some ⟨x, 0, none⟩)] w fun e w' => e = .returned (.int .i64 (itossE p)) ∧ IX w0 w' x (itossS p) K ∧ KP K w w' := by
  refine (mi_toss h 0 (setO_same _ _ _)).mono ?_
  rintro e w' ⟨rfl, h1, h2⟩
  rw [setO_setO] at h1
  exact ⟨rfl, h1, h2⟩
theorem ix_pop (h : IX w0 w x p K) : Calls Try.prog 16 #[.pointer (some ⟨x, 0, none⟩)] w fun e w' => e = .returned (.int .i64 (itossE p)) ∧ IX w0 w' x (ipopS p) K ∧ KP K w w' := by
  refine (mi_pop h 0 (setO_same _ _ _)).mono ?_
  rintro e w' ⟨rfl, h1, h2⟩
  rw [setO_setO] at h1
  exact ⟨rfl, h1, h2⟩
theorem ix_cum (h : IX w0 w x p K) : Calls Try.prog 17 #[.pointer (some ⟨x, 0, none⟩)] w fun e w' => e = .returned (.int .i64 p.c) ∧ w' = w := mi_cum h 0 (setO_same _ _ _)
theorem ix_head (h : IX w0 w x p K) : Calls Try.prog 15 #[.pointer (some ⟨x, 0, none⟩)] w fun e w' => e = .returned (.tuple #[atK p.H (p.c + 1) iz, .bool p.hd]) ∧ IX w0 w' x p K ∧ KP K w w' := mi_head h 0 (setO_same _ _ _)
theorem ix_held (h : IX w0 w x p K) : Calls Try.prog 21 #[.pointer (some ⟨x, 0, none⟩)] w fun e w' => ∃ v, e = .returned v ∧ IV w' w.heap.size v (heldL p) ∧ IX w0 w' x p (fun k => K k ∨ (w.heap.size ≤ k ∧ k < w'.heap.size)) ∧ KP K w w' := mi_held h 0 (setO_same _ _ _)
theorem ix_ok (h : IX w0 w x p K) : p.ok ∧ ∀ q ∈ p.H, IOk q.2 := mi_ok h 0 (setO_same _ _ _)
theorem IX.below {w' : World} (h : IX w0 w x p K) (hb : RowKit.Below w.heap.size w w') : IX w0 w' x p K := MO.below h hb
theorem IX.base (h : IX w0 w x p K) : RowKit.Below w0.heap.size w0 w := MO.base h
theorem IX.free (h : IX w0 w x p K) : IX w0 w x p NoK := MO.less h (fun k hk => hk.elim)
end

set_option maxHeartbeats 1000000 in
theorem within_any (v : Int) (lo hi : Nat) (w : World) (h2 : lo ≤ hi) (h3 : hi ≤ 4096) : Calls Try.prog 9 #[.int .i64 v, .int .i64 lo, .int .i64 hi] w fun e w' => ∃ r : Nat, e = .returned (.int .i64 r) ∧ lo ≤ r ∧ r ≤ hi ∧ w' = w := by
  by_cases h : (lo : Int) ≤ v ∧ v ≤ hi
  · obtain ⟨i1, i2⟩ := h
    obtain ⟨r, rfl⟩ : ∃ r : Nat, v = r := ⟨v.toNat, by omega⟩
    go_enter Try.func9, Try.ntmps9
    go_wp2
    go_ret
    exact ⟨r, rfl, by omega, by omega, rfl⟩
  · have hm0 : ¬ ((hi : Int) - lo + 1 = 0) := by omega
    have hw1 : IntKind.i64.wrap ((hi : Int) - lo) = (hi : Int) - lo := by rw [IntKind.wrap_i64]; omega
    have hw2 : IntKind.i64.wrap ((hi : Int) - lo + 1) = (hi : Int) - lo + 1 := by rw [IntKind.wrap_i64]; omega
    have hk1 : Int.tmod v ((hi : Int) - lo + 1) < (hi : Int) - lo + 1 := Int.tmod_lt_of_pos v (by omega)
    have hk2 : -((hi : Int) - lo + 1) < Int.tmod v ((hi : Int) - lo + 1) := by
      have := Int.tmod_lt_of_pos (-v) (show 0 < (hi : Int) - lo + 1 by omega)
      rw [Int.neg_tmod] at this
      omega
    generalize hk : Int.tmod v ((hi : Int) - lo + 1) = k at hk1 hk2
    by_cases i1 : (lo : Int) ≤ v
    · have i2 : ¬ v ≤ (hi : Int) := fun h' => h ⟨i1, h'⟩
      clear h
      go_enter Try.func9, Try.ntmps9
      go_wp2
      · go_ret
        exact ⟨((lo : Int) + (k + hi - lo + 1)).toNat, by rw [Int.toNat_of_nonneg (by omega)]; rfl, by omega, by omega, rfl⟩
      · go_ret
        exact ⟨((lo : Int) + k).toNat, by rw [Int.toNat_of_nonneg (by omega)]; rfl, by omega, by omega, rfl⟩
    · clear h
      go_enter Try.func9, Try.ntmps9
      go_wp2
      · go_ret
        exact ⟨((lo : Int) + (k + hi - lo + 1)).toNat, by rw [Int.toNat_of_nonneg (by omega)]; rfl, by omega, by omega, rfl⟩
      · go_ret
        exact ⟨((lo : Int) + k).toNat, by rw [Int.toNat_of_nonneg (by omega)]; rfl, by omega, by omega, rfl⟩

/-- The slice value holds the numbers xs. -/
def IsL (w : World) (v : Value) (xs : List Int) : Prop :=
  ∃ a c, v = .slice a xs.length c ∧ xs.length ≤ c ∧ c ≤ 9223372036854775807 ∧ (0 < xs.length → ∃ b off, a = some ⟨b, off, none⟩ ∧ b < w.heap.size ∧ ∀ i (h : i < xs.length), w.cell? ⟨b, off + i, none⟩ = some (.int .i64 xs[i]))
theorem IsL.fr {S : Nat → Prop} {w w' : World} {v : Value} {xs : List Int} (h : IsL w v xs) (hF : Fr S w w') (hS : ∀ b off n c, v = .slice (some ⟨b, off, none⟩) n c → 0 < n → ¬ S b) : IsL w' v xs := by
  obtain ⟨a, c, rfl, h1, h2, h3⟩ := h
  refine ⟨a, c, rfl, h1, h2, fun hn => ?_⟩
  obtain ⟨b, off, rfl, hb, hc⟩ := h3 hn
  refine ⟨b, off, rfl, Nat.lt_of_lt_of_le hb hF.size, fun i hi => ?_⟩
  rw [hF.cell (p := ⟨b, off + i, none⟩) hb (hS b off _ c rfl hn)]
  exact hc i hi
theorem IsL.below {w w' : World} {v : Value} {xs : List Int} (h : IsL w v xs) (hb : RowKit.Below w.heap.size w w') : IsL w' v xs := h.fr (S := fun _ => False) (Fr.of_below hb) (fun _ _ _ _ _ _ h => h)
theorem SF.isL {w : World} {β : Option Nat} {v : Value} {xs : List Int} (h : SF ei 1 w 3 β v xs) : IsL w v xs := by
  cases β with
  | none =>
    obtain ⟨rfl, rfl⟩ := h
    exact ⟨none, 0, rfl, Nat.le_refl _, by omega, fun h => by simp at h⟩
  | some g =>
    obtain ⟨cap, rfl, hR⟩ := h
    have hR' := hR
    obtain ⟨cur, hh, -, -, h1, h2, -⟩ := hR
    refine ⟨_, cap, rfl, h1, h2, fun _ => ⟨g, 0, rfl, block_lt hh, fun i hi => ?_⟩⟩
    have := hR'.cell sz_ei i 0 hi (by omega)
    rw [Nat.zero_add]
    simpa [ei] using this
theorem IV.isL {w : World} {b : Nat} {v : Value} {xs : List Int} (h : IV w b v xs) : IsL w v xs := by
  obtain ⟨β, h, -⟩ := h
  exact h.isL

set_option maxHeartbeats 1000000 in
theorem eq_true (u v : Value) (xs : List Int) (w : World) (hu : IsL w u xs) (hv : IsL w v xs) : Calls Try.prog 18 #[u, v] w fun e w' => e = .returned (.bool true) ∧ ∃ z, w' = w.drewN z := by
  obtain ⟨a1, c1, rfl, u1, u2, u3⟩ := hu
  obtain ⟨a2, c2, rfl, v1, v2, v3⟩ := hv
  obtain ⟨n, hn⟩ : ∃ n, xs.length = n := ⟨_, rfl⟩
  have U3 := hd u3
  have V3 := hd v3
  have HN := hd hn
  rw [hn] at u1 v1 ⊢
  clear u3 v3
  go_enter Try.func18, Try.ntmps18
  go_wp2_with fail
  go_loopw [5] (fun i wr => ∃ j : Nat, j ≤ n ∧ i = .int .i64 j ∧ ∃ z, wr = w.drewN z) (fun i _ => n - (intOf i).toNat)
  case atStart => exact ⟨0, Nat.zero_le _, rfl, 0, rfl⟩
  case round =>
    obtain ⟨j, hj, rfl, hz⟩ := hrel
    have hcell : ∀ q, wr.cell? q = w.cell? q := fun q => by obtain ⟨z, rfl⟩ := hz; rfl
    have HZ := hd hz
    clear hz
    by_cases hlt : j < n
    · obtain ⟨b, off, rfl, -, hb⟩ := U3.out (by have := HN.out; omega)
      obtain ⟨b', off', rfl, -, hb'⟩ := V3.out (by have := HN.out; omega)
      have q1 : wr.cell? ⟨b, off + j, none⟩ = some (.int .i64 (xs[j]'(by have := HN.out; omega))) := (hcell _).trans (hb j (by have := HN.out; omega))
      have q2 : wr.cell? ⟨b', off' + j, none⟩ = some (.int .i64 (xs[j]'(by have := HN.out; omega))) := (hcell _).trans (hb' j (by have := HN.out; omega))
      generalize (xs[j]'(by have := HN.out; omega)) = y at q1 q2
      have i1 : (j : Int) < (n : Int) := by omega
      clear U3 V3 hb hb' hcell
      go_wp2_with fail
      go_quiet (fail)
      go_wp2_with fail
      refine ⟨⟨j + 1, by omega, by go_num, ?_⟩, by simp [intOf]; omega⟩
      obtain ⟨z, rfl⟩ := HZ.out
      exact ⟨_, World.drewN_drewN _ _ _⟩
    · have i1 : ¬ (j : Int) < (n : Int) := by omega
      clear U3 V3 hcell
      go_wp2_with fail
      go_ret
      exact ⟨rfl, HZ.out⟩

end Go.Proofs.Ytpjnhjijipcjkaa
