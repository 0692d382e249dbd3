/-
  The law's where.
-/
import Derived.Test.YtkkklfnooeofcaaFc
namespace Go.Proofs.Ytkkklfnooeofcaa
open Go.RowKit Go.Maps Go.ChangeMaps Go.MapKept Go.WideMaps
set_option linter.unusedVariables false

/-- Where the marks among the first k stand. -/
def WhI (bs : List Bool) (k : Nat) (f t : Nat) (g : Bool) : Prop :=
  (g = true ∧ f = 0 ∧ t = 0 ∧ ∀ i, i < k → bs[i]? ≠ some true) ∨ (g = false ∧ f < t ∧ t ≤ k ∧ bs[f]? = some true ∧ bs[t - 1]? = some true ∧ ∀ i, i < k → bs[i]? = some true → f ≤ i ∧ i < t)
theorem WhI.no {bs : List Bool} {k f t : Nat} {g : Bool} (h : WhI bs k f t g) (hb : bs[k]? = some false) : WhI bs (k + 1) f t g := by
  rcases h with ⟨h1, h2, h3, h4⟩ | ⟨h1, h2, h3, h4, h5, h6⟩
  · refine .inl ⟨h1, h2, h3, fun i hi => ?_⟩
    by_cases e : i = k
    · subst e; rw [hb]; simp
    · exact h4 i (by omega)
  · refine .inr ⟨h1, h2, by omega, h4, h5, fun i hi hb' => ?_⟩
    by_cases e : i = k
    · subst e; rw [hb] at hb'; cases hb'
    · exact h6 i (by omega) hb'
theorem WhI.one {bs : List Bool} {k f t : Nat} (h : WhI bs k f t true) (hb : bs[k]? = some true) : WhI bs (k + 1) k (k + 1) false := by
  rcases h with ⟨h1, h2, h3, h4⟩ | ⟨h1, -⟩
  · refine .inr ⟨rfl, by omega, by omega, hb, by simpa using hb, fun i hi hb' => ?_⟩
    by_cases e : i = k
    · omega
    · exact absurd hb' (h4 i (by omega))
  · cases h1
theorem WhI.more {bs : List Bool} {k f t : Nat} (h : WhI bs k f t false) (hb : bs[k]? = some true) : WhI bs (k + 1) f (k + 1) false := by
  rcases h with ⟨h1, -⟩ | ⟨h1, h2, h3, h4, h5, h6⟩
  · cases h1
  · refine .inr ⟨rfl, by omega, by omega, h4, by simpa using hb, fun i hi hb' => ?_⟩
    by_cases e : i = k
    · omega
    · have := h6 i (by omega) hb'; omega

/-- What where answers. -/
def WhR (bs : List Bool) (e : Ending) : Prop := ∃ (f t : Nat) (g : Bool), e = .returned (.tuple #[.int .i64 (f : Int), .int .i64 (t : Int), .bool g]) ∧ WhI bs bs.length f t g

set_option maxRecDepth 100000 in
set_option maxHeartbeats 2000000 in
theorem where_any (β : Option Nat) (v : Value) (bs : List Bool) (w : World) (hS : SF bc 1 w 4 β v bs) :
    Calls Try.prog 26 #[v] w fun e w' => WhR bs e ∧ w' = w := by
  obtain ⟨a, c, rfl, hnc, hc63⟩ := hS.form
  have hcell : ∀ i b, bs[i]? = some b → ∃ g, a = some ⟨g, 0, none⟩ ∧ w.cell? ⟨g, i, none⟩ = some (.bool b) := by
    intro i b hb
    cases β with
    | none =>
      obtain ⟨-, rfl⟩ := hS
      simp at hb
    | some g =>
      obtain ⟨cap, h1, hR⟩ := hS
      injection h1 with h1 h2 h3
      subst h1
      refine ⟨g, rfl, SF.bl (n := bs.length) (c := cap) ⟨cap, rfl, hR⟩ i b hb⟩
  have HC := hd hcell
  obtain ⟨n, hn⟩ : ∃ n, bs.length = n := ⟨_, rfl⟩
  rw [hn] at hnc ⊢
  have HN := hd hn
  clear hS hcell hn
  go_enter Try.func26, Try.ntmps26
  go_wp2
  go_loop [5, 6, 7, 8] (fun fv tv gv i => ∃ (k f t : Nat) (g : Bool), k ≤ n ∧ f ≤ n ∧ t ≤ n ∧ fv = .int .i64 f ∧ tv = .int .i64 t ∧ gv = .bool g ∧ i = .int .i64 k ∧ Hid (WhI bs k f t g)) (fun _ _ _ i => n - (intOf i).toNat)
  case atStart => exact ⟨0, 0, 0, true, Nat.zero_le _, Nat.zero_le _, Nat.zero_le _, rfl, rfl, rfl, rfl, hd (.inl ⟨rfl, rfl, rfl, fun i hi => by omega⟩)⟩
  case round =>
    obtain ⟨k, f, t, g, hk, hf, ht, rfl, rfl, rfl, rfl, HI⟩ := hrel
    by_cases hlt : k < n
    · have hkl : k < bs.length := by rw [HN.out]; exact hlt
      obtain ⟨gb, rfl, ck⟩ := HC.out k bs[k] (List.getElem?_eq_getElem hkl)
      have EB := hd (List.getElem?_eq_getElem hkl)
      generalize bs[k] = b at *
      cases b with
      | false =>
        have Z := hd (HI.out.no EB.out)
        clear HI EB
        go_wp2
        go_round
        case rel => exact ⟨k + 1, f, t, g, by omega, hf, ht, rfl, rfl, rfl, by go_num, Z⟩
        case measure => simp [intOf]; omega
      | true =>
        cases g with
        | true =>
          have Z := hd (HI.out.one EB.out)
          clear HI EB
          go_wp2
          go_round
          case rel => exact ⟨k + 1, k, k + 1, false, by omega, by omega, by omega, rfl, by go_num, rfl, by go_num, Z⟩
          case measure => simp [intOf]; omega
        | false =>
          have Z := hd (HI.out.more EB.out)
          clear HI EB
          go_wp2
          go_round
          case rel => exact ⟨k + 1, f, k + 1, false, by omega, hf, by omega, rfl, by go_num, rfl, by go_num, Z⟩
          case measure => simp [intOf]; omega
    · obtain rfl : k = n := by omega
      go_wp2
      refine bodyPost_ret (v := .tuple #[.int .i64 (f : Int), .int .i64 (t : Int), .bool g]) (by simp [results, Try.results26, go_sem]) rfl ?_
      exact ⟨⟨f, t, g, rfl, by rw [HN.out]; exact HI.out⟩, rfl⟩

/-- Marks that tell which elements of a text are a note's. -/
def Mk (xs es : List El) (bs : List Bool) : Prop := bs.length = xs.length ∧ ∀ (i : Nat) (x : El), xs[i]? = some x → (bs[i]? = some true ↔ x ∈ es)
theorem Mk.rc {xs es : List El} {bs : List Bool} (h : Mk xs es bs) {f t : Nat} {g : Bool} (hw : WhI bs bs.length f t g) : reachP xs es = (f, t) ∧ g = ((f : Int) == (t : Int)) := by
  obtain ⟨h1, h2⟩ := h
  have tr : ∀ i : Nat, bs[i]? = some true → ∃ x ∈ es, xs[i]? = some x := by
    intro i hb
    have hi := (List.getElem?_eq_some_iff.1 hb).1
    have hx := List.getElem?_eq_getElem (show i < xs.length by omega)
    exact ⟨_, (h2 i _ hx).1 hb, hx⟩
  rcases hw with ⟨rfl, rfl, rfl, k4⟩ | ⟨rfl, k2, k3, k4, k5, k6⟩
  · refine ⟨reachP_eq (.inl ⟨rfl, fun x hx hm => ?_⟩), by simp⟩
    obtain ⟨i, hi⟩ := List.getElem?_of_mem hx
    have hl := (List.getElem?_eq_some_iff.1 hi).1
    exact k4 i (by omega) ((h2 i x hi).2 hm)
  · refine ⟨reachP_eq (.inr ⟨k2, by simp only; omega, tr _ k4, tr _ k5, fun p x hp hx => ?_⟩), ?_⟩
    · have hl := (List.getElem?_eq_some_iff.1 hp).1
      exact k6 p (by omega) ((h2 p x hp).2 hx)
    · symm
      rw [beq_eq_false_iff_ne]
      omega

end Go.Proofs.Ytkkklfnooeofcaa
