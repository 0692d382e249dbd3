/-
  eqInts; the states of NotesCovers.
-/
import Derived.Test.YtkkklfnooeofcaaHc
import Derived.Test.YtkkklfnooeofcaaGd
namespace Go.Proofs.Ytkkklfnooeofcaa
open Go.RowKit Go.Maps Go.ChangeMaps Go.MapKept Go.WideMaps
set_option linter.unusedVariables false

theorem SF.iv {w : World} {β : Option Nat} {a : Option Addr} {n c : Nat} {xs : List Int} (h : SF ic 1 w 3 β (.slice a n c) xs) (k : Nat) (hk : k < xs.length) : ∃ b, a = some ⟨b, 0, none⟩ ∧ w.cell? ⟨b, k, none⟩ = some (.int .i64 xs[k]) := by
  cases β with
  | none =>
    obtain ⟨-, rfl⟩ := h
    simp at hk
  | some g =>
    obtain ⟨cap, h, hR⟩ := h
    injection h with h1 h2 h3
    refine ⟨g, h1, ?_⟩
    have := hR.cell sz_ic k 0 hk (by omega)
    simpa [ic] using this

set_option maxRecDepth 100000 in
set_option maxHeartbeats 4000000 in
theorem eqInts_true (u v : Value) (β β' : Option Nat) (xs : List Int) (w : World) (hu : SF ic 1 w 3 β u xs) (hv : SF ic 1 w 3 β' v xs) :
    Calls Try.prog 17 #[u, v] w fun e w' => e = .returned (.bool true) ∧ ∃ m, w' = w.drewN m := by
  obtain ⟨a1, c, rfl, hc, hc'⟩ := hu.form
  obtain ⟨a2, d, rfl, hd1, hd2⟩ := hv.form
  have RU := hd (fun k hk => hu.iv k hk)
  have RV := hd (fun k hk => hv.iv k hk)
  obtain ⟨n, hn⟩ : ∃ n, xs.length = n := ⟨_, rfl⟩
  rw [hn] at hc hd1 ⊢
  have HN := hd hn
  clear hu hv hn
  go_enter Try.func17, Try.ntmps17
  go_wp2
  go_loopw [5] (fun i wr => ∃ k m : Nat, k ≤ n ∧ i = .int .i64 k ∧ wr = w.drewN m) (fun i _ => n - (intOf i).toNat)
  case atStart => exact ⟨0, 0, Nat.zero_le _, rfl, rfl⟩
  case round =>
    obtain ⟨k, m, hk, rfl, rfl⟩ := hrel
    by_cases hlt : k < n
    · have kx : k < xs.length := by have := HN.out; omega
      obtain ⟨b1, rfl, x0⟩ := RU.out k kx
      obtain ⟨b2, rfl, y0⟩ := RV.out k kx
      have i1 : (k : Int) < (n : Int) := by omega
      generalize xs[k] = x at *
      go_wp2
      go_quiet (fail)
      go_wp2
      exact ⟨⟨k + 1, _, by omega, by go_num, rfl⟩, by simp [intOf]; omega⟩
    · obtain rfl : k = n := by omega
      go_wp2
      go_ret
      exact ⟨rfl, _, rfl⟩

/-- The notes as All tells them, and the numbers so far. -/
structure CvL (w u : World) (O : Nat → Prop) (r g : Nat) (a : Option Addr) (n c : Nat) (xs : List El) (Ns : List Nt) (b0 : Option Nat) (v0 : Value) (L : List TN) (b1 : Option Nat) (v1 : Value) (A : List Int) : Prop where
  nu : NuE w u O r g a n c xs Ns
  be : SF tnc 8 u 37 b0 v0 L
  wa : SF ic 1 u 3 b1 v1 A
  n1 : ∀ k, b1 = some k → ¬ O k ∧ w.heap.size ≤ k ∧ ∀ b off, a = some ⟨b, off, none⟩ → b ≠ k
section
variable {w u u' : World} {O : Nat → Prop} {r g n c : Nat} {a : Option Addr} {xs : List El} {Ns : List Nt} {b0 b1 : Option Nat} {v0 v1 : Value} {L : List TN} {A : List Int}
theorem CvL.below (h : CvL w u O r g a n c xs Ns b0 v0 L b1 v1 A) (hb : Below u.heap.size u u') : CvL w u' O r g a n c xs Ns b0 v0 L b1 v1 A :=
  ⟨h.nu.below hb, h.be.fr (S := fun _ => False) (Fr.of_below hb) (fun _ _ h => h), h.wa.fr (S := fun _ => False) (Fr.of_below hb) (fun _ _ h => h), h.n1⟩
theorem CvL.push (h : CvL w u O r g a n c xs Ns b0 v0 L b1 v1 A) (z : Int) (hl : A.length + 1 ≤ 100000) :
    ∃ v' w' β', (∀ ty, (Builtin.append_ #[22, 22] ty #[v1, .slice (some ⟨u.heap.size, 0, none⟩) 1 1]).run Try.prog (u.alloc (.cells #[.int .i64 z] 3)) = .ok v' w') ∧ CvL w w' O r g a n c xs Ns b0 v0 L β' v' (A ++ [z]) := by
  obtain ⟨i0, hi0, hz0, hz1, hz2⟩ := info_parts Try.infoI
  have hb : Below u.heap.size u (u.alloc (.cells #[.int .i64 z] 3)) := (Below.refl _ _).alloc (Nat.le_refl _) _
  have h' := h.below hb
  have hz := heap_alloc_new u (.cells #[.int .i64 z] 3)
  obtain ⟨v', w', hr, g', h1, h2⟩ := run_pushF sz_ic (P := Try.prog) (u.alloc (.cells #[.int .i64 z] 3)) 22 0 3 i0 _ 8 Try.underlying22 hi0 hz0 hz1 rfl hz2 b1 v1 A h'.wa ⟨u.heap.size, 0, none⟩ 1 1 [z] rfl (fun j x hj => by
    rw [add_lit, Nat.zero_add, cell_row hz]
    simp only [cl_one] at hj
    simpa [ic] using hj) (by omega) (by omega) (by omega)
  have hlow := h'.nu.low
  have hg' : ¬ O g' ∧ w.heap.size ≤ g' ∧ ∀ b off, a = some ⟨b, off, none⟩ → b ≠ g' := by
    rcases h2 with ⟨e, -⟩ | ⟨e, -⟩
    · exact h.n1 g' e
    · refine ⟨fun ho => ?_, by rw [e]; exact hlow.size, fun b off e1 => ?_⟩
      · have := h'.nu.bd.old g' ho; omega
      · have := (h'.nu.ap b off e1).2
        omega
  have hF : Fr (· = g') (u.alloc (.cells #[.int .i64 z] 3)) w' := by
    rcases h2 with ⟨-, hf⟩ | ⟨-, hf⟩
    · exact hf
    · exact hf.mono (fun _ _ h => h.elim)
  have hb0 : ∀ k, b0 = some k → ¬ k = g' := by
    rintro k hk rfl
    have hbe := h'.be
    rw [hk] at hbe
    obtain ⟨cur, hc⟩ := hbe.blk
    rcases h2 with ⟨e, -⟩ | ⟨e, -⟩
    · have hrow := h'.wa
      rw [e] at hrow
      obtain ⟨cur2, hcur⟩ := hrow.blk
      exact ty_ne hc hcur (by decide) rfl
    · have := block_lt hc
      omega
  exact ⟨v', w', some g', fun ty => hr, h'.nu.fr hF hg'.1 hg'.2.2 hg'.2.1, h'.be.fr hF hb0, h1, fun k hk => by cases hk; exact hg'⟩
/-- Another text, newly made, anywhere. -/
theorem NuE.textS (h : NuE w u O r g a n c xs Ns) (hb : Below u.heap.size u u') {β : Option Nat} {a' : Option Addr} {n' c' : Nat} {ys : List El} (hS : SF elc 3 u' 57 β (.slice a' n' c') ys) (hn : ∀ k, β = some k → u.heap.size ≤ k) : NuE w u' O r g a' n' c' ys Ns := by
  refine ⟨h.bd.below hb, se_isE (sf_se hS), fun b off e => ?_, h.new, h.low.trans (hb.mono h.low.size)⟩
  cases β with
  | none =>
    obtain ⟨h1, -⟩ := hS
    injection h1 with h1
    rw [e] at h1
    cases h1
  | some q =>
    have hq := hn q rfl
    have hlt := (sf_se hS).lt q rfl
    obtain ⟨cap, h1, -⟩ := hS
    injection h1 with h1
    rw [e] at h1
    injection h1 with h1
    injection h1 with h1
    subst h1
    exact ⟨fun ho => by have := h.bd.old b ho; omega, hlt⟩
end

/-- Every third is shut. -/
def shR (Ns : List Nt) : Prop := ∀ n ∈ Ns, n.sh = decide (n.id % 3 = 0)
theorem shR.snoc {Ns : List Nt} (h : shR Ns) (n : Nt) (hn : n.sh = decide (n.id % 3 = 0)) : shR (Ns ++ [n]) := by
  intro m hm
  rcases List.mem_append.1 hm with hm | hm
  · exact h m hm
  · rw [List.mem_singleton.1 hm]; exact hn
theorem idsR.get {k : Nat} {Ns : List Nt} (h : idsR k Ns) (i : Nat) (hi : i < Ns.length) : Ns[i].id = i + 1 := by
  have := congrArg (fun l => l[i]?) h.1
  simp only [List.getElem?_map, List.getElem?_eq_getElem hi, Option.map_some] at this
  have hk := h.len
  rw [List.getElem?_range' (by omega)] at this
  simp at this
  omega
/-- What the law gathers is what At tells. -/
def cvT (pos : Int) (t : TN) : Bool := !t.n.sh && (!((t.s.1 : Int) == (t.s.2 : Int)) && (decide ((t.s.1 : Int) ≤ pos) && decide (pos < (t.s.2 : Int))))
theorem cv_cov {xs : List El} {pos : Int} {t : TN} (h : t.s = reachP xs t.n.el) : cvT pos t = cov xs pos t.n := by
  unfold cvT cov
  rw [← h]
  cases t.n.sh
  · by_cases h1 : (t.s.1 : Int) = (t.s.2 : Int)
    · by_cases h2 : (t.s.1 : Int) ≤ pos <;> by_cases h3 : pos < (t.s.2 : Int) <;> simp [h2, h3] <;> omega
    · have : ((t.s.1 : Int) == (t.s.2 : Int)) = false := by rw [beq_eq_false_iff_ne]; exact h1
      rw [this]
      simp
  · simp
theorem cv_list {xs : List El} {pos : Int} {L : List TN} {Ns : List Nt} (h : L.map TN.n = Ns) (hs : ∀ t ∈ L, t.s = reachP xs t.n.el) : (L.filter (cvT pos)).map (fun t => (t.n.id : Int)) = atP xs pos Ns := by
  unfold atP
  rw [← h, List.filter_map, List.map_map]
  have : L.filter (cvT pos) = L.filter (cov xs pos ∘ TN.n) := List.filter_congr fun t ht => cv_cov (hs t ht)
  rw [this]
  rfl
theorem take_mf {α β : Type} (p : α → Bool) (f : α → β) (L : List α) (i : Nat) (hi : i < L.length) : ((L.take (i + 1)).filter p).map f = ((L.take i).filter p).map f ++ (if p L[i] then [f L[i]] else []) := by
  rw [List.take_add_one, List.getElem?_eq_getElem hi, List.filter_append, List.map_append]
  simp only [Option.toList]
  cases h : p L[i] <;> simp [h]

end Go.Proofs.Ytkkklfnooeofcaa
