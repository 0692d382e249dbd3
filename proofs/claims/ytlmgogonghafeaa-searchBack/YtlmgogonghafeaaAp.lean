/-
  apart: of the places those that lie over none that was taken.
-/
import Derived.Test.YtlmgogonghafeaaRt
import Derived.Test.YtlmgogonghafeaaFn
namespace Go.Proofs.Ytlmgogonghafeaa
open Go.RowKit Go.Lib
set_option linter.unusedVariables false

/-- A list of numbers of one's own, and all else as it was. -/
def NmI (w wr : World) (v : Value) (l : List Nat) : Prop := ∃ β, SF ei 1 wr 3 β v (nI l) ∧ (∀ k, β = some k → w.heap.size ≤ k) ∧ Below w.heap.size w wr
theorem NmI.push {w wr : World} {v : Value} {xs : List Nat} (h : NmI w wr v xs) (x : Nat) (hx : xs.length ≤ 10000000000000) :
    ∃ v' w', (∀ ty, (Builtin.append_ #[27, 27] ty #[v, .slice (some ⟨wr.heap.size, 0, none⟩) 1 1]).run Try.prog (wr.alloc (.cells #[.int .i64 ((x : Nat) : Int)] 3)) = .ok v' w') ∧ NmI w w' v' (xs ++ [x]) := by
  obtain ⟨β, h1, h2, h3⟩ := h
  have hB : Below w.heap.size w (wr.alloc (.cells #[.int .i64 ((x : Nat) : Int)] 3)) := h3.alloc h3.size _
  obtain ⟨v', w', hr, g, hS, hN⟩ := push_int _ β v (nI xs) (h1.fr (Fr.alloc (fun _ => False) _ _) (fun _ _ h => h)) wr.heap.size (x : Int) (heap_alloc_new wr _) (by simpa [nI] using hx)
  refine ⟨v', w', hr, some g, by simpa [nI] using hS, fun k hk => ?_, ?_⟩
  · cases hk
    rcases hN with ⟨e, -⟩ | ⟨e, -⟩
    · exact h2 _ e
    · rw [e]; exact hB.size
  · rcases hN with ⟨e, hf⟩ | ⟨e, hf⟩
    · exact hB.trans (hf.below hB.size (fun k hk => by rw [hk]; exact h2 g e))
    · exact hB.trans (hf.below hB.size (fun k hk => hk.elim))
theorem NmI.isN {w wr : World} {v : Value} {l : List Nat} (h : NmI w wr v l) : IsN w wr v l := by
  obtain ⟨β, h1, h2, h3⟩ := h
  exact ⟨β, h1, fun g e => h2 g e⟩

/-- Those taken, from the left: (the first free place, those taken). -/
def apN (m : Nat) (s : Nat × List Nat) (p : Nat) : Nat × List Nat := if s.1 ≤ p then (p + m, s.2 ++ [p]) else s
def apS (m : Nat) (l : List Nat) : Nat × List Nat := l.foldl (apN m) (0, [])
theorem apS_succ {m : Nat} {l : List Nat} {k : Nat} (h : k < l.length) : apS m (l.take (k + 1)) = apN m (apS m (l.take k)) l[k] := by
  unfold apS
  rw [List.take_succ_eq_append_getElem h, List.foldl_append]
  rfl
theorem apS_len (m : Nat) (l : List Nat) : (apS m l).2.length ≤ l.length := by
  have h : ∀ (l : List Nat) (s : Nat × List Nat), (l.foldl (apN m) s).2.length ≤ s.2.length + l.length := by
    intro l
    induction l with
    | nil => intro s; simp
    | cons p l ih =>
      intro s
      rw [List.foldl_cons]
      have h1 := ih (apN m s p)
      have h2 : (apN m s p).2.length ≤ s.2.length + 1 := by
        unfold apN
        by_cases h : s.1 ≤ p
        · rw [if_pos h]; simp
        · rw [if_neg h]; omega
      rw [List.length_cons]
      omega
  have := h l (0, [])
  simpa [apS] using this
theorem apS_free {m B : Nat} (l : List Nat) (hl : ∀ p ∈ l, p ≤ B) : (apS m l).1 ≤ B + m := by
  have h : ∀ (l : List Nat) (s : Nat × List Nat), (∀ p ∈ l, p ≤ B) → s.1 ≤ B + m → (l.foldl (apN m) s).1 ≤ B + m := by
    intro l
    induction l with
    | nil => intro s _ h; exact h
    | cons p l ih =>
      intro s hl hs
      rw [List.foldl_cons]
      refine ih _ (fun q hq => hl q (by simp [hq])) ?_
      have := hl p (by simp)
      unfold apN
      by_cases h : s.1 ≤ p
      · rw [if_pos h]; show p + m ≤ B + m; omega
      · rw [if_neg h]; exact hs
  exact h l (0, []) hl (by show 0 ≤ B + m; omega)

set_option maxRecDepth 100000 in
set_option maxHeartbeats 4000000 in
theorem apart_any (a : Option Addr) (n c : Nat) (l : List Nat) (m : Nat) (w : World) (hL : IsL w a n c l) (hn : n ≤ 1000000000) (hm : m ≤ 1000000) (hB : ∀ p ∈ l, p ≤ 1000000000) :
    Calls Try.prog 35 #[.slice a n c, .int .i64 (m : Int)] w fun e w' => ∃ v, e = .returned v ∧ NmI w w' v (apS m l).2 := by
  obtain ⟨hl, hnc, hc, hcell⟩ := hL
  have HL := hd hl
  have HC := hd hcell
  have HB := hd hB
  clear hl hcell hB
  go_enter Try.func35, Try.ntmps35
  go_upto_region 4 with fail
  go_loopw [5, 6, 11] (fun v f i wr => ∃ k fr : Nat, k ≤ n ∧ i = .int .i64 k ∧ f = .int .i64 fr ∧ Hid (fr = (apS m (l.take k)).1) ∧ Hid (NmI w wr v (apS m (l.take k)).2)) (fun _ _ i _ => n - (intOf i).toNat)
  case atStart => exact ⟨0, 0, Nat.zero_le _, rfl, rfl, hd rfl, hd ⟨none, ⟨rfl, rfl⟩, fun k hk => (by cases hk), Below.refl _ _⟩⟩
  case round =>
    obtain ⟨k, fr, hk, rfl, rfl, HF, HI⟩ := hrel
    by_cases hlt : k < n
    · have hkl : k < l.length := by rw [HL.out]; exact hlt
      obtain ⟨b, off, rfl, hb, hcs⟩ := HC.out (by omega)
      have hB' : Below w.heap.size w wr := HI.out.choose_spec.2.2
      have c1 : wr.cell? ⟨b, off + k, none⟩ = some (.int .i64 ((l[k] : Nat) : Int)) := by rw [hB'.cell (p := ⟨b, off + k, none⟩) hb]; exact hcs k hkl
      have hp : l[k] ≤ 1000000000 := HB.out _ (List.getElem_mem hkl)
      have hfr : fr ≤ 1001000000 := by
        rw [HF.out]
        have := apS_free (m := m) (B := 1000000000) (l.take k) (fun p hp => HB.out p (List.mem_of_mem_take hp))
        omega
      have hlen : (apS m (l.take k)).2.length ≤ 10000000000000 := by
        have h1 := apS_len m (l.take k)
        rw [List.length_take] at h1
        omega
      have SU := hd (apS_succ (m := m) hkl)
      clear hcs hB'
      generalize hP : l[k] = P at *
      by_cases hf : fr ≤ P
      · obtain ⟨v', w', hr, hT⟩ := HI.out.push P hlen
        have Z : Hid (P + m = (apS m (l.take (k + 1))).1 ∧ NmI w w' v' (apS m (l.take (k + 1))).2) := by
          rw [SU.out]
          unfold apN
          rw [if_pos (by rw [← HF.out]; exact hf)]
          exact ⟨rfl, hT⟩
        have hf2 : (fr : Int) ≤ (P : Int) := by omega
        clear hT HI SU hP hf
        go_wp2_with (at_builtin; refine wpList_append_k _ rfl _ _ 27 27 rfl _ _ rfl rfl (hr _) ?_)
        exact ⟨⟨k + 1, P + m, by omega, by go_num, by go_num, hd Z.out.1, hd Z.out.2⟩, by simp only [intOf]; omega⟩
      · have e : apS m (l.take (k + 1)) = apS m (l.take k) := by
          rw [SU.out]
          unfold apN
          rw [if_neg (by rw [← HF.out]; exact hf)]
        rw [← e] at HF HI
        have hf2 : ¬ (fr : Int) ≤ (P : Int) := by omega
        clear SU hP hf e
        go_wp2_with fail
        exact ⟨⟨k + 1, fr, by omega, by go_num, rfl, HF, HI⟩, by simp only [intOf]; omega⟩
    · obtain rfl : k = n := by omega
      have Z := hd HI.out
      rw [List.take_of_length_le (by rw [HL.out]; omega)] at Z
      clear HI HF
      go_wp2_with fail
      go_ret
      exact ⟨_, rfl, Z.out⟩
end Go.Proofs.Ytlmgogonghafeaa
