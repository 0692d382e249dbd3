/-
  Send, Drop, Double.
-/
import Derived.Test.YtnglcnilckolkaaNg
namespace Go.Proofs.Ytnglcnilckolkaa
open Go.RowKit Go.Maps
set_option linter.unusedVariables false

/-- The net at block x holds G; no more than B were ever put into flight. -/
def NB (w : World) (x : Nat) (cl : Int) (G : List DG) (B : Nat) (S : Nat → Prop) : Prop := ∃ nx, nx ≤ B ∧ NetAt w x cl G nx S

theorem NB.mono {w : World} {x : Nat} {cl : Int} {G : List DG} {B B' : Nat} {S : Nat → Prop} (h : NB w x cl G B S) (hB : B ≤ B') : NB w x cl G B' S := by
  obtain ⟨nx, h1, h2⟩ := h
  exact ⟨nx, by omega, h2⟩
theorem NB.fr {S T : Nat → Prop} {w w' : World} {x : Nat} {cl : Int} {G : List DG} {B : Nat} (h : NB w x cl G B S) (hF : Fr T w w') (hS : ∀ k, S k → ¬ T k) : NB w' x cl G B S := by
  obtain ⟨nx, h1, h2⟩ := h
  exact ⟨nx, h1, h2.fr hF hS⟩
theorem NB.below {S : Nat → Prop} {w w' : World} {x : Nat} {cl : Int} {G : List DG} {B : Nat} (h : NB w x cl G B S) (hb : Below w.heap.size w w') : NB w' x cl G B S := by
  obtain ⟨nx, h1, h2⟩ := h
  exact ⟨nx, h1, h2.below hb⟩
theorem NB.few {S : Nat → Prop} {w : World} {x : Nat} {cl : Int} {G : List DG} {B : Nat} (h : NB w x cl G B S) : G.length ≤ 2048 := by
  obtain ⟨nx, h1, h2⟩ := h
  exact h2.few
theorem NB.old {S : Nat → Prop} {w : World} {x : Nat} {cl : Int} {G : List DG} {B : Nat} (h : NB w x cl G B S) : ∀ k, S k → k < w.heap.size := by
  obtain ⟨nx, h1, h2⟩ := h
  exact h2.old
theorem NB.short {S : Nat → Prop} {w : World} {x : Nat} {cl : Int} {G : List DG} {B : Nat} (h : NB w x cl G B S) : ∀ d ∈ G, d.b.length ≤ 64 := by
  obtain ⟨nx, h1, h2⟩ := h
  exact h2.short

/-- What a call leaves of a net. -/
def NowB (w w' : World) (x : Nat) (cl : Int) (G : List DG) (B : Nat) (S : Nat → Prop) : Prop :=
  ∃ S', NB w' x cl G B S' ∧ (∀ k, S' k → S k ∨ w.heap.size ≤ k) ∧ Fr S w w'

theorem NowB.same {w : World} {x : Nat} {cl : Int} {G : List DG} {B B' : Nat} {S : Nat → Prop} (h : NB w x cl G B S) (hB : B ≤ B') : NowB w w x cl G B' S := ⟨S, h.mono hB, fun k hk => .inl hk, Fr.refl _ _⟩
theorem Now.b {w w' : World} {x : Nat} {cl : Int} {G : List DG} {nx B : Nat} {S : Nat → Prop} (h : Now w w' x cl G nx S) (hB : nx ≤ B) : NowB w w' x cl G B S := by
  obtain ⟨S', h1, h2, h3⟩ := h
  exact ⟨S', ⟨nx, hB, h1⟩, h2, h3⟩

theorem count_any (x : Nat) (cl : Int) (G : List DG) (B : Nat) (S : Nat → Prop) (w : World) (h : NB w x cl G B S) : Calls Try.prog 13 #[.pointer (some ⟨x, 0, none⟩)] w fun e w' => e = .returned (.int .i64 G.length) ∧ w' = w := by
  obtain ⟨nx, hb, E, bm, va, β, hN, rfl⟩ := h
  have := count_nk x cl E nx S bm va β w hN
  simpa using this

def sendE (cl : Int) (n : Nat) (f t : Int) (m : Nat) : Int := if joinsP cl f t = false then 71 else if 64 < m then 72 else if 2048 ≤ n then 73 else 0
def sendG (cl : Int) (G : List DG) (f t : Int) (b : List Int) : List DG := if sendE cl G.length f t b.length = 0 then G ++ [⟨f, t, b, false⟩] else G

set_option maxHeartbeats 2000000 in
theorem send_any (x : Nat) (cl : Int) (G : List DG) (B : Nat) (S : Nat → Prop) (w : World) (h : NB w x cl G B S) (hB : B < 1000000000) (f t : Int) (a : Option Addr) (n c : Nat) (b : List Int) (hb : IsB w a n c b) :
    Calls Try.prog 12 #[.pointer (some ⟨x, 0, none⟩), .int .i64 f, .int .i64 t, .slice a n c] w fun e w' => e = .returned (.int .i64 (sendE cl G.length f t n)) ∧ NowB w w' x cl (sendG cl G f t b) (B + 1) S := by
  have H := hd h
  have HB := hd hb
  obtain ⟨nx, hnx, E, bm, va, β, hN, hG⟩ := h
  have hl : G.length = E.length := by rw [← hG]; simp
  have hm : b.length = n := hb.1
  have hnc : n ≤ c ∧ c ≤ 9223372036854775807 := ⟨hb.2.1, hb.2.2.1⟩
  have HN := hd hN
  have HG := hd hG
  have HL := hd hl
  have HM := hd hm
  have HX := hd hnx
  clear hN hb hG hl hm hnx
  go_enter Try.func12, Try.ntmps12
  go_wp2_with fail
  refine (joins_nk x cl E nx S bm va β w HN.out f t).mono ?_
  rintro e w1 ⟨rfl, rfl⟩
  cases hj : joinsP cl f t
  · have r1 : sendE cl G.length f t n = 71 := by simp [sendE, hj]
    have r2 : sendG cl G f t b = G := by simp [sendG, HM.out, r1]
    have R1 := hd r1
    have R2 := hd r2
    clear r1 r2
    go_wp2
    go_ret
    exact ⟨by rw [R1.out]; rfl, by rw [R2.out]; exact NowB.same H.out (by omega)⟩
  · by_cases h64 : 64 < n
    · have r1 : sendE cl G.length f t n = 72 := by simp [sendE, hj, h64]
      have r2 : sendG cl G f t b = G := by simp [sendG, HM.out, r1]
      have R1 := hd r1
      have R2 := hd r2
      clear r1 r2
      go_wp2
      go_ret
      exact ⟨by rw [R1.out]; rfl, by rw [R2.out]; exact NowB.same H.out (by omega)⟩
    · go_wp2_with fail
      refine (full_nk x cl E nx S bm va β w1 HN.out).mono ?_
      rintro e w2 ⟨rfl, rfl⟩
      by_cases hf : 2048 ≤ E.length
      · have r1 : sendE cl G.length f t n = 73 := by rw [HL.out]; simp only [sendE, hj]; rw [if_neg (by simp), if_neg (by omega), if_pos hf]
        have r2 : sendG cl G f t b = G := by simp [sendG, HM.out, r1]
        have R1 := hd r1
        have R2 := hd r2
        clear r1 r2
        rw [decide_eq_true hf]
        go_wp2
        go_ret
        exact ⟨by rw [R1.out]; rfl, by rw [R2.out]; exact NowB.same H.out (by omega)⟩
      · have r1 : sendE cl G.length f t n = 0 := by rw [HL.out]; simp only [sendE, hj]; rw [if_neg (by simp), if_neg (by omega), if_neg hf]
        have r2 : sendG cl G f t b = G ++ [⟨f, t, b, false⟩] := by simp [sendG, HM.out, r1]
        have R1 := hd r1
        have R2 := hd r2
        clear r1 r2
        rw [decide_eq_false hf]
        go_wp2_with fail
        refine (put_nk x cl E nx S bm va β w2 HN.out ⟨f, t, b, false⟩ a n c HB.out (by omega) (by omega) (by have := HX.out; omega)).mono ?_
        rintro e w3 ⟨rfl, hw⟩
        have R := hd hw
        clear hw
        go_wp2
        go_ret
        refine ⟨by rw [R1.out]; rfl, ?_⟩
        rw [R2.out]
        have := R.out.b (B := B + 1) (by have := HX.out; omega)
        rw [HG.out] at this
        exact this

theorem split_at {α : Type} (L : List α) (i : Nat) (h : i < L.length) : ∃ L1 e L2, L = L1 ++ e :: L2 ∧ L1.length = i := ⟨L.take i, L[i], L.drop (i + 1), by simp, by simp; omega⟩

/-- The i-th taken out. -/
def without (G : List DG) (i : Nat) : List DG := G.take i ++ G.drop (i + 1)
theorem without_at (G1 G2 : List DG) (d : DG) : without (G1 ++ d :: G2) G1.length = G1 ++ G2 := by
  unfold without
  rw [List.take_left, List.drop_append]
  simp

def isAt (n : Nat) (i : Int) : Prop := 0 ≤ i ∧ i < n
instance (n : Nat) (i : Int) : Decidable (isAt n i) := by unfold isAt; infer_instance

theorem drop_bad (x : Nat) (cl : Int) (G : List DG) (B : Nat) (S : Nat → Prop) (w : World) (h : NB w x cl G B S) (i : Int) (hi : ¬ isAt G.length i) :
    Calls Try.prog 16 #[.pointer (some ⟨x, 0, none⟩), .int .i64 i] w fun e w' => e = .returned (.int .i64 74) ∧ w' = w := by
  obtain ⟨nx, hnx, E, bm, va, β, hN, hG⟩ := h
  have hl : G.length = E.length := by rw [← hG]; simp
  have HN := hd hN
  rw [hl] at hi
  have hb : decide (0 ≤ i ∧ i < E.length) = false := decide_eq_false hi
  clear hN hG hl hi
  go_enter Try.func16, Try.ntmps16
  go_wp2_with fail
  refine (has_nk x cl E nx S bm va β w HN.out i).mono ?_
  rintro e w1 ⟨rfl, rfl⟩
  rw [hb]
  go_wp2
  go_ret
  exact ⟨rfl, rfl⟩

theorem drop_good (x : Nat) (cl : Int) (G : List DG) (B : Nat) (S : Nat → Prop) (w : World) (h : NB w x cl G B S) (i : Nat) (hi : i < G.length) :
    Calls Try.prog 16 #[.pointer (some ⟨x, 0, none⟩), .int .i64 i] w fun e w' => e = .returned (.int .i64 0) ∧ NB w' x cl (without G i) B S ∧ Fr S w w' := by
  obtain ⟨nx, hnx, E, bm, va, β, hN, hG⟩ := h
  have hl : G.length = E.length := by rw [← hG]; simp
  rw [hl] at hi
  have hb : decide (0 ≤ (i : Int) ∧ (i : Int) < E.length) = true := decide_eq_true (by omega)
  obtain ⟨E1, e, E2, rfl, rfl⟩ := split_at E i hi
  have hw : without G E1.length = E1.map En.d ++ E2.map En.d := by
    rw [← hG, List.map_append, List.map_cons]
    have := without_at (E1.map En.d) (E2.map En.d) e.d
    simpa using this
  have HW := hd (And.intro hw hnx)
  have HN := hd hN
  clear hN hG hl hi hw hnx
  go_enter Try.func16, Try.ntmps16
  go_wp2_with fail
  refine (has_nk x cl _ nx S bm va β w HN.out E1.length).mono ?_
  rintro ex w1 ⟨rfl, rfl⟩
  rw [hb]
  clear hb
  go_wp2_with fail
  refine (remove_nk x cl E1 E2 e nx S bm va β w1 HN.out).mono ?_
  rintro ex w2 ⟨rfl, h2, h3⟩
  have R := hd (And.intro h2 h3)
  clear h2 h3
  go_wp2
  go_ret
  refine ⟨rfl, ?_, R.out.2⟩
  rw [HW.out.1]
  exact ⟨nx, HW.out.2, R.out.1⟩

def doubleE (n : Nat) (i : Int) : Int := if isAt n i then (if 2048 ≤ n then 73 else 0) else 74

end Go.Proofs.Ytnglcnilckolkaa
