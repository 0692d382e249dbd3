/-
  DocFresh: apart, what holds.
-/
import Derived.Test.YtbgpmekjcepmaabFh
namespace Go.Proofs.Ytbgpmekjcepmaab
open Go.RowKit
set_option linter.unusedVariables false

/-- One text, lengthened by one. -/
def JRel (wo wq : World) (b n ci : Nat) (tx tl : List El) (x : Value) : Prop :=
  ∃ (P : List El) (g c : Nat), x = .slice (some ⟨g, 0, none⟩) (n + 1) c ∧ RowE wq g (n + 1) c (tx ++ tl) ∧ RowE wq b (tx ++ P).length ci (tx ++ P) ∧ Fr (· = b) wo wq ∧ ((g = b ∧ c = ci) ∨ wo.heap.size ≤ g)

theorem jrel_push {wr : World} {b n ci : Nat} {tx : List El} (hR : RowE wr b n ci tx) (e : El) (hn : n ≤ 4000) :
    ∃ x' w3, (∀ ty, (Builtin.append_ #[22, 22] ty #[.slice (some ⟨b, 0, none⟩) n ci, .slice (some ⟨wr.heap.size, 0, none⟩) 1 1]).run Try.prog (wr.alloc (.cells (elc e).toArray 46)) = .ok x' w3) ∧ JRel wr w3 b n ci tx [e] x' := by
  have B1 : Below wr.heap.size wr (wr.alloc (.cells (elc e).toArray 46)) := (Below.refl _ _).alloc (Nat.le_refl _) _
  have hl : tx.length = n := hR.isE.1
  have hb := hR.lt
  subst hl
  have h1 := hR.fr (S := fun _ => False) (Fr.of_below B1) (fun h => h)
  obtain ⟨g', c', w3, hr, hR3, hF⟩ := run_pushE2 _ b ci tx h1 wr.heap.size e (heap_alloc_new _ _) (by omega)
  have F1 : Fr (fun _ => False) wr (wr.alloc (.cells (elc e).toArray 46)) := Fr.of_below B1
  refine ⟨_, w3, hr, ?_⟩
  rcases hF with ⟨rfl, rfl, hF⟩ | ⟨rfl, hF⟩
  · refine ⟨[e], g', c', rfl, hR3, ?_, (F1.mono (fun q _ e => e.elim)).trans hF, .inl ⟨rfl, rfl⟩⟩
    have : (tx ++ [e]).length = tx.length + 1 := by simp
    rw [this]
    exact hR3
  · refine ⟨[], _, c', rfl, hR3, ?_, (F1.trans hF).mono (fun q _ e => e.elim), .inr (by simp)⟩
    rw [List.append_nil]
    exact h1.fr hF (fun e => e)

/-- What holds while the texts are lengthened by one. -/
def QRel (w wr : World) (gL K : Nat) (B N C : Nat → Nat) (Tx Tl : Nat → List El) (gv : Value) (i : Nat) : Prop :=
  ∃ (P : Nat → List El) (H D : Nat → Nat) (vs : List Value) (β : Option Nat), TB wr K B C (fun j => Tx j ++ P j) ∧ LC wr gL K B N C ∧ BFr w wr K B ∧ SRow wr 22 β gv vs ∧ vs.length = i ∧
    (∀ j, j < i → vs[j]? = some (.slice (some ⟨H j, 0, none⟩) (N j + 1) (D j)) ∧ RowE wr (H j) (N j + 1) (D j) (Tx j ++ Tl j) ∧ (H j = B j ∨ w.heap.size ≤ H j)) ∧ (∀ j, i ≤ j → P j = []) ∧ (∀ g, β = some g → w.heap.size ≤ g)

theorem QRel.step {w wr wq : World} {gL K : Nat} {B N C : Nat → Nat} {Tx Tl : Nat → List El} {gv : Value} {i : Nat} {x : Value} (h : QRel w wr gL K B N C Tx Tl gv i) (hi : i < K) (hq : JRel wr wq (B i) (N i) (C i) (Tx i) (Tl i) x) (hB : ∀ j, j < K → B j < w.heap.size) (hgL : gL < w.heap.size) (hK : K ≤ 1000) :
    ∃ (g c : Nat) (v' : Value) (w3 : World), x = .slice (some ⟨g, 0, none⟩) (N i + 1) c ∧ (∀ ty, (Builtin.append_ #[54, 54] ty #[gv, .slice (some ⟨wq.heap.size, 0, none⟩) 1 1]).run Try.prog (wq.alloc (.cells #[.slice (some ⟨g, 0, none⟩) (N i + 1) c] 22)) = .ok v' w3) ∧ QRel w w3 gL K B N C Tx Tl v' (i + 1) := by
  obtain ⟨P, H, D, vs, β, t1, t2, t3, t4, t5, t6, t7, t8⟩ := h
  obtain ⟨Q, g, c, rfl, q1, q2, q3, q4⟩ := hq
  have hBi := hB i hi
  have hsz : w.heap.size ≤ wr.heap.size := t3.size
  have rowB : ∃ cur2, wr.heap[B i]? = some (.cells cur2 46 (0, 0)) := by
    obtain ⟨cur, hh, _⟩ := t1.2 i hi
    exact ⟨_, hh⟩
  obtain ⟨cur2, hcur2⟩ := rowB
  have TF : TFr 46 wr wq := ⟨fun k => k = B i, q3, fun k e => by rw [e]; exact ⟨cur2, hcur2⟩⟩
  have S1 : SRow wq 22 β gv vs := t4.tfr TF (by decide)
  have L1 : LC wq gL K B N C := t2.fr q3 hcur2
  obtain ⟨v', w3, β', hr, S2, hβ, F2, T2⟩ := texts_push2 S1 (by omega) (some ⟨g, 0, none⟩) (N i + 1) c
  refine ⟨g, c, v', w3, rfl, hr, fun j => if j = i then Q else P j, fun j => if j = i then g else H j, fun j => if j = i then c else D j, _, β', ?_, ?_, ?_, S2, by simp [t5], ?_, ?_, ?_⟩
  · have u := t1.upd (Y := fun j => Tx j ++ (if j = i then Q else P j)) i hi q3 (by simpa using q2) (fun j hj => by simp [hj])
    exact u.tfr T2 (by decide)
  · obtain ⟨cur, l1, l2⟩ := L1
    exact ⟨cur, F2.keeps l1 (fun e => by have := t8 _ e; omega), l2⟩
  · exact (t3.trans (q3.mono (fun k _ e => ⟨i, hi, e.symm⟩))).next F2 (fun k hk e => by have := t8 _ e; omega)
  · intro j hj
    by_cases e : j = i
    · subst e
      simp only [if_true]
      refine ⟨?_, q1.tfr T2 (by decide), ?_⟩
      · rw [List.getElem?_append_right (by omega), t5, Nat.sub_self]; rfl
      · rcases q4 with ⟨q4, _⟩ | q4
        · exact .inl q4
        · exact .inr (Nat.le_trans hsz q4)
    · obtain ⟨m1, m2, m3⟩ := t6 j (by omega)
      simp only [if_neg e]
      refine ⟨?_, (m2.fr q3 (fun eq => ?_)).tfr T2 (by decide), m3⟩
      · rw [List.getElem?_append_left (by omega)]; exact m1
      · rcases m3 with m3 | m3
        · exact e (t1.1 j i (by omega) hi (m3 ▸ eq))
        · omega
  · intro j hj
    have : j ≠ i := by omega
    simp only [if_neg this]
    exact t7 j (by omega)
  · intro gg hg
    rcases hβ with hβ | ⟨g2, hβ, hg2⟩
    · exact t8 gg (hβ ▸ hg)
    · obtain rfl : g2 = gg := Option.some.inj (hβ.symm.trans hg)
      have := q3.size
      omega


def mk2 (j : Nat) : El := (210 + (j : Int), 210 + (j : Int), 210 + (j : Int))
def tx2 (N : Nat → Nat) (j : Nat) : List El := List.replicate (N j) (mk2 j)
def tl2 (j : Nat) : List El := [(0, 1 + (j : Int), 0)]

/-- What holds while the changes are made. -/
def ApR (w wr : World) (lv : Value) (i : Nat) : Prop :=
  ∃ (B N C : Nat → Nat) (vs : List Value) (β : Option Nat), TB wr i B C (tx2 N) ∧ SRow wr 22 β lv vs ∧ vs.length = i ∧ (∀ j, j < i → vs[j]? = some (.slice (some ⟨B j, 0, none⟩) (N j) (C j))) ∧ (∀ j, j < i → w.heap.size ≤ B j ∧ N j ≤ 1000) ∧ (∀ g, β = some g → w.heap.size ≤ g) ∧ Below w.heap.size w wr

theorem ApR.start (w : World) : ApR w w (.slice none 0 0) 0 :=
  ⟨fun _ => 0, fun _ => 0, fun _ => 0, [], none, ⟨fun i j h => by omega, fun i h => by omega⟩, ⟨rfl, rfl⟩, rfl, fun j h => by omega, fun j h => by omega, fun g h => (by cases h), Below.refl _ _⟩

/-- One text more: of a row that is new since wr. -/
theorem ApR.step {w wr w4 : World} {lv : Value} {i : Nat} (h : ApR w wr lv i) (hb : Below wr.heap.size wr w4) (g n cap : Nat) (hg : wr.heap.size ≤ g) (hn : n ≤ 1000) (hR : RowE w4 g n cap (List.replicate n (mk2 i))) (hi : i ≤ 100) :
    ∃ v' w3, (∀ ty, (Builtin.append_ #[54, 54] ty #[lv, .slice (some ⟨w4.heap.size, 0, none⟩) 1 1]).run Try.prog (w4.alloc (.cells #[.slice (some ⟨g, 0, none⟩) n cap] 22)) = .ok v' w3) ∧ ApR w w3 v' (i + 1) := by
  obtain ⟨B, N, C, vs, β, t1, t2, t3, t4, t5, t6, t7⟩ := h
  obtain ⟨v', w3, β', hr, S2, hβ, T2, B2⟩ := texts_push (t2.below hb) t6 (t7.trans (hb.mono t7.size)) (by omega) (some ⟨g, 0, none⟩) n cap
  refine ⟨v', w3, hr, fun j => if j = i then g else B j, fun j => if j = i then n else N j, fun j => if j = i then cap else C j, _, β', ?_, S2, by simp [t3], ?_, ?_, hβ, B2⟩
  · have u := (t1.below hb).tfr T2 (by decide)
    have hRr := hR.tfr T2 (by decide)
    have lts : ∀ j, j < i → B j < wr.heap.size := fun j hj => (t1.2 j hj).lt
    refine ⟨?_, ?_⟩
    · intro x y hx hy e
      by_cases ex : x = i <;> by_cases ey : y = i
      · omega
      · simp only [ex, ey, if_true, if_false] at e
        have := lts y (by omega)
        omega
      · simp only [ex, ey, if_true, if_false] at e
        have := lts x (by omega)
        omega
      · simp only [ex, ey, if_false] at e
        exact t1.1 x y (by omega) (by omega) e
    · intro x hx
      by_cases ex : x = i
      · subst ex
        simp only [tx2, if_true, List.length_replicate]
        exact hRr
      · have := u.2 x (by omega)
        simp only [tx2, if_neg ex] at this ⊢
        exact this
  · intro j hj
    by_cases e : j = i
    · subst e
      simp only [if_true]
      rw [List.getElem?_append_right (by omega), t3, Nat.sub_self]
      rfl
    · simp only [if_neg e]
      rw [List.getElem?_append_left (by omega)]
      exact t4 j (by omega)
  · intro j hj
    by_cases e : j = i
    · simp only [e, if_true]
      exact ⟨Nat.le_trans t7.size hg, hn⟩
    · simp only [if_neg e]
      exact t5 j (by omega)

end Go.Proofs.Ytbgpmekjcepmaab
