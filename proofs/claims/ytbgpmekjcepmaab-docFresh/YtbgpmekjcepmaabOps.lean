/-
  Lists of operations in memory; what a replay leaves.
-/
import Derived.Test.YtbgpmekjcepmaabRows2
namespace Go.Proofs.Ytbgpmekjcepmaab
open Go.RowKit
set_option linter.unusedVariables false

def opc (o : OpE) : List Value := [.int .i64 o.kind, .int .i64 o.pos, .int .u8 o.ch, .int .i64 o.cl, .int .i64 o.sq]
def cO (os : List OpE) : List Value := os.flatMap opc

theorem cO_nil : cO [] = [] := rfl
theorem cO_cons (x : OpE) (xs : List OpE) : cO (x :: xs) = opc x ++ cO xs := rfl
theorem cO_app (xs ys : List OpE) : cO (xs ++ ys) = cO xs ++ cO ys := by simp [cO]
theorem cO_one (x : OpE) : cO [x] = opc x := by simp [cO]
theorem cO_len (xs : List OpE) : (cO xs).length = xs.length * 5 := by
  induction xs with
  | nil => rfl
  | cons x xs ih => rw [cO_cons, List.length_append, ih]; simp [opc]; omega
theorem cO_take (xs : List OpE) (k : Nat) (hk : k ≤ xs.length) : (cO xs).take (k * 5) = cO (xs.take k) := by
  have h : cO xs = cO (xs.take k) ++ cO (xs.drop k) := by rw [← cO_app, List.take_append_drop]
  rw [h, List.take_append_of_le_length (by rw [cO_len, List.length_take, Nat.min_eq_left hk]; exact Nat.le_refl _), List.take_of_length_le (by rw [cO_len, List.length_take, Nat.min_eq_left hk]; exact Nat.le_refl _)]
theorem cO_one' (xs : List OpE) : ∀ v ∈ cO xs, v.oneCell' = true := by
  intro v hv
  simp [cO, opc] at hv
  obtain ⟨o, _, h⟩ := hv
  rcases h with rfl | rfl | rfl | rfl | rfl <;> rfl
theorem cO_get (xs : List OpE) (i : Nat) (hi : i < xs.length) : (cO xs)[i * 5]? = some (.int .i64 xs[i].kind) ∧ (cO xs)[i * 5 + 1]? = some (.int .i64 xs[i].pos) ∧ (cO xs)[i * 5 + 2]? = some (.int .u8 xs[i].ch) ∧ (cO xs)[i * 5 + 3]? = some (.int .i64 xs[i].cl) ∧ (cO xs)[i * 5 + 4]? = some (.int .i64 xs[i].sq) := by
  have h : cO xs = cO (xs.take i) ++ (opc xs[i] ++ cO (xs.drop (i + 1))) := by
    rw [← cO_cons, ← cO_app]
    congr 1
    rw [← List.drop_eq_getElem_cons hi, List.take_append_drop]
  have hl : (cO (xs.take i)).length = i * 5 := by rw [cO_len, List.length_take]; congr 1; omega
  rw [h]
  refine ⟨?_, ?_, ?_, ?_, ?_⟩
  · rw [List.getElem?_append_right (by omega), hl, Nat.sub_self]; rfl
  · rw [List.getElem?_append_right (by omega), hl, show i * 5 + 1 - i * 5 = 1 by omega]; rfl
  · rw [List.getElem?_append_right (by omega), hl, show i * 5 + 2 - i * 5 = 2 by omega]; rfl
  · rw [List.getElem?_append_right (by omega), hl, show i * 5 + 3 - i * 5 = 3 by omega]; rfl
  · rw [List.getElem?_append_right (by omega), hl, show i * 5 + 4 - i * 5 = 4 by omega]; rfl

/-- The slice value at a, of n elements and capacity c, holds the operations os in w. -/
def IsO (w : World) (a : Option Addr) (n c : Nat) (os : List OpE) : Prop :=
  os.length = n ∧ n ≤ c ∧ c ≤ 9223372036854775807 ∧
  (0 < n → ∃ b off, a = some ⟨b, off, none⟩ ∧ b < w.heap.size ∧ ∀ j v, (cO os)[j]? = some v → w.cell? ⟨b, off + j, none⟩ = some v)

/-- Every character is a byte. -/
def OkO (os : List OpE) : Prop := ∀ o ∈ os, 0 ≤ o.ch ∧ o.ch ≤ 255

theorem IsO.addr {w : World} {a : Option Addr} {n c : Nat} {os : List OpE} (h : IsO w a n c os) (hn : 0 < n) : ∃ b off, a = some ⟨b, off, none⟩ ∧ b < w.heap.size := by
  obtain ⟨b, off, e, hlt, _⟩ := h.2.2.2 hn
  exact ⟨b, off, e, hlt⟩
theorem IsO.at {w : World} {b off n c : Nat} {os : List OpE} (h : IsO w (some ⟨b, off, none⟩) n c os) (i : Nat) (hi : i < n) (hx : i < os.length) :
    w.cell? ⟨b, off + i * 5, none⟩ = some (.int .i64 os[i].kind) ∧ w.cell? ⟨b, off + i * 5 + 1, none⟩ = some (.int .i64 os[i].pos) ∧ w.cell? ⟨b, off + i * 5 + 2, none⟩ = some (.int .u8 os[i].ch) ∧
      w.cell? ⟨b, off + i * 5 + 3, none⟩ = some (.int .i64 os[i].cl) ∧ w.cell? ⟨b, off + i * 5 + 4, none⟩ = some (.int .i64 os[i].sq) := by
  obtain ⟨h1, h2, h3, h4⟩ := h
  obtain ⟨b', off', e, hlt, hc⟩ := h4 (by omega)
  have e' := Option.some.inj e
  simp at e'
  obtain ⟨rfl, rfl⟩ := e'
  obtain ⟨g0, g1, g2, g3, g4⟩ := cO_get os i hx
  exact ⟨hc _ _ g0, by rw [Nat.add_assoc]; exact hc _ _ g1, by rw [Nat.add_assoc]; exact hc _ _ g2, by rw [Nat.add_assoc]; exact hc _ _ g3, by rw [Nat.add_assoc]; exact hc _ _ g4⟩
theorem IsO.fr {S : Nat → Prop} {w w' : World} {a : Option Addr} {n c : Nat} {os : List OpE} (h : IsO w a n c os) (hb : Fr S w w') (hr : 0 < n → ∀ b off, a = some ⟨b, off, none⟩ → ¬ S b) : IsO w' a n c os := by
  obtain ⟨h1, h2, h3, h4⟩ := h
  refine ⟨h1, h2, h3, fun hn => ?_⟩
  obtain ⟨b, off, e, hlt, hc⟩ := h4 hn
  refine ⟨b, off, e, Nat.lt_of_lt_of_le hlt hb.size, fun j v hj => ?_⟩
  rw [hb.cell (p := ⟨b, off + j, none⟩) hlt (hr hn b off e)]
  exact hc j v hj
theorem IsO.below {w w' : World} {a : Option Addr} {n c : Nat} {os : List OpE} (h : IsO w a n c os) (hb : Below w.heap.size w w') : IsO w' a n c os :=
  h.fr (S := fun _ => False) (Fr.of_below hb) (fun _ _ _ _ h => h)
theorem IsO.take {w : World} {a : Option Addr} {n c : Nat} {os : List OpE} (h : IsO w a n c os) (m : Nat) (hm : m ≤ n) : IsO w a m c (os.take m) := by
  obtain ⟨h1, h2, h3, h4⟩ := h
  refine ⟨by simp; omega, by omega, h3, fun hn => ?_⟩
  obtain ⟨b, off, e, hlt, hc⟩ := h4 (by omega)
  refine ⟨b, off, e, hlt, fun j v hj => hc j v ?_⟩
  rw [← cO_take os m (by omega), List.getElem?_take] at hj
  split at hj
  · exact hj
  · cases hj
theorem OkO.take {os : List OpE} (h : OkO os) (m : Nat) : OkO (os.take m) := fun o ho => h o (List.mem_of_mem_take ho)

/-- What a replay leaves, from the text xs and k operations on. -/
def replayP : List OpE → List El → Nat → List El × Nat × Int
  | [], xs, k => (xs, k, 0)
  | o :: os, xs, k => if fitsP xs.length o = 0 then replayP os (applyP xs o) (k + 1) else (xs, k, fitsP xs.length o)

theorem replayP_good {os : List OpE} {xs : List El} {k : Nat} (hk : k < os.length) (hf : fitsP xs.length os[k] = 0) : replayP (os.drop k) xs k = replayP (os.drop (k + 1)) (applyP xs os[k]) (k + 1) := by
  rw [List.drop_eq_getElem_cons hk]
  simp only [replayP, if_pos hf]
theorem replayP_bad {os : List OpE} {xs : List El} {k : Nat} (hk : k < os.length) (hf : ¬ fitsP xs.length os[k] = 0) : replayP (os.drop k) xs k = (xs, k, fitsP xs.length os[k]) := by
  rw [List.drop_eq_getElem_cons hk]
  simp only [replayP, if_neg hf]
theorem replayP_end {os : List OpE} {xs : List El} {k : Nat} (hk : k = os.length) : replayP (os.drop k) xs k = (xs, k, 0) := by
  rw [hk, List.drop_length]
  rfl

end Go.Proofs.Ytbgpmekjcepmaab
