/-
  What InboxOnce keeps: its struct of two arrays.
-/
import Derived.Test.YtpjnhjijipcjkaaAll
namespace Go.Proofs.Ytpjnhjijipcjkaa
open Go.RowKit
set_option linter.unusedVariables false

def isI0 : Value → Bool
  | .int .i64 a => a == 0
  | _ => false
def isBF : Value → Bool
  | .bool b => !b
  | _ => false
def isPN : Value → Bool
  | .pointer none => true
  | _ => false
def chk (f : Value → Bool) : Nat → List Value → (List Value → Bool) → Bool
  | 0, l, k => k l
  | n + 1, v :: l, k => f v && chk f n l k
  | _ + 1, [], _ => false
theorem chk_spec {f : Value → Bool} {k : List Value → Bool} : ∀ {n : Nat} {l : List Value}, chk f n l k = true → ∃ l1 l2, l = l1 ++ l2 ∧ l1.length = n ∧ (∀ v ∈ l1, f v = true) ∧ k l2 = true
  | 0, l, h => ⟨[], l, rfl, rfl, by simp, h⟩
  | n + 1, v :: l, h => by
    simp only [chk, Bool.and_eq_true] at h
    obtain ⟨l1, l2, h1, h2, h3, h4⟩ := chk_spec h.2
    refine ⟨v :: l1, l2, by rw [h1]; rfl, by simp [h2], ?_, h4⟩
    intro u hu
    rcases List.mem_cons.1 hu with rfl | hu
    · exact h.1
    · exact h3 u hu
  | n + 1, [], h => by simp [chk] at h
theorem isI0_eq {v : Value} (h : isI0 v = true) : v = .int .i64 0 := by
  unfold isI0 at h
  split at h
  · simp at h; rw [h]
  · cases h
theorem isBF_eq {v : Value} (h : isBF v = true) : v = .bool false := by
  unfold isBF at h
  split at h
  · simp at h; rw [h]
  · cases h
theorem isPN_eq {v : Value} (h : isPN v = true) : v = .pointer none := by
  unfold isPN at h
  split at h
  · rfl
  · cases h

theorem onceA_chk : chk isPN 1 Try.zeroCells52.toList (fun l => chk isI0 4098 l (fun l => chk isBF 4097 l (fun l => chk isI0 1 l (fun l => l.isEmpty)))) = true := by kernel_rfl
theorem onceA_eq : Try.zeroCells52.toList = .pointer none :: (List.replicate 4098 (.int .i64 0) ++ (List.replicate 4097 (.bool false) ++ [.int .i64 0])) := by
  obtain ⟨a1, l1, e1, n1, f1, k1⟩ := chk_spec onceA_chk
  obtain ⟨a2, l2, e2, n2, f2, k2⟩ := chk_spec k1
  obtain ⟨a3, l3, e3, n3, f3, k3⟩ := chk_spec k2
  obtain ⟨a4, l4, e4, n4, f4, k4⟩ := chk_spec k3
  have h1 : a1 = List.replicate 1 (.pointer none) := List.eq_replicate_iff.2 ⟨n1, fun v hv => isPN_eq (f1 v hv)⟩
  have h2 : a2 = List.replicate 4098 (.int .i64 0) := List.eq_replicate_iff.2 ⟨n2, fun v hv => isI0_eq (f2 v hv)⟩
  have h3 : a3 = List.replicate 4097 (.bool false) := List.eq_replicate_iff.2 ⟨n3, fun v hv => isBF_eq (f3 v hv)⟩
  have h4 : a4 = List.replicate 1 (.int .i64 0) := List.eq_replicate_iff.2 ⟨n4, fun v hv => isI0_eq (f4 v hv)⟩
  have h5 : l4 = [] := by simpa using k4
  rw [e1, e2, e3, e4, h1, h2, h3, h4, h5]
  rfl
theorem onceA_size : Try.zeroCells52.size = 8197 := by
  rw [← Array.length_toList, onceA_eq]
  simp only [List.length_cons, List.length_append, List.length_replicate, List.length_nil]

theorem onceA_get (i : Nat) : Try.zeroCells52[i]? = (.pointer none :: (List.replicate 4098 (.int .i64 0) ++ (List.replicate 4097 (.bool false) ++ [.int .i64 0])) : List Value)[i]? := by
  rw [← Array.getElem?_toList, onceA_eq]

/-- The struct of InboxOnce at block g. -/
structure OnceK (w : World) (g x R : Nat) (V : Nat → Int) (B : Nat → Bool) (C : Nat) (cur : Array Value) : Prop where
  blk : w.heap[g]? = some (.cells cur 52 (0, 0))
  size : cur.size = 8197
  x : cur[0]? = some (.pointer (some ⟨x, 0, none⟩))
  r : cur[1]? = some (.int .i64 R)
  v : ∀ i, i < 4097 → cur[2 + i]? = some (.int .i64 (V i))
  b : ∀ i, i < 4097 → cur[4099 + i]? = some (.bool (B i))
  c : cur[8196]? = some (.int .i64 C)
def onceO (g x R : Nat) (V : Nat → Int) (B : Nat → Bool) (C : Nat) : Thg := fun w S => (∃ cur, OnceK w g x R V B C cur) ∧ S g ∧ ∀ k, S k → k < w.heap.size
theorem frm_once (g x R : Nat) (V : Nat → Int) (B : Nat → Bool) (C : Nat) : Frm (onceO g x R V B C) :=
  ⟨fun w w' S T h hF hS => by
    obtain ⟨⟨cur, h⟩, h1, h2⟩ := h
    exact ⟨⟨cur, hF.keeps h.blk (hS g h1), h.size, h.x, h.r, h.v, h.b, h.c⟩, h1, fun k hk => Nat.lt_of_lt_of_le (h2 k hk) hF.size⟩, fun w S h => h.2.2⟩

theorem once_new (w : World) (x R : Nat) : OnceK (w.alloc (.cells ((Try.zeroCells52.setIfInBounds 0 (.pointer (some ⟨x, 0, none⟩))).setIfInBounds 1 (.int .i64 R)) 52)) w.heap.size x R (fun _ => 0) (fun _ => false) 0 ((Try.zeroCells52.setIfInBounds 0 (.pointer (some ⟨x, 0, none⟩))).setIfInBounds 1 (.int .i64 R)) := by
  have hs := onceA_size
  refine ⟨heap_alloc_new _ _, by simp [hs], ?_, ?_, fun i hi => ?_, fun i hi => ?_, ?_⟩
  · rw [Array.getElem?_setIfInBounds_ne (by omega), Array.getElem?_setIfInBounds_self_of_lt (by omega)]
  · rw [Array.getElem?_setIfInBounds_self_of_lt (by simp [hs])]
  · rw [Array.getElem?_setIfInBounds_ne (by omega), Array.getElem?_setIfInBounds_ne (by omega), onceA_get, show 2 + i = (1 + i) + 1 by omega, List.getElem?_cons_succ, List.getElem?_append_left (by rw [List.length_replicate]; omega), List.getElem?_replicate_of_lt (by omega)]
  · rw [Array.getElem?_setIfInBounds_ne (by omega), Array.getElem?_setIfInBounds_ne (by omega), onceA_get, show 4099 + i = (4098 + i) + 1 by omega, List.getElem?_cons_succ, List.getElem?_append_right (by rw [List.length_replicate]; omega), List.length_replicate, show 4098 + i - 4098 = i by omega, List.getElem?_append_left (by rw [List.length_replicate]; omega), List.getElem?_replicate_of_lt (by omega)]
  · rw [Array.getElem?_setIfInBounds_ne (by omega), Array.getElem?_setIfInBounds_ne (by omega), onceA_get, show 8196 = 8195 + 1 by omega, List.getElem?_cons_succ, List.getElem?_append_right (by rw [List.length_replicate]; omega), List.length_replicate, List.getElem?_append_right (by rw [List.length_replicate]; omega), List.length_replicate]
    rfl

section
variable {w : World} {g x R : Nat} {V : Nat → Int} {B : Nat → Bool} {C : Nat} {cur : Array Value}
theorem OnceK.cx (h : OnceK w g x R V B C cur) : w.cell? ⟨g, 0, none⟩ = some (.pointer (some ⟨x, 0, none⟩)) := (cell_row h.blk 0).trans h.x
theorem OnceK.cr (h : OnceK w g x R V B C cur) : w.cell? ⟨g, 1, none⟩ = some (.int .i64 R) := (cell_row h.blk 1).trans h.r
theorem OnceK.cc (h : OnceK w g x R V B C cur) : w.cell? ⟨g, 8196, none⟩ = some (.int .i64 C) := (cell_row h.blk 8196).trans h.c
theorem OnceK.cv (h : OnceK w g x R V B C cur) {i : Nat} (hi : i < 4097) : w.cell? ⟨g, 2 + i, none⟩ = some (.int .i64 (V i)) := (cell_row h.blk _).trans (h.v i hi)
theorem OnceK.cb (h : OnceK w g x R V B C cur) {i : Nat} (hi : i < 4097) : w.cell? ⟨g, 4099 + i, none⟩ = some (.bool (B i)) := (cell_row h.blk _).trans (h.b i hi)
def upd {α : Type} (f : Nat → α) (i : Nat) (a : α) : Nat → α := fun j => if j = i then a else f j
theorem OnceK.setB (h : OnceK w g x R V B C cur) {i : Nat} (hi : i < 4097) (b : Bool) : OnceK (w.setCell ⟨g, 4099 + i, none⟩ (.bool b)) g x R V (upd B i b) C (cur.setIfInBounds (4099 + i) (.bool b)) := by
  have hs := h.size
  refine ⟨set_row h.blk _ _, by simp [hs], ?_, ?_, fun j hj => ?_, fun j hj => ?_, ?_⟩
  · rw [Array.getElem?_setIfInBounds_ne (by omega)]; exact h.x
  · rw [Array.getElem?_setIfInBounds_ne (by omega)]; exact h.r
  · rw [Array.getElem?_setIfInBounds_ne (by omega)]; exact h.v j hj
  · by_cases e : j = i
    · subst e
      rw [Array.getElem?_setIfInBounds_self_of_lt (by omega)]
      simp [upd]
    · rw [Array.getElem?_setIfInBounds_ne (by omega), h.b j hj]
      simp [upd, e]
  · rw [Array.getElem?_setIfInBounds_ne (by omega)]; exact h.c
theorem OnceK.setV (h : OnceK w g x R V B C cur) {i : Nat} (hi : i < 4097) (y : Int) : OnceK (w.setCell ⟨g, 2 + i, none⟩ (.int .i64 y)) g x R (upd V i y) B C (cur.setIfInBounds (2 + i) (.int .i64 y)) := by
  have hs := h.size
  refine ⟨set_row h.blk _ _, by simp [hs], ?_, ?_, fun j hj => ?_, fun j hj => ?_, ?_⟩
  · rw [Array.getElem?_setIfInBounds_ne (by omega)]; exact h.x
  · rw [Array.getElem?_setIfInBounds_ne (by omega)]; exact h.r
  · by_cases e : j = i
    · subst e
      rw [Array.getElem?_setIfInBounds_self_of_lt (by omega)]
      simp [upd]
    · rw [Array.getElem?_setIfInBounds_ne (by omega), h.v j hj]
      simp [upd, e]
  · rw [Array.getElem?_setIfInBounds_ne (by omega)]; exact h.b j hj
  · rw [Array.getElem?_setIfInBounds_ne (by omega)]; exact h.c
theorem OnceK.setC (h : OnceK w g x R V B C cur) (D : Nat) : OnceK (w.setCell ⟨g, 8196, none⟩ (.int .i64 D)) g x R V B D (cur.setIfInBounds 8196 (.int .i64 D)) := by
  have hs := h.size
  refine ⟨set_row h.blk _ _, by simp [hs], ?_, ?_, fun j hj => ?_, fun j hj => ?_, ?_⟩
  · rw [Array.getElem?_setIfInBounds_ne (by omega)]; exact h.x
  · rw [Array.getElem?_setIfInBounds_ne (by omega)]; exact h.r
  · rw [Array.getElem?_setIfInBounds_ne (by omega)]; exact h.v j hj
  · rw [Array.getElem?_setIfInBounds_ne (by omega)]; exact h.b j hj
  · rw [Array.getElem?_setIfInBounds_self_of_lt (by omega)]
end

/-- What the struct says of the inbox. -/
structure OI (R : Nat) (p : Ib) (V : Nat → Int) (B : Nat → Bool) : Prop where
  r : p.R = R
  b : ∀ n, p.c < n → n ≤ 4096 → B n = hasK p.H n
  v : ∀ n, p.c < n → n ≤ 4096 → hasK p.H n = true → atK p.H n iz = .int .i64 (V n)

theorem atK_snoc {H : List (Nat × Value)} {k j : Nat} {v z : Value} (h : hasK H k = false) : atK (H ++ [(k, v)]) j z = if j = k then v else atK H j z := by
  unfold atK
  rw [List.find?_append]
  by_cases e : j = k
  · subst e
    rw [List.find?_eq_none.2 (fun p hp => by simpa using hasK_false h p hp)]
    simp
  · rw [if_neg e]
    cases hf : H.find? (fun q => q.1 == j) with
    | some q => simp
    | none => simp [show ¬ k = j from fun h => e h.symm]
theorem atK_cut {H : List (Nat × Value)} {k j : Nat} {z : Value} (h : j ≠ k) : atK (cutK H k) j z = atK H j z := by
  unfold atK cutK
  congr 2
  induction H with
  | nil => rfl
  | cons q H ih =>
    rw [List.filter_cons]
    by_cases e : q.1 = k
    · rw [if_neg (by simp [e]), ih, List.find?_cons_of_neg (by simp [e]; exact fun h' => h h'.symm)]
    · rw [if_pos (by simp [e])]
      by_cases e2 : q.1 = j
      · rw [List.find?_cons_of_pos (by simp [e2]), List.find?_cons_of_pos (by simp [e2])]
      · rw [List.find?_cons_of_neg (by simp [e2]), List.find?_cons_of_neg (by simp [e2]), ih]

theorem OI.put {R : Nat} {p : Ib} {V : Nat → Int} {B : Nat → Bool} (h : OI R p V B) (n : Nat) (y : Int) (hE : iputE p n = 0) : OI R (iputS p n (.int .i64 y)) (upd V n y) (upd B n true) := by
  obtain ⟨h1, h2, h3, h4, h5⟩ := iputE_ok hE
  rw [Int.toNat_natCast] at h5
  rw [iputS, if_pos hE, Int.toNat_natCast]
  refine ⟨h.r, fun k hk1 hk2 => ?_, fun k hk1 hk2 hk3 => ?_⟩
  · simp only [hasK_snoc, upd]
    by_cases e : k = n
    · simp [e]
    · simp [e, h.b k hk1 hk2]
  · simp only [hasK_snoc] at hk3
    simp only [atK_snoc h5, upd]
    by_cases e : k = n
    · simp [e]
    · simp only [e, if_false]
      exact h.v k hk1 hk2 (by simpa [e] using hk3)
theorem OI.toss {R : Nat} {p : Ib} {V : Nat → Int} {B : Nat → Bool} (h : OI R p V B) : OI R (itossS p) V (upd B (p.c + 1) false) := by
  refine ⟨h.r, fun k hk1 hk2 => ?_, fun k hk1 hk2 hk3 => ?_⟩
  · simp only [itossS, hasK_cut, upd] at hk1 ⊢
    by_cases e : k = p.c + 1
    · simp [e]
    · simp [e, h.b k hk1 hk2]
  · simp only [itossS, hasK_cut] at hk1 hk3 ⊢
    have e : k ≠ p.c + 1 := by simp at hk3; exact hk3.2
    rw [atK_cut e]
    exact h.v k hk1 hk2 (by simp at hk3; exact hk3.1)
theorem OI.pop {R : Nat} {p : Ib} {V : Nat → Int} {B : Nat → Bool} (h : OI R p V B) (hh : p.hd = true) : OI R (ipopS p) V B := by
  rw [ipopS, if_pos hh]
  refine ⟨h.r, fun k hk1 hk2 => ?_, fun k hk1 hk2 hk3 => ?_⟩
  · simp only [hasK_cut] at hk1 ⊢
    simp [show k ≠ p.c + 1 by omega, h.b k (by omega) hk2]
  · simp only [hasK_cut] at hk1 hk3 ⊢
    rw [atK_cut (by omega)]
    exact h.v k (by omega) hk2 (by simp at hk3; exact hk3.1)

end Go.Proofs.Ytpjnhjijipcjkaa
