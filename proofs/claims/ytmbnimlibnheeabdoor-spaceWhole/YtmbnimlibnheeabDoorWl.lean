/-
  SpaceWhole: acts in memory; the start; what the list gains.
-/
import Derived.Test.YtmbnimlibnheeabDoorWo
import Derived.Test.YtmbnimlibnheeabDoorWu
namespace Go.Proofs.YtmbnimlibnheeabDoor
open Go.RowKit Go.Lib
set_option linter.unusedVariables false

structure AV where
  kind : Int
  nop : Bool
  out : Bool
  n : Int
  ch : Int
def IsAc (w : World) (a : Option Addr) (n c : Nat) (X : Nat → AV) : Prop :=
  n ≤ c ∧ c ≤ 9223372036854775807 ∧ (0 < n → ∃ b off, a = some ⟨b, off, none⟩ ∧ b < w.heap.size ∧ ∀ i, i < n →
    w.cell? ⟨b, off + i * 5, none⟩ = some (.int .i64 (X i).kind) ∧ w.cell? ⟨b, off + i * 5 + 1, none⟩ = some (.bool (X i).nop) ∧ w.cell? ⟨b, off + i * 5 + 2, none⟩ = some (.bool (X i).out) ∧
    w.cell? ⟨b, off + i * 5 + 3, none⟩ = some (.int .i64 (X i).n) ∧ w.cell? ⟨b, off + i * 5 + 4, none⟩ = some (.int .u8 (X i).ch))
def OkA (X : Nat → AV) : Prop := ∀ i, 0 ≤ (X i).ch ∧ (X i).ch ≤ 255

theorem in_lt (x : Int) : inN x 40 < 40 := inN_lt x 40 (by omega)

theorem mem_bgP {k : Nat} {z : El} : z ∈ bgP k ↔ ∃ i, i < k ∧ z = bel i := by
  induction k with
  | zero => simp [bgP]
  | succ k ih =>
    simp only [bgP, List.mem_append, ih, List.mem_singleton]
    constructor
    · rintro (⟨i, h, rfl⟩ | rfl)
      · exact ⟨i, by omega, rfl⟩
      · exact ⟨k, by omega, rfl⟩
    · rintro ⟨i, h, rfl⟩
      by_cases e : i = k
      · subst e
        exact .inr rfl
      · exact .inl ⟨i, by omega, rfl⟩
theorem bel_key {i j : Nat} (h : (bel i).2 = (bel j).2) : i = j := by
  simp only [bel, Prod.mk.injEq] at h
  omega
theorem bgP_nodup (k : Nat) : (bgP k).Nodup := by
  induction k with
  | zero => simp [bgP]
  | succ k ih =>
    simp only [bgP]
    rw [List.nodup_append]
    refine ⟨ih, by simp, fun a ha b hb => ?_⟩
    obtain ⟨i, hi, rfl⟩ := mem_bgP.1 ha
    simp at hb
    subst hb
    intro e
    have := bel_key (congrArg (·.2) e)
    omega
theorem bgP_put (k : Nat) : put1 (bgP k) = bgP k := by
  unfold put1
  rw [List.filter_eq_self]
  intro z hz
  obtain ⟨i, hi, rfl⟩ := mem_bgP.1 hz
  refine decide_eq_true ?_
  show (97 + (i : Int) % 26) ≠ 0
  omega
theorem bgP_start (k : Nat) : WT (bgP k).length ⟨true, bgP k, [], 0, 0, []⟩ ⟨false, bgP k, [], 0, 0, []⟩ 0 32 [] [] (bgP k) [bgP k] [bgP k] := by
  refine wt_start _ (bgP_nodup k) (fun z hz => ?_) (fun z hz z' hz' e => ?_)
  · obtain ⟨i, hi, rfl⟩ := mem_bgP.1 hz
    rfl
  · obtain ⟨i, hi, rfl⟩ := mem_bgP.1 hz
    obtain ⟨j, hj, rfl⟩ := mem_bgP.1 hz'
    rw [bel_key e]

theorem put_add {o : OpE} (hv : VO o) (L : List El) : put1 (L ++ [(o.ch, o.cl, o.sq)]) = addI (put1 L) o := by
  rw [put1_app]
  unfold addI
  obtain ⟨-, -, -, -, h⟩ := hv
  rcases h with ⟨h1, h2⟩ | ⟨h1, h2, h3⟩ | ⟨h1, h2⟩
  · simp [h1, h2]
  · rw [if_neg (by simp only; omega), if_pos h1]
    rfl
  · simp [h1, h2]

theorem SA.told {B : Nat} {T : Nat → Prop} {w : World} {x : Nat} {f : Bool} {d : List El} {base : Int} (h : SA B T w x ⟨f, d, [], 0, 0, []⟩ base) : ∃ v β, SAV B T w x ⟨f, d, [], 0, 0, []⟩ base v β [] := by
  obtain ⟨z, vt, aw, nw, cw, vg, βt, βg, G, c, h1, h2, h3⟩ := h
  have : G = [] := List.eq_nil_of_length_eq_zero (by simp only at h2; omega)
  subst this
  exact ⟨vt, βt, z, aw, nw, cw, vg, βg, c, h1, h2, h3⟩

/-- The start. -/
theorem start_ls {w w1 w2 w3 : World} {x y k : Nat} {vi : Value} {βi β0 : Option Nat} {a0 : Option Addr} {n0 c0 : Nat} (hk : k ≤ 40) (h : ∃ T1 T2, SA w.heap.size T1 w1 x ⟨true, bgP k, [], 0, 0, []⟩ 0 ∧ SA w.heap.size T2 w1 y ⟨false, bgP k, [], 0, 0, []⟩ 32 ∧ (∀ k, T1 k → ¬ T2 k) ∧ Below w.heap.size w w1)
    (hi : SE w2 βi vi (bgP k)) (hi1 : ∀ g, βi = some g → w1.heap.size ≤ g) (b2 : Below w1.heap.size w1 w2) (h0 : SE w3 β0 (.slice a0 n0 c0) (bgP k)) (h01 : ∀ g, β0 = some g → w2.heap.size ≤ g) (b3 : Below w2.heap.size w2 w3) :
    ∃ s t K Gs Gt Ins X vs βs vt βt L βi bx, LS w (w3.alloc (.cells #[.slice a0 n0 c0] 26)) x y s t (bgP k).length 0 K Gs Gt Ins X vs βs vt βt vi (.slice (some ⟨w3.heap.size, 0, none⟩) 1 1) L βi bx ∧ put1 L = Ins ∧ L.length ≤ 40 + 0 ∧ X.length ≤ 1 + 2 * 0 := by
  obtain ⟨T1, T2, h1, h2, h3, h4⟩ := h
  obtain ⟨vs, βs, A1⟩ := h1.told
  obtain ⟨vt, βt, A2⟩ := h2.told
  have b4 : Below w3.heap.size w3 (w3.alloc (.cells #[.slice a0 n0 c0] 26)) := (Below.refl _ _).alloc (Nat.le_refl _) _
  have z2 := b2.size
  have z3 := b3.size
  have z4 : (w3.alloc (.cells #[.slice a0 n0 c0] 26)).heap.size = w3.heap.size + 1 := by simp
  have b14 : Below w1.heap.size w1 (w3.alloc (.cells #[.slice a0 n0 c0] 26)) := (b2.trans (b3.mono z2)).trans (b4.mono (by omega))
  have z1 := h4.size
  have F14 : Fr (fun _ => False) w1 (w3.alloc (.cells #[.slice a0 n0 c0] 26)) := Fr.of_below b14
  have i4 := (hi.below b3).below b4
  have t4 := h0.below b4
  refine ⟨⟨true, bgP k, [], 0, 0, []⟩, ⟨false, bgP k, [], 0, 0, []⟩, fun g => βi = some g ∨ β0 = some g ∨ g = w3.heap.size, [], [], bgP k, [⟨.slice a0 n0 c0, β0, bgP k⟩], vs, βs, vt, βt, bgP k, βi, w3.heap.size, ⟨⟨⟨T1, T2, A1.fr F14 (fun _ _ h => h), A2.fr F14 (fun _ _ h => h), h3, fun g hg => ⟨fun a => ?_, fun a => ?_⟩⟩, fun g hg => ?_, h4.trans (b14.mono z1), ⟨_, _, bgP_start k, fun e he => ?_⟩, by simp, by simp, fun pc hpc => (by cases hpc), fun pc hpc => (by cases hpc), by rw [bgP_len]; exact hk, .inl rfl, .inr rfl, fun e he => ?_⟩, i4, fun g hg => ⟨.inl hg, fun e he => ?_⟩, ⟨1, by simp, [.slice a0 n0 c0], ?_, ?_, by simp, by simp, by omega, by simp⟩, .inr (.inr rfl)⟩, bgP_put k, by rw [bgP_len]; omega, by simp⟩
  · have := (A1.old g a).2
    rcases hg with hg | hg | hg
    · have := hi1 g hg; omega
    · have := h01 g hg; omega
    · omega
  · have := (A2.old g a).2
    rcases hg with hg | hg | hg
    · have := hi1 g hg; omega
    · have := h01 g hg; omega
    · omega
  · rcases hg with hg | hg | hg
    · exact ⟨by have := hi1 g hg; omega, i4.lt g hg⟩
    · exact ⟨by have := h01 g hg; omega, t4.lt g hg⟩
    · exact ⟨by omega, by omega⟩
  · simp at he
    subst he
    exact .inl (by simp)
  · simp at he
    subst he
    exact ⟨t4, .inl (fun g hg => .inr (.inl hg))⟩
  · simp at he
    subst he
    intro hg'
    have := hi.lt g hg
    have := h01 g hg'
    omega
  · exact heap_alloc_new _ _
  · rfl

section
variable {w0 w u : World} {x y : Nat} {s t : Sd} {N M : Nat} {K : Nat → Prop} {Gs Gt Ins : List El} {X : List En} {vs vt vi vx : Value} {βs βt βi : Option Nat} {L : List El} {bx : Nat}
theorem wpList_ins (u : World) {ops : Array Oper} {rest : List Oper} {o : Oper} {a : Act} {Q : Exit → Act → World → Prop} (hgd : o.guard = none) (d s' : Operand)
    (ho : o.op = .call { callee := .builtin .append, args := #[d, s'], argTypes := #[26, 26] }) {b : Nat} {el : El} (hd' : a.eval d = vi) (hs : a.eval s' = .slice (some ⟨b, 0, none⟩) 1 1)
    (H : LS w0 w x y s t N M K Gs Gt Ins X vs βs vt βt vi vx L βi bx) (hu : Below w.heap.size w u) (hb : u.heap[b]? = some (.cells (elc el).toArray 41 (0, 0))) (hL : L.length ≤ 4096)
    (hK : ∀ v' u', (∃ K' β', LS w0 u' x y s t N M K' Gs Gt Ins X vs βs vt βt v' vx (L ++ [el]) β' bx) → wpList Tryd.prog ops Q rest (a.put o.dst v') u') : wpList Tryd.prog ops Q (o :: rest) a u := by
  obtain ⟨v', u', hr, h⟩ := H.ins hu hb hL
  exact wpList_append_k u hgd d s' 26 26 ho _ _ hd' hs (hr _) (hK v' u' h)
end

def lenAt (w : World) (x : Nat) : Nat := match w.cell? ⟨x, 4, none⟩ with
  | some (.slice _ n _) => n
  | _ => 0
theorem lenAt_of {w : World} {x : Nat} {a : Option Addr} {n c : Nat} (h : w.cell? ⟨x, 4, none⟩ = some (.slice a n c)) : lenAt w x = n := by simp [lenAt, h]

end Go.Proofs.YtmbnimlibnheeabDoor
