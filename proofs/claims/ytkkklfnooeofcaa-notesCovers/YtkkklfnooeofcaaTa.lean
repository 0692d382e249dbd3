/-
  NotesTwice: the law's put; texts that hold the same elements, without memory.
-/
import Derived.Test.YtkkklfnooeofcaaFf
namespace Go.Proofs.Ytkkklfnooeofcaa
open Go.RowKit Go.Maps Go.ChangeMaps Go.MapKept Go.WideMaps
set_option linter.unusedVariables false

def wB : ByteArray := ⟨#[119]⟩
theorem say_w : sayE 5 wB = 0 := by decide

set_option maxRecDepth 100000 in
set_option maxHeartbeats 2000000 in
theorem lput_any (O : Nat → Prop) (r g : Nat) (Ns : List Nt) (w : World) (h : BD w O r g Ns) (a : Option Addr) (n c : Nat) (xs : List El) (hE : IsE w a n c xs) (hwf : ∀ x ∈ xs, wfE x) (x1 x2 : Int) (hn1 : 1 ≤ n) (hn2 : n ≤ 10000) (hg : g < 256) :
    Calls Try.prog 12 #[.pointer (some ⟨r, 0, none⟩), .slice a n c, .int .i64 x1, .int .i64 x2] w fun e w' => ∃ f t : Nat, f < t ∧ t ≤ n ∧ e = .returned (.tuple #[.int .i64 ((g + 1 : Nat) : Int), .int .i64 0]) ∧ NowB w w' O r (g + 1) (Ns ++ [⟨g + 1, 5, wB, false, [], (xs.drop f).take (t - f)⟩]) := by
  have hq : ((n : Int) == 0) = false := by rw [beq_eq_false_iff_ne]; omega
  have HP := hd (fun f t hf ht => put_good O r g Ns w h a n c xs hE hwf f t hf ht 5 wB say_w (by decide) hg (by unfold roomy; omega))
  have hc := hE.2.1
  have hc63 := hE.2.2.1
  clear h hE hwf
  go_enter Try.func12, Try.ntmps12
  go_wp2_with fail
  refine (lwithin_any x1 0 ((n : Int) - 1) _ (by omega) (by omega) (by omega)).mono ?_
  rintro e w1 ⟨f0, rfl, hf0, rfl⟩
  obtain ⟨f, rfl⟩ : ∃ f : Nat, f0 = f := ⟨f0.toNat, by have := hf0.1; omega⟩
  have hf2 : f < n := by have := hf0.2.1; omega
  clear hf0
  go_wp2_with fail
  refine (lwithin_any x2 ((f : Int) + 1) (n : Int) _ (by omega) (by omega) (by omega)).mono ?_
  rintro e w2 ⟨t0, rfl, ht0, rfl⟩
  obtain ⟨t, rfl⟩ : ∃ t : Nat, t0 = t := ⟨t0.toNat, by have := ht0.1; omega⟩
  have ht1 : f < t := by have := ht0.1; omega
  have ht2 : t ≤ n := by have := ht0.2.1; omega
  clear ht0
  go_wp2_with fail
  refine (HP.out f t ht1 ht2).mono ?_
  rintro e w3 ⟨rfl, hN⟩
  have Z := hd hN
  clear hN HP
  go_wp2
  refine bodyPost_ret (v := .tuple #[.int .i64 ((g + 1 : Nat) : Int), .int .i64 0]) (by simp [results, Try.results12, go_sem]) rfl ?_
  exact ⟨f, t, ht1, ht2, rfl, Z.out⟩

def inB (es : List El) (x : El) : Bool := decide (x ∈ es)
theorem flt_no {xs es : List El} (h : ∀ x ∈ xs, x ∉ es) : xs.filter (inB es) = [] := by
  rw [List.filter_eq_nil_iff]
  intro x hx
  simp [inB, h x hx]
theorem flt_head {xs es : List El} {f t : Nat} (h : RC xs es (f, t)) (hl : f < t) : (xs.filter (inB es)).head? = xs[f]? ∧ (xs.filter (inB es)).getLast? = xs[t - 1]? := by
  rcases h with ⟨e, -⟩ | ⟨h0, h1, ⟨y, hy, h2⟩, ⟨z, hz, h3⟩, h4⟩
  · cases e; omega
  · simp only at h0 h1 h2 h3 h4
    constructor
    · have hfl : f < xs.length := by omega
      have e : xs = xs.take f ++ xs[f] :: xs.drop (f + 1) := by rw [← List.drop_eq_getElem_cons hfl, List.take_append_drop]
      have hyf : xs[f] = y := by
        have := List.getElem?_eq_getElem hfl
        rw [h2] at this
        cases this
        rfl
      rw [h2]
      conv => lhs; rw [e]
      rw [List.filter_append, flt_no (xs := xs.take f) (fun x hx hm => ?_), List.nil_append, hyf, List.filter_cons_of_pos (by simp [inB, hy])]
      · rfl
      · obtain ⟨i, hi⟩ := List.getElem?_of_mem hx
        rw [List.getElem?_take] at hi
        split at hi
        · have := h4 i x hi hm; omega
        · cases hi
    · have htl : t - 1 < xs.length := by omega
      have e : xs = xs.take (t - 1) ++ xs[t - 1] :: xs.drop t := by
        have : xs.drop (t - 1) = xs[t - 1] :: xs.drop t := by
          rw [List.drop_eq_getElem_cons htl, show t - 1 + 1 = t by omega]
        rw [← this, List.take_append_drop]
      have hyf : xs[t - 1] = z := by
        have := List.getElem?_eq_getElem htl
        rw [h3] at this
        cases this
        rfl
      rw [h3]
      conv => lhs; rw [e]
      rw [List.filter_append, hyf, List.filter_cons_of_pos (by simp [inB, hz]), flt_no (xs := xs.drop t) (fun x hx hm => ?_)]
      · simp
      · obtain ⟨i, hi⟩ := List.getElem?_of_mem hx
        rw [List.getElem?_drop] at hi
        have := h4 _ x hi hm
        omega
theorem flt_gone {xs es : List El} {f t : Nat} (h : RC xs es (f, t)) : xs.filter (inB es) = [] ↔ f = t := by
  rcases h with ⟨e, h1⟩ | ⟨h0, h1, ⟨y, hy, h2⟩, -⟩
  · cases e
    simp [flt_no h1]
  · simp only at h0 h2
    constructor
    · intro hh
      rw [List.filter_eq_nil_iff] at hh
      have := hh y (List.mem_of_getElem? h2)
      simp [inB, hy] at this
    · intro e; omega
theorem flt_ins {xs es : List El} {p : Nat} {z : El} (h : z ∉ es) : (xs.take p ++ z :: xs.drop p).filter (inB es) = xs.filter (inB es) := by
  rw [List.filter_append, List.filter_cons_of_neg (by simp [inB, h]), ← List.filter_append, List.take_append_drop]

/-- Two texts that hold the same of a note's elements: where it stands in them. -/
theorem twice_pure {xs ys es : List El} {f t f' t' : Nat} (hf : xs.filter (inB es) = ys.filter (inB es)) (h : reachP xs es = (f, t)) (h' : reachP ys es = (f', t')) :
    ((f = 0 ∧ t = 0 ∧ f' = 0 ∧ t' = 0) ∨ (f < t ∧ t ≤ xs.length ∧ f' < t' ∧ t' ≤ ys.length ∧ xs[f]? = ys[f']? ∧ xs[t - 1]? = ys[t' - 1]?)) := by
  have r := reachP_ok xs es
  have r' := reachP_ok ys es
  rw [h] at r
  rw [h'] at r'
  have g := flt_gone r
  have g' := flt_gone r'
  by_cases e : f = t
  · have e' : f' = t' := g'.1 (by rw [← hf]; exact g.2 e)
    rcases r with ⟨r, -⟩ | ⟨r, -⟩
    · rcases r' with ⟨r', -⟩ | ⟨r', -⟩
      · cases r; cases r'; exact .inl ⟨rfl, rfl, rfl, rfl⟩
      · simp only at r'; omega
    · simp only at r; omega
  · have e' : ¬ f' = t' := fun q => e (g.1 (by rw [hf]; exact g'.2 q))
    have l : f < t := by
      rcases r with ⟨r, -⟩ | ⟨r, -⟩
      · cases r; omega
      · exact r
    have l' : f' < t' := by
      rcases r' with ⟨r', -⟩ | ⟨r', -⟩
      · cases r'; omega
      · exact r'
    have k := flt_head r l
    have k' := flt_head r' l'
    have b := reachP_le xs es
    have b' := reachP_le ys es
    rw [h] at b
    rw [h'] at b'
    exact .inr ⟨l, b.2.1, l', b'.2.1, by rw [← k.1, ← k'.1, hf], by rw [← k.2, ← k'.2, hf]⟩

end Go.Proofs.Ytkkklfnooeofcaa
