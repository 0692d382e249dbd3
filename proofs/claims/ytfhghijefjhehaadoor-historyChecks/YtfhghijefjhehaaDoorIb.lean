/-
  The tale: last, event, hasUnmade, isAsLogged.
-/
import Derived.Test.YtfhghijefjhehaaDoorIa
import Derived.Test.YtfhghijefjhehaaDoorHj
namespace Go.Proofs.YtfhghijefjhehaaDoor
open Go.RowKit
set_option linter.unusedVariables false

def lastP (l : List Nat) : Int := match l.getLast? with
  | some j => (j : Int)
  | none => -1
def evV (e : Ev) (a : Option Addr) (c : Nat) : Value := .agg #[.int .i64 e.step, .int .i64 e.site, .int .i64 e.hav, .int .i64 e.made, .int .i64 e.o.kind, .int .i64 e.o.pos, .int .u8 e.o.ch, .int .i64 e.o.cl, .int .i64 e.o.sq, .slice a e.len c]
def evO (evs : List Ev) (A : Nat → Option Addr) (K : Nat → Nat) : Option Nat → Value
  | some j => evV (evs.getD j zev) (A j) (K j)
  | none => evV zev none 0
def oI : Option Nat → Int
  | some j => (j : Int)
  | none => -1
theorem lastP_eq (l : List Nat) : lastP l = oI l.getLast? := by
  unfold lastP oI
  cases l.getLast? <;> rfl

section
variable {w : World} {x : Nat} {C : Int} {vL vE : Value} {S : Nat → Ls} {L : Nat → Option Nat}

/-- The list i of places, to be read. -/
theorem TL.ints (h : TL w x C vL vE S L) {i : Nat} (hi : i < 195) {l : List Nat} (hS : S i = .ns l) : ∃ a c, w.cell? ⟨x, 3 + i, none⟩ = some (.slice a l.length c) ∧ (0 < l.length → ∃ g, a = some ⟨g, 0, none⟩ ∧ ∀ k (hk : k < l.length), w.cell? ⟨g, k, none⟩ = some (.int .i64 (l[k] : Int))) ∧ l.length ≤ 9223372036854775807 := by
  obtain ⟨v, hv, hs⟩ := h.slot i hi
  rw [hS] at hs
  cases hb : L i with
  | none =>
    rw [hb] at hs
    obtain ⟨rfl, rfl⟩ := hs
    exact ⟨none, 0, hv, fun h => by simp at h, by simp⟩
  | some g =>
    rw [hb] at hs
    obtain ⟨cap, rfl, hR⟩ := hs
    refine ⟨_, _, hv, fun _ => ⟨g, rfl, fun k hk => ?_⟩, ?_⟩
    · have := RowF.cell hR szN k 0 hk (by omega)
      rw [Nat.mul_one, Nat.add_zero] at this
      rw [this]
      rfl
    · obtain ⟨cur, -, -, -, h1, h2, -⟩ := hR
      omega

set_option maxRecDepth 100000 in
set_option maxHeartbeats 4000000 in
theorem last_any (h : TL w x C vL vE S L) (c : Nat) (hc : c < 65) (l : List Nat) (hS : S (65 + c) = .ns l) :
    Calls Tryd.prog 46 #[.pointer (some ⟨x, 0, none⟩), .int .i64 c] w fun e w' => e = .returned (.int .i64 (lastP l)) ∧ Below w.heap.size w w' := by
  obtain ⟨a, cp, hv, hg, hl⟩ := h.ints (i := 65 + c) (by omega) hS
  rw [show 3 + (65 + c) = 68 + c from by omega] at hv
  have c65 : (c : Int) < 65 := by omega
  have HH := hd h
  clear h
  cases l with
  | nil =>
    simp only [List.length_nil] at hv
    clear hg hl
    go_enter Tryd.func46, Tryd.ntmps46
    go_wp2
    go_ret
    exact ⟨rfl, Below.refl _ _⟩
  | cons y l =>
    obtain ⟨g, rfl, hcell⟩ := hg (by simp)
    have h1 := hcell l.length (by simp)
    have HG : Hid (lastP (y :: l) = (((y :: l)[l.length]'(by simp) : Nat) : Int)) := by
      unfold Hid lastP
      rw [List.getLast?_eq_getElem?]
      simp
    generalize (y :: l)[l.length]'(by simp) = z at h1 HG
    simp only [List.length_cons] at hv hl
    clear hcell hg
    rw [HG.out]
    have k1 : (((l.length + 1 : Nat) : Int) == 0) = false := by simp; omega
    have h1' : w.cell? ⟨g, l.length + 1 - 1, none⟩ = some (.int .i64 (z : Int)) := h1
    clear h1
    have hn1 : 1 ≤ l.length + 1 := by omega
    generalize l.length + 1 = n at *
    go_enter Tryd.func46, Tryd.ntmps46
    go_wp2
    go_ret
    exact ⟨rfl, Below.refl _ _⟩

set_option maxRecDepth 100000 in
set_option maxHeartbeats 4000000 in
theorem event_any {evs : List Ev} {A : Nat → Option Addr} {K : Nat → Nat} {aE : Option Addr} {nE cE : Nat} (h : TL w x C vL (.slice aE nE cE) S L) (hV : IsV w aE nE evs A K) (j : Option Nat) (hj : ∀ k, j = some k → k < evs.length) :
    Calls Tryd.prog 45 #[.pointer (some ⟨x, 0, none⟩), .int .i64 (oI j)] w fun e w' => e = .returned (evO evs A K j) ∧ Below w.heap.size w w' := by
  obtain ⟨-, -, h2⟩ := h.heads
  have lx := h.lt
  clear h
  cases j with
  | none =>
    simp only [oI, evO]
    clear hV hj
    go_enter Tryd.func45, Tryd.ntmps45
    go_wp2
    refine bodyPost_ret (v := evV zev none 0) (by simp [results, Tryd.results45, go_sem, evV, zev, zo]) rfl ?_
    exact ⟨rfl, by repeat (first | exact Below.refl _ _ | refine Below.alloc ?_ (by simp) _ | refine Below.setCell ?_ (by simp) _)⟩
  | some k =>
    have hk := hj k rfl
    clear hj
    obtain ⟨b, off, rfl, s1, q⟩ := hV.2 (by have := hV.1; omega)
    obtain ⟨q0, q1, q2, q3, q4, q5, q6, q7, q8, q9⟩ := q k hk
    have i1 : (k : Int) < (nE : Int) := by have := hV.1; omega
    have hd1 : evs.getD k zev = evs[k] := by simp [List.getD, List.getElem?_eq_getElem hk]
    simp only [oI, evO, hd1]
    clear q hV hd1
    generalize evs[k] = y at *
    obtain ⟨x0, x1, x2, x3, ⟨ok, op, oc, oL, os⟩, xn⟩ := y
    simp only at q0 q1 q2 q3 q4 q5 q6 q7 q8 q9
    have k1 : ((k : Int) == -1) = false := by first | (simp; done) | (simp; omega)
    have ne : ¬ b = w.heap.size := by omega
    go_enter Tryd.func45, Tryd.ntmps45
    go_wp2
    refine bodyPost_ret (v := .agg #[.int .i64 x0, .int .i64 x1, .int .i64 x2, .int .i64 x3, .int .i64 ok, .int .i64 op, .int .u8 oc, .int .i64 oL, .int .i64 os, .slice (A k) xn (K k)]) (by simp [results, Tryd.results45, go_sem]) rfl ?_
    exact ⟨rfl, by repeat (first | exact Below.refl _ _ | refine Below.alloc ?_ (by simp) _ | refine Below.setCell ?_ (by simp) _)⟩
end

end Go.Proofs.YtfhghijefjhehaaDoor
