/-
  The tale: hasUnmade, isAsLogged.
-/
import Derived.Test.YtfhghijefjhehaaDoorIb
namespace Go.Proofs.YtfhghijefjhehaaDoor
open Go.RowKit
set_option linter.unusedVariables false

section
variable {w : World} {x : Nat} {C : Int} {vL vE : Value} {S : Nat → Ls} {L : Nat → Option Nat}

set_option maxRecDepth 100000 in
set_option maxHeartbeats 4000000 in
theorem unmade_any (h : TL w x C vL vE S L) (st ha ok op oc oL os : Int) (ad : Option Addr) (nd cd cN mN : Nat) (hc : cN < 65) (l : List Nat) (hS : S cN = .ns l) :
    Calls Tryd.prog 49 #[.pointer (some ⟨x, 0, none⟩), .agg #[.int .i64 st, .int .i64 cN, .int .i64 ha, .int .i64 mN, .int .i64 ok, .int .i64 op, .int .u8 oc, .int .i64 oL, .int .i64 os, .slice ad nd cd]] w
      fun e w' => ∃ r : Bool, e = .returned (.bool r) ∧ (r = true ↔ ∃ hm : mN < l.length, ((l[mN] : Nat) : Int) < ha) ∧ Below w.heap.size w w' := by
  have hb : Below w.heap.size w (w.alloc (.cells #[.int .i64 st, .int .i64 cN, .int .i64 ha, .int .i64 mN, .int .i64 ok, .int .i64 op, .int .u8 oc, .int .i64 oL, .int .i64 os, .slice ad nd cd] 50)) := (Below.refl _ _).alloc (Nat.le_refl _) _
  obtain ⟨a, cp, hv, hg, hl⟩ := (h.below hb).ints (i := cN) (by omega) hS
  have hE := hd (heap_alloc_new w (.cells #[.int .i64 st, .int .i64 cN, .int .i64 ha, .int .i64 mN, .int .i64 ok, .int .i64 op, .int .u8 oc, .int .i64 oL, .int .i64 os, .slice ad nd cd] 50))
  have HB := hd hb
  clear hb h
  have c65 : (cN : Int) < 65 := by omega
  go_enter Tryd.func49, Tryd.ntmps49
  go_upto_region 1 with fail
  generalize w.alloc (.cells #[.int .i64 st, .int .i64 cN, .int .i64 ha, .int .i64 mN, .int .i64 ok, .int .i64 op, .int .u8 oc, .int .i64 oL, .int .i64 os, .slice ad nd cd] 50) = w1 at *
  have e1 := cell_row hE.out 1; have e2 := cell_row hE.out 2; have e3 := cell_row hE.out 3
  simp at e1 e2 e3
  by_cases hm : mN < l.length
  · obtain ⟨g, rfl, hcell⟩ := hg (by omega)
    have h1 := hcell mN hm
    have k1 : (mN : Int) < (l.length : Int) := by omega
    have HR : Hid (((l[mN] : Nat) : Int) < ha ↔ ∃ hm : mN < l.length, ((l[mN] : Nat) : Int) < ha) := ⟨fun h => ⟨hm, h⟩, fun ⟨_, h⟩ => h⟩
    generalize l[mN] = z at h1 HR
    clear hcell hg
    go_quiet (fail)
    go_wp2
    go_quiet (fail)
    go_wp2
    go_ret
    exact ⟨_, rfl, by rw [decide_eq_true_iff]; exact HR.out, below_drewN (below_drewN HB.out _) _⟩
  · have HR : Hid (¬ ∃ hm : mN < l.length, ((l[mN] : Nat) : Int) < ha) := fun ⟨h, _⟩ => hm h
    have k1 : ¬ (mN : Int) < (l.length : Int) := by omega
    clear hg
    go_quiet (fail)
    go_wp2
    go_quiet (fail)
    go_wp2
    go_ret
    first
      | exact .inl ⟨rfl, HR.out, below_drewN (below_drewN HB.out _) _⟩
      | exact ⟨false, rfl, iff_of_false (by decide) HR.out, below_drewN (below_drewN HB.out _) _⟩

set_option maxRecDepth 100000 in
set_option maxHeartbeats 4000000 in
theorem asLogged_any {aL : Option Addr} {nL cL : Nat} {log : List Ed} (h : TL w x C (.slice aL nL cL) vE S L) (hL : IsL w aL nL log) (tg ok op oc os : Int) (cN : Nat) (hc : cN < 65) (h1 : 1 ≤ os) (l : List Nat) (hS : S cN = .ns l) (hlt : ∀ k ∈ l, k < log.length)
    (G : Prop) (hG : G ↔ (l.length : Int) < os ∨ ∃ (q : Nat) (h : q < l.length), (q : Int) + 1 = os ∧ log[l[q]]? = some ⟨tg, ⟨ok, op, oc, cN, os⟩⟩) :
    Calls Tryd.prog 64 #[.pointer (some ⟨x, 0, none⟩), .agg #[.int .i64 tg, .int .i64 ok, .int .i64 op, .int .u8 oc, .int .i64 cN, .int .i64 os]] w
      fun e w' => ∃ r : Bool, e = .returned (.bool r) ∧ (r = true ↔ G) ∧ Below w.heap.size w w' := by
  have hb : Below w.heap.size w (w.alloc (.cells #[.int .i64 tg, .int .i64 ok, .int .i64 op, .int .u8 oc, .int .i64 cN, .int .i64 os] 48)) := (Below.refl _ _).alloc (Nat.le_refl _) _
  obtain ⟨a, cp, hv, hg, hl⟩ := (h.below hb).ints (i := cN) (by omega) hS
  obtain ⟨-, hx1, -⟩ := (h.below hb).heads
  have hE := hd (heap_alloc_new w (.cells #[.int .i64 tg, .int .i64 ok, .int .i64 op, .int .u8 oc, .int .i64 cN, .int .i64 os] 48))
  have HL := hd (hL.below hb (Nat.le_refl _))
  have HB := hd hb
  have HGd := hd hG
  clear hb h hL hG
  have c65 : (cN : Int) < 65 := by omega
  go_enter Tryd.func64, Tryd.ntmps64
  go_upto_region 1 with fail
  generalize w.alloc (.cells #[.int .i64 tg, .int .i64 ok, .int .i64 op, .int .u8 oc, .int .i64 cN, .int .i64 os] 48) = w1 at *
  have e0 := cell_row hE.out 0; have e1 := cell_row hE.out 1; have e2 := cell_row hE.out 2; have e3 := cell_row hE.out 3; have e4 := cell_row hE.out 4; have e5 := cell_row hE.out 5
  simp at e0 e1 e2 e3 e4 e5
  by_cases hgt : (l.length : Int) < os
  · have HR : Hid G := HGd.out.2 (.inl hgt)
    clear hg HGd hlt
    go_quiet (fail)
    go_wp2
    go_quiet (fail)
    go_wp2
    go_ret
    first
      | exact .inr ⟨rfl, HR.out, below_drewN (below_drewN HB.out _) _⟩
      | exact ⟨true, rfl, iff_of_true rfl HR.out, below_drewN (below_drewN HB.out _) _⟩
  · obtain ⟨q, rfl⟩ : ∃ q : Nat, os = (q : Int) + 1 := ⟨(os - 1).toNat, by omega⟩
    have hq : q < l.length := by omega
    obtain ⟨g, rfl, hcell⟩ := hg (by omega)
    have h2 := hcell q hq
    have hz := hlt l[q] (List.getElem_mem hq)
    have HG2 : Hid (G ↔ log[l[q]]? = some ⟨tg, ⟨ok, op, oc, cN, (q : Int) + 1⟩⟩) := by
      constructor
      · intro hh
        rcases HGd.out.1 hh with a | ⟨q', h', a1, a2⟩
        · exact absurd a hgt
        · have : q' = q := by omega
          subst this
          exact a2
      · intro hh
        exact HGd.out.2 (.inr ⟨q, hq, rfl, hh⟩)
    have k1 : IntKind.i64.wrap (q : Int) = (q : Int) := by rw [IntKind.wrap_i64]; omega
    have kd : decide ((l.length : Int) < (q : Int) + 1) = false := by simpa using hgt
    have k2 : (q : Int) < (l.length : Int) := by omega
    obtain ⟨b, off, rfl, s1, qq⟩ := HL.out.2 (by have := HL.out.1; omega)
    obtain ⟨q0, q1, q2, q3, q4, q5⟩ := qq l[q] hz
    have k3 : ((l[q] : Nat) : Int) < (nL : Int) := by have := HL.out.1; omega
    rw [List.getElem?_eq_getElem hz] at HG2
    generalize log[l[q]] = y at *
    generalize l[q] = z at *
    clear hcell hg hlt HGd qq hz h1
    obtain ⟨yt, ⟨yk, yp, yc, yl, ys⟩⟩ := y
    simp only at q0 q1 q2 q3 q4 q5
    by_cases he : (⟨yt, ⟨yk, yp, yc, yl, ys⟩⟩ : Ed) = ⟨tg, ⟨ok, op, oc, cN, (q : Int) + 1⟩⟩
    · have HR : Hid G := HG2.out.2 (by rw [he])
      obtain ⟨rfl, h4⟩ := Ed.mk.inj he
      obtain ⟨rfl, rfl, rfl, rfl, rfl⟩ := OpE.mk.inj h4
      have E1 := fun W => edSame yt yk yp yc (cN : Int) ((q : Int) + 1) W
      clear HG2 he h4
      go_quiet (fail)
      go_wp2
      go_quiet (fail)
      go_wp2
      go_ret
      first
        | exact .inr ⟨rfl, HR.out, below_drewN (below_drewN HB.out _) _⟩
        | exact ⟨true, rfl, iff_of_true rfl HR.out, below_drewN (below_drewN HB.out _) _⟩
    · have HR : Hid (¬ G) := fun hh => he (by have := HG2.out.1 hh; injection this)
      have E1 := fun W => edNe he W
      clear HG2 he
      go_quiet (fail)
      go_wp2
      go_quiet (fail)
      go_wp2
      go_ret
      first
        | exact .inl ⟨rfl, HR.out, below_drewN (below_drewN HB.out _) _⟩
        | exact ⟨false, rfl, iff_of_false (by decide) HR.out, below_drewN (below_drewN HB.out _) _⟩
end

end Go.Proofs.YtfhghijefjhehaaDoor
