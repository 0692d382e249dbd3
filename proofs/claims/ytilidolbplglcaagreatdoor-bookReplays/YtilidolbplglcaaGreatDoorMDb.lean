/-
  Texts put together: Db Dc.
-/
import Derived.Test.YtilidolbplglcaaGreatDoorMDa
import Derived.BigQuiet
/-! Db -/
namespace Go.Proofs.YtilidolbplglcaaGreatDoor
open Go.RowKit
set_option linter.unusedVariables false

/-- A list of edits in memory. -/
def IsL (w : World) (a : Option Addr) (n : Nat) (E : List Ed) : Prop := E.length = n ∧ (0 < n → ∃ b off, a = some ⟨b, off, none⟩ ∧ b < w.heap.size ∧ ∀ q (hq : q < E.length), w.cell? ⟨b, off + q * 6, none⟩ = some (.int .i64 E[q].tag) ∧ w.cell? ⟨b, off + q * 6 + 1, none⟩ = some (.int .i64 E[q].o.kind) ∧ w.cell? ⟨b, off + q * 6 + 2, none⟩ = some (.int .i64 E[q].o.pos) ∧
  w.cell? ⟨b, off + q * 6 + 3, none⟩ = some (.int .u8 E[q].o.ch) ∧ w.cell? ⟨b, off + q * 6 + 4, none⟩ = some (.int .i64 E[q].o.cl) ∧ w.cell? ⟨b, off + q * 6 + 5, none⟩ = some (.int .i64 E[q].o.sq))
theorem IsL.below {w w' : World} {a : Option Addr} {n B : Nat} {E : List Ed} (h : IsL w a n E) (hb : Below B w w') (hB : w.heap.size ≤ B) : IsL w' a n E := by
  refine ⟨h.1, fun hn => ?_⟩
  obtain ⟨b, off, e, hlt, hc⟩ := h.2 hn
  refine ⟨b, off, e, Nat.lt_of_lt_of_le hlt hb.size, fun q hq => ?_⟩
  have k : ∀ m, w'.cell? ⟨b, m, none⟩ = w.cell? ⟨b, m, none⟩ := fun m => hb.cell (p := ⟨b, m, none⟩) (show b < B by omega)
  simp only [k]
  exact hc q hq
/-- A list of numbers in memory. -/
def IsN (w : World) (a : Option Addr) (n : Nat) (X : Nat → Int) : Prop := 0 < n → ∃ b off, a = some ⟨b, off, none⟩ ∧ b < w.heap.size ∧ ∀ q, q < n → w.cell? ⟨b, off + q, none⟩ = some (.int .i64 (X q))
theorem IsN.below {w w' : World} {a : Option Addr} {n B : Nat} {W : Nat → Int} (h : IsN w a n W) (hb : Below B w w') (hB : w.heap.size ≤ B) : IsN w' a n W := by
  intro hn
  obtain ⟨b, off, e, hlt, hc⟩ := h hn
  exact ⟨b, off, e, Nat.lt_of_lt_of_le hlt hb.size, fun q hq => (hb.cell (p := ⟨b, off + q, none⟩) (show b < B by omega)).trans (hc q hq)⟩

/-- The document's book, to be read. -/
structure RBr (w : World) (x : Nat) (aE aD aN : Option Addr) (cE cD cN : Nat) (vK : Value) (E : List Ed) (D : List OpE) : Prop where
  blk : w.heap[x]? = some (.cells #[.pointer none, .slice aE E.length cE, .slice aD E.length cD, .slice aN (E.length + 1) cN, vK, .int .i64 1] 56 (0, 0))
  e : IsL w aE E.length E
  d : IsO w aD E.length cD D
  n : IsN w aN (E.length + 1) (nsP D)
  b : E.length ≤ 4096
theorem RBr.below {w w' : World} {x : Nat} {aE aD aN : Option Addr} {cE cD cN : Nat} {vK : Value} {E : List Ed} {D : List OpE} (h : RBr w x aE aD aN cE cD cN vK E D) (hb : Below w.heap.size w w') : RBr w' x aE aD aN cE cD cN vK E D :=
  ⟨(hb.block _ (block_lt h.blk)).trans h.blk, h.e.below hb (Nat.le_refl _), h.d.below hb, h.n.below hb (Nat.le_refl _), h.b⟩
theorem RBr.cells {w : World} {x : Nat} {aE aD aN : Option Addr} {cE cD cN : Nat} {vK : Value} {E : List Ed} {D : List OpE} (h : RBr w x aE aD aN cE cD cN vK E D) : w.cell? ⟨x, 1, none⟩ = some (.slice aE E.length cE) ∧ w.cell? ⟨x, 2, none⟩ = some (.slice aD E.length cD) ∧ w.cell? ⟨x, 3, none⟩ = some (.slice aN (E.length + 1) cN) ∧ w.cell? ⟨x, 5, none⟩ = some (.int .i64 1) :=
  ⟨by rw [cell_row h.blk]; rfl, by rw [cell_row h.blk]; rfl, by rw [cell_row h.blk]; rfl, by rw [cell_row h.blk]; rfl⟩

/-- Looked up from behind. -/
theorem laP_take {c : Int} {E : List Ed} {k : Nat} (hk : k < E.length) : laP c (E.take (k + 1)) = if E[k].o.cl = c then (E[k].o.sq, E[k].tag) else laP c (E.take k) := by
  rw [List.take_succ_eq_append_getElem hk, laP_snoc]

section
variable {w : World} {x : Nat} {aE aD aN : Option Addr} {cE cD cN : Nat} {vK : Value} {E : List Ed} {D : List OpE}
set_option maxRecDepth 100000 in
set_option maxHeartbeats 4000000 in
theorem rlast_any (h : RBr w x aE aD aN cE cD cN vK E D) (c : Int) :
    Calls Tryz.prog 29 #[.pointer (some ⟨x, 0, none⟩), .int .i64 c] w fun e w' => e = .returned (.tuple #[.int .i64 (laP c E).1, .int .i64 (laP c E).2]) ∧ Below w.heap.size w w' := by
  obtain ⟨e1, -, -, -⟩ := h.cells
  obtain ⟨n, hn⟩ : ∃ n, E.length = n := ⟨_, rfl⟩
  have HE := hd h.e
  have hx : x < w.heap.size := block_lt h.blk
  have hb := h.b
  have HN := hd hn
  rw [hn] at e1 hb HE
  clear h hn
  go_enter Tryz.func29, Tryz.ntmps29
  have E1 : wrap64 ((n : Int) - 1) = (n : Int) - 1 := by rw [wrap64]; omega
  go_wp2_with fail
  go_loopw [6] (fun v wr => ∃ k : Nat, k ≤ n ∧ v = .int .i64 ((k : Int) - 1) ∧ (∃ m, wr = w.drewN m) ∧ Hid (laP c (E.take k) = laP c E)) (fun v _ => (intOf v + 1).toNat)
  case atStart => exact ⟨n, Nat.le_refl _, rfl, ⟨0, rfl⟩, by rw [← HN.out, List.take_length]; exact hd rfl⟩
  case round =>
    obtain ⟨k, hk, rfl, ⟨m, rfl⟩, HK⟩ := hrel
    cases k with
    | zero =>
      have Z : Hid (laP c E = (0, 0)) := HK.out.symm
      have e0 : (((0 : Nat) : Int) - 1) = -1 := rfl
      rw [e0]
      have i1 : ¬ ((0 : Int) ≤ -1) := by omega
      clear e0
      go_wp2_with fail
      go_ret2
      exact ⟨by rw [Z.out]; rfl, below_drewN (Below.refl _ _) m⟩
    | succ k =>
      have hkE : k < E.length := by have := HN.out; omega
      obtain ⟨bE, oE, rfl, lE, hc⟩ := HE.out.2 (by omega)
      obtain ⟨x0, x1, x2, x3, x4, x5⟩ := hc k hkE
      clear hc
      have ek : (((k + 1 : Nat) : Int) - 1) = (k : Int) := by omega
      rw [ek]
      have i1 : (0 : Int) ≤ (k : Int) := by omega
      have i2 : (k : Int) < (n : Int) := by omega
      have E2 : wrap64 ((k : Int) - 1) = (k : Int) - 1 := by rw [wrap64]; omega
      have HT := hd (laP_take (c := c) hkE)
      by_cases hcl : E[k].o.cl = c
      · have Z : Hid (laP c E = (E[k].o.sq, E[k].tag)) := by
          have h1 := HK.out.symm
          rw [HT.out, if_pos hcl] at h1
          exact h1
        have hceq : (E[k].o.cl == c) = true := by simpa using hcl
        generalize E[k] = e at *
        obtain ⟨et, ⟨ek', ep, ec, el, es⟩⟩ := e
        simp only at x0 x1 x2 x3 x4 x5 hcl
        subst hcl
        clear HT HK
        go_wp2_with fail
        go_quiet (fail)
        go_wp2
        go_ret2
        exact ⟨by rw [Z.out]; rfl, below_drewN (below_drewN (Below.refl _ _) _) _⟩
      · have NX : Hid (laP c (E.take k) = laP c E) := by
          have h1 := HK.out
          rw [HT.out, if_neg hcl] at h1
          exact h1
        generalize E[k] = e at *
        obtain ⟨et, ⟨ek', ep, ec, el, es⟩⟩ := e
        simp only at x0 x1 x2 x3 x4 x5 hcl
        have hceq : (el == c) = false := by simpa using hcl
        clear HT HK
        go_wp2_with fail
        exact ⟨⟨k, by omega, rfl, ⟨m, rfl⟩, NX⟩, by simp [intOf]⟩
end

end Go.Proofs.YtilidolbplglcaaGreatDoor

/-! Dc -/
namespace Go.Proofs.YtilidolbplglcaaGreatDoor
open Go.RowKit
set_option linter.unusedVariables false

def edc (e : Ed) : List Value := .int .i64 e.tag :: opc e.o
theorem szEd : Sz edc 6 := fun e => ⟨rfl, fun v hv => by
  simp only [edc, List.mem_cons] at hv
  rcases hv with rfl | hv
  · rfl
  · exact cO_one' [e.o] v (by rw [cO_one]; exact hv)⟩
theorem infoEd : (Tryz.prog.info? 48).map (fun i => (i.zero, i.size, i.bytes)) = some (some (.agg #[.int .i64 0, .int .i64 0, .int .i64 0, .int .u8 0, .int .i64 0, .int .i64 0]), 6, 48) := by kernel_rfl
theorem info_parts {t : TypeId} {z : Value} {s b : Nat} (h : (Tryz.prog.info? t).map (fun i => (i.zero, i.size, i.bytes)) = some (some z, s, b)) : ∃ i, Tryz.prog.info? t = some i ∧ i.zero = some z ∧ i.size = s ∧ i.bytes = b := by
  cases hq : Tryz.prog.info? t with
  | none => rw [hq] at h; cases h
  | some i =>
    rw [hq] at h
    simp only [Option.map_some, Option.some.injEq, Prod.mk.injEq] at h
    exact ⟨i, rfl, h.1, h.2.1, h.2.2⟩

/-- append of one edit. -/
theorem push_ed (w : World) (β : Option Nat) (v : Value) (xs : List Ed) (hv : SF edc 6 w 48 β v xs) (b : Nat) (x : Ed) (hb : w.heap[b]? = some (.cells (edc x).toArray 48 (0, 0))) (hn : xs.length ≤ 1000000) :
    ∃ v' w', (∀ ty, (Builtin.append_ #[22, 22] ty #[v, .slice (some ⟨b, 0, none⟩) 1 1]).run Tryz.prog w = .ok v' w') ∧ NowF edc 6 w w' 48 β v' (xs ++ [x]) := by
  obtain ⟨i0, hi0, hz0, hz1, hz2⟩ := info_parts infoEd
  obtain ⟨v', w', hr, hN⟩ := run_pushF szEd (P := Tryz.prog) w 22 0 48 i0 _ 48 Tryz.underlying22 hi0 hz0 hz1 rfl hz2 β v xs hv ⟨b, 0, none⟩ 1 1 [x] rfl (fun j u hj => by
    rw [cl_one] at hj
    rw [add_lit, cell_row hb, Nat.zero_add, List.getElem?_toArray]
    exact hj) (by omega) (by omega) (by omega)
  exact ⟨v', w', fun ty => hr, hN⟩
/-- One of the edits, to be read. -/
theorem SF.ed {w : World} {β : Option Nat} {v : Value} {xs : List Ed} (h : SF edc 6 w 48 β v xs) {i : Nat} (hi : i < xs.length) : ∃ g cap, v = .slice (some ⟨g, 0, none⟩) xs.length cap ∧ g < w.heap.size ∧
    w.cell? ⟨g, i * 6, none⟩ = some (.int .i64 xs[i].tag) ∧ w.cell? ⟨g, i * 6 + 1, none⟩ = some (.int .i64 xs[i].o.kind) ∧ w.cell? ⟨g, i * 6 + 2, none⟩ = some (.int .i64 xs[i].o.pos) ∧ w.cell? ⟨g, i * 6 + 3, none⟩ = some (.int .u8 xs[i].o.ch) ∧ w.cell? ⟨g, i * 6 + 4, none⟩ = some (.int .i64 xs[i].o.cl) ∧ w.cell? ⟨g, i * 6 + 5, none⟩ = some (.int .i64 xs[i].o.sq) := by
  cases β with
  | none => obtain ⟨-, h⟩ := h; subst h; simp at hi
  | some g =>
    obtain ⟨cap, rfl, hR⟩ := h
    exact ⟨g, cap, rfl, hR.lt, hR.cell szEd i 0 hi (by omega), hR.cell szEd i 1 hi (by omega), hR.cell szEd i 2 hi (by omega), hR.cell szEd i 3 hi (by omega), hR.cell szEd i 4 hi (by omega), hR.cell szEd i 5 hi (by omega)⟩

/-- What life has: its own edits, its forms, in rows behind w0. -/
structure LfS (w0 wr : World) (vO vF : Value) (O : List Ed) (F : List OpE) : Prop where
  own : ∃ β, SF edc 6 wr 48 β vO O ∧ ∀ g, β = some g → w0.heap.size ≤ g
  fo : ∃ β, FO wr β vF F ∧ ∀ g, β = some g → w0.heap.size ≤ g
  bel : Below w0.heap.size w0 wr
section
variable {w0 wr u : World} {vO vF : Value} {O : List Ed} {F : List OpE}
theorem LfS.below (h : LfS w0 wr vO vF O F) (hb : Below wr.heap.size wr u) : LfS w0 u vO vF O F := by
  obtain ⟨β, h1, h2⟩ := h.own
  obtain ⟨γ, h3, h4⟩ := h.fo
  exact ⟨⟨β, h1.fr (Fr.of_below (S := fun _ => False) hb) (fun _ _ h => h), h2⟩, ⟨γ, h3.fr (Fr.of_below (S := fun _ => False) hb) (fun _ _ h => h), h4⟩, h.bel.trans (hb.mono h.bel.size)⟩
theorem LfS.pushO (h : LfS w0 wr vO vF O F) (hb : Below wr.heap.size wr u) (e : Ed) (hn : O.length ≤ 1000000) :
    ∃ a c w6, (∀ ty, (Builtin.append_ #[22, 22] ty #[vO, .slice (some ⟨u.heap.size, 0, none⟩) 1 1]).run Tryz.prog (u.alloc (.cells (edc e).toArray 48)) = .ok (.slice a (O.length + 1) c) w6) ∧ LfS w0 w6 (.slice a (O.length + 1) c) vF (O ++ [e]) F := by
  have b2 : Below u.heap.size u (u.alloc (.cells (edc e).toArray 48)) := (Below.refl _ _).alloc (Nat.le_refl _) _
  have hh := (h.below hb).below b2
  obtain ⟨β, h1, h2⟩ := hh.own
  obtain ⟨γ, h3, h4⟩ := hh.fo
  obtain ⟨v', w6, hr, g', hS, hN⟩ := push_ed _ β vO O h1 u.heap.size e (heap_alloc_new u _) hn
  obtain ⟨a, c, e1, -⟩ := hS.form
  simp only [List.length_append, List.length_cons, List.length_nil, Nat.zero_add] at e1
  subst e1
  have hsz : w0.heap.size ≤ (u.alloc (.cells (edc e).toArray 48)).heap.size := hh.bel.size
  have hne : ∀ g, γ = some g → β ≠ some g := fun g hg hβ => by
    subst hg hβ
    obtain ⟨cs, e2⟩ := h3.blk
    obtain ⟨cs', e3⟩ := SF.blk h1
    rw [e2] at e3
    simp at e3
  rcases hN with ⟨hβ, hFr⟩ | ⟨hg, hFr⟩
  · exact ⟨a, c, w6, hr, ⟨some g', hS, fun g hg => by injection hg with hg; subst hg; exact h2 _ hβ⟩, ⟨γ, h3.fr hFr (fun g hg e => by subst e; exact hne _ hg hβ), h4⟩, hh.bel.trans (hFr.below hsz (fun k hk => by subst hk; exact h2 _ hβ))⟩
  · exact ⟨a, c, w6, hr, ⟨some g', hS, fun g hg' => by injection hg' with hg'; omega⟩, ⟨γ, h3.fr hFr (fun _ _ h => h), h4⟩, hh.bel.trans (hFr.below hsz (fun k hk => hk.elim))⟩
theorem LfS.pushF (h : LfS w0 wr vO vF O F) (hb : Below wr.heap.size wr u) (f : OpE) (hn : F.length ≤ 1000000) :
    ∃ a c w6, (∀ ty, (Builtin.append_ #[24, 24] ty #[vF, .slice (some ⟨u.heap.size, 0, none⟩) 1 1]).run Tryz.prog (u.alloc (.cells (opc f).toArray 46)) = .ok (.slice a (F.length + 1) c) w6) ∧ LfS w0 w6 vO (.slice a (F.length + 1) c) O (F ++ [f]) := by
  have b2 : Below u.heap.size u (u.alloc (.cells (opc f).toArray 46)) := (Below.refl _ _).alloc (Nat.le_refl _) _
  have hh := (h.below hb).below b2
  obtain ⟨β, h1, h2⟩ := hh.own
  obtain ⟨γ, h3, h4⟩ := hh.fo
  obtain ⟨v', w6, g', hr, hF, hN⟩ := h3.push f u.heap.size (heap_alloc_new u _) hn
  obtain ⟨a, c, e1, -⟩ := hF.is
  rw [List.length_append, List.length_singleton] at e1
  subst e1
  have hsz : w0.heap.size ≤ (u.alloc (.cells (opc f).toArray 46)).heap.size := hh.bel.size
  have hne : ∀ g, β = some g → γ ≠ some g := fun g hg hβ => by
    subst hg hβ
    obtain ⟨cs, e2⟩ := h3.blk
    obtain ⟨cs', e3⟩ := SF.blk h1
    rw [e2] at e3
    simp at e3
  rcases hN with ⟨hβ, hFr⟩ | ⟨hg, hFr⟩
  · exact ⟨a, c, w6, hr, ⟨β, h1.fr hFr (fun g hg e => by subst e; exact hne _ hg hβ), h2⟩, ⟨some g', hF, fun g hg => by injection hg with hg; subst hg; exact h4 _ hβ⟩, hh.bel.trans (hFr.below hsz (fun k hk => by subst hk; exact h4 _ hβ))⟩
  · exact ⟨a, c, w6, hr, ⟨β, h1.fr hFr (fun _ _ h => h), h2⟩, ⟨some g', hF, fun g hg' => by injection hg' with hg'; omega⟩, hh.bel.trans (hFr.below hsz (fun k hk => hk.elim))⟩
/-- The forms carried past a record. -/
theorem LfS.carry {W : World} {aF : Option Addr} {n cF : Nat} (h : LfS w0 wr vO (.slice aF n cF) O F) (hn : F.length = n) (hle : n ≤ 5000) (d : OpE) (hW : Below wr.heap.size wr W) :
    Calls Tryz.prog 38 #[.slice aF n cF, d.val] W fun r u => ∃ a c, r = .returned (.slice a n c) ∧ LfS w0 u vO (.slice a n c) O (throughP d F false).2 := by
  have hh := h.below hW
  obtain ⟨γ, hfo, -⟩ := hh.fo
  obtain ⟨a, c, e, hIs⟩ := hfo.is
  have e1 := Value.slice.inj e
  obtain ⟨e2, -, e4⟩ := e1
  subst e2 e4 hn
  refine (carried_any _ F.length _ F d W hIs (by omega)).mono ?_
  rintro r u ⟨v, β, hr, h1, h2, h3⟩
  obtain ⟨a', c', e', -⟩ := h1.is
  rw [throughP_len] at e'
  have h4 := hh.below h3
  subst e'
  exact ⟨a', c', hr, h4.own, ⟨β, h1, fun g hg => Nat.le_trans hh.bel.size (h2 g hg)⟩, h4.bel⟩
end

end Go.Proofs.YtilidolbplglcaaGreatDoor
