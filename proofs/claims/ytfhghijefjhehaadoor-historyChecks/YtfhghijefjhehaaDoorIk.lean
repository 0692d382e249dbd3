/-
  The tale: a list that gets longer; show.
-/
import Derived.Test.YtfhghijefjhehaaDoorIj
import Derived.Test.YtfhghijefjhehaaDoorIf
namespace Go.Proofs.YtfhghijefjhehaaDoor
open Go.RowKit
set_option linter.unusedVariables false

/-- What an append leaves, seen from u. -/
def PP {α : Type} (f : α → List Value) (k : Nat) (e : TypeId) (u : World) (β : Option Nat) (xs : List α) (v : Value) (u' : World) : Prop := ∃ w1, Below u.heap.size u w1 ∧ NowF f k w1 u' e β v xs

section
variable {α : Type} {f : α → List Value} {k : Nat} {e : TypeId} {u u' : World} {β : Option Nat} {xs : List α} {v : Value}
theorem PP.block (h : PP f k e u β xs v u') {b : Nat} (hb : b < u.heap.size) (hn : β ≠ some b) : u'.heap[b]? = u.heap[b]? := by
  obtain ⟨w1, hB, g', -, hN⟩ := h
  have h1 := hB.block b hb
  have hb1 : b < w1.heap.size := Nat.lt_of_lt_of_le hb hB.size
  rcases hN with ⟨a, hF⟩ | ⟨a, hF⟩
  · exact (hF.block b hb1 (fun e => hn (by rw [e]; exact a))).trans h1
  · exact (hF.block b hb1 (fun e => e)).trans h1
theorem PP.cell (h : PP f k e u β xs v u') {p : Addr} {y : Value} (hb : p.block < u.heap.size) (hn : β ≠ some p.block) (hy : u.cell? p = some y) : u'.cell? p = some y := (World.cell?_of_block (h.block hb hn)).trans hy
theorem PP.form (h : PP f k e u β xs v u') : ∃ A n c, v = .slice A n c := by
  obtain ⟨w1, hB, g', hs, hN⟩ := h
  obtain ⟨A, c, rfl, -, -⟩ := SF.form hs
  exact ⟨_, _, _, rfl⟩
theorem PP.run (hz : Sz f k) {P : Program} (t : TypeId) (i : TypeInfo) (z : Value) (bytes : Nat) (ht : P.underlying t = some (.slice e)) (hi : P.info? e = some i) (hzo : i.zero = some z) (hsz : i.size = k) (hzs : z.cells.size = k) (hby : i.bytes = bytes) {xs : List α} {vo : Value} (hv : SF f k u e β vo xs) (y : α) {u1 : World} (hB : Below u.heap.size u u1) {g : Nat}
    (hg : u1.heap[g]? = some (.cells (f y).toArray e (0, 0))) (hb : ((xs.length + 1) + (xs.length + 1) / 4 + 192) * bytes ≤ 281474976710656) (hk : 0 < bytes) :
    ∃ v' u', (∀ ty, (Builtin.append_ #[t, t] ty #[vo, .slice (some ⟨g, 0, none⟩) 1 1]).run P u1 = .ok v' u') ∧ PP f k e u β (xs ++ [y]) v' u' := by
  have hv1 : SF f k u1 e β vo xs := hv.fr (S := fun _ => False) (Fr.of_below hB) (fun _ _ h => h)
  have h63 : xs.length + 1 ≤ 9223372036854775807 := by
    have : xs.length + 1 ≤ ((xs.length + 1) + (xs.length + 1) / 4 + 192) * bytes := Nat.le_trans (by omega) (Nat.le_mul_of_pos_right _ hk)
    omega
  have key : ∀ ty, ∃ v' w', (Builtin.append_ #[t, t] ty #[vo, .slice (some ⟨g, 0, none⟩) 1 1]).run P u1 = .ok v' w' ∧ NowF f k u1 w' e β v' (xs ++ [y]) := fun ty =>
    run_pushF hz u1 t ty e i z bytes ht hi hzo hsz hzs hby β vo xs hv1 ⟨g, 0, none⟩ 1 1 [y] rfl (fun j v hj => by
      rw [cl_one] at hj
      rw [add_lit, cell_row hg, Nat.zero_add]
      simpa using hj) (by omega) h63 hb
  obtain ⟨v', w', hr, hN⟩ := key 0
  refine ⟨v', w', fun ty => ?_, u1, hB, hN⟩
  obtain ⟨v2, w2, hr2, -⟩ := key ty
  have : (Builtin.append_ #[t, t] ty #[vo, .slice (some ⟨g, 0, none⟩) 1 1]).run P u1 = (Builtin.append_ #[t, t] 0 #[vo, .slice (some ⟨g, 0, none⟩) 1 1]).run P u1 := rfl
  rw [this]
  exact hr
end

section
variable {w : World} {x : Nat} {C : Int} {vL vE : Value} {S : Nat → Ls} {L : Nat → Option Nat}
theorem TL.pushN (h : TL w x C vL vE S L) {i : Nat} (hi : i < 195) {l : List Nat} {v : Value} {u' : World} (hP : PP nic 1 3 w (L i) l v u') : ∃ g', TL (u'.setCell ⟨x, 3 + i, none⟩ v) x C vL vE (upd S i (.ns l)) (upd L i (some g')) ∧ Fr (fun k => x ≤ k) w (u'.setCell ⟨x, 3 + i, none⟩ v) := by
  obtain ⟨w1, hB, g', hs, hN⟩ := hP
  obtain ⟨h1, h2, -⟩ := h.put hB hi (s' := .ns l) hs hN
  refine ⟨_, h1, h2.mono fun k _ hk => ?_⟩
  rcases hk with rfl | hk
  · exact Nat.le_refl _
  · exact Nat.le_of_lt (h.far i k hi hk)
theorem TL.pushD (h : TL w x C vL vE S L) {i : Nat} (hi : i < 195) {l : List Dd} {v : Value} {u' : World} (hP : PP ddc 9 89 w (L i) l v u') : ∃ g', TL (u'.setCell ⟨x, 3 + i, none⟩ v) x C vL vE (upd S i (.ds l)) (upd L i (some g')) ∧ Fr (fun k => x ≤ k) w (u'.setCell ⟨x, 3 + i, none⟩ v) := by
  obtain ⟨w1, hB, g', hs, hN⟩ := hP
  obtain ⟨h1, h2, -⟩ := h.put hB hi (s' := .ds l) hs hN
  refine ⟨_, h1, h2.mono fun k _ hk => ?_⟩
  rcases hk with rfl | hk
  · exact Nat.le_refl _
  · exact Nat.le_of_lt (h.far i k hi hk)
/-- A block that is no row of the tale. -/
theorem TL.not_row (h : TL w x C vL vE S L) {i b : Nat} (hi : i < 195) (hb : w.heap.size ≤ b) : L i ≠ some b := fun e => by have := h.old hi e; omega
theorem TL.not_x (h : TL w x C vL vE S L) {i : Nat} (hi : i < 195) : L i ≠ some x := fun e => by have := h.far i x hi e; omega
end

theorem Tryd.infoI : (Tryd.prog.info? 3).map (fun i => (i.zero, i.size, i.bytes)) = some (some (.int .i64 0), 1, 8) := by kernel_rfl
theorem Tryd.infoDd : (Tryd.prog.info? 89).map (fun i => (i.zero, i.size, i.bytes)) = some (some (.agg #[.int .i64 0, .int .i64 0, .int .i64 0, .int .u8 0, .int .i64 0, .int .i64 0, .int .u8 0, .int .i64 0, .int .i64 0]), 9, 72) := by kernel_rfl

theorem run_ints {u : World} {β : Option Nat} {l : List Nat} {vo : Value} (hv : SF nic 1 u 3 β vo l) (y : Nat) {u1 : World} (hB : Below u.heap.size u u1) {g : Nat} (hg : u1.heap[g]? = some (.cells #[.int .i64 (y : Int)] 3 (0, 0))) (hb : l.length ≤ 17592186044416) :
    ∃ v' u', (∀ ty, (Builtin.append_ #[34, 34] ty #[vo, .slice (some ⟨g, 0, none⟩) 1 1]).run Tryd.prog u1 = .ok v' u') ∧ PP nic 1 3 u β (l ++ [y]) v' u' := by
  cases hq : Tryd.prog.info? 3 with
  | none => have := Tryd.infoI; rw [hq] at this; cases this
  | some i =>
    have h := Tryd.infoI
    rw [hq] at h
    simp only [Option.map_some, Option.some.injEq, Prod.mk.injEq] at h
    exact PP.run szN 34 i _ 8 Tryd.underlying34 hq h.1 h.2.1 (by rfl) h.2.2 hv y hB hg (by omega) (by omega)
theorem run_deeds {u : World} {β : Option Nat} {l : List Dd} {vo : Value} (hv : SF ddc 9 u 89 β vo l) (y : Dd) {u1 : World} (hB : Below u.heap.size u u1) {g : Nat} (hg : u1.heap[g]? = some (.cells (ddc y).toArray 89 (0, 0))) (hb : l.length ≤ 2199023255552) :
    ∃ v' u', (∀ ty, (Builtin.append_ #[66, 66] ty #[vo, .slice (some ⟨g, 0, none⟩) 1 1]).run Tryd.prog u1 = .ok v' u') ∧ PP ddc 9 89 u β (l ++ [y]) v' u' := by
  cases hq : Tryd.prog.info? 89 with
  | none => have := Tryd.infoDd; rw [hq] at this; cases this
  | some i =>
    have h := Tryd.infoDd
    rw [hq] at h
    simp only [Option.map_some, Option.some.injEq, Prod.mk.injEq] at h
    exact PP.run szD 66 i _ 72 Tryd.underlying66 hq h.1 h.2.1 (by rfl) h.2.2 hv y hB hg (by omega) (by omega)

end Go.Proofs.YtfhghijefjhehaaDoor
