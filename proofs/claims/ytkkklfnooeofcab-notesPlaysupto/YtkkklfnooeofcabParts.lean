/-
  Texts in memory: rows of elements, and what turns them.
-/
import Derived.Test.YtkkklfnooeofcabPn
import Derived.Laws.CopyOwn
import Derived.Laws.MakeOwn
import Derived.Laws.AppendOwn
import Derived.Deep.DeepAppendWide
namespace Go.Proofs.Ytkkklfnooeofcab
open Go.RowKit
set_option linter.unusedVariables false

def elc (x : El) : List Value := [.int .u8 x.1, .int .i64 x.2.1, .int .i64 x.2.2]
/-- The cells of a text. -/
def cE (xs : List El) : List Value := xs.flatMap elc

theorem cE_nil : cE [] = [] := rfl
theorem cE_cons (x : El) (xs : List El) : cE (x :: xs) = elc x ++ cE xs := rfl
theorem cE_app (xs ys : List El) : cE (xs ++ ys) = cE xs ++ cE ys := by simp [cE]
theorem cE_one (x : El) : cE [x] = elc x := by simp [cE]
theorem cE_len (xs : List El) : (cE xs).length = xs.length * 3 := by
  induction xs with
  | nil => rfl
  | cons x xs ih => rw [cE_cons, List.length_append, ih]; simp [elc]; omega
theorem cE_take (xs : List El) (k : Nat) (hk : k ≤ xs.length) : (cE xs).take (k * 3) = cE (xs.take k) := by
  have h : cE xs = cE (xs.take k) ++ cE (xs.drop k) := by rw [← cE_app, List.take_append_drop]
  rw [h, List.take_append_of_le_length (by rw [cE_len, List.length_take, Nat.min_eq_left hk]; exact Nat.le_refl _), List.take_of_length_le (by rw [cE_len, List.length_take, Nat.min_eq_left hk]; exact Nat.le_refl _)]
theorem cE_drop (xs : List El) (k : Nat) (hk : k ≤ xs.length) : (cE xs).drop (k * 3) = cE (xs.drop k) := by
  have h : cE xs = cE (xs.take k) ++ cE (xs.drop k) := by rw [← cE_app, List.take_append_drop]
  have hl : (cE (xs.take k)).length = k * 3 := by rw [cE_len, List.length_take, Nat.min_eq_left hk]
  rw [h, ← hl, List.drop_left]
theorem cE_one' (xs : List El) : ∀ v ∈ cE xs, v.oneCell' = true := by
  intro v hv
  simp [cE, elc] at hv
  obtain ⟨a, b, c, _, h⟩ := hv
  rcases h with rfl | rfl | rfl <;> rfl
theorem cE_get (xs : List El) (i : Nat) (hi : i < xs.length) : (cE xs)[i * 3]? = some (.int .u8 xs[i].1) ∧ (cE xs)[i * 3 + 1]? = some (.int .i64 xs[i].2.1) ∧ (cE xs)[i * 3 + 2]? = some (.int .i64 xs[i].2.2) := by
  have h : cE xs = cE (xs.take i) ++ (elc xs[i] ++ cE (xs.drop (i + 1))) := by
    rw [← cE_cons, ← cE_app]
    congr 1
    rw [← List.drop_eq_getElem_cons hi, List.take_append_drop]
  have hl : (cE (xs.take i)).length = i * 3 := by rw [cE_len, List.length_take]; congr 1; omega
  rw [h]
  refine ⟨?_, ?_, ?_⟩
  · rw [List.getElem?_append_right (by omega), hl, Nat.sub_self]; rfl
  · rw [List.getElem?_append_right (by omega), hl, show i * 3 + 1 - i * 3 = 1 by omega]; rfl
  · rw [List.getElem?_append_right (by omega), hl, show i * 3 + 2 - i * 3 = 2 by omega]; rfl

/-- The slice value at a, of n elements and capacity c, holds the text xs in w. -/
def IsE (w : World) (a : Option Addr) (n c : Nat) (xs : List El) : Prop :=
  xs.length = n ∧ n ≤ c ∧ c ≤ 9223372036854775807 ∧
  (0 < n → ∃ b off, a = some ⟨b, off, none⟩ ∧ b < w.heap.size ∧ ∀ j v, (cE xs)[j]? = some v → w.cell? ⟨b, off + j, none⟩ = some v)

theorem IsE.at {w : World} {b off n c : Nat} {xs : List El} (h : IsE w (some ⟨b, off, none⟩) n c xs) (i : Nat) (hi : i < n) (hx : i < xs.length) :
    w.cell? ⟨b, off + i * 3, none⟩ = some (.int .u8 xs[i].1) ∧ w.cell? ⟨b, off + i * 3 + 1, none⟩ = some (.int .i64 xs[i].2.1) ∧ w.cell? ⟨b, off + i * 3 + 2, none⟩ = some (.int .i64 xs[i].2.2) := by
  obtain ⟨h1, h2, h3, h4⟩ := h
  obtain ⟨b', off', e, hlt, hc⟩ := h4 (by omega)
  have e' := Option.some.inj e
  simp at e'
  obtain ⟨rfl, rfl⟩ := e'
  obtain ⟨g0, g1, g2⟩ := cE_get xs i hx
  exact ⟨hc _ _ g0, by rw [Nat.add_assoc]; exact hc _ _ g1, by rw [Nat.add_assoc]; exact hc _ _ g2⟩

theorem IsE.addr {w : World} {a : Option Addr} {n c : Nat} {xs : List El} (h : IsE w a n c xs) (hn : 0 < n) : ∃ b off, a = some ⟨b, off, none⟩ ∧ b < w.heap.size := by
  obtain ⟨b, off, e, hlt, _⟩ := h.2.2.2 hn
  exact ⟨b, off, e, hlt⟩

theorem IsE.fr {S : Nat → Prop} {w w' : World} {a : Option Addr} {n c : Nat} {xs : List El} (h : IsE w a n c xs) (hb : Fr S w w') (hr : 0 < n → ∀ b off, a = some ⟨b, off, none⟩ → ¬ S b) : IsE w' a n c xs := by
  obtain ⟨h1, h2, h3, h4⟩ := h
  refine ⟨h1, h2, h3, fun hn => ?_⟩
  obtain ⟨b, off, e, hlt, hc⟩ := h4 hn
  refine ⟨b, off, e, Nat.lt_of_lt_of_le hlt hb.size, fun j v hj => ?_⟩
  rw [hb.cell (p := ⟨b, off + j, none⟩) hlt (hr hn b off e)]
  exact hc j v hj
theorem IsE.below {w w' : World} {a : Option Addr} {n c : Nat} {xs : List El} (h : IsE w a n c xs) (hb : Below w.heap.size w w') : IsE w' a n c xs :=
  h.fr (S := fun _ => False) (Fr.of_below hb) (fun _ _ _ _ h => h)
theorem isE_nil (w : World) : IsE w none 0 0 [] := ⟨rfl, Nat.le_refl _, by omega, fun h => by omega⟩

theorem IsE.take {w : World} {a : Option Addr} {n c : Nat} {xs : List El} (h : IsE w a n c xs) (m : Nat) (hm : m ≤ n) : IsE w a m c (xs.take m) := by
  obtain ⟨h1, h2, h3, h4⟩ := h
  refine ⟨by simp; omega, by omega, h3, fun hn => ?_⟩
  obtain ⟨b, off, e, hlt, hc⟩ := h4 (by omega)
  refine ⟨b, off, e, hlt, fun j v hj => hc j v ?_⟩
  rw [← cE_take xs m (by omega), List.getElem?_take] at hj
  split at hj
  · exact hj
  · cases hj

/-- Part of a text: from place k on. -/
theorem IsE.drop {w : World} {b off n c : Nat} {xs : List El} (h : IsE w (some ⟨b, off, none⟩) n c xs) (k : Nat) (hk : k ≤ n) : IsE w (some ⟨b, off + k * 3, none⟩) (n - k) (c - k) (xs.drop k) := by
  obtain ⟨h1, h2, h3, h4⟩ := h
  refine ⟨by simp; omega, by omega, by omega, fun hn => ?_⟩
  obtain ⟨b', off', e, hlt, hc⟩ := h4 (by omega)
  have e' := Option.some.inj e
  simp at e'
  obtain ⟨rfl, rfl⟩ := e'
  refine ⟨b, off + k * 3, rfl, hlt, fun j v hj => ?_⟩
  rw [← cE_drop xs k (by omega), List.getElem?_drop] at hj
  rw [Nat.add_assoc]
  exact hc _ _ hj

/-- Block g is a row of cap elements, the first N of them xs. -/
def RowE (w : World) (g N cap : Nat) (xs : List El) : Prop :=
  ∃ cur : List Value, w.heap[g]? = some (.cells cur.toArray 41 (0, 0)) ∧ cur.take (N * 3) = cE xs ∧ xs.length = N ∧ N ≤ cap ∧ cap ≤ 9223372036854775807 ∧ cur.length = cap * 3

theorem RowE.fr {S : Nat → Prop} {w w' : World} {g N cap : Nat} {xs : List El} (h : RowE w g N cap xs) (hF : Fr S w w') (hS : ¬ S g) : RowE w' g N cap xs := by
  obtain ⟨cur, hh, r⟩ := h
  exact ⟨cur, hF.keeps hh hS, r⟩
theorem RowE.lt {w : World} {g N cap : Nat} {xs : List El} (h : RowE w g N cap xs) : g < w.heap.size := by
  obtain ⟨cur, hh, _⟩ := h
  exact block_lt hh
theorem RowE.isE {w : World} {g N cap : Nat} {xs : List El} (h : RowE w g N cap xs) : IsE w (some ⟨g, 0, none⟩) N cap xs := by
  obtain ⟨cur, hh, ht, hl, hn, hm, hs⟩ := h
  refine ⟨hl, hn, hm, fun _ => ⟨g, 0, rfl, block_lt hh, fun j v hj => ?_⟩⟩
  rw [Nat.zero_add, cell_row hh, List.getElem?_toArray]
  rw [← ht, List.getElem?_take] at hj
  split at hj
  · exact hj
  · cases hj

/-- nil, or a row at the block. -/
def SE (w : World) (β : Option Nat) (v : Value) (xs : List El) : Prop :=
  match β with
  | none => v = .slice none 0 0 ∧ xs = []
  | some g => ∃ cap, v = .slice (some ⟨g, 0, none⟩) xs.length cap ∧ RowE w g xs.length cap xs

theorem SE.fr {S : Nat → Prop} {w w' : World} {β : Option Nat} {v : Value} {xs : List El} (h : SE w β v xs) (hF : Fr S w w') (hS : ∀ g, β = some g → ¬ S g) : SE w' β v xs := by
  cases β with
  | none => exact h
  | some g =>
    obtain ⟨cap, hv, hR⟩ := h
    exact ⟨cap, hv, hR.fr hF (hS g rfl)⟩
theorem SE.below {w w' : World} {β : Option Nat} {v : Value} {xs : List El} (h : SE w β v xs) (hb : Below w.heap.size w w') : SE w' β v xs :=
  h.fr (S := fun _ => False) (Fr.of_below hb) (fun _ _ h => h)
theorem SE.lt {w : World} {β : Option Nat} {v : Value} {xs : List El} (h : SE w β v xs) : ∀ g, β = some g → g < w.heap.size := by
  rintro g rfl
  obtain ⟨cap, hv, hR⟩ := h
  exact hR.lt
theorem SE.form {w : World} {β : Option Nat} {v : Value} {xs : List El} (h : SE w β v xs) : ∃ a c, v = .slice a xs.length c ∧ IsE w a xs.length c xs ∧ ∀ b off, a = some ⟨b, off, none⟩ → β = some b := by
  cases β with
  | none =>
    obtain ⟨rfl, rfl⟩ := h
    exact ⟨none, 0, rfl, isE_nil w, fun b off e => by cases e⟩
  | some g =>
    obtain ⟨cap, rfl, hR⟩ := h
    refine ⟨_, cap, rfl, hR.isE, fun b off e => ?_⟩
    have := Option.some.inj e
    simp at this
    rw [this.1]

theorem splice_take {α : Type} (L : List α) (off k : Nat) (cs : List α) (h : k ≤ off) (hL : off ≤ L.length) : (splice L off cs).take k = L.take k := by
  unfold splice
  rw [List.take_append_of_le_length (by rw [List.length_take]; omega), List.take_take, Nat.min_eq_left h]
theorem splice_drop {α : Type} (L : List α) (off : Nat) (cs : List α) (hL : off ≤ L.length) : (splice L off cs).drop off = cs ++ L.drop (off + cs.length) := by
  unfold splice
  have : (L.take off).length = off := by rw [List.length_take]; omega
  have e := List.drop_left (l₁ := L.take off) (l₂ := cs ++ L.drop (off + cs.length))
  rw [this] at e
  exact e

/-- Put in with room: what lies in the row behind the two copies. -/
theorem shift_take (L : List Value) (xs : List El) (x : El) (i n : Nat) (hx : xs.length = n) (hi : i ≤ n) (hL : (n + 1) * 3 ≤ L.length) (ht : L.take (n * 3) = cE xs) :
    (splice (splice L ((i + 1) * 3) (cE (xs.drop i))) (i * 3) (elc x)).take ((n + 1) * 3) = cE (xs.take i ++ x :: xs.drop i) := by
  have hd' : (cE (xs.drop i)).length = (n - i) * 3 := by rw [cE_len, List.length_drop, hx]
  have h1 : (splice L ((i + 1) * 3) (cE (xs.drop i))).length = L.length := length_splice _ _ _ (by rw [hd']; omega)
  have h2 : (splice L ((i + 1) * 3) (cE (xs.drop i))).take (i * 3) = cE (xs.take i) := by
    rw [splice_take _ _ _ _ (by omega) (by omega), ← cE_take xs i (by omega), ← ht, List.take_take, Nat.min_eq_left (by omega)]
  have h3 : (splice L ((i + 1) * 3) (cE (xs.drop i))).drop (i * 3 + (elc x).length) = cE (xs.drop i) ++ L.drop ((i + 1) * 3 + (cE (xs.drop i)).length) := by
    rw [show i * 3 + (elc x).length = (i + 1) * 3 from by simp [elc]; omega]
    exact splice_drop _ _ _ (by omega)
  rw [show splice (splice L ((i + 1) * 3) (cE (xs.drop i))) (i * 3) (elc x) = cE (xs.take i) ++ (elc x ++ (cE (xs.drop i) ++ L.drop ((i + 1) * 3 + (cE (xs.drop i)).length))) from by
    rw [← h2, ← h3]; rfl]
  have e : cE (xs.take i ++ x :: xs.drop i) = cE (xs.take i) ++ (elc x ++ cE (xs.drop i)) := by rw [cE_app, cE_cons]
  have el : (cE (xs.take i ++ x :: xs.drop i)).length = (n + 1) * 3 := by
    rw [cE_len]; simp; omega
  rw [← List.append_assoc (elc x), ← List.append_assoc (cE (xs.take i)), ← e, ← el, List.take_left]

/-- Take out: what lies in the row. -/
theorem unshift_take (L : List Value) (xs : List El) (z : List Value) (i n : Nat) (hx : xs.length = n) (hi : i < n) (hL : n * 3 ≤ L.length) (ht : L.take (n * 3) = cE xs) :
    (splice (splice L (i * 3) (cE (xs.drop (i + 1)))) ((n - 1) * 3) z).take ((n - 1) * 3) = cE (xs.take i ++ xs.drop (i + 1)) := by
  have hd' : (cE (xs.drop (i + 1))).length = (n - (i + 1)) * 3 := by rw [cE_len, List.length_drop, hx]
  have h1 : (splice L (i * 3) (cE (xs.drop (i + 1)))).length = L.length := length_splice _ _ _ (by rw [hd']; omega)
  rw [splice_take _ _ _ _ (by omega) (by omega)]
  have el : (cE (xs.take i ++ xs.drop (i + 1))).length = (n - 1) * 3 := by
    rw [cE_len]; simp; omega
  have h2 : L.take (i * 3) = cE (xs.take i) := by rw [← cE_take xs i (by omega), ← ht, List.take_take, Nat.min_eq_left (by omega)]
  unfold splice
  rw [h2, ← List.append_assoc, ← cE_app, ← el, List.take_left]

section
variable {P : Program}

/-- copy, of elements of any number of cells, into a block that is known whole. -/
theorem run_copy_k (w : World) (dT sT ty elem : TypeId) (size g o dLen dCap : Nat) (a : Addr) (sLen sCap n : Nat) (cur : List Value) (t : TypeId) (cs : List Value)
    (hu : P.underlying dT = some (.slice elem)) (hs : (P.info? elem).map (·.size) = some size)
    (hg : w.heap[g]? = some (.cells cur.toArray t (0, 0))) (hn : n = Nat.min sLen dLen) (hcl : cs.length = n * size)
    (hsrc : ∀ j v, cs[j]? = some v → w.cell? (a.add j) = some v) (hfit : o + cs.length ≤ cur.length) (h1 : ∀ v ∈ cs, v.oneCell' = true) :
    (Builtin.copy_ #[dT, sT] ty #[.slice (some ⟨g, o, none⟩) dLen dCap, .slice (some a) sLen sCap]).run P w = .ok (goInt n) (w.setRow g (splice cur o cs).toArray) := by
  have hl := run_loadCells_list (P := P) w a cs hsrc
  rw [hcl] at hl
  have hst := run_storeCells_at P g o t cs 0 cur.toArray w hg (by simpa using hfit) h1
  cases hq : P.info? elem with
  | none => simp [hq] at hs
  | some i =>
    have hi : i.size = size := by simpa [hq] using hs
    simp [Builtin.copy_, run_underlying hu, Builtin.lenOf, Builtin.firstCells, sizeOf, typeInfo, hq, hi, ← hn, hl, hst, splice]

theorem wpList_copy_k (w : World) {ops : Array Oper} {rest : List Oper} {o : Oper} {a : Act} {Q : Exit → Act → World → Prop} (hgd : o.guard = none) (d s : Operand) (t t' : TypeId)
    (ho : o.op = .call { callee := .builtin .copy, args := #[d, s], argTypes := #[t, t'] }) (v u : Value) (hd' : a.eval d = v) (hs : a.eval s = u) {v' : Value} {w' : World}
    (hr : (Builtin.copy_ #[t, t'] o.type #[v, u]).run P w = .ok v' w') (h : wpList P ops Q rest (a.put o.dst v') w') : wpList P ops Q (o :: rest) a w := by
  refine wpList_plain hgd fun K hK => ?_
  unfold Oper.wp
  simp [execOp, ho, resolve, invoke, builtin, hd', hs, hr, Result.andThen]
  exact hK _ _ h

theorem step_copy_k {ops : Array Oper} {o : Oper} {a : Act} {w : World} {K : Act → World → Prop} {Q : Exit → Act → World → Prop} {E : Prop}
    (hg : o.guard = none) (d x : Operand) (dT sT : TypeId) (hop : o.op = Op.call { callee := Callee.builtin Builtin.copy, args := #[d, x], argTypes := #[dT, sT] })
    (v u : Value) (hd' : a.eval d = v) (hx : a.eval x = u) {v' : Value} {w' : World} (hr : (Builtin.copy_ #[dT, sT] o.type #[v, u]).run P w = .ok v' w') (hK : K (a.put o.dst v') w') :
    if Region.wanted o (yielded ops a.tmps) = true then Oper.wp P o a w K Q else E := by
  have hw : Region.wanted o (yielded ops a.tmps) = true := by simp [Region.wanted, hg]
  rw [if_pos hw]
  unfold Oper.wp
  simp [execOp, hop, resolve, invoke, builtin, hd', hx, hr, Result.andThen]
  exact hK

theorem step_append_k {ops : Array Oper} {o : Oper} {a : Act} {w : World} {K : Act → World → Prop} {Q : Exit → Act → World → Prop} {E : Prop}
    (hg : o.guard = none) (d x : Operand) (dT sT : TypeId) (hop : o.op = Op.call { callee := Callee.builtin Builtin.append, args := #[d, x], argTypes := #[dT, sT] })
    (v u : Value) (hd' : a.eval d = v) (hx : a.eval x = u) {v' : Value} {w' : World} (hr : (Builtin.append_ #[dT, sT] o.type #[v, u]).run P w = .ok v' w') (hK : K (a.put o.dst v') w') :
    if Region.wanted o (yielded ops a.tmps) = true then Oper.wp P o a w K Q else E := by
  have hw : Region.wanted o (yielded ops a.tmps) = true := by simp [Region.wanted, hg]
  rw [if_pos hw]
  unfold Oper.wp
  simp [execOp, hop, resolve, invoke, builtin, hd', hx, hr, Result.andThen]
  exact hK

theorem wpList_append_k (w : World) {ops : Array Oper} {rest : List Oper} {o : Oper} {a : Act} {Q : Exit → Act → World → Prop} (hgd : o.guard = none) (d s : Operand) (t t' : TypeId)
    (ho : o.op = .call { callee := .builtin .append, args := #[d, s], argTypes := #[t, t'] }) (v u : Value) (hd' : a.eval d = v) (hs : a.eval s = u) {v' : Value} {w' : World}
    (hr : (Builtin.append_ #[t, t'] o.type #[v, u]).run P w = .ok v' w') (h : wpList P ops Q rest (a.put o.dst v') w') : wpList P ops Q (o :: rest) a w := by
  refine wpList_plain hgd fun K hK => ?_
  unfold Oper.wp
  simp [execOp, ho, resolve, invoke, builtin, hd', hs, hr, Result.andThen]
  exact hK _ _ h
end

theorem Try.infoE : (Try.prog.info? 41).map (fun i => (i.zero, i.size, i.bytes)) = some (some (.agg #[.int .u8 0, .int .i64 0, .int .i64 0]), 3, 24) := by kernel_rfl

/-- The row that an append leaves: the same, or a new one. -/
def Moved (w : World) (β β' : Option Nat) : Prop := β' = β ∨ ∃ g, β' = some g ∧ w.heap.size ≤ g

/-- The text at β is now ys, at v. -/
def NowE (w w' : World) (β : Option Nat) (v : Value) (ys : List El) : Prop := ∃ β', SE w' β' v ys ∧ Moved w β β' ∧ Fr (fun k => β = some k) w w'

end Go.Proofs.Ytkkklfnooeofcab
