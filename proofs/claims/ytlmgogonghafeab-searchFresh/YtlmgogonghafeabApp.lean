/-
  Apply.
-/
import Derived.Test.YtlmgogonghafeabChg
namespace Go.Proofs.Ytlmgogonghafeab
open Go.RowKit Go.Lib
set_option linter.unusedVariables false

theorem wpList_make_k {P : Program} (w : World) {ops : Array Oper} {rest : List Oper} {o : Oper} {a : Act} {Q : Exit → Act → World → Prop}
    (hg : o.guard = none) (l c : Operand) (t : TypeId) (hop : o.op = Op.makeSlice t l c)
    (e : TypeId) (i : TypeInfo) (z : Value) (h1 : P.underlying t = some (.slice e)) (h2 : P.info? e = some i) (h3 : i.zero = some z)
    (kl kc : IntKind) (L C : Int) (n m : Nat) (hl : a.eval l = .int kl L) (hc : a.eval c = .int kc C) (hL : L = (n : Int)) (hC : C = (m : Int)) (hnm : n ≤ m) (b2 : i.bytes * m ≤ 281474976710656) (b3 : m ≤ 9223372036854775807)
    (hK : ∀ (w' : World) (cur : List Value), Hid (w'.heap[w.heap.size]? = some (.cells cur.toArray e (0, 0))) → Hid (cur = (madeCells z.cells (m * i.size)).toList) → Hid (Below w.heap.size w w') → wpList P ops Q rest (a.put o.dst (.slice (some ⟨w.heap.size, 0, none⟩) n m)) w') :
    wpList P ops Q (o :: rest) a w := by
  refine wpList_plain hg fun K hK' => ?_
  subst hL
  subst hC
  have hrun := run_make (P := P) w t e i z h1 h2 h3 kl kc n m (by omega) (by omega) (by rw [← Int.natCast_mul]; exact Int.ofNat_le.2 b2) (by omega)
  simp only [Int.toNat_natCast] at hrun
  unfold Oper.wp
  simp [execOp, hop, hl, hc, hrun, Result.andThen]
  refine hK' _ _ (hK _ _ ?_ (rfl : _ = _) ((Below.refl _ _).alloc (Nat.le_refl _) _))
  show (w.alloc _).heap[w.heap.size]? = _
  rw [heap_alloc_new]

theorem run_copy_zero {P : Program} (w : World) (dT sT ty elem : TypeId) (d a : Option Addr) (dLen dCap sLen sCap size : Nat) (hu : P.underlying dT = some (.slice elem)) (hs : (P.info? elem).map (·.size) = some size) (hn : Nat.min sLen dLen = 0) :
    (Builtin.copy_ #[dT, sT] ty #[.slice d dLen dCap, .slice a sLen sCap]).run P w = .ok (goInt (0 : Nat)) w := by
  cases hq : P.info? elem with
  | none => simp [hq] at hs
  | some i =>
    have hl : ∀ (x : Addr), (loadCells x 0).run P w = .ok #[] w := fun x => by simpa using run_loadCells_list (P := P) w x [] (by simp)
    cases d <;> cases a <;> simp [Builtin.copy_, run_underlying hu, Builtin.lenOf, Builtin.firstCells, sizeOf, typeInfo, hq, hn, storeCells, hl]

/-- A copy of a whole text into a row of the call's own. -/
theorem run_copyE (w : World) (a : Option Addr) (n c m g : Nat) (xs : List El) (cur : List Value) (hE : IsE w a n c xs) (hg : w.heap[g]? = some (.cells cur.toArray 25 (0, 0))) (hl : cur.length = m * 3) (hm : n ≤ m) (hm63 : m ≤ 9223372036854775807) :
    ∃ w', (∀ ty, (Builtin.copy_ #[22, 22] ty #[.slice (some ⟨g, 0, none⟩) n m, .slice a n c]).run Try.prog w = .ok (goInt n) w') ∧ RowE w' g n m xs ∧ Fr (· = g) w w' := by
  obtain ⟨h1, h2, h3, h4⟩ := hE
  by_cases h0 : n = 0
  · subst h0
    obtain rfl := List.eq_nil_of_length_eq_zero h1
    exact ⟨w, fun ty => run_copy_zero w _ _ ty 25 _ _ _ _ _ _ 3 Try.underlying22 (by obtain ⟨i0, hi, hz0, hz1, hz2⟩ := info_parts Try.infoE; rw [hi]; simp [hz1]) (Nat.min_self _), ⟨cur, hg, by simp [cE_nil], rfl, hm, hm63, hl⟩, Fr.refl _ _⟩
  · obtain ⟨b, off, rfl, hlt, hc⟩ := h4 (by omega)
    have hcl : (cE xs).length = n * 3 := by rw [cE_len, h1]
    refine ⟨_, fun ty => run_copy_k w 22 22 ty 25 3 g 0 n m ⟨b, off, none⟩ n c n cur 25 (cE xs) Try.underlying22 sizeE' hg (Nat.min_self _).symm hcl (fun j v hj => by rw [add_lit]; exact hc j v hj) (by rw [hcl, hl]; omega) (cE_one' _), ?_, Fr.setRow _ _ _ rfl⟩
    refine ⟨_, setRow_heap w g _ _ 25 _ hg, ?_, h1, hm, hm63, by rw [length_splice _ _ _ (by rw [hcl, hl]; omega), hl]⟩
    have := splice_take_end cur 0 (cE xs) (Nat.zero_le _)
    rw [Nat.zero_add, hcl] at this
    simpa using this

/-- A row of the call's own, from block base on. -/
def OwnE (w : World) (base : Nat) (v : Value) (xs : List El) : Prop := ∃ g, base ≤ g ∧ SE w (some g) v xs

theorem OwnE.form {w : World} {base : Nat} {v : Value} {xs : List El} (h : OwnE w base v xs) : ∃ g c, base ≤ g ∧ v = .slice (some ⟨g, 0, none⟩) xs.length c ∧ RowE w g xs.length c xs := by
  obtain ⟨g, hb, c, hv, hR⟩ := h
  exact ⟨g, c, hb, hv, hR⟩
theorem OwnE.below {w w' : World} {base : Nat} {v : Value} {xs : List El} (h : OwnE w base v xs) (hb : Below w.heap.size w w') : OwnE w' base v xs := by
  obtain ⟨g, h1, h2⟩ := h
  exact ⟨g, h1, h2.below hb⟩

end Go.Proofs.Ytlmgogonghafeab
