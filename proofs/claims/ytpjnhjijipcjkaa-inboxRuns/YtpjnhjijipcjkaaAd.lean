/-
  first, Left.
-/
import Derived.Test.YtpjnhjijipcjkaaAc
namespace Go.Proofs.Ytpjnhjijipcjkaa
open Go.RowKit
set_option linter.unusedVariables false

theorem wpList_make_k {P : Program} (w : World) {ops : Array Oper} {rest : List Oper} {o : Oper} {a : Act} {Q : Exit → Act → World → Prop}
    (hg : o.guard = none) (l c : Operand) (t : TypeId) (hop : o.op = Op.makeSlice t l c)
    (e : TypeId) (i : TypeInfo) (z : Value) (h1 : P.underlying t = some (.slice e)) (h2 : P.info? e = some i) (h3 : i.zero = some z)
    (kl kc : IntKind) (L C : Int) (n m : Nat) (hl : a.eval l = .int kl L) (hc : a.eval c = .int kc C) (hL : L = (n : Int)) (hC : C = (m : Int)) (hnm : n ≤ m) (b2 : i.bytes * m ≤ 281474976710656) (b3 : m ≤ 9223372036854775807)
    (hK : ∀ (w' : World) (cur : List Value), Hid (w'.heap[w.heap.size]? = some (.cells cur.toArray e (0, 0))) → Hid (cur = (madeCells z.cells (m * i.size)).toList) → Hid (Below w.heap.size w w') → wpList P ops Q rest (a.put o.dst (.slice (some ⟨w.heap.size, 0, none⟩) n m)) w') :
    wpList P ops Q (o :: rest) a w := by
  refine wpList_plain hg fun K hK' => ?_
  subst hL
  subst hC
  have hrun := run_make (P := P) w t e i z h1 h2 h3 kl kc n m (by omega) (by omega) (by rw [← Int.natCast_mul]; exact Int.ofNat_le.2 b2) (by omega)
  simp only [Int.toNat_natCast] at hrun
  unfold Oper.wp
  simp [execOp, hop, hl, hc, hrun, Result.andThen]
  refine hK' _ _ (hK _ _ ?_ (rfl : _ = _) ((Below.refl _ _).alloc (Nat.le_refl _) _))
  show (w.alloc _).heap[w.heap.size]? = _
  rw [heap_alloc_new]

theorem row_empty {α : Type} {f : α → List Value} {k : Nat} {w : World} {g cap : Nat} {e : TypeId} {z : Array Value} {cur : List Value} (hg : w.heap[g]? = some (.cells cur.toArray e (0, 0))) (hc : cur = (madeCells z (cap * k)).toList) (hm : cap ≤ 9223372036854775807) : RowF f k w g 0 cap e [] := by
  refine ⟨cur, hg, by simp [cl_nil], rfl, Nat.zero_le _, hm, ?_⟩
  rw [hc, Array.length_toList, size_madeCells]

/-- A list of items that the call has made, from block base on. -/
def IL (w : World) (base : Nat) (v : Value) (xs : List (Int × Int)) : Prop := ∃ g, SF it 2 w 36 (some g) v xs ∧ base ≤ g

theorem IL.form {w : World} {base : Nat} {v : Value} {xs : List (Int × Int)} (h : IL w base v xs) : ∃ g c, v = .slice (some ⟨g, 0, none⟩) xs.length c ∧ RowF it 2 w g xs.length c 36 xs ∧ base ≤ g ∧ c ≤ 9223372036854775807 ∧ xs.length ≤ c := by
  obtain ⟨g, ⟨c, rfl, hR⟩, hb⟩ := h
  have hR' := hR
  obtain ⟨cur, -, -, -, h1, h2, -⟩ := hR'
  exact ⟨g, c, rfl, hR, hb, h2, h1⟩
theorem IL.fr {S : Nat → Prop} {w w' : World} {base : Nat} {v : Value} {xs : List (Int × Int)} (h : IL w base v xs) (hF : Fr S w w') (hS : ∀ k, S k → k < base) : IL w' base v xs := by
  obtain ⟨g, h, hb⟩ := h
  exact ⟨g, h.fr hF (fun k hk hs => by injection hk with hk; have := hS k hs; omega), hb⟩
theorem IL.below {w w' : World} {base : Nat} {v : Value} {xs : List (Int × Int)} (h : IL w base v xs) (hb : Below w.heap.size w w') : IL w' base v xs :=
  h.fr (S := fun _ => False) (Fr.of_below hb) (fun _ h => h.elim)
theorem IL.mono {w : World} {b b' : Nat} {v : Value} {xs : List (Int × Int)} (h : IL w b v xs) (hb : b' ≤ b) : IL w b' v xs := by
  obtain ⟨g, h, h2⟩ := h
  exact ⟨g, h, by omega⟩
theorem IL.lt {w : World} {base : Nat} {v : Value} {xs : List (Int × Int)} (h : IL w base v xs) : base < w.heap.size := by
  obtain ⟨g, h, h2⟩ := h
  have := h.lt _ rfl
  omega

theorem IL.grow {w0 u : World} {base : Nat} {v : Value} {xs : List (Int × Int)} {n y : Int} (h : IL u base v xs) (hb : Below base w0 u) (hlt : base ≤ w0.heap.size) (hn : xs.length ≤ 100000) :
    ∃ v' w', (∀ ty, (Builtin.append_ #[33, 33] ty #[v, .slice (some ⟨u.heap.size, 0, none⟩) 1 1]).run Try.prog (u.alloc (.cells #[.int .i64 n, .int .i64 y] 36)) = .ok v' w') ∧ IL w' base v' (xs ++ [(n, y)]) ∧ Below base w0 w' := by
  obtain ⟨g, hS, hg⟩ := h
  obtain ⟨v', w', hr, hN⟩ := push_item (u.alloc (.cells #[.int .i64 n, .int .i64 y] 36)) (some g) v xs (SF.fr (S := fun _ => False) hS (Fr.alloc _ _ _) (fun _ _ h => h)) u.heap.size n y (heap_alloc_new u _) hn
  obtain ⟨g', h1, h2, h3⟩ := hN.out
  have hs := hb.size
  have B2 : Below base w0 (u.alloc (.cells #[.int .i64 n, .int .i64 y] 36)) := hb.alloc (by omega) _
  refine ⟨v', w', hr, ⟨g', h1, ?_⟩, B2.trans (h3.below (by simp; omega) (fun k hk => by injection hk with hk; omega))⟩
  rcases h2 with h2 | h2
  · injection h2 with h2; omega
  · rw [h2]; simp; omega

set_option maxRecDepth 100000 in
set_option maxHeartbeats 4000000 in
theorem first_bk (x : Nat) (p : St) (v : Value) (β : Option Nat) (n : Nat) (w : World) (h : BK w x p v β) (hn : n ≤ p.L.length) :
    Calls Try.prog 35 #[.pointer (some ⟨x, 0, none⟩), .int .i64 n] w fun e w' => ∃ u, e = .returned u ∧ IL w' w.heap.size u (items p.a (p.L.take n)) ∧ Below w.heap.size w w' := by
  obtain ⟨i0, hi0, hz0, hz1, hz2⟩ := info_parts Try.infoT
  obtain ⟨m, hm⟩ : ∃ m, p.L.length = m := ⟨_, rfl⟩
  obtain ⟨q, hq⟩ : ∃ q, p.a = q := ⟨_, rfl⟩
  have hf := h.ok.few
  rw [hm, hq] at hf
  obtain ⟨a, c, hv, hc1, hc2⟩ := h.row.form
  subst hv
  rw [hm] at h hc1 hn
  have HK := hd h
  have HM := hd hm
  have HQ := hd hq
  have c3 := cell_row h.box 3
  simp at c3
  have hn4 : n ≤ 4096 := by omega
  clear h hm
  rw [hq]
  clear hq
  have hnn : m = 0 ∨ ∃ g, a = some ⟨g, 0, none⟩ := by
    have := HK.out.row
    cases β with
    | none =>
      obtain ⟨h1, h2⟩ := this
      rw [h2] at HM
      exact .inl HM.out.symm
    | some g =>
      obtain ⟨cap, h1, -⟩ := this
      injection h1 with h1
      exact .inr ⟨g, h1⟩
  go_enter Try.func35, Try.ntmps35
  go_wp2_with (first | (at_make; refine wpList_make_k _ rfl _ _ 33 rfl 36 i0 _ Try.underlying33 hi0 hz0 _ _ _ _ 0 n rfl rfl (by go_num) (by go_num) (by omega) (by rw [hz2]; omega) (by omega) ?_; intro w3 cur hg3 hcur hb3; have k3 : w3.cell? ⟨x, 3, none⟩ = some (.slice a m c) := (hb3.out.cell (p := ⟨x, 3, none⟩) (block_lt HK.out.box)).trans c3; have HR := hd (row_empty (f := it) hg3.out (by have := hcur.out; rw [hz1] at this; exact this) (by omega)); have HB := hd hb3.out; clear hg3 hcur hb3 c3) | fail)
  have S0 : Hid (IL w3 w.heap.size (.slice (some ⟨w.heap.size, 0, none⟩) 0 n) (items q (p.L.take 0)) ∧ Below w.heap.size w w3) :=
    ⟨⟨w.heap.size, ⟨n, by simp [items], by simpa [items] using HR.out⟩, Nat.le_refl _⟩, HB.out⟩
  clear HR HB k3
  go_loopw [5, 17] (fun u i wr => ∃ j : Nat, j ≤ n ∧ i = .int .i64 j ∧ Hid (IL wr w.heap.size u (items q (p.L.take j)) ∧ Below w.heap.size w wr)) (fun _ i _ => n - (intOf i).toNat)
  case atStart => exact ⟨0, Nat.zero_le _, rfl, S0⟩
  case round =>
    obtain ⟨j, hj, rfl, hr⟩ := hrel
    clear S0
    by_cases hlt : j < n
    · have K1 := HK.out.below hr.out.2
      have jL : j < p.L.length := by have := HM.out; omega
      obtain ⟨g, rfl⟩ : ∃ g, a = some ⟨g, 0, none⟩ := by
        rcases hnn with h | h
        · omega
        · exact h
      have hca : wr.cell? ⟨g, j, none⟩ = some (.int .i64 p.L[j]) := by
        have hr := K1.row
        cases β with
        | none =>
          obtain ⟨h1, -⟩ := hr
          simp at h1
        | some g' =>
          obtain ⟨cap, h1, hR⟩ := hr
          injection h1 with h1 h2 h3
          injection h1 with h1
          injection h1 with h1
          subst h1
          have := hR.cell sz_ei j 0 jL (by omega)
          simpa [ei] using this
      have x1 := cell_row K1.box 1
      simp at x1
      rw [HQ.out] at x1
      have hl : (items q (p.L.take j)).length = j := by rw [items_len]; simp; omega
      have ext : items q (p.L.take (j + 1)) = items q (p.L.take j) ++ [((q : Int) + 1 + j, p.L[j])] := by
        rw [List.take_succ_eq_append_getElem jL, items_snoc]
        simp
        omega
      obtain ⟨v', w', hap, h1, h2⟩ := IL.grow (n := (q : Int) + 1 + j) (y := p.L[j]) hr.out.1 hr.out.2 (Nat.le_refl _) (by omega)
      rw [← ext] at h1
      have Z := hd (And.intro h1 h2)
      have i2 : (j : Int) < (n : Int) := by omega
      clear h1 h2 ext hl K1 hr
      generalize p.L[j] = y at hca hap
      go_wp2_with (at_builtin; refine wpList_append_k _ rfl _ _ 33 33 rfl _ _ rfl rfl (hap _) ?_)
      exact ⟨⟨j + 1, by omega, by go_num, Z⟩, by simp [intOf]; omega⟩
    · obtain rfl : j = n := by omega
      go_wp2
      go_ret
      exact ⟨_, rfl, hr.out⟩

end Go.Proofs.Ytpjnhjijipcjkaa
