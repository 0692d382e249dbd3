/-
  Push, Reset, first, Left.
-/
import Derived.Test.YtpjnhjijipcjkaaAb
namespace Go.Proofs.Ytpjnhjijipcjkaa
open Go.RowKit
set_option linter.unusedVariables false

theorem Try.infoI : (Try.prog.info? 3).map (fun i => (i.zero, i.size, i.bytes)) = some (some (.int .i64 0), 1, 8) := by kernel_rfl
theorem Try.infoT : (Try.prog.info? 36).map (fun i => (i.zero, i.size, i.bytes)) = some (some (.agg #[.int .i64 0, .int .i64 0]), 2, 16) := by kernel_rfl

theorem wpList_append_k {P : Program} (w : World) {ops : Array Oper} {rest : List Oper} {o : Oper} {a : Act} {Q : Exit → Act → World → Prop} (hgd : o.guard = none) (d s : Operand) (t t' : TypeId)
    (ho : o.op = .call { callee := .builtin .append, args := #[d, s], argTypes := #[t, t'] }) (v u : Value) (hd' : a.eval d = v) (hs : a.eval s = u) {v' : Value} {w' : World}
    (hr : (Builtin.append_ #[t, t'] o.type #[v, u]).run P w = .ok v' w') (h : wpList P ops Q rest (a.put o.dst v') w') : wpList P ops Q (o :: rest) a w := by
  refine wpList_plain hgd fun K hK => ?_
  unfold Oper.wp
  simp [execOp, ho, resolve, invoke, builtin, hd', hs, hr, Result.andThen]
  exact hK _ _ h
theorem wpList_clear_k {P : Program} (w : World) {ops : Array Oper} {rest : List Oper} {o : Oper} {a : Act} {Q : Exit → Act → World → Prop} (hgd : o.guard = none) (d : Operand) (t : TypeId)
    (ho : o.op = .call { callee := .builtin .clear, args := #[d], argTypes := #[t] }) (v : Value) (hd' : a.eval d = v) {v' : Value} {w' : World}
    (hr : (Builtin.clear_ #[t] o.type #[v]).run P w = .ok v' w') (h : wpList P ops Q rest (a.put o.dst v') w') : wpList P ops Q (o :: rest) a w := by
  refine wpList_plain hgd fun K hK => ?_
  unfold Oper.wp
  simp [execOp, ho, resolve, invoke, builtin, hd', hr, Result.andThen]
  exact hK _ _ h
theorem step_append_k {P : Program} {ops : Array Oper} {o : Oper} {a : Act} {w : World} {K : Act → World → Prop} {Q : Exit → Act → World → Prop} {E : Prop}
    (hg : o.guard = none) (d x : Operand) (dT sT : TypeId) (hop : o.op = Op.call { callee := Callee.builtin Builtin.append, args := #[d, x], argTypes := #[dT, sT] })
    (v u : Value) (hd' : a.eval d = v) (hx : a.eval x = u) {v' : Value} {w' : World} (hr : (Builtin.append_ #[dT, sT] o.type #[v, u]).run P w = .ok v' w') (hK : K (a.put o.dst v') w') :
    if Region.wanted o (yielded ops a.tmps) = true then Oper.wp P o a w K Q else E := by
  have hw : Region.wanted o (yielded ops a.tmps) = true := by simp [Region.wanted, hg]
  rw [if_pos hw]
  unfold Oper.wp
  simp [execOp, hop, resolve, invoke, builtin, hd', hx, hr, Result.andThen]
  exact hK

/-- append of one int. -/
theorem push_int (w : World) (β : Option Nat) (v : Value) (xs : List Int) (hv : SF ei 1 w 3 β v xs) (b : Nat) (x : Int) (hb : w.heap[b]? = some (.cells #[.int .i64 x] 3 (0, 0))) (hn : xs.length ≤ 100000) :
    ∃ v' w', (∀ ty, (Builtin.append_ #[22, 22] ty #[v, .slice (some ⟨b, 0, none⟩) 1 1]).run Try.prog w = .ok v' w') ∧ NowF ei 1 w w' 3 β v' (xs ++ [x]) := by
  obtain ⟨i0, hi0, hz0, hz1, hz2⟩ := info_parts Try.infoI
  obtain ⟨v', w', hr, hN⟩ := run_pushF sz_ei (P := Try.prog) w 22 0 3 i0 _ 8 Try.underlying22 hi0 hz0 hz1 rfl hz2 β v xs hv ⟨b, 0, none⟩ 1 1 [x] rfl (fun j u hj => by
    rw [cl_one] at hj
    cases j with
    | zero => rw [add_lit, cell_row hb]; simpa [ei] using hj
    | succ j => simp [ei] at hj) (by omega) (by omega) (by omega)
  exact ⟨v', w', fun ty => hr, hN⟩

/-- append of one item. -/
theorem push_item (w : World) (β : Option Nat) (v : Value) (xs : List (Int × Int)) (hv : SF it 2 w 36 β v xs) (b : Nat) (n x : Int) (hb : w.heap[b]? = some (.cells #[.int .i64 n, .int .i64 x] 36 (0, 0))) (hn : xs.length ≤ 100000) :
    ∃ v' w', (∀ ty, (Builtin.append_ #[33, 33] ty #[v, .slice (some ⟨b, 0, none⟩) 1 1]).run Try.prog w = .ok v' w') ∧ NowF it 2 w w' 36 β v' (xs ++ [(n, x)]) := by
  obtain ⟨i0, hi0, hz0, hz1, hz2⟩ := info_parts Try.infoT
  obtain ⟨v', w', hr, hN⟩ := run_pushF sz_it (P := Try.prog) w 33 0 36 i0 _ 16 Try.underlying33 hi0 hz0 hz1 rfl hz2 β v xs hv ⟨b, 0, none⟩ 1 1 [(n, x)] rfl (fun j u hj => by
    rw [cl_one] at hj
    rcases j with _ | _ | j
    · rw [add_lit, cell_row hb]; simpa [it] using hj
    · rw [add_lit, cell_row hb]; simpa [it] using hj
    · simp [it] at hj) (by omega) (by omega) (by omega)
  exact ⟨v', w', fun ty => hr, hN⟩

/-- What an append leaves besides: every block of the world before, but its row. -/
theorem NowF.out {α : Type} {f : α → List Value} {k : Nat} {w w' : World} {e : TypeId} {β : Option Nat} {v' : Value} {xs : List α} (h : NowF f k w w' e β v' xs) :
    ∃ g', SF f k w' e (some g') v' xs ∧ (β = some g' ∨ g' = w.heap.size) ∧ Fr (fun j => β = some j) w w' := by
  obtain ⟨g', h1, h2 | h2⟩ := h
  · exact ⟨g', h1, .inl h2.1, h2.2.mono (fun k _ hk => by rw [hk]; exact h2.1)⟩
  · exact ⟨g', h1, .inr h2.1, h2.2.mono (fun k _ hk => hk.elim)⟩

theorem BK.x_ne {w : World} {x : Nat} {p : St} {v : Value} {β : Option Nat} (h : BK w x p v β) : β ≠ some x := by
  rintro rfl
  obtain ⟨cur, h1⟩ := h.row.blk
  have := h.box
  rw [h1] at this
  simp at this

/-- The things changed to L, the row with them. -/
theorem now_left {w u w' : World} {x : Nat} {p : St} {v v' : Value} {β : Option Nat} {S : Nat → Prop} {L : List Int} (h : BK u x p v β) (hB : Below w.heap.size w u) (hSx : S x) (hSβ : ∀ g, β = some g → S g) (hS : ∀ k, S k → k < w.heap.size)
    (hN : NowF ei 1 u w' 3 β v' L) (hok : St.ok { p with L := L }) : Now w (w'.setCell ⟨x, 3, none⟩ v') x { p with L := L } S := by
  obtain ⟨g', h1, h2, h3⟩ := hN.out
  have hxu : x < u.heap.size := block_lt h.box
  have hxg : g' ≠ x := by
    rintro rfl
    rcases h2 with h2 | h2
    · exact h.x_ne h2
    · omega
  have hx : w'.heap[x]? = some (.cells #[.int .i64 p.W, .int .i64 p.a, .int .i64 p.s, v] 79 (0, 0)) := h3.keeps h.box (fun hb => h.x_ne hb)
  have hF : Fr (· = x) w' (w'.setCell ⟨x, 3, none⟩ v') := Fr.setCell _ _ _ rfl
  have hsz := h3.size
  have hsz2 := hB.size
  have hsz3 := hF.size
  refine ⟨fun k => k = x ∨ k = g', ⟨v', some g', ⟨?_, h1.fr hF (fun g hg => by injection hg with hg; omega), hok⟩, .inl rfl, fun g hg => by injection hg with hg; exact .inr hg.symm, ?_⟩, ?_, ?_⟩
  · have := set_row hx 3 v'
    simpa using this
  · rintro k (rfl | rfl)
    · omega
    · have := h1.lt _ rfl; omega
  · rintro k (rfl | rfl)
    · exact .inl hSx
    · rcases h2 with h2 | h2
      · exact .inl (hSβ _ h2)
      · exact .inr (by omega)
  · exact (Fr.of_below hB).next ((h3.mono (S' := S) (fun k _ hk => hSβ k hk)).next hF (fun k _ hk => by rw [hk]; exact hSx)) (fun k _ hk => hk)

set_option maxRecDepth 100000 in
set_option maxHeartbeats 2000000 in
theorem push_any (x : Nat) (p : St) (y : Int) (S : Nat → Prop) (w : World) (h : BoxAt w x p S) :
    Calls Try.prog 12 #[.pointer (some ⟨x, 0, none⟩), .int .i64 y] w fun e w' => e = .returned (.tuple #[.int .i64 (pushN p), .int .i64 (pushE p)]) ∧ Now w w' x (pushS p y) S := by
  obtain ⟨v, β, hK, hSx, hSβ, hS⟩ := h
  have HK := hd hK
  have HX := hd (And.intro hSx (And.intro hSβ hS))
  have hok := hK.ok
  have hf := hok.few
  obtain ⟨m, hm⟩ : ∃ m, p.last = m := ⟨_, rfl⟩
  have hm2 : m ≤ 4096 := by rw [← hm]; exact hf
  have HM := hd hm
  have HO := hd hok
  clear hK hSx hSβ hS hok hf
  by_cases hl : 4096 ≤ m
  · have hl' : (4096 : Int) ≤ (m : Int) := by omega
    go_enter Try.func12, Try.ntmps12
    go_wp2_with fail
    refine (last_bk x p v β w HK.out).mono ?_
    rintro e w1 ⟨rfl, hb⟩
    have HB := hd hb
    clear hb
    rw [hm]
    clear hm
    go_wp2
    refine bodyPost_ret (v := .tuple #[.int .i64 0, .int .i64 81]) (by simp [results, Try.results12, go_sem]) rfl ?_
    have hl2 : 4096 ≤ p.last := by rw [HM.out]; exact hl
    refine ⟨by rw [pushN, pushE, if_pos hl2, if_pos hl2], ?_⟩
    rw [pushS, if_pos hl2]
    exact ⟨S, ⟨v, β, HK.out.below HB.out, HX.out.1, HX.out.2.1, fun k hk => Nat.lt_of_lt_of_le (HX.out.2.2 k hk) HB.out.size⟩, fun k hk => .inl hk, Fr.of_below HB.out⟩
  · have hl' : ¬ (4096 : Int) ≤ (m : Int) := by omega
    go_enter Try.func12, Try.ntmps12
    go_wp2_with fail
    refine (last_bk x p v β w HK.out).mono ?_
    rintro e w1 ⟨rfl, hb⟩
    have HB := hd hb
    have K1 := HK.out.below hb
    have c3 := cell_row K1.box 3
    simp at c3
    have hll : p.L.length ≤ 4096 := by have := HO.out.few; omega
    obtain ⟨v', w', hr, hN⟩ := push_int (w1.alloc (.cells #[.int .i64 y] 3)) β v p.L (SF.fr (S := fun _ => False) K1.row (Fr.alloc _ _ _) (fun _ _ h => h)) w1.heap.size y (heap_alloc_new w1 _) (by omega)
    obtain ⟨a', n', c', rfl⟩ : ∃ a' n' c', v' = .slice a' n' c' := by
      obtain ⟨g', h1, -⟩ := hN
      obtain ⟨a', c', h, -⟩ := h1.form
      exact ⟨a', _, c', h⟩
    have K2 := K1.below ((Below.refl _ _).alloc (Nat.le_refl _) (.cells #[.int .i64 y] 3))
    have hl2 : ¬ 4096 ≤ p.last := by rw [HM.out]; exact hl
    have hx3 : w'.heap[x]? = some (.cells #[.int .i64 p.W, .int .i64 p.a, .int .i64 p.s, v] 79 (0, 0)) := by
      obtain ⟨g', -, -, h3⟩ := hN.out
      exact h3.keeps K2.box (fun hb => K2.x_ne hb)
    have d3 := cell_row hx3 3
    simp at d3
    have f3 := frozen_row hx3 3
    have Z := now_left (S := S) K2 (hb.trans ((Below.refl _ _).alloc hb.size _)) HX.out.1 HX.out.2.1 HX.out.2.2 hN (by
      have := pushS_ok HO.out y
      rwa [pushS, if_neg hl2] at this)
    have Z' := Z
    obtain ⟨S', ⟨v2, β2, K3, -⟩, -⟩ := Z'
    have HZ := hd Z
    have HK3 := hd K3
    clear Z K3 K2 hx3 hN K1 hb hll
    rw [hm]
    clear hm
    go_wp2_with (at_builtin; refine wpList_append_k _ rfl _ _ 22 22 rfl _ _ rfl rfl (hr _) ?_)
    refine (last_bk x _ v2 β2 _ HK3.out).mono ?_
    rintro e w3 ⟨rfl, hb3⟩
    have HB3 := hd hb3
    clear hb3
    go_wp2
    refine bodyPost_ret (v := .tuple #[.int .i64 (m + 1), .int .i64 0]) (by simp [results, Try.results12, go_sem]; have := HM.out; simp [St.last] at this ⊢; omega) rfl ?_
    refine ⟨by rw [pushN, pushE, if_neg hl2, if_neg hl2, HM.out], ?_⟩
    rw [pushS, if_neg hl2]
    obtain ⟨S', h1, h2, h3⟩ := HZ.out
    exact ⟨S', h1.below HB3.out, h2, h3.trans (Fr.of_below HB3.out)⟩

end Go.Proofs.Ytpjnhjijipcjkaa
