/-
  put.
-/
import Derived.Test.YtnglcnilckolkaaNe
import Derived.Deep.RegionHeld3
namespace Go.Proofs.Ytnglcnilckolkaa
open Go.RowKit Go.Maps
set_option linter.unusedVariables false

theorem step_add {ops : Array Oper} {o : Oper} {a : Act} {w : World} {K : Act → World → Prop} {Q : Exit → Act → World → Prop} {E : Prop}
    (hg : o.guard = none) (m x y : Operand) (hop : o.op = Op.mapUpdate 63 m x y) (b k : Nat) (v : Value) (hm : a.eval m = .map (some b)) (hx : a.eval x = .int .i64 k) (hy : a.eval y = v)
    (L : List (Nat × Value)) (hM : MP w b L) (hk : k ≤ 9223372036854775807) (hL : L.length ≤ 1000000) (hn : ∀ p ∈ L, p.1 ≠ k)
    (hK : ∀ w', MP w' b (L ++ [(k, v)]) → Fr (· = b) w w' → K (a.put o.dst undef) w') :
    if Region.wanted o (yielded ops a.tmps) = true then Oper.wp Try.prog o a w K Q else E := by
  obtain ⟨w', hr, h1, h2⟩ := hM.add (v := v) hk hL hn
  exact step_update_k hg m x y 63 hop _ _ _ hm hx hy hr (hK w' h1 h2)

theorem step_put {ops : Array Oper} {o : Oper} {a : Act} {w : World} {K : Act → World → Prop} {Q : Exit → Act → World → Prop} {E : Prop}
    (hg : o.guard = none) (m x y : Operand) (hop : o.op = Op.mapUpdate 63 m x y) (b k : Nat) (v0 v : Value) (hm : a.eval m = .map (some b)) (hx : a.eval x = .int .i64 k) (hy : a.eval y = v)
    (L1 L2 : List (Nat × Value)) (hM : MP w b (L1 ++ (k, v0) :: L2)) (hL : (L1 ++ (k, v0) :: L2).length ≤ 1000000) (hn : ∀ p ∈ L1 ++ L2, p.1 ≠ k)
    (hK : ∀ w', MP w' b (L1 ++ (k, v) :: L2) → Fr (· = b) w w' → K (a.put o.dst undef) w') :
    if Region.wanted o (yielded ops a.tmps) = true then Oper.wp Try.prog o a w K Q else E := by
  obtain ⟨w', hr, h1, h2⟩ := hM.put (v := v) hL hn
  exact step_update_k hg m x y 63 hop _ _ _ hm hx hy hr (hK w' h1 h2)

theorem step_del {ops : Array Oper} {o : Oper} {a : Act} {w : World} {K : Act → World → Prop} {Q : Exit → Act → World → Prop} {E : Prop}
    (hg : o.guard = none) (m x : Operand) (hop : o.op = Op.call { callee := Callee.builtin Builtin.delete, args := #[m, x], argTypes := #[63, 3] }) (b k : Nat) (v0 : Value) (hm : a.eval m = .map (some b)) (hx : a.eval x = .int .i64 k)
    (L1 L2 : List (Nat × Value)) (hM : MP w b (L1 ++ (k, v0) :: L2)) (hn : ∀ p ∈ L1 ++ L2, p.1 ≠ k)
    (hK : ∀ w', MP w' b (L1 ++ L2) → Fr (· = b) w w' → K (a.put o.dst (.tuple #[])) w') :
    if Region.wanted o (yielded ops a.tmps) = true then Oper.wp Try.prog o a w K Q else E := by
  obtain ⟨w', hr, h1, h2⟩ := hM.del hn
  exact step_delete_k hg m x 63 3 hop _ _ hm hx (hr _) (hK w' h1 h2)

theorem step_look {ops : Array Oper} {o : Oper} {a : Act} {w : World} {K : Act → World → Prop} {Q : Exit → Act → World → Prop} {E : Prop}
    (hg : o.guard = none) (m x : Operand) (hop : o.op = Op.lookup 63 m x false) (b k : Nat) (v : Value) (hm : a.eval m = .map (some b)) (hx : a.eval x = .int .i64 k)
    (L : List (Nat × Value)) (hM : MP w b L) (hn : (k, v) ∈ L) (hK : K (a.put o.dst v) w) :
    if Region.wanted o (yielded ops a.tmps) = true then Oper.wp Try.prog o a w K Q else E :=
  step_lookup_k hg m x 63 hop _ _ hm hx (hM.look hn) hK

theorem step_push {ops : Array Oper} {o : Oper} {a : Act} {w : World} {K : Act → World → Prop} {Q : Exit → Act → World → Prop} {E : Prop}
    (hg : o.guard = none) (d x : Operand) (hop : o.op = Op.call { callee := Callee.builtin Builtin.append, args := #[d, x], argTypes := #[64, 64] })
    (va : Value) (g k : Nat) (hv : a.eval d = va) (hx : a.eval x = .slice (some ⟨g, 0, none⟩) 1 1) (β : Option Nat) (vs : List Value) (hS : SRow w 3 β va vs) (hc : w.cell? ⟨g, 0, none⟩ = some (.int .i64 k)) (hn : vs.length ≤ 4096)
    (hK : ∀ g' cap' w', Pushed w w' 3 β g' (vs.length + 1) cap' (vs ++ [.int .i64 k]) → K (a.put o.dst (.slice (some ⟨g', 0, none⟩) (vs.length + 1) cap')) w') :
    if Region.wanted o (yielded ops a.tmps) = true then Oper.wp Try.prog o a w K Q else E := by
  obtain ⟨i0, hi0, hz0, hz1, hz2⟩ := info_parts Try.info3
  obtain ⟨g', cap', w', hr, hP⟩ := run_push (P := Try.prog) w 64 o.type 3 i0 (.int .i64 0) 8 Try.underlying64 hi0 hz0 hz1 rfl hz2 β va vs hS ⟨g, 0, none⟩ 1 1 [.int .i64 k] rfl (fun j u hj => by
    cases j with
    | zero => simpa [Addr.add] using (by simpa using hj ▸ hc : w.cell? ⟨g, 0, none⟩ = some u)
    | succ j => simp at hj) (fun u hu => by simp at hu; subst hu; rfl) (by omega) (by omega) (by omega)
  exact step_append_k hg d x 64 64 hop _ _ hv hx hr (hK g' cap' w' hP)

/-- A net and a datagram in a block of its own, as put has them. -/
structure PU (w : World) (x : Nat) (cl : Int) (E : List En) (nx : Nat) (S : Nat → Prop) (bm : Nat) (va : Value) (β : Option Nat) (bx : Nat) (d : DG) (v : Value) : Prop where
  nk : NK w x cl E nx S bm va β
  box : w.heap[bx]? = some (.cells #[.int .i64 d.f, .int .i64 d.t, v, .bool d.s] 37 (0, 0))
  far : ¬ S bx

theorem PU.below {w w' : World} {x : Nat} {cl : Int} {E : List En} {nx : Nat} {S : Nat → Prop} {bm : Nat} {va : Value} {β : Option Nat} {bx : Nat} {d : DG} {v : Value} (h : PU w x cl E nx S bm va β bx d v) (hb : Below w.heap.size w w') : PU w' x cl E nx S bm va β bx d v :=
  ⟨h.nk.below hb, (hb.block _ (block_lt h.box)).trans h.box, h.far⟩

theorem cells4 {w : World} {g : Nat} {a b c d : Value} {t : TypeId} (h : w.heap[g]? = some (.cells #[a, b, c, d] t (0, 0))) : w.cell? ⟨g, 0, none⟩ = some a ∧ w.cell? ⟨g, 1, none⟩ = some b ∧ w.cell? ⟨g, 2, none⟩ = some c ∧ w.cell? ⟨g, 3, none⟩ = some d :=
  ⟨cell_row h 0, cell_row h 1, cell_row h 2, cell_row h 3⟩

theorem NK.xbm {w : World} {x : Nat} {cl : Int} {E : List En} {nx : Nat} {S : Nat → Prop} {bm : Nat} {va : Value} {β : Option Nat} (h : NK w x cl E nx S bm va β) : x ≠ bm := by
  rintro rfl
  obtain ⟨es, ck, h2⟩ := h.mp.map
  rw [h.net] at h2
  simp at h2

theorem SRow.lt {e : TypeId} {w : World} {β : Option Nat} {v : Value} {vs : List Value} (h : SRow w e β v vs) : ∀ g, β = some g → g < w.heap.size := by
  rintro g rfl
  obtain ⟨cap, hv, hR⟩ := h
  exact hR.lt
theorem SRow.blk {w : World} {e : TypeId} {g : Nat} {v : Value} {vs : List Value} (h : SRow w e (some g) v vs) : ∃ cur, w.heap[g]? = some (.cells cur e (0, 0)) := by
  obtain ⟨cap, -, cur, hh, -⟩ := h
  exact ⟨cur, hh⟩

theorem NK.e_x {w : World} {x : Nat} {cl : Int} {E : List En} {nx : Nat} {S : Nat → Prop} {bm : Nat} {va : Value} {β : Option Nat} (h : NK w x cl E nx S bm va β) {γ : Option Nat} {v : Value} {b : List Int} (hs : SB w γ v b) {g : Nat} (hg : γ = some g) : g ≠ x ∧ g ≠ bm ∧ β ≠ some g := by
  subst hg
  obtain ⟨cur, h1⟩ := SRow.blk hs
  refine ⟨?_, ?_, ?_⟩
  · rintro rfl
    have := h.net
    rw [h1] at this
    simp at this
  · rintro rfl
    obtain ⟨es, ck, h2⟩ := h.mp.map
    rw [h1] at h2
    simp at h2
  · rintro rfl
    obtain ⟨c2, h2⟩ := SRow.blk h.ages
    rw [h1] at h2
    simp at h2
theorem NK.b_x {w : World} {x : Nat} {cl : Int} {E : List En} {nx : Nat} {S : Nat → Prop} {bm : Nat} {va : Value} {β : Option Nat} (h : NK w x cl E nx S bm va β) {g : Nat} (hg : β = some g) : g ≠ x ∧ g ≠ bm := by
  subst hg
  obtain ⟨cur, h1⟩ := SRow.blk h.ages
  refine ⟨?_, ?_⟩
  · rintro rfl
    have := h.net
    rw [h1] at this
    simp at this
  · rintro rfl
    obtain ⟨es, ck, h2⟩ := h.mp.map
    rw [h1] at h2
    simp at h2

theorem put_end {w u w2 W w3 : World} {x : Nat} {cl : Int} {E : List En} {nx : Nat} {S : Nat → Prop} {bm : Nat} {va : Value} {β γ : Option Nat} {d : DG} {v : Value} {g' cap' : Nat} (N : NK u x cl E nx S bm va β) (hW0 : Below w.heap.size w u) (hold : ∀ k, S k → k < w.heap.size)
    (hM : MP w2 bm (E.map (fun e => (e.age, e.val)) ++ [(nx, dgv d v)])) (hF : Fr (· = bm) u w2) (hWW : Fr (fun _ => False) w2 W) (hP : Pushed W w3 3 β g' (E.length + 1) cap' ((E.map fun e => .int .i64 e.age) ++ [.int .i64 nx]))
    (hg : SB u γ v d.b) (hγ : ∀ g, γ = some g → w.heap.size ≤ g) (hn : d.b.length ≤ 64) (hE : E.length < 2048) (hx : nx < 1000000000) :
    Now w ((w3.setCell ⟨x, 2, none⟩ (.slice (some ⟨g', 0, none⟩) (E.length + 1) cap')).setCell ⟨x, 3, none⟩ (.int .i64 ((nx : Int) + 1))) x cl (E.map En.d ++ [d]) (nx + 1) S := by
  have hxm := N.xbm
  obtain ⟨hR, hD⟩ := hP
  have hg'x : g' ≠ x ∧ g' ≠ bm ∧ (β = some g' ∨ w.heap.size ≤ g') := by
    rcases hD with ⟨hb, -⟩ | ⟨hb, -⟩
    · exact ⟨(N.b_x hb).1, (N.b_x hb).2, .inl hb⟩
    · have h1 := (hF.trans (hWW.mono (fun k _ h => h.elim))).size
      have h2 := block_lt N.net
      have h3 := N.mp.lt
      have h4 := hW0.size
      exact ⟨by omega, by omega, .inr (by omega)⟩
  have F3 : Fr (fun k => β = some k) W w3 := by
    rcases hD with ⟨hb, hf⟩ | ⟨hb, hf⟩
    · exact hf.mono (fun k _ h => by rw [h]; exact hb)
    · exact hf.mono (fun k _ h => h.elim)
  have F2 : Fr (fun k => β = some k) w2 w3 := (hWW.mono (fun k _ h => h.elim)).trans F3
  generalize hw4 : (w3.setCell ⟨x, 2, none⟩ (.slice (some ⟨g', 0, none⟩) (E.length + 1) cap')).setCell ⟨x, 3, none⟩ (.int .i64 ((nx : Int) + 1)) = w4
  have F4 : Fr (· = x) w3 w4 := by rw [← hw4]; refine Fr.trans (Fr.setCell w3 ⟨x, 2, none⟩ _ ?_) (Fr.setCell _ ⟨x, 3, none⟩ _ ?_) <;> rfl
  have n3 : w3.heap[x]? = some (.cells #[.int .i64 cl, .map (some bm), va, .int .i64 nx] 66 (0, 0)) := F2.keeps (hF.keeps N.net hxm) (fun hb => (N.b_x hb).1 rfl)
  have n4 : w4.heap[x]? = some (.cells #[.int .i64 cl, .map (some bm), .slice (some ⟨g', 0, none⟩) (E.length + 1) cap', .int .i64 ((nx : Int) + 1)] 66 (0, 0)) := by
    rw [← hw4]
    exact set_row (set_row n3 2 _) 3 _
  have Fall : Fr (fun k => k = bm ∨ k = x ∨ β = some k) u w4 := ((hF.mono (fun k _ h => .inl h)).trans (F2.mono (fun k _ h => .inr (.inr h)))).trans (F4.mono (fun k _ h => .inr (.inl h)))
  refine ⟨fun k => S k ∨ (k < w4.heap.size ∧ w.heap.size ≤ k ∧ (γ = some k ∨ k = g')), ⟨E ++ [⟨nx, d, v, γ⟩], bm, .slice (some ⟨g', 0, none⟩) (E.length + 1) cap', some g', ⟨?_, ?_, ?_, ?_, ?_, ?_, ?_, ?_, by simp; omega, by omega, ?_, ?_⟩, by simp⟩, ?_, ?_⟩
  · rw [n4]
    simp
  · refine ⟨cap', by simp, ?_⟩
    have := hR.fr F4 hg'x.1
    simpa using this
  · have := (hM.fr F2 (fun hb => (N.b_x hb).2 rfl)).fr F4 hxm.symm
    simpa [En.val] using this
  · intro e he
    simp at he
    rcases he with he | rfl
    · exact SRow.fr (N.rows e he) Fall (fun g hg hk => by
        have := N.e_x (N.rows e he) hg
        rcases hk with hk | hk | hk
        · exact this.2.1 hk
        · exact this.1 hk
        · exact this.2.2 hk)
    · exact SRow.fr hg Fall (fun g hg' hk => by
        have := N.e_x hg hg'
        rcases hk with hk | hk | hk
        · exact this.2.1 hk
        · exact this.1 hk
        · exact this.2.2 hk)
  · intro e he
    simp at he
    rcases he with he | rfl
    · exact N.short e he
    · exact hn
  · rw [List.pairwise_append]
    refine ⟨N.rise, by simp, fun a ha b hb => ?_⟩
    simp at hb
    subst hb
    exact N.top a ha
  · intro e he
    simp at he
    rcases he with he | rfl
    · have := N.top e he
      omega
    · exact Nat.lt_succ_self _
  · rw [List.pairwise_append]
    refine ⟨N.sep, by simp, fun a ha b hb g h1 h2 => ?_⟩
    simp at hb
    subst hb
    have h3 := hold g (N.own.2.2.2 a ha g h1)
    have h4 := hγ g h2
    omega
  · refine ⟨.inl N.own.1, .inl N.own.2.1, ?_, ?_⟩
    · intro g hg
      injection hg with hg
      subst hg
      rcases hg'x.2.2 with hb | hb
      · exact .inl (N.own.2.2.1 _ hb)
      · exact .inr ⟨Nat.lt_of_lt_of_le hR.lt F4.size, hb, .inr rfl⟩
    · intro e he g hg'
      simp at he
      rcases he with he | rfl
      · exact .inl (N.own.2.2.2 e he g hg')
      · exact .inr ⟨Nat.lt_of_lt_of_le (SRow.lt hg g hg') Fall.size, hγ g hg', .inl hg'⟩
  · rintro k (hk | hk)
    · have := hold k hk
      have h1 := hW0.size
      have h2 := Fall.size
      omega
    · exact hk.1
  · rintro k (hk | hk)
    · exact .inl hk
    · exact .inr hk.2.1
  · refine Fr.next (Fr.of_below hW0) Fall ?_
    rintro k - (rfl | rfl | hk)
    · exact N.own.2.1
    · exact N.own.1
    · exact N.own.2.2.1 k hk

theorem push_net {W w3 : World} {x : Nat} {C : Array Value} {β : Option Nat} {va : Value} {vs vs' : List Value} {g' N cap' : Nat} (hx : W.heap[x]? = some (.cells C 66 (0, 0))) (hβ : SRow W 3 β va vs) (hP : Pushed W w3 3 β g' N cap' vs') : w3.heap[x]? = some (.cells C 66 (0, 0)) := by
  rcases hP.2 with ⟨hb, hf⟩ | ⟨hb, hf⟩
  · subst hb
    obtain ⟨c2, h2⟩ := SRow.blk hβ
    refine hf.keeps hx ?_
    rintro rfl
    rw [hx] at h2
    simp at h2
  · exact hf.keeps hx (fun h => h)

theorem step_push2 {ops : Array Oper} {o : Oper} {a : Act} {w : World} {K : Act → World → Prop} {Q : Exit → Act → World → Prop} {E : Prop}
    (hg : o.guard = none) (d x : Operand) (hop : o.op = Op.call { callee := Callee.builtin Builtin.append, args := #[d, x], argTypes := #[64, 64] })
    (va : Value) (g k : Nat) (hv : a.eval d = va) (hx : a.eval x = .slice (some ⟨g, 0, none⟩) 1 1) (β : Option Nat) (vs : List Value) (w2 : World) (hWW : Fr (fun _ => False) w2 w) (hS : SRow w2 3 β va vs) (r : Nat) (C : Array Value) (hN : w2.heap[r]? = some (.cells C 66 (0, 0)))
    (hc : w.cell? ⟨g, 0, none⟩ = some (.int .i64 k)) (hn : vs.length ≤ 4096)
    (hK : ∀ g' cap' w', (∃ W, Fr (fun _ => False) w2 W ∧ Pushed W w' 3 β g' (vs.length + 1) cap' (vs ++ [.int .i64 k])) → w'.heap[r]? = some (.cells C 66 (0, 0)) → K (a.put o.dst (.slice (some ⟨g', 0, none⟩) (vs.length + 1) cap')) w') :
    if Region.wanted o (yielded ops a.tmps) = true then Oper.wp Try.prog o a w K Q else E :=
  have hS' := SRow.fr hS hWW (fun _ _ h => h)
  step_push hg d x hop va g k hv hx β vs hS' hc hn (fun g' cap' w' hP => hK g' cap' w' ⟨w, hWW, hP⟩ (push_net (hWW.keeps hN (fun h => h)) hS' hP))

theorem put_box {w w' : World} {x : Nat} {cl : Int} {E : List En} {nx : Nat} {S : Nat → Prop} {bm : Nat} {va : Value} {β : Option Nat} {bx : Nat} {d : DG} {v : Value} (h : PU w x cl E nx S bm va β bx d v) (hF : Fr (· = bm) w w') :
    w'.heap[x]? = some (.cells #[.int .i64 cl, .map (some bm), va, .int .i64 nx] 66 (0, 0)) ∧ w'.heap[bx]? = some (.cells #[.int .i64 d.f, .int .i64 d.t, v, .bool d.s] 37 (0, 0)) :=
  ⟨hF.keeps h.nk.net h.nk.xbm, hF.keeps h.box (fun e => h.far (by rw [e]; exact h.nk.own.2.1))⟩

set_option maxRecDepth 100000 in
set_option maxHeartbeats 4000000 in
theorem put_nk (x : Nat) (cl : Int) (E : List En) (nx : Nat) (S : Nat → Prop) (bm : Nat) (va : Value) (β : Option Nat) (w : World) (h : NK w x cl E nx S bm va β) (d : DG) (a : Option Addr) (n c : Nat) (hB : IsB w a n c d.b) (hn : n ≤ 64) (hE : E.length < 2048) (hx : nx < 1000000000) :
    Calls Try.prog 34 #[.pointer (some ⟨x, 0, none⟩), dgv d (.slice a n c)] w fun e w' => e = .returned (.tuple #[]) ∧ Now w w' x cl (E.map En.d ++ [d]) (nx + 1) S := by
  obtain ⟨df, dt, db, ds⟩ := d
  have P0 : PU (w.alloc (.cells #[.int .i64 df, .int .i64 dt, .slice a n c, .bool ds] 37)) x cl E nx S bm va β w.heap.size ⟨df, dt, db, ds⟩ (.slice a n c) :=
    ⟨h.below ((Below.refl _ _).alloc (Nat.le_refl _) _), heap_alloc_new _ _, fun hs => by have := h.old _ hs; omega⟩
  have B0 : IsB (w.alloc (.cells #[.int .i64 df, .int .i64 dt, .slice a n c, .bool ds] 37)) a n c db := hB.below ((Below.refl _ _).alloc (Nat.le_refl _) _)
  have T : Hid (∀ U, Below (w.alloc (.cells #[.int .i64 df, .int .i64 dt, .slice a n c, .bool ds] 37)).heap.size (w.alloc (.cells #[.int .i64 df, .int .i64 dt, .slice a n c, .bool ds] 37)) U → Calls Try.prog 37 #[.agg #[.int .i64 df, .int .i64 dt, .slice a n c, .bool ds]] U fun e w' => ∃ a' c', e = .returned (.agg #[.int .i64 df, .int .i64 dt, .slice a' n c', .bool ds]) ∧ (∃ γ, SB w' γ (.slice a' n c') db ∧ ∀ g, γ = some g → w.heap.size + 1 ≤ g) ∧ Below (w.heap.size + 1) (w.alloc (.cells #[.int .i64 df, .int .i64 dt, .slice a n c, .bool ds] 37)) w') := by
    intro U hU
    refine (twin_any ⟨df, dt, db, ds⟩ a n c U (B0.below hU) (by omega)).mono ?_
    rintro e w' ⟨v, rfl, ⟨γ, h1, h2⟩, h3⟩
    obtain ⟨a', c', rfl, hb⟩ := h1.isB
    have hl := hB.1
    simp only at hl h1
    rw [hl] at h1
    have hs := hU.size
    simp only [World.size_alloc] at hs
    refine ⟨a', c', by simp [dgv, hl], ⟨γ, h1, fun g hg => by have := h2 g hg; omega⟩, ?_⟩
    have := hU.trans (h3.mono hU.size)
    simpa using this
  have hw0 : Below w.heap.size w (w.alloc (.cells #[.int .i64 df, .int .i64 dt, .slice a n c, .bool ds] 37)) := (Below.refl _ w).alloc (Nat.le_refl _) _
  have hbz : (w.alloc (.cells #[.int .i64 df, .int .i64 dt, .slice a n c, .bool ds] 37)).heap.size = w.heap.size + 1 := by simp
  unfold dgv
  simp only
  go_enter Try.func34, Try.ntmps34
  go_wp2_with fail
  generalize w.alloc (.cells #[.int .i64 df, .int .i64 dt, .slice a n c, .bool ds] 37) = w0 at *
  have c1 := cell_row P0.nk.net 1
  have c3 := cell_row P0.nk.net 3
  obtain ⟨r0, r1, r2, r3⟩ := cells4 P0.box
  simp at c1 c3
  have hbm : x ≠ bm := P0.nk.xbm
  have HP := hd P0
  have HX := hd hx
  have HE := hd hE
  have HZ := hd hbz
  have HW := hd hw0
  have HO := hd h.old
  have HB := hd (And.intro B0 hB)
  have HM := hd hbm
  clear P0 B0 hB h hx hE hbz hbm hw0
  go_region_held3 (fun U => U.cell? ⟨w.heap.size, 0, none⟩ = some (.int .i64 df) ∧ U.cell? ⟨w.heap.size, 1, none⟩ = some (.int .i64 dt) ∧ U.cell? ⟨w.heap.size, 2, none⟩ = some (.slice a n c) ∧ U.cell? ⟨w.heap.size, 3, none⟩ = some (.bool ds) ∧ U.cell? ⟨x, 1, none⟩ = some (.map (some bm)) ∧ U.cell? ⟨x, 3, none⟩ = some (.int .i64 nx)) (first | (with_reducible exact ⟨by assumption, by assumption, by assumption, by assumption, by assumption, by assumption⟩) | (go_keep; done)) (first | (go_at_call 37; refine (T.out _ ?_).mono ?_; (first | exact Below.refl _ _ | exact (Below.refl _ _).drew | exact below_drewN (Below.refl _ _) _); rintro e u ⟨a', c', rfl, hγ, bu⟩; have BU := hd bu; have PU1 := hd (HP.out.below (by rw [HZ.out]; exact bu)); have u1 := cell_row PU1.out.nk.net 1; simp at u1; have u3 := cell_row PU1.out.nk.net 3; simp at u3; obtain ⟨s0, s1, s2, s3⟩ := cells4 PU1.out.box; have G1 := hd hγ; clear hγ bu; obtain ⟨w2, hup, hM2, hF2⟩ := MP.add (k := nx) (v := .agg #[.int .i64 df, .int .i64 dt, .slice a' n c', .bool ds]) PU1.out.nk.mp (by have := HX.out; omega) (by have := HE.out; rw [List.length_map]; omega) (fun p hp => by obtain ⟨e, he, rfl⟩ := List.mem_map.1 hp; exact Nat.ne_of_lt (PU1.out.nk.top e he)); have PU2 := hd (put_box PU1.out hF2); obtain ⟨t0, t1, t2, t3⟩ := cells4 PU2.out.2; have v1 := cell_row PU2.out.1 1; have v3 := cell_row PU2.out.1 3; simp at v1 v3; have MM := hd hM2; have FF := hd hF2; clear hM2 hF2))
  obtain ⟨γ, hγ1, hγ2⟩ := G1.out
  obtain ⟨av, cv, hv⟩ := PU1.out.nk.ages.form
  simp only [List.length_map] at hv
  subst hv
  have n2 := PU2.out.1
  have e2 := cell_row n2 2
  have e3 := cell_row n2 3
  simp at e2 e3
  have A2 : SRow w2 3 β (.slice av E.length cv) (E.map fun e => .int .i64 e.age) := PU1.out.nk.ages.fr FF.out (fun g hg => (PU1.out.nk.b_x hg).2)
  have HA := hd A2
  have HN := hd n2
  have hw1 : IntKind.i64.wrap ((nx : Int) + 1) = (nx : Int) + 1 := by rw [IntKind.wrap_i64]; have := HX.out; omega
  have hxl : x < w2.heap.size := block_lt n2
  clear n2 A2 u1 u3 s0 s1 s2 s3 t0 t1 t2 t3 v1 v3 hup c1 c3 r0 r1 r2 r3
  go_wp2_with fail
  go_region_law (refine step_push2 rfl (.tmp 18) (.tmp 23) rfl (.slice av E.length cv) w2.heap.size nx (by simp [Act.eval]) (by simp [Act.eval]) β (E.map fun e => .int .i64 e.age) w2 (by repeat (first | exact Fr.refl _ _ | refine Fr.trans ?_ (Fr.alloc _ _ _) | refine Fr.trans ?_ (Fr.drew _ _) | refine Fr.trans ?_ (Fr.drewN _ _ _))) HA.out x _ HN.out (cell_row (heap_alloc_new _ _) 0) (by have := HE.out; simp; omega) ?_; intro g' cap' w3 hP n3; simp only [List.length_map] at hP ⊢; have k2 := cell_row n3 2; have k3 := cell_row n3 3; simp at k2 k3; have f2 := frozen_row n3 2; have f3 := frozen_row n3 3; have PP := hd hP; clear hP n3)
  all_goals
    obtain ⟨W, hWW, hP⟩ := PP.out
    have R := hd (put_end (w := w) (d := ⟨df, dt, db, ds⟩) PU1.out.nk (HW.out.trans (BU.out.mono (by omega))) HO.out MM.out FF.out hWW hP hγ1 (fun g hg => by have := hγ2 g hg; omega) (by have h : db.length = n := HB.out.2.1; show db.length ≤ 64; omega) HE.out HX.out)
    clear hWW hP
    go_wp2
    refine bodyPost_end (v := .tuple #[]) (by simp [results, Try.results34, go_sem]) rfl ?_
    exact ⟨rfl, R.out⟩

end Go.Proofs.Ytnglcnilckolkaa
