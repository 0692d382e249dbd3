/-
  swaps' tell: one operation more.
-/
import Derived.Test.YtlmgogonghafeaaAp
import Derived.RegionTactic
import Derived.ChangeAlike
namespace Go.Proofs.Ytlmgogonghafeaa
open Go.RowKit Go.Lib
set_option linter.unusedVariables false

def opc (o : OpE) : List Value := [.int .i64 o.kind, .int .i64 o.pos, .int .u8 o.ch, .int .i64 o.cl, .int .i64 o.sq]
theorem sz_opc : Sz opc 5 := fun x => ⟨rfl, fun v hv => by simp [opc] at hv; rcases hv with rfl | rfl | rfl | rfl | rfl <;> rfl⟩
theorem Try.infoOp : (Try.prog.info? 39).map (fun i => (i.zero, i.size, i.bytes)) = some (some (.agg #[.int .i64 0, .int .i64 0, .int .u8 0, .int .i64 0, .int .i64 0]), 5, 40) := by kernel_rfl
theorem push_op (w : World) (β : Option Nat) (v : Value) (xs : List OpE) (hS : SF opc 5 w 39 β v xs) (o : OpE) (hroom : xs.length ≤ 1000000) :
    ∃ v' w', (∀ ty, (Builtin.append_ #[42, 42] ty #[v, .slice (some ⟨w.heap.size, 0, none⟩) 1 1]).run Try.prog (w.alloc (.cells #[.int .i64 o.kind, .int .i64 o.pos, .int .u8 o.ch, .int .i64 o.cl, .int .i64 o.sq] 39)) = .ok v' w') ∧ NowF opc 5 (w.alloc (.cells #[.int .i64 o.kind, .int .i64 o.pos, .int .u8 o.ch, .int .i64 o.cl, .int .i64 o.sq] 39)) w' 39 β v' (xs ++ [o]) := by
  obtain ⟨i0, hi0, hz0, hz1, hz2⟩ := info_parts Try.infoOp
  have hz := heap_alloc_new w (.cells #[.int .i64 o.kind, .int .i64 o.pos, .int .u8 o.ch, .int .i64 o.cl, .int .i64 o.sq] 39)
  obtain ⟨v', w', hr, hN⟩ := run_pushF sz_opc (P := Try.prog) (w.alloc (.cells #[.int .i64 o.kind, .int .i64 o.pos, .int .u8 o.ch, .int .i64 o.cl, .int .i64 o.sq] 39)) 42 0 39 i0 _ 40 Try.underlying42 hi0 hz0 hz1 rfl hz2 β v xs (hS.fr (Fr.alloc (fun _ => False) _ _) (fun _ _ h => h)) ⟨w.heap.size, 0, none⟩ 1 1 [o] rfl (fun j u hj => by
    rw [add_lit, Nat.zero_add, cell_row hz]
    simp only [cl_one, opc] at hj
    simpa using hj) (by omega) (by omega) (by omega)
  exact ⟨v', w', fun ty => hr, hN⟩

/-- Inside swaps: the variables client, first and ops, and what ops holds. -/
structure OpsI (w wr : World) (cb fb ob : Nat) (cl fs : Int) (os : List OpE) : Prop where
  hc : wr.heap[cb]? = some (.cells #[.int .i64 cl] 3 (0, 0))
  hf : wr.heap[fb]? = some (.cells #[.int .i64 fs] 3 (0, 0))
  row : ∃ β v, wr.heap[ob]? = some (.cells #[v] 42 (0, 0)) ∧ SF opc 5 wr 39 β v os ∧ (∀ k, β = some k → w.heap.size ≤ k)
  cb0 : w.heap.size ≤ cb
  fb0 : w.heap.size ≤ fb
  ob0 : w.heap.size ≤ ob
  bel : Below w.heap.size w wr

set_option maxRecDepth 100000 in
set_option maxHeartbeats 4000000 in
theorem tell_any {w wr : World} {cb fb ob : Nat} {cl fs : Int} {os : List OpE} (h : OpsI w wr cb fb ob cl fs os) (k p c l s : Int) (hos : os.length ≤ 1000000) (hf0 : -1000000 ≤ fs) (hf1 : fs ≤ 1000000) :
    Calls Try.prog 47 #[.agg #[.int .i64 k, .int .i64 p, .int .u8 c, .int .i64 l, .int .i64 s], .pointer (some ⟨cb, 0, none⟩), .pointer (some ⟨fb, 0, none⟩), .pointer (some ⟨ob, 0, none⟩)] wr fun e w' => e = .returned (.tuple #[]) ∧ OpsI w w' cb fb ob cl fs (os ++ [⟨k, p, c, cl, fs + (os.length : Int)⟩]) ∧ wr.heap.size ≤ w'.heap.size ∧ ∀ (j : Nat) (z : ByteArray) (i : Nat), wr.heap[j]? = some (Obj.stringIter z i) → w'.heap[j]? = some (Obj.stringIter z i) := by
  obtain ⟨β, v, hv, hS, hβ⟩ := h.row
  obtain ⟨a, cc, rfl, hcc, hc1⟩ := hS.form
  have H := hd h
  have HR := hd (And.intro hv (And.intro hS hβ))
  obtain ⟨W1, hW1⟩ : ∃ W1, wr.alloc (.cells #[.int .i64 k, .int .i64 p, .int .u8 c, .int .i64 l, .int .i64 s] 39) = W1 := ⟨_, rfl⟩
  have hF1 : Fr (fun _ => False) wr W1 := by rw [← hW1]; exact Fr.alloc _ _ _
  have hn1 : W1.heap[wr.heap.size]? = some (.cells #[.int .i64 k, .int .i64 p, .int .u8 c, .int .i64 l, .int .i64 s] 39 (0, 0)) := by rw [← hW1]; exact heap_alloc_new wr _
  have k1 : W1.cell? ⟨cb, 0, none⟩ = some (.int .i64 cl) := by have := cell_row (hF1.keeps h.hc (fun e => e)) 0; simpa using this
  have k2 : W1.cell? ⟨fb, 0, none⟩ = some (.int .i64 fs) := by have := cell_row (hF1.keeps h.hf (fun e => e)) 0; simpa using this
  have k3 : W1.cell? ⟨ob, 0, none⟩ = some (.slice a os.length cc) := by have := cell_row (hF1.keeps hv (fun e => e)) 0; simpa using this
  have n3 : W1.cell? ⟨wr.heap.size, 3, none⟩ = some (.int .i64 l) := by have := cell_row hn1 3; simpa using this
  have n4 : W1.cell? ⟨wr.heap.size, 4, none⟩ = some (.int .i64 s) := by have := cell_row hn1 4; simpa using this
  have ng : ∀ u : Value, ((W1.setCell ⟨wr.heap.size, 3, none⟩ u).cell? ⟨wr.heap.size, 4, none⟩) = some (.int .i64 s) := by
    intro u
    have := cell_row (set_row hn1 3 u) 4
    simpa using this
  have z3 : W1.frozen? ⟨wr.heap.size, 3, none⟩ = false := frozen_row hn1 3
  have z4 : W1.frozen? ⟨wr.heap.size, 4, none⟩ = false := frozen_row hn1 4
  have zg : ∀ u : Value, (W1.setCell ⟨wr.heap.size, 3, none⟩ u).frozen? ⟨wr.heap.size, 4, none⟩ = false := fun u => frozen_row (set_row hn1 3 u) 4
  have HF1 := hd hF1
  have HN1 := hd hn1
  clear h hv hS hβ hF1 hn1 hc1 hcc
  go_enter Try.func47, Try.ntmps47
  go_upto_region 1 with fail
  clear hW1
  go_region
  obtain ⟨W2, hW2⟩ : ∃ W2, ((W1.setCell ⟨wr.heap.size, 3, none⟩ (.int .i64 cl)).setCell ⟨wr.heap.size, 4, none⟩ (.int .i64 (fs + (os.length : Int)))).drew = W2 := ⟨_, rfl⟩
  have hn2 : W2.heap[wr.heap.size]? = some (.cells #[.int .i64 k, .int .i64 p, .int .u8 c, .int .i64 cl, .int .i64 (fs + (os.length : Int))] 39 (0, 0)) := by
    rw [← hW2]
    have := set_row (set_row HN1.out 3 (.int .i64 cl)) 4 (.int .i64 (fs + (os.length : Int)))
    simp at this
    exact this
  have hF2 : Fr (fun j => j = wr.heap.size) wr W2 := by
    rw [← hW2]
    exact (HF1.out.mono (fun _ _ h => h.elim)).trans (((Fr.setCell (S := fun j => j = wr.heap.size) W1 ⟨wr.heap.size, 3, none⟩ _ rfl).trans (Fr.setCell (S := fun j => j = wr.heap.size) _ ⟨wr.heap.size, 4, none⟩ _ rfl)).trans (Fr.drew (fun j => j = wr.heap.size) _))
  rw [hW2]
  clear hW2 k1 k2 k3 n3 n4 ng z3 z4 zg HN1 HF1
  have hob : ob < wr.heap.size := block_lt HR.out.1
  have hβl : ∀ g, β = some g → g < wr.heap.size := fun g e => HR.out.2.1.lt g e
  have hβo : β ≠ some ob := fun e => by
    obtain ⟨cur, hq⟩ := (show SF opc 5 wr 39 (some ob) _ os from e ▸ HR.out.2.1).blk
    rw [HR.out.1] at hq
    cases hq
  have k3 : W2.cell? ⟨ob, 0, none⟩ = some (.slice a os.length cc) := by have := cell_row (hF2.keeps HR.out.1 (by show ¬ _ = _; omega)) 0; simpa using this
  have r0 : W2.cell? ⟨wr.heap.size, 0, none⟩ = some (.int .i64 k) := by have := cell_row hn2 0; simpa using this
  have r1 : W2.cell? ⟨wr.heap.size, 1, none⟩ = some (.int .i64 p) := by have := cell_row hn2 1; simpa using this
  have r2 : W2.cell? ⟨wr.heap.size, 2, none⟩ = some (.int .u8 c) := by have := cell_row hn2 2; simpa using this
  have r3 : W2.cell? ⟨wr.heap.size, 3, none⟩ = some (.int .i64 cl) := by have := cell_row hn2 3; simpa using this
  have r4 : W2.cell? ⟨wr.heap.size, 4, none⟩ = some (.int .i64 (fs + (os.length : Int))) := by have := cell_row hn2 4; simpa using this
  obtain ⟨v', w', hr, g, hS', hN⟩ := push_op W2 β (.slice a os.length cc) os (HR.out.2.1.fr hF2 (fun g e h => by have := hβl g e; omega)) ⟨k, p, c, cl, fs + (os.length : Int)⟩ hos
  obtain ⟨a', c', rfl, -, -⟩ := hS'.form
  have hF3 : Fr (fun j => j = wr.heap.size ∨ β = some j) wr w' := by
    have hA : Fr (fun j => j = wr.heap.size ∨ β = some j) wr (W2.alloc (.cells #[.int .i64 k, .int .i64 p, .int .u8 c, .int .i64 cl, .int .i64 (fs + (os.length : Int))] 39)) := (hF2.mono (fun _ _ h => .inl h)).trans (Fr.alloc _ _ _)
    rcases hN with ⟨e, hf⟩ | ⟨e, hf⟩
    · exact hA.trans (hf.mono (fun j _ hj => .inr (by rw [hj]; exact e)))
    · exact hA.trans (hf.mono (fun _ _ h => h.elim))
  have hgo : g ≠ ob := fun e => by
    rcases hN with ⟨e1, -⟩ | ⟨e1, -⟩
    · exact hβo (e ▸ e1)
    · have := hF2.size
      simp at e1
      omega
  have ho' : w'.heap[ob]? = some (.cells #[.slice a os.length cc] 42 (0, 0)) := hF3.keeps HR.out.1 (fun h => by rcases h with h | h; omega; exact hβo h)
  have k4 : w'.cell? ⟨ob, 0, none⟩ = some (.slice a os.length cc) := by have := cell_row ho' 0; simpa using this
  have z4 : w'.frozen? ⟨ob, 0, none⟩ = false := frozen_row ho' 0
  have Z : Hid ((OpsI w (w'.setCell ⟨ob, 0, none⟩ (.slice a' (os ++ [(⟨k, p, c, cl, fs + (os.length : Int)⟩ : OpE)]).length c')) cb fb ob cl fs (os ++ [⟨k, p, c, cl, fs + (os.length : Int)⟩])) ∧ wr.heap.size ≤ (w'.setCell ⟨ob, 0, none⟩ (.slice a' (os ++ [(⟨k, p, c, cl, fs + (os.length : Int)⟩ : OpE)]).length c')).heap.size ∧ ∀ (j : Nat) (z : ByteArray) (i : Nat), wr.heap[j]? = some (Obj.stringIter z i) → (w'.setCell ⟨ob, 0, none⟩ (.slice a' (os ++ [(⟨k, p, c, cl, fs + (os.length : Int)⟩ : OpE)]).length c')).heap[j]? = some (Obj.stringIter z i)) := by
    have hF4 : Fr (fun j => j = wr.heap.size ∨ β = some j ∨ j = ob) wr (w'.setCell ⟨ob, 0, none⟩ (.slice a' (os ++ [(⟨k, p, c, cl, fs + (os.length : Int)⟩ : OpE)]).length c')) := (hF3.mono (fun _ _ h => by rcases h with h | h; exact .inl h; exact .inr (.inl h))).trans (Fr.setCell _ _ _ (.inr (.inr rfl)))
    have hne : ∀ j x, wr.heap[j]? = some (.cells #[.int .i64 x] 3 (0, 0)) → ¬ (j = wr.heap.size ∨ β = some j ∨ j = ob) := by
      intro j x hj hs
      rcases hs with h | h | h
      · have := block_lt hj; omega
      · obtain ⟨cur, hq⟩ := (show SF opc 5 wr 39 (some j) _ os from h ▸ HR.out.2.1).blk
        rw [hj] at hq
        cases hq
      · rw [h, HR.out.1] at hj
        cases hj
    refine ⟨?_, hF4.size, fun j z i hj => hF4.keeps hj (fun hs => by
      rcases hs with h | h | h
      · have := block_lt hj; omega
      · obtain ⟨cur, hq⟩ := (show SF opc 5 wr 39 (some j) _ os from h ▸ HR.out.2.1).blk
        rw [hj] at hq
        cases hq
      · rw [h, HR.out.1] at hj
        cases hj)⟩
    refine ⟨hF4.keeps H.out.hc (hne _ _ H.out.hc), hF4.keeps H.out.hf (hne _ _ H.out.hf), ⟨some g, _, ?_, hS'.fr (Fr.setCell (S := fun j => j = ob) w' ⟨ob, 0, none⟩ _ rfl) (fun x e h => by cases e; exact hgo h), ?_⟩, H.out.cb0, H.out.fb0, H.out.ob0, ?_⟩
    · have := set_row ho' 0 (.slice a' (os ++ [(⟨k, p, c, cl, fs + (os.length : Int)⟩ : OpE)]).length c')
      simpa using this
    · intro x e
      cases e
      rcases hN with ⟨e1, -⟩ | ⟨e1, -⟩
      · exact HR.out.2.2 _ e1
      · have h1 := H.out.bel.size
        have h2 := hF2.size
        simp at e1
        omega
    · refine H.out.bel.trans (hF4.below H.out.bel.size ?_)
      intro j hs
      rcases hs with h | h | h
      · rw [h]; exact H.out.bel.size
      · exact HR.out.2.2 _ h
      · rw [h]; exact H.out.ob0
  clear hF3 hgo ho' hS' hN hF2 hn2 hβl hβo HR H hob
  go_wp2_with (at_builtin; refine wpList_append_k _ rfl _ _ 42 42 rfl _ _ rfl rfl (hr _) ?_)
  go_end0
  refine ⟨rfl, ?_⟩
  have Z2 := Z.out
  rw [List.length_append] at Z2
  exact Z2
end Go.Proofs.Ytlmgogonghafeaa
