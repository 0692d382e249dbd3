/-
  Texts put together: Ap Tw.
-/
import Derived.Test.YtlmgogonghafeabMR
import Derived.RegionTactic
import Derived.ChangeAlike
/-! Ap -/
namespace Go.Proofs.Ytlmgogonghafeab
open Go.RowKit Go.Lib
set_option linter.unusedVariables false

/-- A list of numbers of one's own, and all else as it was. -/
def NmI (w wr : World) (v : Value) (l : List Nat) : Prop := ∃ β, SF ei 1 wr 3 β v (nI l) ∧ (∀ k, β = some k → w.heap.size ≤ k) ∧ Below w.heap.size w wr
theorem NmI.push {w wr : World} {v : Value} {xs : List Nat} (h : NmI w wr v xs) (x : Nat) (hx : xs.length ≤ 10000000000000) :
    ∃ v' w', (∀ ty, (Builtin.append_ #[36, 36] ty #[v, .slice (some ⟨wr.heap.size, 0, none⟩) 1 1]).run Try.prog (wr.alloc (.cells #[.int .i64 ((x : Nat) : Int)] 3)) = .ok v' w') ∧ NmI w w' v' (xs ++ [x]) := by
  obtain ⟨β, h1, h2, h3⟩ := h
  have hB : Below w.heap.size w (wr.alloc (.cells #[.int .i64 ((x : Nat) : Int)] 3)) := h3.alloc h3.size _
  obtain ⟨v', w', hr, g, hS, hN⟩ := push_int _ β v (nI xs) (h1.fr (Fr.alloc (fun _ => False) _ _) (fun _ _ h => h)) wr.heap.size (x : Int) (heap_alloc_new wr _) (by simpa [nI] using hx)
  refine ⟨v', w', hr, some g, by simpa [nI] using hS, fun k hk => ?_, ?_⟩
  · cases hk
    rcases hN with ⟨e, -⟩ | ⟨e, -⟩
    · exact h2 _ e
    · rw [e]; exact hB.size
  · rcases hN with ⟨e, hf⟩ | ⟨e, hf⟩
    · exact hB.trans (hf.below hB.size (fun k hk => by rw [hk]; exact h2 g e))
    · exact hB.trans (hf.below hB.size (fun k hk => hk.elim))
theorem NmI.isN {w wr : World} {v : Value} {l : List Nat} (h : NmI w wr v l) : IsN w wr v l := by
  obtain ⟨β, h1, h2, h3⟩ := h
  exact ⟨β, h1, fun g e => h2 g e⟩

/-- Those taken, from the left: (the first free place, those taken). -/
def apN (m : Nat) (s : Nat × List Nat) (p : Nat) : Nat × List Nat := if s.1 ≤ p then (p + m, s.2 ++ [p]) else s
def apS (m : Nat) (l : List Nat) : Nat × List Nat := l.foldl (apN m) (0, [])
theorem apS_succ {m : Nat} {l : List Nat} {k : Nat} (h : k < l.length) : apS m (l.take (k + 1)) = apN m (apS m (l.take k)) l[k] := by
  unfold apS
  rw [List.take_succ_eq_append_getElem h, List.foldl_append]
  rfl
theorem apS_len (m : Nat) (l : List Nat) : (apS m l).2.length ≤ l.length := by
  have h : ∀ (l : List Nat) (s : Nat × List Nat), (l.foldl (apN m) s).2.length ≤ s.2.length + l.length := by
    intro l
    induction l with
    | nil => intro s; simp
    | cons p l ih =>
      intro s
      rw [List.foldl_cons]
      have h1 := ih (apN m s p)
      have h2 : (apN m s p).2.length ≤ s.2.length + 1 := by
        unfold apN
        by_cases h : s.1 ≤ p
        · rw [if_pos h]; simp
        · rw [if_neg h]; omega
      rw [List.length_cons]
      omega
  have := h l (0, [])
  simpa [apS] using this
theorem apS_free {m B : Nat} (l : List Nat) (hl : ∀ p ∈ l, p ≤ B) : (apS m l).1 ≤ B + m := by
  have h : ∀ (l : List Nat) (s : Nat × List Nat), (∀ p ∈ l, p ≤ B) → s.1 ≤ B + m → (l.foldl (apN m) s).1 ≤ B + m := by
    intro l
    induction l with
    | nil => intro s _ h; exact h
    | cons p l ih =>
      intro s hl hs
      rw [List.foldl_cons]
      refine ih _ (fun q hq => hl q (by simp [hq])) ?_
      have := hl p (by simp)
      unfold apN
      by_cases h : s.1 ≤ p
      · rw [if_pos h]; show p + m ≤ B + m; omega
      · rw [if_neg h]; exact hs
  exact h l (0, []) hl (by show 0 ≤ B + m; omega)

set_option maxRecDepth 100000 in
set_option maxHeartbeats 4000000 in
theorem apart_any (a : Option Addr) (n c : Nat) (l : List Nat) (m : Nat) (w : World) (hL : IsL w a n c l) (hn : n ≤ 1000000000) (hm : m ≤ 1000000) (hB : ∀ p ∈ l, p ≤ 1000000000) :
    Calls Try.prog 28 #[.slice a n c, .int .i64 (m : Int)] w fun e w' => ∃ v, e = .returned v ∧ NmI w w' v (apS m l).2 := by
  obtain ⟨hl, hnc, hc, hcell⟩ := hL
  have HL := hd hl
  have HC := hd hcell
  have HB := hd hB
  clear hl hcell hB
  go_enter Try.func28, Try.ntmps28
  go_upto_region 4 with fail
  go_loopw [5, 6, 11] (fun v f i wr => ∃ k fr : Nat, k ≤ n ∧ i = .int .i64 k ∧ f = .int .i64 fr ∧ Hid (fr = (apS m (l.take k)).1) ∧ Hid (NmI w wr v (apS m (l.take k)).2)) (fun _ _ i _ => n - (intOf i).toNat)
  case atStart => exact ⟨0, 0, Nat.zero_le _, rfl, rfl, hd rfl, hd ⟨none, ⟨rfl, rfl⟩, fun k hk => (by cases hk), Below.refl _ _⟩⟩
  case round =>
    obtain ⟨k, fr, hk, rfl, rfl, HF, HI⟩ := hrel
    by_cases hlt : k < n
    · have hkl : k < l.length := by rw [HL.out]; exact hlt
      obtain ⟨b, off, rfl, hb, hcs⟩ := HC.out (by omega)
      have hB' : Below w.heap.size w wr := HI.out.choose_spec.2.2
      have c1 : wr.cell? ⟨b, off + k, none⟩ = some (.int .i64 ((l[k] : Nat) : Int)) := by rw [hB'.cell (p := ⟨b, off + k, none⟩) hb]; exact hcs k hkl
      have hp : l[k] ≤ 1000000000 := HB.out _ (List.getElem_mem hkl)
      have hfr : fr ≤ 1001000000 := by
        rw [HF.out]
        have := apS_free (m := m) (B := 1000000000) (l.take k) (fun p hp => HB.out p (List.mem_of_mem_take hp))
        omega
      have hlen : (apS m (l.take k)).2.length ≤ 10000000000000 := by
        have h1 := apS_len m (l.take k)
        rw [List.length_take] at h1
        omega
      have SU := hd (apS_succ (m := m) hkl)
      clear hcs hB'
      generalize hP : l[k] = P at *
      by_cases hf : fr ≤ P
      · obtain ⟨v', w', hr, hT⟩ := HI.out.push P hlen
        have Z : Hid (P + m = (apS m (l.take (k + 1))).1 ∧ NmI w w' v' (apS m (l.take (k + 1))).2) := by
          rw [SU.out]
          unfold apN
          rw [if_pos (by rw [← HF.out]; exact hf)]
          exact ⟨rfl, hT⟩
        have hf2 : (fr : Int) ≤ (P : Int) := by omega
        clear hT HI SU hP hf
        go_wp2_with (at_builtin; refine wpList_append_k _ rfl _ _ 36 36 rfl _ _ rfl rfl (hr _) ?_)
        exact ⟨⟨k + 1, P + m, by omega, by go_num, by go_num, hd Z.out.1, hd Z.out.2⟩, by simp only [intOf]; omega⟩
      · have e : apS m (l.take (k + 1)) = apS m (l.take k) := by
          rw [SU.out]
          unfold apN
          rw [if_neg (by rw [← HF.out]; exact hf)]
        rw [← e] at HF HI
        have hf2 : ¬ (fr : Int) ≤ (P : Int) := by omega
        clear SU hP hf e
        go_wp2_with fail
        exact ⟨⟨k + 1, fr, by omega, by go_num, rfl, HF, HI⟩, by simp only [intOf]; omega⟩
    · obtain rfl : k = n := by omega
      have Z := hd HI.out
      rw [List.take_of_length_le (by rw [HL.out]; omega)] at Z
      clear HI HF
      go_wp2_with fail
      go_ret
      exact ⟨_, rfl, Z.out⟩
end Go.Proofs.Ytlmgogonghafeab

/-! Tw -/
namespace Go.Proofs.Ytlmgogonghafeab
open Go.RowKit Go.Lib
set_option linter.unusedVariables false

def opc (o : OpE) : List Value := [.int .i64 o.kind, .int .i64 o.pos, .int .u8 o.ch, .int .i64 o.cl, .int .i64 o.sq]
theorem sz_opc : Sz opc 5 := fun x => ⟨rfl, fun v hv => by simp [opc] at hv; rcases hv with rfl | rfl | rfl | rfl | rfl <;> rfl⟩
theorem Try.infoOp : (Try.prog.info? 32).map (fun i => (i.zero, i.size, i.bytes)) = some (some (.agg #[.int .i64 0, .int .i64 0, .int .u8 0, .int .i64 0, .int .i64 0]), 5, 40) := by kernel_rfl
theorem push_op (w : World) (β : Option Nat) (v : Value) (xs : List OpE) (hS : SF opc 5 w 32 β v xs) (o : OpE) (hroom : xs.length ≤ 1000000) :
    ∃ v' w', (∀ ty, (Builtin.append_ #[39, 39] ty #[v, .slice (some ⟨w.heap.size, 0, none⟩) 1 1]).run Try.prog (w.alloc (.cells #[.int .i64 o.kind, .int .i64 o.pos, .int .u8 o.ch, .int .i64 o.cl, .int .i64 o.sq] 32)) = .ok v' w') ∧ NowF opc 5 (w.alloc (.cells #[.int .i64 o.kind, .int .i64 o.pos, .int .u8 o.ch, .int .i64 o.cl, .int .i64 o.sq] 32)) w' 32 β v' (xs ++ [o]) := by
  obtain ⟨i0, hi0, hz0, hz1, hz2⟩ := info_parts Try.infoOp
  have hz := heap_alloc_new w (.cells #[.int .i64 o.kind, .int .i64 o.pos, .int .u8 o.ch, .int .i64 o.cl, .int .i64 o.sq] 32)
  obtain ⟨v', w', hr, hN⟩ := run_pushF sz_opc (P := Try.prog) (w.alloc (.cells #[.int .i64 o.kind, .int .i64 o.pos, .int .u8 o.ch, .int .i64 o.cl, .int .i64 o.sq] 32)) 39 0 32 i0 _ 40 Try.underlying39 hi0 hz0 hz1 rfl hz2 β v xs (hS.fr (Fr.alloc (fun _ => False) _ _) (fun _ _ h => h)) ⟨w.heap.size, 0, none⟩ 1 1 [o] rfl (fun j u hj => by
    rw [add_lit, Nat.zero_add, cell_row hz]
    simp only [cl_one, opc] at hj
    simpa using hj) (by omega) (by omega) (by omega)
  exact ⟨v', w', fun ty => hr, hN⟩

/-- Inside swaps: the variables client, first and ops, and what ops holds. -/
structure OpsI (w wr : World) (cb fb ob : Nat) (cl fs : Int) (os : List OpE) : Prop where
  hc : wr.heap[cb]? = some (.cells #[.int .i64 cl] 3 (0, 0))
  hf : wr.heap[fb]? = some (.cells #[.int .i64 fs] 3 (0, 0))
  row : ∃ β v, wr.heap[ob]? = some (.cells #[v] 39 (0, 0)) ∧ SF opc 5 wr 32 β v os ∧ (∀ k, β = some k → w.heap.size ≤ k)
  cb0 : w.heap.size ≤ cb
  fb0 : w.heap.size ≤ fb
  ob0 : w.heap.size ≤ ob
  bel : Below w.heap.size w wr

set_option maxRecDepth 100000 in
set_option maxHeartbeats 4000000 in
theorem tell_any {w wr : World} {cb fb ob : Nat} {cl fs : Int} {os : List OpE} (h : OpsI w wr cb fb ob cl fs os) (k p c l s : Int) (hos : os.length ≤ 1000000) (hf0 : -1000000 ≤ fs) (hf1 : fs ≤ 1000000) :
    Calls Try.prog 53 #[.agg #[.int .i64 k, .int .i64 p, .int .u8 c, .int .i64 l, .int .i64 s], .pointer (some ⟨cb, 0, none⟩), .pointer (some ⟨fb, 0, none⟩), .pointer (some ⟨ob, 0, none⟩)] wr fun e w' => e = .returned (.tuple #[]) ∧ OpsI w w' cb fb ob cl fs (os ++ [⟨k, p, c, cl, fs + (os.length : Int)⟩]) ∧ wr.heap.size ≤ w'.heap.size ∧ ∀ (j : Nat) (z : ByteArray) (i : Nat), wr.heap[j]? = some (Obj.stringIter z i) → w'.heap[j]? = some (Obj.stringIter z i) := by
  obtain ⟨β, v, hv, hS, hβ⟩ := h.row
  obtain ⟨a, cc, rfl, hcc, hc1⟩ := hS.form
  have H := hd h
  have HR := hd (And.intro hv (And.intro hS hβ))
  obtain ⟨W1, hW1⟩ : ∃ W1, wr.alloc (.cells #[.int .i64 k, .int .i64 p, .int .u8 c, .int .i64 l, .int .i64 s] 32) = W1 := ⟨_, rfl⟩
  have hF1 : Fr (fun _ => False) wr W1 := by rw [← hW1]; exact Fr.alloc _ _ _
  have hn1 : W1.heap[wr.heap.size]? = some (.cells #[.int .i64 k, .int .i64 p, .int .u8 c, .int .i64 l, .int .i64 s] 32 (0, 0)) := by rw [← hW1]; exact heap_alloc_new wr _
  have k1 : W1.cell? ⟨cb, 0, none⟩ = some (.int .i64 cl) := by have := cell_row (hF1.keeps h.hc (fun e => e)) 0; simpa using this
  have k2 : W1.cell? ⟨fb, 0, none⟩ = some (.int .i64 fs) := by have := cell_row (hF1.keeps h.hf (fun e => e)) 0; simpa using this
  have k3 : W1.cell? ⟨ob, 0, none⟩ = some (.slice a os.length cc) := by have := cell_row (hF1.keeps hv (fun e => e)) 0; simpa using this
  have n3 : W1.cell? ⟨wr.heap.size, 3, none⟩ = some (.int .i64 l) := by have := cell_row hn1 3; simpa using this
  have n4 : W1.cell? ⟨wr.heap.size, 4, none⟩ = some (.int .i64 s) := by have := cell_row hn1 4; simpa using this
  have ng : ∀ u : Value, ((W1.setCell ⟨wr.heap.size, 3, none⟩ u).cell? ⟨wr.heap.size, 4, none⟩) = some (.int .i64 s) := by
    intro u
    have := cell_row (set_row hn1 3 u) 4
    simpa using this
  have z3 : W1.frozen? ⟨wr.heap.size, 3, none⟩ = false := frozen_row hn1 3
  have z4 : W1.frozen? ⟨wr.heap.size, 4, none⟩ = false := frozen_row hn1 4
  have zg : ∀ u : Value, (W1.setCell ⟨wr.heap.size, 3, none⟩ u).frozen? ⟨wr.heap.size, 4, none⟩ = false := fun u => frozen_row (set_row hn1 3 u) 4
  have HF1 := hd hF1
  have HN1 := hd hn1
  clear h hv hS hβ hF1 hn1 hc1 hcc
  go_enter Try.func53, Try.ntmps53
  go_upto_region 1 with fail
  clear hW1
  go_region
  obtain ⟨W2, hW2⟩ : ∃ W2, ((W1.setCell ⟨wr.heap.size, 3, none⟩ (.int .i64 cl)).setCell ⟨wr.heap.size, 4, none⟩ (.int .i64 (fs + (os.length : Int)))).drew = W2 := ⟨_, rfl⟩
  have hn2 : W2.heap[wr.heap.size]? = some (.cells #[.int .i64 k, .int .i64 p, .int .u8 c, .int .i64 cl, .int .i64 (fs + (os.length : Int))] 32 (0, 0)) := by
    rw [← hW2]
    have := set_row (set_row HN1.out 3 (.int .i64 cl)) 4 (.int .i64 (fs + (os.length : Int)))
    simp at this
    exact this
  have hF2 : Fr (fun j => j = wr.heap.size) wr W2 := by
    rw [← hW2]
    exact (HF1.out.mono (fun _ _ h => h.elim)).trans (((Fr.setCell (S := fun j => j = wr.heap.size) W1 ⟨wr.heap.size, 3, none⟩ _ rfl).trans (Fr.setCell (S := fun j => j = wr.heap.size) _ ⟨wr.heap.size, 4, none⟩ _ rfl)).trans (Fr.drew (fun j => j = wr.heap.size) _))
  rw [hW2]
  clear hW2 k1 k2 k3 n3 n4 ng z3 z4 zg HN1 HF1
  have hob : ob < wr.heap.size := block_lt HR.out.1
  have hβl : ∀ g, β = some g → g < wr.heap.size := fun g e => HR.out.2.1.lt g e
  have hβo : β ≠ some ob := fun e => by
    obtain ⟨cur, hq⟩ := (show SF opc 5 wr 32 (some ob) _ os from e ▸ HR.out.2.1).blk
    rw [HR.out.1] at hq
    cases hq
  have k3 : W2.cell? ⟨ob, 0, none⟩ = some (.slice a os.length cc) := by have := cell_row (hF2.keeps HR.out.1 (by show ¬ _ = _; omega)) 0; simpa using this
  have r0 : W2.cell? ⟨wr.heap.size, 0, none⟩ = some (.int .i64 k) := by have := cell_row hn2 0; simpa using this
  have r1 : W2.cell? ⟨wr.heap.size, 1, none⟩ = some (.int .i64 p) := by have := cell_row hn2 1; simpa using this
  have r2 : W2.cell? ⟨wr.heap.size, 2, none⟩ = some (.int .u8 c) := by have := cell_row hn2 2; simpa using this
  have r3 : W2.cell? ⟨wr.heap.size, 3, none⟩ = some (.int .i64 cl) := by have := cell_row hn2 3; simpa using this
  have r4 : W2.cell? ⟨wr.heap.size, 4, none⟩ = some (.int .i64 (fs + (os.length : Int))) := by have := cell_row hn2 4; simpa using this
  obtain ⟨v', w', hr, g, hS', hN⟩ := push_op W2 β (.slice a os.length cc) os (HR.out.2.1.fr hF2 (fun g e h => by have := hβl g e; omega)) ⟨k, p, c, cl, fs + (os.length : Int)⟩ hos
  obtain ⟨a', c', rfl, -, -⟩ := hS'.form
  have hF3 : Fr (fun j => j = wr.heap.size ∨ β = some j) wr w' := by
    have hA : Fr (fun j => j = wr.heap.size ∨ β = some j) wr (W2.alloc (.cells #[.int .i64 k, .int .i64 p, .int .u8 c, .int .i64 cl, .int .i64 (fs + (os.length : Int))] 32)) := (hF2.mono (fun _ _ h => .inl h)).trans (Fr.alloc _ _ _)
    rcases hN with ⟨e, hf⟩ | ⟨e, hf⟩
    · exact hA.trans (hf.mono (fun j _ hj => .inr (by rw [hj]; exact e)))
    · exact hA.trans (hf.mono (fun _ _ h => h.elim))
  have hgo : g ≠ ob := fun e => by
    rcases hN with ⟨e1, -⟩ | ⟨e1, -⟩
    · exact hβo (e ▸ e1)
    · have := hF2.size
      simp at e1
      omega
  have ho' : w'.heap[ob]? = some (.cells #[.slice a os.length cc] 39 (0, 0)) := hF3.keeps HR.out.1 (fun h => by rcases h with h | h; omega; exact hβo h)
  have k4 : w'.cell? ⟨ob, 0, none⟩ = some (.slice a os.length cc) := by have := cell_row ho' 0; simpa using this
  have z4 : w'.frozen? ⟨ob, 0, none⟩ = false := frozen_row ho' 0
  have Z : Hid ((OpsI w (w'.setCell ⟨ob, 0, none⟩ (.slice a' (os ++ [(⟨k, p, c, cl, fs + (os.length : Int)⟩ : OpE)]).length c')) cb fb ob cl fs (os ++ [⟨k, p, c, cl, fs + (os.length : Int)⟩])) ∧ wr.heap.size ≤ (w'.setCell ⟨ob, 0, none⟩ (.slice a' (os ++ [(⟨k, p, c, cl, fs + (os.length : Int)⟩ : OpE)]).length c')).heap.size ∧ ∀ (j : Nat) (z : ByteArray) (i : Nat), wr.heap[j]? = some (Obj.stringIter z i) → (w'.setCell ⟨ob, 0, none⟩ (.slice a' (os ++ [(⟨k, p, c, cl, fs + (os.length : Int)⟩ : OpE)]).length c')).heap[j]? = some (Obj.stringIter z i)) := by
    have hF4 : Fr (fun j => j = wr.heap.size ∨ β = some j ∨ j = ob) wr (w'.setCell ⟨ob, 0, none⟩ (.slice a' (os ++ [(⟨k, p, c, cl, fs + (os.length : Int)⟩ : OpE)]).length c')) := (hF3.mono (fun _ _ h => by rcases h with h | h; exact .inl h; exact .inr (.inl h))).trans (Fr.setCell _ _ _ (.inr (.inr rfl)))
    have hne : ∀ j x, wr.heap[j]? = some (.cells #[.int .i64 x] 3 (0, 0)) → ¬ (j = wr.heap.size ∨ β = some j ∨ j = ob) := by
      intro j x hj hs
      rcases hs with h | h | h
      · have := block_lt hj; omega
      · obtain ⟨cur, hq⟩ := (show SF opc 5 wr 32 (some j) _ os from h ▸ HR.out.2.1).blk
        rw [hj] at hq
        cases hq
      · rw [h, HR.out.1] at hj
        cases hj
    refine ⟨?_, hF4.size, fun j z i hj => hF4.keeps hj (fun hs => by
      rcases hs with h | h | h
      · have := block_lt hj; omega
      · obtain ⟨cur, hq⟩ := (show SF opc 5 wr 32 (some j) _ os from h ▸ HR.out.2.1).blk
        rw [hj] at hq
        cases hq
      · rw [h, HR.out.1] at hj
        cases hj)⟩
    refine ⟨hF4.keeps H.out.hc (hne _ _ H.out.hc), hF4.keeps H.out.hf (hne _ _ H.out.hf), ⟨some g, _, ?_, hS'.fr (Fr.setCell (S := fun j => j = ob) w' ⟨ob, 0, none⟩ _ rfl) (fun x e h => by cases e; exact hgo h), ?_⟩, H.out.cb0, H.out.fb0, H.out.ob0, ?_⟩
    · have := set_row ho' 0 (.slice a' (os ++ [(⟨k, p, c, cl, fs + (os.length : Int)⟩ : OpE)]).length c')
      simpa using this
    · intro x e
      cases e
      rcases hN with ⟨e1, -⟩ | ⟨e1, -⟩
      · exact HR.out.2.2 _ e1
      · have h1 := H.out.bel.size
        have h2 := hF2.size
        simp at e1
        omega
    · refine H.out.bel.trans (hF4.below H.out.bel.size ?_)
      intro j hs
      rcases hs with h | h | h
      · rw [h]; exact H.out.bel.size
      · exact HR.out.2.2 _ h
      · rw [h]; exact H.out.ob0
  clear hF3 hgo ho' hS' hN hF2 hn2 hβl hβo HR H hob
  go_wp2_with (at_builtin; refine wpList_append_k _ rfl _ _ 39 39 rfl _ _ rfl rfl (hr _) ?_)
  go_end0
  refine ⟨rfl, ?_⟩
  have Z2 := Z.out
  rw [List.length_append] at Z2
  exact Z2
end Go.Proofs.Ytlmgogonghafeab
