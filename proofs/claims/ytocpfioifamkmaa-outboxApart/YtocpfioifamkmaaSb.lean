/-
  A list of steps of the law own; what they make of an outbox.
-/
import Derived.Test.YtocpfioifamkmaaSa
namespace Go.Proofs.Ytocpfioifamkmaa
open Go.RowKit
set_option linter.unusedVariables false

def eo (o : OpV) : List Value := [.int .i64 o.kind, .int .i64 o.site, .int .i64 o.n]
theorem sz_eo : Sz eo 3 := fun x => ⟨rfl, fun v hv => by simp [eo] at hv; rcases hv with rfl | rfl | rfl <;> rfl⟩
theorem Try.infoO : (Try.prog.info? 32).map (fun i => (i.zero, i.size, i.bytes)) = some (some (.agg #[.int .i64 0, .int .i64 0, .int .i64 0]), 3, 24) := by kernel_rfl

/-- The objects F and the list of steps. -/
structure LR (w0 w : World) (F : Nat → Thg) (β : Option Nat) (v : Value) (ops : List OpV) : Prop where
  mo : MO w0 w (fun k => β = some k) F
  row : SF eo 3 w 32 β v ops
  new : ∀ g, β = some g → w0.heap.size ≤ g

theorem SF.kp {α : Type} {f : α → List Value} {k : Nat} {w w' : World} {e : TypeId} {β : Option Nat} {v : Value} {xs : List α} (h : SF f k w e β v xs) (hk : KP (fun j => β = some j) w w') : SF f k w' e β v xs := by
  cases β with
  | none => exact h
  | some g =>
    obtain ⟨cap, hv, cur, hh, r⟩ := h
    exact ⟨cap, hv, cur, (hk g rfl).trans hh, r⟩
theorem LR.step {w0 w w' : World} {F F' : Nat → Thg} {β : Option Nat} {v : Value} {ops : List OpV} (h : LR w0 w F β v ops) (h1 : MO w0 w' (fun k => β = some k) F') (h2 : KP (fun k => β = some k) w w') : LR w0 w' F' β v ops := ⟨h1, h.row.kp h2, h.new⟩
theorem LR.below {w0 w w' : World} {F : Nat → Thg} {β : Option Nat} {v : Value} {ops : List OpV} (h : LR w0 w F β v ops) (hb : Below w.heap.size w w') : LR w0 w' F β v ops := h.step (h.mo.below hb) (h.mo.kp hb)

/-- What an append to the list leaves. -/
theorem LR.grown {w0 w w' : World} {F : Nat → Thg} {β : Option Nat} {v v' : Value} {ops ops' : List OpV} (h : LR w0 w F β v ops) (hN : NowF eo 3 w w' 32 β v' ops') : ∃ g', LR w0 w' F (some g') v' ops' := by
  obtain ⟨g', h1, h2, h3⟩ := hN.out
  have hs := h.mo.base.size
  refine ⟨g', ?_, h1, ?_⟩
  · obtain ⟨T, hx, hk⟩ := h.mo.tags
    have old : ∀ i S, F i w S → ∀ k, S k → k < w.heap.size := fun i S hS => (h.mo.frm i).old w S hS
    refine ⟨⟨tagN w.heap.size 0 T, fun i => ?_, fun k hk' => ?_⟩, h.mo.base.trans (h3.below hs h.new), fun k hk => by injection hk with hk; subst hk; exact h1.lt _ rfl, h.mo.frm⟩
    · obtain ⟨S, h4, h5⟩ := hx i
      refine ⟨S, (h.mo.frm i).fr _ _ _ _ h4 h3 (fun k hk ht => by have := (h5 k hk).1; have := hk; have := ‹∀ k, β = some k → T k = 0› k ht; omega), fun k hk => ?_⟩
      rw [tag_old (old i S h4 k hk)]
      exact h5 k hk
    · injection hk' with hk'
      subst hk'
      rcases h2 with h2 | h2
      · rw [tag_old (h.row.lt _ h2)]
        exact hk _ h2
      · rw [tag_new (by omega)]
  · intro g hg
    injection hg with hg
    subst hg
    rcases h2 with h2 | h2
    · exact h.new _ h2
    · omega

theorem lr_push {w0 w : World} {F : Nat → Thg} {β : Option Nat} {v : Value} {ops : List OpV} (h : LR w0 w F β v ops) (k s n : Int) (hn : ops.length ≤ 100000) :
    ∃ v' w', (∀ ty, (Builtin.append_ #[23, 23] ty #[v, .slice (some ⟨w.heap.size, 0, none⟩) 1 1]).run Try.prog (w.alloc (.cells #[.int .i64 k, .int .i64 s, .int .i64 n] 32)) = .ok v' w') ∧ ∃ g', LR w0 w' F (some g') v' (ops ++ [⟨k, s, n⟩]) := by
  obtain ⟨i0, hi0, hz0, hz1, hz2⟩ := info_parts Try.infoO
  have hb : Below w.heap.size w (w.alloc (.cells #[.int .i64 k, .int .i64 s, .int .i64 n] 32)) := (Below.refl _ _).alloc (Nat.le_refl _) _
  have h' := h.below hb
  have hbx := heap_alloc_new w (.cells #[.int .i64 k, .int .i64 s, .int .i64 n] 32)
  obtain ⟨v', w', hr, hN⟩ := run_pushF sz_eo (P := Try.prog) (w.alloc (.cells #[.int .i64 k, .int .i64 s, .int .i64 n] 32)) 23 0 32 i0 _ 24 Try.underlying23 hi0 hz0 hz1 rfl hz2 β v ops h'.row ⟨w.heap.size, 0, none⟩ 1 1 [⟨k, s, n⟩] rfl (fun j u hj => by
    rw [cl_one] at hj
    rcases j with _ | _ | _ | j
    · rw [add_lit, cell_row hbx]; simpa [eo] using hj
    · rw [add_lit, cell_row hbx]; simpa [eo] using hj
    · rw [add_lit, cell_row hbx]; simpa [eo] using hj
    · simp [eo] at hj) (by omega) (by omega) (by omega)
  exact ⟨v', w', fun ty => hr, h'.grown hN⟩

/-- The steps of a script. -/
def opsOf (O : Nat → OpV) (n : Nat) : List OpV := (List.range n).map O

theorem lr_script {w0 w : World} {F : Nat → Thg} {β : Option Nat} {v : Value} {ops : List OpV} (h : LR w0 w F β v ops) (a : Option Addr) (n c : Nat) (O : Nat → OpV) (hS : IsS w a n c O) (hn : ops.length ≤ 4096) (hn1 : n * 24 ≤ 140737488351232) :
    ∃ v' w', (∀ ty, (Builtin.append_ #[23, 23] ty #[v, .slice a n c]).run Try.prog w = .ok v' w') ∧ ∃ β', LR w0 w' F β' v' (ops ++ opsOf O n) := by
  obtain ⟨i0, hi0, hz0, hz1, hz2⟩ := info_parts Try.infoO
  by_cases h0 : n = 0
  · subst h0
    refine ⟨v, w, fun ty => ?_, β, by simpa [opsOf] using h⟩
    obtain ⟨ap, cp, rfl, hle, -⟩ := h.row.form
    cases a with
    | none => cases ap <;> simp [Builtin.append_, run_underlying Try.underlying23, sizeOf, typeInfo, hi0, Builtin.lenOf, hle, Builtin.firstCells, storeCells]
    | some a => cases ap <;> simp [Builtin.append_, run_underlying Try.underlying23, sizeOf, typeInfo, hi0, Builtin.lenOf, hle, Builtin.firstCells, storeCells, loadCells, loadCellsFrom]
  · obtain ⟨b, off, rfl, -, hc⟩ := hS.2.2 (by omega)
    have hl : (opsOf O n).length = n := by simp [opsOf]
    obtain ⟨v', w', hr, hN⟩ := run_pushF sz_eo (P := Try.prog) w 23 0 32 i0 _ 24 Try.underlying23 hi0 hz0 hz1 rfl hz2 β v ops h.row ⟨b, off, none⟩ n c (opsOf O n) hl (fun j u hj => by
      rw [add_lit]
      have hj' := (List.getElem?_eq_some_iff.1 hj).1
      rw [cl_len sz_eo, hl] at hj'
      have e : j = j / 3 * 3 + j % 3 := by omega
      have hq : j / 3 < n := by omega
      have hm : j % 3 < 3 := by omega
      rw [e, cl_get sz_eo _ _ _ (by rw [hl]; exact hq) hm] at hj
      have hx : (opsOf O n)[j / 3]'(by rw [hl]; exact hq) = O (j / 3) := by simp [opsOf]
      rw [hx] at hj
      obtain ⟨q0, q1, q2⟩ := hc (j / 3) hq
      rcases (by omega : j % 3 = 0 ∨ j % 3 = 1 ∨ j % 3 = 2) with hm | hm | hm
      · rw [hm] at hj e
        rw [show off + j = off + j / 3 * 3 by omega, q0]
        simpa [eo] using hj
      · rw [hm] at hj e
        rw [show off + j = off + j / 3 * 3 + 1 by omega, q1]
        simpa [eo] using hj
      · rw [hm] at hj e
        rw [show off + j = off + j / 3 * 3 + 2 by omega, q2]
        simpa [eo] using hj) (by omega) (by omega) (by omega)
    obtain ⟨g', h2⟩ := h.grown hN
    exact ⟨v', w', fun ty => hr, some g', h2⟩

/-- The steps of one site, done. -/
def runO (b : Int) (p : St) : List OpV → St
  | [] => p
  | o :: os => runO b (if o.site % 2 = b then actS p o.kind o.n else p) os
theorem runO_snoc (b : Int) (p : St) (os : List OpV) (o : OpV) : runO b p (os ++ [o]) = if o.site % 2 = b then actS (runO b p os) o.kind o.n else runO b p os := by
  induction os generalizing p with
  | nil => simp [runO]
  | cons x xs ih => simp only [List.cons_append, runO, ih]
theorem runO_take (b : Int) (p : St) (os : List OpV) (i : Nat) (h : i < os.length) : runO b p (os.take (i + 1)) = if os[i].site % 2 = b then actS (runO b p (os.take i)) os[i].kind os[i].n else runO b p (os.take i) := by
  rw [List.take_succ_eq_append_getElem h, runO_snoc]
def pushes (X : Nat → Int) (n : Nat) : List OpV := (List.range n).map fun j => ⟨1, 0, X j⟩
theorem pushes_succ (X : Nat → Int) (n : Nat) : pushes X (n + 1) = pushes X n ++ [⟨1, 0, X n⟩] := by simp [pushes, List.range_succ]
theorem pushes_len (X : Nat → Int) (n : Nat) : (pushes X n).length = n := by simp [pushes]
theorem run_pushes (X : Nat → Int) (n : Nat) (hn : n ≤ 4096) : (runO 0 ⟨3, 0, 0, []⟩ (pushes X n)).last = n ∧ runO 1 ⟨7, 0, 0, []⟩ (pushes X n) = ⟨7, 0, 0, []⟩ := by
  induction n with
  | zero => exact ⟨rfl, rfl⟩
  | succ n ih =>
    obtain ⟨h1, h2⟩ := ih (by omega)
    have hl : ¬ 4096 ≤ (runO 0 ⟨3, 0, 0, []⟩ (pushes X n)).last := by omega
    rw [pushes_succ, runO_snoc, runO_snoc, h2]
    refine ⟨?_, by simp⟩
    have e : ((⟨1, 0, X n⟩ : OpV).site % 2 = 0) := rfl
    rw [if_pos e]
    show (actS _ 1 (X n)).last = _
    rw [actS, if_pos rfl, pushS, if_neg hl]
    simp [St.last] at h1 ⊢
    omega
theorem run_first (X : Nat → Int) (n : Nat) (hn : n ≤ 4096) (os : List OpV) (i : Nat) (hi : i ≤ n) : (runO 0 ⟨3, 0, 0, []⟩ ((pushes X n ++ os).take i)).last = i ∧ runO 1 ⟨7, 0, 0, []⟩ ((pushes X n ++ os).take i) = ⟨7, 0, 0, []⟩ := by
  have e : (pushes X n ++ os).take i = pushes X i := by
    rw [List.take_append_of_le_length (by rw [pushes_len]; exact hi)]
    unfold pushes
    rw [← List.map_take, List.take_range, Nat.min_eq_left hi]
  rw [e]
  exact run_pushes X i (by omega)

/-- The four. -/
def FA (xa xb xc xd : Nat) (pa pb pd : St) : Nat → Thg := setO (setO (setO (setO (fun _ => noObj) 0 (boxO xa pa)) 1 (boxO xb pb)) 2 (strO xc)) 3 (boxO xd pd)
section
variable (xa xb xc xd : Nat) (pa pb pd p : St)
theorem FA_a : FA xa xb xc xd pa pb pd 0 = boxO xa pa := rfl
theorem FA_b : FA xa xb xc xd pa pb pd 1 = boxO xb pb := rfl
theorem FA_c : FA xa xb xc xd pa pb pd 2 = strO xc := rfl
theorem FA_d : FA xa xb xc xd pa pb pd 3 = boxO xd pd := rfl
theorem FA_seta : setO (FA xa xb xc xd pa pb pd) 0 (boxO xa p) = FA xa xb xc xd p pb pd := by
  funext j
  rcases j with _ | _ | _ | _ | j <;> simp [FA, setO]
theorem FA_setb : setO (FA xa xb xc xd pa pb pd) 1 (boxO xb p) = FA xa xb xc xd pa p pd := by
  funext j
  rcases j with _ | _ | _ | _ | j <;> simp [FA, setO]
theorem FA_setd : setO (FA xa xb xc xd pa pb pd) 3 (boxO xd p) = FA xa xb xc xd pa pb p := by
  funext j
  rcases j with _ | _ | _ | _ | j <;> simp [FA, setO]
end

end Go.Proofs.Ytocpfioifamkmaa
