/-
  Kept; marks.
-/
import Derived.Test.YtocpfioifamkmaaOa
namespace Go.Proofs.Ytocpfioifamkmaa
open Go.RowKit
set_option linter.unusedVariables false

/-- Both lists of a Kept hold E. -/
def KE (w : World) (S : Nat → Prop) (SL SW : List SV) (E : List (List (Int × Int))) : Prop :=
  SL.length = E.length ∧ SW.length = E.length ∧ ∀ (j : Nat) sl sw e, SL[j]? = some sl → SW[j]? = some sw → E[j]? = some e → HI w S sl e ∧ HI w S sw e

/-- A Kept at block kb with m lists. -/
structure KB (w : World) (kb m : Nat) (S : Nat → Prop) (vL : Value) (βL : Option Nat) (SL : List SV) (vW : Value) (βW : Option Nat) (SW : List SV) (E : List (List (Int × Int))) : Prop where
  box : w.heap[kb]? = some (.cells #[vL, vW] 45 (0, 0))
  rowL : SF sv 1 w 35 βL vL SL
  rowW : SF sv 1 w 35 βW vW SW
  ke : KE w S SL SW E
  len : E.length = m
  ne : ∀ g, βL = some g → βW ≠ some g
  inK : S kb
  inL : ∀ g, βL = some g → S g
  inW : ∀ g, βW = some g → S g
  old : ∀ k, S k → k < w.heap.size
def keptO (kb m : Nat) : Thg := fun w S => ∃ vL βL SL vW βW SW E, KB w kb m S vL βL SL vW βW SW E

theorem KB.fr {w w' : World} {kb m : Nat} {S T : Nat → Prop} {vL : Value} {βL : Option Nat} {SL : List SV} {vW : Value} {βW : Option Nat} {SW : List SV} {E : List (List (Int × Int))} (h : KB w kb m S vL βL SL vW βW SW E) (hF : Fr T w w') (hS : ∀ k, S k → ¬ T k) : KB w' kb m S vL βL SL vW βW SW E :=
  ⟨hF.keeps h.box (hS _ h.inK), h.rowL.fr hF (fun g hg => hS g (h.inL g hg)), h.rowW.fr hF (fun g hg => hS g (h.inW g hg)), ⟨h.ke.1, h.ke.2.1, fun j sl sw e h1 h2 h3 => by
    obtain ⟨h4, h5⟩ := h.ke.2.2 j sl sw e h1 h2 h3
    exact ⟨h4.fr hF hS, h5.fr hF hS⟩⟩, h.len, h.ne, h.inK, h.inL, h.inW, fun k hk => Nat.lt_of_lt_of_le (h.old k hk) hF.size⟩
theorem frm_kept (kb m : Nat) : Frm (keptO kb m) := ⟨fun w w' S T h hF hS => by
  obtain ⟨vL, βL, SL, vW, βW, SW, E, h⟩ := h
  exact ⟨vL, βL, SL, vW, βW, SW, E, h.fr hF hS⟩, fun w S h => by
  obtain ⟨vL, βL, SL, vW, βW, SW, E, h⟩ := h
  exact h.old⟩

/-- The marks. -/
def mk (mark : Int) (i : Nat) : List (Int × Int) := (List.range i).map fun j : Nat => (mark, (j : Int))
theorem mk_len (mark : Int) (i : Nat) : (mk mark i).length = i := by simp [mk]
theorem mk_succ (mark : Int) (i : Nat) : mk mark (i + 1) = mk mark i ++ [(mark, (i : Int))] := by simp [mk, List.range_succ]
theorem mix_set (mark : Int) (i : Nat) (xs : List (Int × Int)) (h : i < xs.length) : (mk mark i ++ xs.drop i).set i (mark, (i : Int)) = mk mark (i + 1) ++ xs.drop (i + 1) := by
  rw [List.drop_eq_getElem_cons h, List.set_append_right _ _ (by rw [mk_len]; exact Nat.le_refl _), mk_len, Nat.sub_self, List.set_cons_zero, mk_succ, List.append_assoc]
  rfl
theorem mix_len (mark : Int) (i : Nat) (xs : List (Int × Int)) (h : i ≤ xs.length) : (mk mark i ++ xs.drop i).length = xs.length := by
  rw [List.length_append, mk_len, List.length_drop]; omega

theorem RowF.set2 {w : World} {g N cap : Nat} {e : TypeId} {xs : List (Int × Int)} (h : RowF it 2 w g N cap e xs) (i : Nat) (hi : i < N) (a b : Int) : RowF it 2 ((w.setCell ⟨g, i * 2, none⟩ (.int .i64 a)).setCell ⟨g, i * 2 + 1, none⟩ (.int .i64 b)) g N cap e (xs.set i (a, b)) := by
  obtain ⟨cur, hh, ht, hl, h1, h2, h3⟩ := h
  have h4 := set_row (set_row hh (i * 2) (.int .i64 a)) (i * 2 + 1) (.int .i64 b)
  refine ⟨(cur.set (i * 2) (.int .i64 a)).set (i * 2 + 1) (.int .i64 b), by simpa using h4, ?_, by simpa using hl, h1, h2, by simpa using h3⟩
  have hlt : N * 2 ≤ cur.length := by rw [h3]; omega
  apply List.ext_getElem?
  intro q
  by_cases hq : q < N * 2
  · rw [List.getElem?_take, if_pos hq]
    have e : q = q / 2 * 2 + q % 2 := by omega
    have hm : q % 2 < 2 := by omega
    have hd2 : q / 2 < N := by omega
    have old : cur[q]? = (it (xs[q / 2]'(by omega)))[q % 2]? := by
      rw [← cl_get sz_it xs (q / 2) (q % 2) (by omega) hm, ← e, ← ht, List.getElem?_take, if_pos hq]
    have new : (cl it (xs.set i (a, b)))[q]? = (it ((xs.set i (a, b))[q / 2]'(by simp; omega)))[q % 2]? := by
      rw [← cl_get sz_it (xs.set i (a, b)) (q / 2) (q % 2) (by simp; omega) hm, ← e]
    rw [new]
    by_cases hqi : q / 2 = i
    · have hx : (xs.set i (a, b))[q / 2]'(by simp; omega) = (a, b) := by simp [hqi]
      rw [hx]
      rcases (by omega : q % 2 = 0 ∨ q % 2 = 1) with h5 | h5
      · have hq2 : q = i * 2 := by omega
        rw [h5, hq2, List.getElem?_set_ne (by omega), List.getElem?_set_self (by omega)]
        rfl
      · have hq2 : q = i * 2 + 1 := by omega
        rw [h5, hq2, List.getElem?_set_self (by simp; omega)]
        rfl
    · have hx : (xs.set i (a, b))[q / 2]'(by simp; omega) = xs[q / 2]'(by omega) := by
        rw [List.getElem_set_ne (by omega)]
      rw [hx, ← old, List.getElem?_set_ne (by omega), List.getElem?_set_ne (by omega)]
  · rw [List.getElem?_take, if_neg hq, List.getElem?_eq_none (by rw [cl_len sz_it]; simp; omega)]

theorem push_svs (w : World) (β : Option Nat) (v : Value) (xs : List SV) (hv : SF sv 1 w 35 β v xs) (b : Nat) (s t : SV) (hb : w.heap[b]? = some (.cells #[.slice s.a s.n s.c, .slice t.a t.n t.c] 35 (0, 0))) (hn : xs.length ≤ 100000000) :
    ∃ v' w', (∀ ty, (Builtin.append_ #[43, 43] ty #[v, .slice (some ⟨b, 0, none⟩) 2 2]).run Try.prog w = .ok v' w') ∧ NowF sv 1 w w' 35 β v' (xs ++ [s, t]) := by
  obtain ⟨i0, hi0, hz0, hz1, hz2⟩ := info_parts Try.infoSl
  obtain ⟨v', w', hr, hN⟩ := run_pushF sz_sv (P := Try.prog) w 43 0 35 i0 _ 24 Try.underlying43 hi0 hz0 hz1 rfl hz2 β v xs hv ⟨b, 0, none⟩ 2 2 [s, t] rfl (fun j u hj => by
    rcases j with _ | _ | j
    · rw [add_lit, cell_row hb]; simpa [cl, sv] using hj
    · rw [add_lit, cell_row hb]; simpa [cl, sv] using hj
    · simp [cl, sv] at hj) (by omega) (by omega) (by omega)
  exact ⟨v', w', fun ty => hr, hN⟩

/-- append of a whole list onto an empty row of the call own. -/
theorem push_all (w : World) (gv c : Nat) (hR : RowF it 2 w gv 0 c 38 []) (βw : Option Nat) (a : Option Addr) (n cw : Nat) (ys : List (Int × Int)) (hw : SF it 2 w 38 βw (.slice a n cw) ys) (hl : ys.length = n) (hn : n ≤ 100000) :
    ∃ v' w', (∀ ty, (Builtin.append_ #[35, 35] ty #[.slice (some ⟨gv, 0, none⟩) 0 c, .slice a n cw]).run Try.prog w = .ok v' w') ∧ ∃ g', SF it 2 w' 38 (some g') v' ys ∧ (g' = gv ∨ g' = w.heap.size) ∧ Fr (· = gv) w w' := by
  obtain ⟨i0, hi0, hz0, hz1, hz2⟩ := info_parts Try.infoT
  by_cases h0 : n = 0
  · subst h0
    obtain rfl : ys = [] := List.eq_nil_of_length_eq_zero hl
    refine ⟨.slice (some ⟨gv, 0, none⟩) 0 c, w, fun ty => ?_, gv, ⟨c, rfl, hR⟩, .inl rfl, Fr.refl _ _⟩
    cases a with
    | none => simp [Builtin.append_, run_underlying Try.underlying35, sizeOf, typeInfo, hi0, Builtin.lenOf, Builtin.firstCells, storeCells]
    | some a => simp [Builtin.append_, run_underlying Try.underlying35, sizeOf, typeInfo, hi0, Builtin.lenOf, Builtin.firstCells, storeCells, loadCells, loadCellsFrom]
  · cases βw with
    | none =>
      have := hw.2
      rw [this] at hl
      simp at hl
      omega
    | some gw =>
      obtain ⟨cap, h1, hRw⟩ := hw
      injection h1 with h1 h2 h3
      subst h1
      have hsrc := hRw.cells sz_it 0
      simp only [Nat.zero_mul, List.drop_zero] at hsrc
      obtain ⟨v', w', hr, hN⟩ := run_pushF sz_it (P := Try.prog) w 35 0 38 i0 _ 16 Try.underlying35 hi0 hz0 hz1 rfl hz2 (some gv) (.slice (some ⟨gv, 0, none⟩) 0 c) [] ⟨c, rfl, hR⟩ ⟨gw, 0, none⟩ n cw ys hl hsrc (by omega) (by simp; omega) (by simp; omega)
      simp only [List.nil_append] at hN
      obtain ⟨g', h4, h5, h6⟩ := hN.out
      refine ⟨v', w', fun ty => hr, g', h4, ?_, h6.mono (fun k _ hk => by injection hk with hk; exact hk.symm)⟩
      rcases h5 with h5 | h5
      · injection h5 with h5; exact .inl h5.symm
      · exact .inr h5

end Go.Proofs.Ytocpfioifamkmaa
