/-
  The law Box: lists that were handed out, each with what it must hold.
-/
import Derived.Test.YtpjnhjijipcjkaaPb
namespace Go.Proofs.Ytpjnhjijipcjkaa
open Go.RowKit
set_option linter.unusedVariables false

structure SV where
  a : Option Addr
  n : Nat
  c : Nat
def sv (s : SV) : List Value := [.slice s.a s.n s.c]
theorem sz_sv : Sz sv 1 := fun x => ⟨rfl, fun v hv => by simp [sv] at hv; subst hv; rfl⟩
theorem Try.infoSl : (Try.prog.info? 22).map (fun i => (i.zero, i.size, i.bytes)) = some (some (.slice none 0 0), 1, 24) := by kernel_rfl

/-- The slice holds xs, in a block of S. -/
def HJ (w : World) (S : Nat → Prop) (s : SV) (xs : List Int) : Prop :=
  xs.length = s.n ∧ s.n ≤ s.c ∧ s.c ≤ 9223372036854775807 ∧ (0 < s.n → ∃ b cur, s.a = some ⟨b, 0, none⟩ ∧ S b ∧ w.heap[b]? = some (.cells (List.toArray cur) 3 (0, 0)) ∧ cur.take s.n = cl ei xs)
theorem HJ.fr {S T : Nat → Prop} {w w' : World} {s : SV} {xs : List Int} (h : HJ w S s xs) (hF : Fr T w w') (hS : ∀ k, S k → ¬ T k) : HJ w' S s xs := by
  obtain ⟨h1, h2, h3, h4⟩ := h
  refine ⟨h1, h2, h3, fun hn => ?_⟩
  obtain ⟨b, cur, e1, e2, e3, e4⟩ := h4 hn
  exact ⟨b, cur, e1, e2, hF.keeps e3 (hS b e2), e4⟩
theorem HJ.more {S S' : Nat → Prop} {w : World} {s : SV} {xs : List Int} (h : HJ w S s xs) (hS : ∀ k, S k → S' k) : HJ w S' s xs := by
  obtain ⟨h1, h2, h3, h4⟩ := h
  refine ⟨h1, h2, h3, fun hn => ?_⟩
  obtain ⟨b, cur, e1, e2, e3, e4⟩ := h4 hn
  exact ⟨b, cur, e1, hS b e2, e3, e4⟩
theorem HJ.typed {S : Nat → Prop} {w w' : World} {s : SV} {xs : List Int} (h : HJ w S s xs) (hS : ∀ b cur, S b → w.heap[b]? = some (.cells cur 3 (0, 0)) → w'.heap[b]? = w.heap[b]?) : HJ w' S s xs := by
  obtain ⟨h1, h2, h3, h4⟩ := h
  refine ⟨h1, h2, h3, fun hn => ?_⟩
  obtain ⟨b, cur, e1, e2, e3, e4⟩ := h4 hn
  exact ⟨b, cur, e1, e2, (hS b _ e2 e3).trans e3, e4⟩
theorem HJ.cells {S : Nat → Prop} {w : World} {s : SV} {xs : List Int} (h : HJ w S s xs) (hn : 0 < s.n) : ∃ b, s.a = some ⟨b, 0, none⟩ ∧ S b ∧ b < w.heap.size ∧ ∀ j u, (cl ei xs)[j]? = some u → w.cell? ((⟨b, 0, none⟩ : Addr).add j) = some u := by
  obtain ⟨h1, h2, h3, h4⟩ := h
  obtain ⟨b, cur, e1, e2, e3, e4⟩ := h4 hn
  refine ⟨b, e1, e2, block_lt e3, fun j u hj => ?_⟩
  rw [add_lit, cell_row e3]
  rw [← e4] at hj
  have hjl := (List.getElem?_eq_some_iff.1 hj).1
  rw [List.length_take] at hjl
  rw [List.getElem?_take, if_pos (by omega)] at hj
  simpa using hj
theorem HJ.isL {S : Nat → Prop} {w : World} {s : SV} {xs : List Int} (h : HJ w S s xs) : IsL w (.slice s.a s.n s.c) xs := by
  have h' := h
  obtain ⟨h1, h2, h3, -⟩ := h
  refine ⟨s.a, s.c, by rw [h1], by omega, h3, fun hn => ?_⟩
  obtain ⟨b, e1, e2, e3, e4⟩ := h'.cells (by omega)
  refine ⟨b, 0, e1, e3, fun i hi => ?_⟩
  have := e4 i (.int .i64 xs[i]) (by
    have := cl_get sz_ei xs i 0 hi (by omega)
    simpa [ei] using this)
  rwa [add_lit] at this
theorem SF.hj {w : World} {β : Option Nat} {a : Option Addr} {n c : Nat} {xs : List Int} {S : Nat → Prop} (h : SF ei 1 w 3 β (.slice a n c) xs) (hS : ∀ b, β = some b → S b) : HJ w S ⟨a, n, c⟩ xs := by
  cases β with
  | none =>
    obtain ⟨h1, rfl⟩ := h
    injection h1 with h1 h2 h3
    subst h1 h2 h3
    exact ⟨rfl, Nat.le_refl _, by simp, fun h => by simp at h⟩
  | some g =>
    obtain ⟨cap, h1, cur, hh, ht, hl, h2, h3, h4⟩ := h
    injection h1 with h1 h5 h6
    subst h1 h5 h6
    exact ⟨rfl, h2, h3, fun _ => ⟨g, cur, rfl, hS g rfl, hh, by simpa using ht⟩⟩

/-- Both lists hold E. -/
def KE (w : World) (S : Nat → Prop) (SL SW : List SV) (E : List (List Int)) : Prop :=
  SL.length = E.length ∧ SW.length = E.length ∧ ∀ (j : Nat) sl sw e, SL[j]? = some sl → SW[j]? = some sw → E[j]? = some e → HJ w S sl e ∧ HJ w S sw e

/-- A Box at block x with m lists. -/
structure KB (w : World) (x : Nat) (p1 p2 p3 p4 : Value) (m : Nat) (S : Nat → Prop) (vL : Value) (βL : Option Nat) (SL : List SV) (vW : Value) (βW : Option Nat) (SW : List SV) (E : List (List Int)) : Prop where
  box : w.heap[x]? = some (.cells #[p1, p2, p3, p4, vL, vW] 74 (0, 0))
  rowL : SF sv 1 w 22 βL vL SL
  rowW : SF sv 1 w 22 βW vW SW
  ke : KE w S SL SW E
  len : E.length = m
  ne : ∀ g, βL = some g → βW ≠ some g
  inK : S x
  inL : ∀ g, βL = some g → S g
  inW : ∀ g, βW = some g → S g
  old : ∀ k, S k → k < w.heap.size
def keptO (x : Nat) (p1 p2 p3 p4 : Value) (m : Nat) : Thg := fun w S => ∃ vL βL SL vW βW SW E, KB w x p1 p2 p3 p4 m S vL βL SL vW βW SW E

section
variable {w w' : World} {x : Nat} {p1 p2 p3 p4 : Value} {m : Nat} {S T : Nat → Prop} {vL : Value} {βL : Option Nat} {SL : List SV} {vW : Value} {βW : Option Nat} {SW : List SV} {E : List (List Int)}
theorem KB.fr (h : KB w x p1 p2 p3 p4 m S vL βL SL vW βW SW E) (hF : Fr T w w') (hS : ∀ k, S k → ¬ T k) : KB w' x p1 p2 p3 p4 m S vL βL SL vW βW SW E :=
  ⟨hF.keeps h.box (hS _ h.inK), h.rowL.fr hF (fun g hg => hS g (h.inL g hg)), h.rowW.fr hF (fun g hg => hS g (h.inW g hg)), ⟨h.ke.1, h.ke.2.1, fun j sl sw e h1 h2 h3 => by
    obtain ⟨h4, h5⟩ := h.ke.2.2 j sl sw e h1 h2 h3
    exact ⟨h4.fr hF hS, h5.fr hF hS⟩⟩, h.len, h.ne, h.inK, h.inL, h.inW, fun k hk => Nat.lt_of_lt_of_le (h.old k hk) hF.size⟩
theorem KB.more {S' : Nat → Prop} (h : KB w x p1 p2 p3 p4 m S vL βL SL vW βW SW E) (hS : ∀ k, S k → S' k) (ho : ∀ k, S' k → k < w.heap.size) : KB w x p1 p2 p3 p4 m S' vL βL SL vW βW SW E :=
  ⟨h.box, h.rowL, h.rowW, ⟨h.ke.1, h.ke.2.1, fun j sl sw e h1 h2 h3 => by
    obtain ⟨h4, h5⟩ := h.ke.2.2 j sl sw e h1 h2 h3
    exact ⟨h4.more hS, h5.more hS⟩⟩, h.len, h.ne, hS _ h.inK, fun g hg => hS _ (h.inL g hg), fun g hg => hS _ (h.inW g hg), ho⟩
end
theorem frm_kept (x : Nat) (p1 p2 p3 p4 : Value) (m : Nat) : Frm (keptO x p1 p2 p3 p4 m) := ⟨fun w w' S T h hF hS => by
  obtain ⟨vL, βL, SL, vW, βW, SW, E, h⟩ := h
  exact ⟨vL, βL, SL, vW, βW, SW, E, h.fr hF hS⟩, fun w S h => by
  obtain ⟨vL, βL, SL, vW, βW, SW, E, h⟩ := h
  exact h.old⟩

/-- The same, and one list more, of whose own block nothing is said. -/
structure KY (w : World) (x : Nat) (p1 p2 p3 p4 : Value) (m : Nat) (S : Nat → Prop) (s : SV) (l : List Int) (vL : Value) (βL : Option Nat) (SL : List SV) (vW : Value) (βW : Option Nat) (SW : List SV) (E : List (List Int)) (t : SV) : Prop where
  box : w.heap[x]? = some (.cells #[p1, p2, p3, p4, vL, vW] 74 (0, 0))
  rowL : SF sv 1 w 22 βL vL (SL ++ [s])
  rowW : SF sv 1 w 22 βW vW (SW ++ [t])
  ke : KE w S SL SW E
  ht : HJ w S t l
  len : E.length = m
  ne : ∀ g, βL = some g → βW ≠ some g
  inK : S x
  inL : ∀ g, βL = some g → S g
  inW : ∀ g, βW = some g → S g
  old : ∀ k, S k → k < w.heap.size
def KX (w : World) (x : Nat) (p1 p2 p3 p4 : Value) (m : Nat) (S : Nat → Prop) (s : SV) (l : List Int) : Prop := ∃ vL βL SL vW βW SW E t, KY w x p1 p2 p3 p4 m S s l vL βL SL vW βW SW E t
theorem KX.fr {w w' : World} {x : Nat} {p1 p2 p3 p4 : Value} {m : Nat} {S T : Nat → Prop} {s : SV} {l : List Int} (h : KX w x p1 p2 p3 p4 m S s l) (hF : Fr T w w') (hS : ∀ k, S k → ¬ T k) : KX w' x p1 p2 p3 p4 m S s l := by
  obtain ⟨vL, βL, SL, vW, βW, SW, E, t, h⟩ := h
  exact ⟨vL, βL, SL, vW, βW, SW, E, t, hF.keeps h.box (hS _ h.inK), h.rowL.fr hF (fun g hg => hS g (h.inL g hg)), h.rowW.fr hF (fun g hg => hS g (h.inW g hg)), ⟨h.ke.1, h.ke.2.1, fun j sl sw e h1 h2 h3 => by
    obtain ⟨h4, h5⟩ := h.ke.2.2 j sl sw e h1 h2 h3
    exact ⟨h4.fr hF hS, h5.fr hF hS⟩⟩, h.ht.fr hF hS, h.len, h.ne, h.inK, h.inL, h.inW, fun k hk => Nat.lt_of_lt_of_le (h.old k hk) hF.size⟩
theorem KX.kept {w : World} {x : Nat} {p1 p2 p3 p4 : Value} {m : Nat} {S S' : Nat → Prop} {s : SV} {l : List Int} (h : KX w x p1 p2 p3 p4 m S s l) (hs : HJ w S' s l) (hS : ∀ k, S k → S' k) (ho : ∀ k, S' k → k < w.heap.size) : keptO x p1 p2 p3 p4 (m + 1) w S' := by
  obtain ⟨vL, βL, SL, vW, βW, SW, E, t, h⟩ := h
  obtain ⟨k1, k2, k3⟩ := h.ke
  refine ⟨vL, βL, SL ++ [s], vW, βW, SW ++ [t], E ++ [l], h.box, h.rowL, h.rowW, ⟨by simp [k1], by simp [k2], ?_⟩, by simp [h.len], h.ne, hS _ h.inK, fun g hg => hS _ (h.inL g hg), fun g hg => hS _ (h.inW g hg), ho⟩
  intro j sl sw e' h5 h6 h7
  by_cases hj : j < E.length
  · rw [List.getElem?_append_left (by omega)] at h5 h6 h7
    obtain ⟨h8, h9⟩ := k3 j sl sw e' h5 h6 h7
    exact ⟨h8.more hS, h9.more hS⟩
  · rw [List.getElem?_append_right (by omega)] at h5 h6 h7
    rw [k1] at h5
    rw [k2] at h6
    rcases hx : j - E.length with _ | y
    · rw [hx] at h5 h6 h7
      simp at h5 h6 h7
      subst h5 h6 h7
      exact ⟨hs, h.ht.more hS⟩
    · rw [hx] at h5
      simp at h5

theorem NowF.slice {α : Type} {f : α → List Value} {k : Nat} {w w' : World} {e : TypeId} {β : Option Nat} {v' : Value} {xs : List α} (h : NowF f k w w' e β v' xs) : ∃ a c, v' = .slice a xs.length c := by
  obtain ⟨g', h1, -⟩ := h
  obtain ⟨a', c', h, -⟩ := h1.form
  exact ⟨a', c', h⟩
theorem SF.keepB {α : Type} {f : α → List Value} {k : Nat} {w w' : World} {e : TypeId} {g : Nat} {v : Value} {xs : List α} (h : SF f k w e (some g) v xs) (hk : w'.heap[g]? = w.heap[g]?) : SF f k w' e (some g) v xs := by
  obtain ⟨cap, hv, cur, hh, r⟩ := h
  exact ⟨cap, hv, cur, hk.trans hh, r⟩

theorem push_sv (w : World) (β : Option Nat) (v : Value) (xs : List SV) (hv : SF sv 1 w 22 β v xs) (b : Nat) (s : SV) (hb : w.heap[b]? = some (.cells #[.slice s.a s.n s.c] 22 (0, 0))) (hn : xs.length ≤ 1000) :
    ∃ v' w', (∀ ty, (Builtin.append_ #[72, 72] ty #[v, .slice (some ⟨b, 0, none⟩) 1 1]).run Try.prog w = .ok v' w') ∧ NowF sv 1 w w' 22 β v' (xs ++ [s]) := by
  obtain ⟨i0, hi0, hz0, hz1, hz2⟩ := info_parts Try.infoSl
  obtain ⟨v', w', hr, hN⟩ := run_pushF sz_sv (P := Try.prog) w 72 0 22 i0 _ 24 Try.underlying72 hi0 hz0 hz1 rfl hz2 β v xs hv ⟨b, 0, none⟩ 1 1 [s] rfl (fun j u hj => by
    rcases j with _ | j
    · rw [add_lit, cell_row hb]; simpa [cl, sv] using hj
    · simp [cl, sv] at hj) (by omega) (by omega) (by omega)
  exact ⟨v', w', fun ty => hr, hN⟩

set_option maxRecDepth 100000 in
/-- append of a whole list onto an empty row of the call own. -/
theorem push_all (w : World) (gv c : Nat) (hR : RowF ei 1 w gv 0 c 3 []) (S : Nat → Prop) (s : SV) (ys : List Int) (hs : HJ w S s ys) (hn : s.n ≤ 100000) :
    ∃ v' w', (∀ ty, (Builtin.append_ #[22, 22] ty #[.slice (some ⟨gv, 0, none⟩) 0 c, .slice s.a s.n s.c]).run Try.prog w = .ok v' w') ∧ ∃ g', SF ei 1 w' 3 (some g') v' ys ∧ (g' = gv ∨ g' = w.heap.size) ∧ Fr (· = gv) w w' := by
  obtain ⟨i0, hi0, hz0, hz1, hz2⟩ := info_parts Try.infoI
  obtain ⟨a, n, cw⟩ := s
  have hl : ys.length = n := hs.1
  by_cases h0 : n = 0
  · subst h0
    obtain rfl : ys = [] := List.eq_nil_of_length_eq_zero hl
    refine ⟨.slice (some ⟨gv, 0, none⟩) 0 c, w, fun ty => ?_, gv, ⟨c, rfl, hR⟩, .inl rfl, Fr.refl _ _⟩
    cases a with
    | none => simp [Builtin.append_, run_underlying Try.underlying22, sizeOf, typeInfo, hi0, Builtin.lenOf, Builtin.firstCells, storeCells]
    | some a => simp [Builtin.append_, run_underlying Try.underlying22, sizeOf, typeInfo, hi0, Builtin.lenOf, Builtin.firstCells, storeCells, loadCells, loadCellsFrom]
  · obtain ⟨gw, e1, -, -, hsrc⟩ := hs.cells (show 0 < n by omega)
    have e1' : a = some ⟨gw, 0, none⟩ := e1
    subst e1'
    have hn' : n ≤ 100000 := hn
    obtain ⟨v', w', hr, hN⟩ := run_pushF sz_ei (P := Try.prog) w 22 0 3 i0 _ 8 Try.underlying22 hi0 hz0 hz1 rfl hz2 (some gv) (.slice (some ⟨gv, 0, none⟩) 0 c) [] ⟨c, rfl, hR⟩ ⟨gw, 0, none⟩ n cw ys hl hsrc (by omega) (by rw [List.length_nil]; omega) (by rw [List.length_nil]; omega)
    simp only [List.nil_append] at hN
    obtain ⟨g', h4, h5, h6⟩ := hN.out
    refine ⟨v', w', fun ty => hr, g', h4, ?_, h6.mono (fun k _ hk => by injection hk with hk; exact hk.symm)⟩
    rcases h5 with h5 | h5
    · injection h5 with h5; exact .inl h5.symm
    · exact .inr h5

set_option maxRecDepth 100000 in
theorem kept_more {w w7 U9 w10 U11 w11 : World} {o7 : Obj} {x m gv g9 : Nat} {p1 p2 p3 p4 : Value} {S : Nat → Prop} {vL : Value} {βL : Option Nat} {SL : List SV} {vW : Value} {βW : Option Nat} {SW : List SV} {E : List (List Int)} {s t : SV} {e : List Int} {v7 v11 : Value}
    (K0 : KB w x p1 p2 p3 p4 m S vL βL SL vW βW SW E)
    (N7 : NowF sv 1 (w.alloc o7) w7 22 βL v7 (SL ++ [s]))
    (F9 : Fr (fun _ => False) (w7.setCell ⟨x, 4, none⟩ v7) U9) (F10 : Fr (· = gv) U9 w10) (hgv : w7.heap.size ≤ gv) (S9 : SF ei 1 w10 3 (some g9) (.slice t.a t.n t.c) e) (hg9 : w7.heap.size ≤ g9)
    (F11 : Fr (fun _ => False) w10 U11) (N11 : NowF sv 1 U11 w11 22 βW v11 (SW ++ [t])) :
    ∃ S', KX (w11.setCell ⟨x, 5, none⟩ v11) x p1 p2 p3 p4 m S' s e ∧ (∀ k, S k → S' k) ∧ (∀ k, S' k → S k ∨ w.heap.size ≤ k) ∧ Fr S w (w11.setCell ⟨x, 5, none⟩ v11) ∧ ∀ (b : Nat) (cur : Array Value), w.heap[b]? = some (.cells cur 3 (0, 0)) → (w11.setCell ⟨x, 5, none⟩ v11).heap[b]? = w.heap[b]? := by
  obtain ⟨g7, s7, d7, f7⟩ := N7.out
  obtain ⟨g11, s11, d11, f11⟩ := N11.out
  have z7 : w.heap.size + 1 ≤ w7.heap.size := by have := f7.size; simpa using this
  have z9 : w7.heap.size ≤ U9.heap.size := by have := F9.size; simpa using this
  have z10 := F10.size
  have z11 := F11.size
  have z11' := f11.size
  have hkb : x < w.heap.size := block_lt K0.box
  have bL : ∀ k, βL = some k → k ≠ x := fun k hk h => by
    subst h
    have := K0.rowL
    rw [hk] at this
    obtain ⟨c2, h2⟩ := this.blk
    rw [K0.box] at h2
    simp at h2
  have bW : ∀ k, βW = some k → k ≠ x := fun k hk h => by
    subst h
    have := K0.rowW
    rw [hk] at this
    obtain ⟨c2, h2⟩ := this.blk
    rw [K0.box] at h2
    simp at h2
  have hLlt : ∀ k, βL = some k → k < w.heap.size := fun k hk => K0.rowL.lt k hk
  have hWlt : ∀ k, βW = some k → k < w.heap.size := fun k hk => K0.rowW.lt k hk
  have farW : ∀ k, w.heap.size ≤ k → βW ≠ some k := fun k hk h => by have := hWlt k h; omega
  have A7 : Fr (fun k => βL = some k) w w7 := (Fr.alloc _ w o7).trans f7
  have t10 : Fr (· = gv) (w7.setCell ⟨x, 4, none⟩ v7) w10 := (F9.mono (fun _ _ h => h.elim)).trans F10
  have t11 : Fr (fun k => k = gv ∨ βW = some k) (w7.setCell ⟨x, 4, none⟩ v7) w11 := (t10.mono (fun k _ h => .inl h)).trans ((F11.mono (fun _ _ h => h.elim)).trans (f11.mono (fun k _ h => .inr h)))
  have A3 : Fr (fun k => k = x ∨ βL = some k ∨ βW = some k) w (w11.setCell ⟨x, 5, none⟩ v11) := by
    have q1 : Fr (fun k => k = x ∨ βL = some k ∨ βW = some k) w (w7.setCell ⟨x, 4, none⟩ v7) := (A7.mono (fun k _ hk => .inr (.inl hk))).trans (Fr.setCell _ _ _ (.inl rfl))
    exact (q1.next t11 (fun i hi he => by
      rcases he with he | he
      · omega
      · exact .inr (.inr he))).trans (Fr.setCell _ _ _ (.inl rfl))
  obtain ⟨We, hWe⟩ : ∃ We, We = w11.setCell ⟨x, 5, none⟩ v11 := ⟨_, rfl⟩
  have zE : We.heap.size = w11.heap.size := by rw [hWe]; simp
  let S' : Nat → Prop := fun k => (S k ∨ w.heap.size ≤ k) ∧ k < We.heap.size
  have inS' : ∀ k, S k → S' k := fun k hk => ⟨.inl hk, by have := K0.old k hk; omega⟩
  have newS' : ∀ k, w.heap.size ≤ k → k < We.heap.size → S' k := fun k h1 h2 => ⟨.inr h1, h2⟩
  have typed : ∀ (b : Nat) (cur : Array Value), w.heap[b]? = some (.cells cur 3 (0, 0)) → We.heap[b]? = w.heap[b]? := fun b cur hh => by
    rw [hWe]
    refine A3.block b (block_lt hh) (fun h => ?_)
    rcases h with h | h | h
    · subst h
      have := K0.box
      rw [hh] at this
      simp at this
    · have := K0.rowL
      rw [h] at this
      obtain ⟨c2, h2⟩ := this.blk
      rw [hh] at h2
      simp at h2
    · have := K0.rowW
      rw [h] at this
      obtain ⟨c2, h2⟩ := this.blk
      rw [hh] at h2
      simp at h2
  have oldHI : ∀ s e, HJ w S s e → HJ We S' s e := fun s e h => (h.typed (w' := We) (fun b cur hb hh => typed b cur hh)).more inS'
  have h2 : HJ We S' t e := by
    have hlt := S9.lt g9 rfl
    have e1 : We.heap[g9]? = w10.heap[g9]? := by
      rw [hWe]
      exact (((F11.mono (S' := fun j => j = x ∨ βW = some j) (fun _ _ h => h.elim)).trans (f11.mono (fun k _ hk => .inr hk))).trans (Fr.setCell _ _ _ (.inl rfl))).block g9 hlt (fun h => by
        rcases h with h | h
        · omega
        · exact farW g9 (by omega) h)
    exact (SF.keepB S9 e1).hj (fun b hb => by injection hb with hb; subst hb; exact newS' _ (by omega) (by omega))
  have g7k : g7 ≠ x ∧ g7 < w7.heap.size ∧ βW ≠ some g7 ∧ (S g7 ∨ w.heap.size ≤ g7) := by
    have hlt := s7.lt g7 rfl
    rcases d7 with d7 | d7
    · exact ⟨bL _ d7, hlt, K0.ne _ d7, .inl (K0.inL _ d7)⟩
    · simp at d7
      exact ⟨by omega, hlt, farW _ (by omega), .inr (by omega)⟩
  have g11k : g11 ≠ x ∧ g11 < w11.heap.size ∧ (S g11 ∨ w.heap.size ≤ g11) := by
    have hlt := s11.lt g11 rfl
    rcases d11 with d11 | d11
    · exact ⟨bW _ d11, hlt, .inl (K0.inW _ d11)⟩
    · exact ⟨by omega, hlt, .inr (by omega)⟩
  have eL : We.heap[g7]? = w7.heap[g7]? := by
    have e1 : (w7.setCell ⟨x, 4, none⟩ v7).heap[g7]? = w7.heap[g7]? := (Fr.setCell (S := (· = x)) w7 ⟨x, 4, none⟩ v7 rfl).block g7 g7k.2.1 g7k.1
    have e2 := t11.block g7 (by simpa using g7k.2.1) (fun h => by
      rcases h with h | h
      · have := g7k.2.1; omega
      · exact g7k.2.2.1 h)
    have e3 : We.heap[g7]? = w11.heap[g7]? := by rw [hWe]; exact (Fr.setCell (S := (· = x)) w11 ⟨x, 5, none⟩ v11 rfl).block g7 (by have := g7k.2.1; omega) g7k.1
    exact e3.trans (e2.trans e1)
  have eW : We.heap[g11]? = w11.heap[g11]? := by rw [hWe]; exact (Fr.setCell (S := (· = x)) w11 ⟨x, 5, none⟩ v11 rfl).block g11 g11k.2.1 g11k.1
  have eK : We.heap[x]? = some (.cells #[p1, p2, p3, p4, v7, v11] 74 (0, 0)) := by
    have e1 := A7.keeps K0.box (fun h => bL _ h rfl)
    have e2 := set_row e1 4 v7
    have e3 := t11.keeps e2 (fun h => by
      rcases h with h | h
      · omega
      · exact bW _ h rfl)
    have e4 := set_row e3 5 v11
    rw [hWe]
    simpa using e4
  obtain ⟨k1, k2, k3⟩ := K0.ke
  refine ⟨S', ⟨v7, some g7, SL, v11, some g11, SW, E, t, ?_⟩, inS', fun k hk => hk.1, A3.mono (fun k _ hk => ?_), fun b cur h => by rw [← hWe]; exact typed b cur h⟩
  · rw [← hWe]
    refine ⟨eK, SF.keepB s7 eL, SF.keepB s11 eW, ⟨k1, k2, fun j sl sw e' h5 h6 h7 => ?_⟩, h2, K0.len, ?_, inS' _ K0.inK, ?_, ?_, fun k hk => hk.2⟩
    · obtain ⟨h8, h9⟩ := k3 j sl sw e' h5 h6 h7
      exact ⟨oldHI _ _ h8, oldHI _ _ h9⟩
    · intro q hq hq2
      injection hq with hq
      injection hq2 with hq2
      have hqq : g7 = g11 := hq.trans hq2.symm
      rcases d11 with d11 | d11
      · exact g7k.2.2.1 (by rw [hqq]; exact d11)
      · have := g7k.2.1; omega
    · intro q hq
      injection hq with hq
      subst hq
      rcases g7k.2.2.2 with h | h
      · exact inS' _ h
      · exact newS' _ h (by have := g7k.2.1; omega)
    · intro q hq
      injection hq with hq
      subst hq
      rcases g11k.2.2 with h | h
      · exact inS' _ h
      · exact newS' _ h (by have := g11k.2.1; omega)
  · rcases hk with hk | hk | hk
    · rw [hk]; exact K0.inK
    · exact K0.inL _ hk
    · exact K0.inW _ hk

end Go.Proofs.Ytpjnhjijipcjkaa
