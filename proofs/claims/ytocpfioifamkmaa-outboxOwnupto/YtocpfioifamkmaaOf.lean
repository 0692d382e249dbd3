/-
  The lists of two outboxes beside a Kept.
-/
import Derived.Test.YtocpfioifamkmaaOe
namespace Go.Proofs.Ytocpfioifamkmaa
open Go.RowKit
set_option linter.unusedVariables false

section
variable {w0 w : World} {K : Nat → Prop} {x y kb : Nat} {px py : St} {m : Nat}
theorem od_dueX (h : MO w0 w K (FO x y kb px py m)) : Calls Try.prog 16 #[.pointer (some ⟨x, 0, none⟩)] w fun e w' => ∃ g c, e = .returned (.slice (some ⟨g, 0, none⟩) (dueL px).length c) ∧ RowF it 2 w' g (dueL px).length c 38 (dueL px) ∧ w.heap.size ≤ g ∧ MO w0 w' (fun k => K k ∨ k = g) (FO x y kb (dueS px) py m) ∧ KP K w w' := by
  refine (mo_due h 0 rfl).mono ?_
  rintro e w' ⟨u, rfl, h1, h2, h3⟩
  obtain ⟨g, c, rfl, hR, hb, -, -⟩ := h1.form
  rw [FO_x] at h2
  exact ⟨g, c, rfl, hR, hb, h2.less (fun k hk => hk.imp id (fun h => by rw [h]; exact ⟨hb, hR.lt⟩)), h3⟩
theorem od_dueY (h : MO w0 w K (FO x y kb px py m)) : Calls Try.prog 16 #[.pointer (some ⟨y, 0, none⟩)] w fun e w' => ∃ g c, e = .returned (.slice (some ⟨g, 0, none⟩) (dueL py).length c) ∧ RowF it 2 w' g (dueL py).length c 38 (dueL py) ∧ w.heap.size ≤ g ∧ MO w0 w' (fun k => K k ∨ k = g) (FO x y kb px (dueS py) m) ∧ KP K w w' := by
  refine (mo_due h 1 rfl).mono ?_
  rintro e w' ⟨u, rfl, h1, h2, h3⟩
  obtain ⟨g, c, rfl, hR, hb, -, -⟩ := h1.form
  rw [FO_y] at h2
  exact ⟨g, c, rfl, hR, hb, h2.less (fun k hk => hk.imp id (fun h => by rw [h]; exact ⟨hb, hR.lt⟩)), h3⟩
theorem od_leftX (h : MO w0 w K (FO x y kb px py m)) : Calls Try.prog 19 #[.pointer (some ⟨x, 0, none⟩)] w fun e w' => ∃ g c, e = .returned (.slice (some ⟨g, 0, none⟩) (leftL px).length c) ∧ RowF it 2 w' g (leftL px).length c 38 (leftL px) ∧ w.heap.size ≤ g ∧ MO w0 w' (fun k => K k ∨ k = g) (FO x y kb px py m) ∧ KP K w w' := by
  refine (mo_left h 0 rfl).mono ?_
  rintro e w' ⟨u, rfl, h1, h2, h3⟩
  obtain ⟨g, c, rfl, hR, hb, -, -⟩ := h1.form
  exact ⟨g, c, rfl, hR, hb, h2.less (fun k hk => hk.imp id (fun h => by rw [h]; exact ⟨hb, hR.lt⟩)), h3⟩
theorem od_leftY (h : MO w0 w K (FO x y kb px py m)) : Calls Try.prog 19 #[.pointer (some ⟨y, 0, none⟩)] w fun e w' => ∃ g c, e = .returned (.slice (some ⟨g, 0, none⟩) (leftL py).length c) ∧ RowF it 2 w' g (leftL py).length c 38 (leftL py) ∧ w.heap.size ≤ g ∧ MO w0 w' (fun k => K k ∨ k = g) (FO x y kb px py m) ∧ KP K w w' := by
  refine (mo_left h 1 rfl).mono ?_
  rintro e w' ⟨u, rfl, h1, h2, h3⟩
  obtain ⟨g, c, rfl, hR, hb, -, -⟩ := h1.form
  exact ⟨g, c, rfl, hR, hb, h2.less (fun k hk => hk.imp id (fun h => by rw [h]; exact ⟨hb, hR.lt⟩)), h3⟩
theorem od_marked (h : MO w0 w K (FO x y kb px py m)) {g n c : Nat} {xs : List (Int × Int)} (hR : RowF it 2 w g n c 38 xs) (hK : K g) (hb : w0.heap.size ≤ g) (hn : n ≤ 4096) (hm : m ≤ 10000000) (mark : Int) :
    Calls Try.prog 21 #[.pointer (some ⟨kb, 0, none⟩), .slice (some ⟨g, 0, none⟩) n c, .int .i64 mark] w fun e w' => e = .returned (.tuple #[]) ∧ MO w0 w' (fun k => K k ∧ k ≠ g) (FO x y kb px py (m + 2)) ∧ KP (fun k => K k ∧ k ≠ g) w w' := by
  obtain ⟨S, h1, h2, h3⟩ := h.nowG 2 g hK hb
  refine (marked_any kb m S g n c xs mark w h1 hR h2 hn hm).mono ?_
  rintro e w' ⟨rfl, S', h4, h5, h6⟩
  have h7 := h3 _ w' S' (frm_kept kb (m + 2)) h4 h5 h6
  rw [FO_k] at h7
  exact ⟨rfl, h7⟩
theorem od_actX (h : MO w0 w K (FO x y kb px py m)) (k s n : Int) : Calls Try.prog 18 #[.pointer (some ⟨x, 0, none⟩), .agg #[.int .i64 k, .int .i64 s, .int .i64 n]] w fun e w' => e = .returned (.int .i64 (actE px k n)) ∧ MO w0 w' K (FO x y kb (actS px k n) py m) ∧ KP K w w' := by
  refine (mo_act h 0 rfl k s n).mono ?_
  rintro e w' ⟨rfl, h1, h2⟩
  rw [FO_x] at h1
  exact ⟨rfl, h1, h2⟩
theorem od_actY (h : MO w0 w K (FO x y kb px py m)) (k s n : Int) : Calls Try.prog 18 #[.pointer (some ⟨y, 0, none⟩), .agg #[.int .i64 k, .int .i64 s, .int .i64 n]] w fun e w' => e = .returned (.int .i64 (actE py k n)) ∧ MO w0 w' K (FO x y kb px (actS py k n) m) ∧ KP K w w' := by
  refine (mo_act h 1 rfl k s n).mono ?_
  rintro e w' ⟨rfl, h1, h2⟩
  rw [FO_y] at h1
  exact ⟨rfl, h1, h2⟩
theorem od_kept (h : MO w0 w K (FO x y kb px py m)) : ∃ S vL βL SL vW βW SW E, KB w kb m S vL βL SL vW βW SW E := by
  obtain ⟨S, h1, -⟩ := h.now 2
  obtain ⟨vL, βL, SL, vW, βW, SW, E, h⟩ := h1
  exact ⟨S, vL, βL, SL, vW, βW, SW, E, h⟩
end

theorem RowF.kpB {w w' : World} {g n c : Nat} {xs : List (Int × Int)} (h : RowF it 2 w g n c 38 xs) (hk : w'.heap[g]? = w.heap[g]?) : RowF it 2 w' g n c 38 xs := by
  obtain ⟨cur, hh, r⟩ := h
  exact ⟨cur, hk.trans hh, r⟩
theorem same_rows (g g' n c c' : Nat) (xs : List (Int × Int)) (w : World) (h1 : RowF it 2 w g n c 38 xs) (h2 : RowF it 2 w g' n c' 38 xs) : Calls Try.prog 20 #[.slice (some ⟨g, 0, none⟩) n c, .slice (some ⟨g', 0, none⟩) n c'] w fun e w' => e = .returned (.bool true) ∧ Below w.heap.size w w' := by
  have hl : xs.length = n := by obtain ⟨-, -, -, h, -⟩ := h1; exact h
  subst hl
  refine (sameList_hi (fun _ => True) (fun _ => True) _ _ _ _ c c' xs w (SF.hi (β := some g) ⟨c, rfl, h1⟩ (fun _ _ => trivial)) (SF.hi (β := some g') ⟨c', rfl, h2⟩ (fun _ _ => trivial))).mono ?_
  rintro e w' ⟨rfl, m, rfl⟩
  exact ⟨rfl, below_drewN (Below.refl _ _) _⟩
theorem KB.entry {w : World} {kb m : Nat} {S : Nat → Prop} {aL aW : Option Addr} {cL cW : Nat} {βL : Option Nat} {SL : List SV} {βW : Option Nat} {SW : List SV} {E : List (List (Int × Int))} (h : KB w kb m S (.slice aL m cL) βL SL (.slice aW m cW) βW SW E) (j : Nat) (hj : j < m) :
    ∃ gL gW sl sw e, aL = some ⟨gL, 0, none⟩ ∧ aW = some ⟨gW, 0, none⟩ ∧ w.cell? ⟨gL, j, none⟩ = some (.slice sl.a sl.n sl.c) ∧ w.cell? ⟨gW, j, none⟩ = some (.slice sw.a sw.n sw.c) ∧ HI w S sl e ∧ HI w S sw e := by
  have h1 := h.ke.1
  have h2 := h.ke.2.1
  have h3 := h.len
  have hL := h.rowL
  have hW := h.rowW
  cases βL with
  | none => have := hL.2; rw [this] at h1; simp at h1; omega
  | some gL =>
    cases βW with
    | none => have := hW.2; rw [this] at h2; simp at h2; omega
    | some gW =>
      obtain ⟨c1, e1, r1⟩ := hL
      obtain ⟨c2, e2, r2⟩ := hW
      injection e1 with e1 e3 e4
      injection e2 with e2 e5 e6
      have q1 := r1.cell sz_sv j 0 (by omega) (by omega)
      have q2 := r2.cell sz_sv j 0 (by omega) (by omega)
      simp [sv] at q1 q2
      obtain ⟨h4, h5⟩ := h.ke.2.2 j _ _ _ (List.getElem?_eq_getElem (by omega)) (List.getElem?_eq_getElem (by omega)) (List.getElem?_eq_getElem (by omega : j < E.length))
      exact ⟨gL, gW, _, _, _, e1, e2, q1, q2, h4, h5⟩
theorem FO_ok {w0 w : World} {K : Nat → Prop} {x y kb : Nat} {px py : St} {m : Nat} (h : MO w0 w K (FO x y kb px py m)) : px.ok := mo_ok h 0 rfl
theorem dueL_four (p : St) (h : p.ok) : (dueL p).length ≤ 4096 := by
  have := h.w2
  unfold dueL
  rw [items_len]
  simp [dueN]
  omega
theorem leftL_four (p : St) (h : p.ok) : (leftL p).length ≤ 4096 := by
  have := h.few
  unfold leftL
  rw [items_len]
  omega

end Go.Proofs.Ytocpfioifamkmaa
