/-
  A link: an outbox, an inbox, three lists, as objects that share nothing; what InboxLink knows of them.
-/
import Derived.Test.YtpjnhjijipcjkaaAll
namespace Go.Proofs.Ytpjnhjijipcjkaa
open Go.RowKit
set_option linter.unusedVariables false

/-- A list of numbers of the call. -/
def rowO (v : Value) (xs : List Int) : Thg := fun w S => ∃ β, SF ei 1 w 3 β v xs ∧ (∀ g, β = some g → S g) ∧ ∀ k, S k → k < w.heap.size
theorem frm_row (v : Value) (xs : List Int) : Frm (rowO v xs) :=
  ⟨fun w w' S T h hF hS => by
    obtain ⟨β, h1, h2, h3⟩ := h
    exact ⟨β, h1.fr hF (fun g hg => hS g (h2 g hg)), h2, fun k hk => Nat.lt_of_lt_of_le (h3 k hk) hF.size⟩, fun w S h => h.choose_spec.2.2⟩
/-- A list of items of the call. -/
def itO (v : Value) (xs : List (Int × Int)) : Thg := fun w S => ∃ β, SF it 2 w 36 β v xs ∧ (∀ g, β = some g → S g) ∧ ∀ k, S k → k < w.heap.size
theorem frm_it (v : Value) (xs : List (Int × Int)) : Frm (itO v xs) :=
  ⟨fun w w' S T h hF hS => by
    obtain ⟨β, h1, h2, h3⟩ := h
    exact ⟨β, h1.fr hF (fun g hg => hS g (h2 g hg)), h2, fun k hk => Nat.lt_of_lt_of_le (h3 k hk) hF.size⟩, fun w S h => h.choose_spec.2.2⟩

/-- The objects of InboxLink. -/
def FL (x : Nat) (o : St) (y : Nat) (p : Ib) (vg : Value) (G : List Int) (vt : Value) (T : List Int) (vd : Value) (D : List (Int × Int)) : Nat → Thg
  | 0 => boxO x o
  | 1 => inO y p
  | 2 => rowO vg G
  | 3 => rowO vt T
  | 4 => itO vd D
  | _ => noObj

section
variable {x : Nat} {o o' : St} {y : Nat} {p p' : Ib} {vg vg' : Value} {G G' : List Int} {vt : Value} {T : List Int} {vd vd' : Value} {D D' : List (Int × Int)}
theorem FL_0 : setO (FL x o y p vg G vt T vd D) 0 (boxO x o') = FL x o' y p vg G vt T vd D := by
  funext j
  rcases j with _ | _ | _ | _ | _ | j <;> simp [setO, FL]
theorem FL_1 : setO (FL x o y p vg G vt T vd D) 1 (inO y p') = FL x o y p' vg G vt T vd D := by
  funext j
  rcases j with _ | _ | _ | _ | _ | j <;> simp [setO, FL]
theorem FL_2 : setO (FL x o y p vg G vt T vd D) 2 (rowO vg' G') = FL x o y p vg' G' vt T vd D := by
  funext j
  rcases j with _ | _ | _ | _ | _ | j <;> simp [setO, FL]
theorem FL_4 : setO (FL x o y p vg G vt T vd D) 4 (itO vd' D') = FL x o y p vg G vt T vd' D' := by
  funext j
  rcases j with _ | _ | _ | _ | _ | j <;> simp [setO, FL]

variable {w0 w : World} {K : Nat → Prop}
theorem lk_push (h : MO w0 w K (FL x o y p vg G vt T vd D)) (z : Int) : Calls Try.prog 12 #[.pointer (some ⟨x, 0, none⟩), .int .i64 z] w fun e w' => e = .returned (.tuple #[.int .i64 (pushN o), .int .i64 (pushE o)]) ∧ MO w0 w' K (FL x (pushS o z) y p vg G vt T vd D) ∧ KP K w w' := by
  refine (mo_push h 0 rfl z).mono ?_
  rintro e w' ⟨rfl, h1, h2⟩
  rw [FL_0] at h1
  exact ⟨rfl, h1, h2⟩
theorem lk_ack (h : MO w0 w K (FL x o y p vg G vt T vd D)) (n : Int) : Calls Try.prog 19 #[.pointer (some ⟨x, 0, none⟩), .int .i64 n] w fun e w' => e = .returned (.int .i64 (ackE o n)) ∧ MO w0 w' K (FL x (ackS o n) y p vg G vt T vd D) ∧ KP K w w' := by
  refine (mo_ack h 0 rfl n).mono ?_
  rintro e w' ⟨rfl, h1, h2⟩
  rw [FL_0] at h1
  exact ⟨rfl, h1, h2⟩
theorem lk_acked (h : MO w0 w K (FL x o y p vg G vt T vd D)) : Calls Try.prog 20 #[.pointer (some ⟨x, 0, none⟩)] w fun e w' => e = .returned (.int .i64 o.a) ∧ w' = w := mo_acked h 0 rfl
/-- Due: the list that is answered takes the place of the one before. -/
theorem lk_due (h : MO w0 w NoK (FL x o y p vg G vt T vd D)) : Calls Try.prog 13 #[.pointer (some ⟨x, 0, none⟩)] w fun e w' => ∃ u, e = .returned u ∧ MO w0 w' NoK (FL x (dueS o) y p vg G vt T u (dueL o)) := by
  obtain ⟨S, h1, h2⟩ := h.same 0
  refine (due_any x o S w h1).mono ?_
  rintro e w' ⟨u, rfl, ⟨g, h3, hg⟩, h4, h5⟩
  obtain ⟨h6, -⟩ := h2 _ w' (frm_box x (dueS o)) h4 h5
  rw [FL_0] at h6
  refine ⟨u, rfl, ?_⟩
  obtain ⟨U, hx, hk⟩ := h6.tags
  have hgl := h3.lt g rfl
  have ht := hk g (.inr ⟨hg, hgl⟩)
  have hbs := h.base.size
  refine ⟨⟨fun k => if k = g then 5 else U k, fun i => ?_, fun k hk => hk.elim⟩, h6.base, fun k hk => hk.elim, fun i => ?_⟩
  · by_cases hi : i = 4
    · subst hi
      exact ⟨(· = g), ⟨some g, h3, fun k hk => by injection hk with hk; exact hk.symm, fun k hk => by rw [hk]; exact hgl⟩, fun k hk => by rw [hk]; simp; omega⟩
    · obtain ⟨S', h7, h8⟩ := hx i
      have he : FL x (dueS o) y p vg G vt T u (dueL o) i = FL x (dueS o) y p vg G vt T vd D i := by
        rcases i with _ | _ | _ | _ | _ | i <;> first | rfl | exact absurd rfl hi
      rw [he]
      refine ⟨S', h7, fun k hk => ?_⟩
      have := h8 k hk
      have hkg : k ≠ g := fun e => by rw [e, ht] at this; omega
      simp only [hkg, if_false]
      exact this
  · by_cases hi : i = 4
    · subst hi
      exact frm_it _ _
    · have he : FL x (dueS o) y p vg G vt T u (dueL o) i = FL x (dueS o) y p vg G vt T vd D i := by
        rcases i with _ | _ | _ | _ | _ | i <;> first | rfl | exact absurd rfl hi
      rw [he]
      exact h6.frm i
theorem lk_put (h : MO w0 w K (FL x o y p vg G vt T vd D)) (n z : Int) : Calls Try.prog 14 #[.pointer (some ⟨y, 0, none⟩), .int .i64 n, .int .i64 z] w fun e w' => e = .returned (.int .i64 (iputE p n)) ∧ MO w0 w' K (FL x o y (iputS p n (.int .i64 z)) vg G vt T vd D) ∧ KP K w w' := by
  refine (mi_put h 1 rfl n z).mono ?_
  rintro e w' ⟨rfl, h1, h2⟩
  rw [FL_1] at h1
  exact ⟨rfl, h1, h2⟩
theorem lk_pop (h : MO w0 w K (FL x o y p vg G vt T vd D)) : Calls Try.prog 16 #[.pointer (some ⟨y, 0, none⟩)] w fun e w' => e = .returned (.int .i64 (itossE p)) ∧ MO w0 w' K (FL x o y (ipopS p) vg G vt T vd D) ∧ KP K w w' := by
  refine (mi_pop h 1 rfl).mono ?_
  rintro e w' ⟨rfl, h1, h2⟩
  rw [FL_1] at h1
  exact ⟨rfl, h1, h2⟩
theorem lk_cum (h : MO w0 w K (FL x o y p vg G vt T vd D)) : Calls Try.prog 17 #[.pointer (some ⟨y, 0, none⟩)] w fun e w' => e = .returned (.int .i64 p.c) ∧ w' = w := mi_cum h 1 rfl
theorem lk_head (h : MO w0 w K (FL x o y p vg G vt T vd D)) : Calls Try.prog 15 #[.pointer (some ⟨y, 0, none⟩)] w fun e w' => e = .returned (.tuple #[atK p.H (p.c + 1) iz, .bool p.hd]) ∧ MO w0 w' K (FL x o y p vg G vt T vd D) ∧ KP K w w' := mi_head h 1 rfl
theorem lk_ok (h : MO w0 w K (FL x o y p vg G vt T vd D)) : o.ok ∧ p.ok := ⟨mo_ok h 0 rfl, (mi_ok h 1 rfl).1⟩
theorem lk_got (h : MO w0 w K (FL x o y p vg G vt T vd D)) : IsL w vg G ∧ IsL w vt T := by
  obtain ⟨S, ⟨β, h1, -⟩, -⟩ := h.now 2
  obtain ⟨S', ⟨β', h2, -⟩, -⟩ := h.now 3
  exact ⟨h1.isL, h2.isL⟩
theorem lk_item (h : MO w0 w K (FL x o y p vg G vt T vd D)) : ∃ a c, vd = .slice a D.length c ∧ D.length ≤ c ∧ c ≤ 9223372036854775807 ∧ ∀ i (hi : i < D.length), ∃ g, a = some ⟨g, 0, none⟩ ∧ w.cell? ⟨g, i * 2, none⟩ = some (.int .i64 D[i].1) ∧ w.cell? ⟨g, i * 2 + 1, none⟩ = some (.int .i64 D[i].2) := by
  obtain ⟨S, ⟨β, h1, -⟩, -⟩ := h.now 4
  cases β with
  | none =>
    obtain ⟨rfl, rfl⟩ := h1
    exact ⟨none, 0, rfl, Nat.le_refl _, by omega, fun i hi => by simp at hi⟩
  | some g =>
    obtain ⟨cap, rfl, hR⟩ := h1
    have hR' := hR
    obtain ⟨cur, -, -, -, q1, q2, -⟩ := hR
    refine ⟨_, cap, rfl, q1, q2, fun i hi => ⟨g, rfl, ?_, ?_⟩⟩
    · have := hR'.cell sz_it i 0 hi (by omega)
      simpa [it] using this
    · have := hR'.cell sz_it i 1 hi (by omega)
      simpa [it] using this
theorem lk_cumc (h : MO w0 w K (FL x o y p vg G vt T vd D)) : cumAt w y = p.c := by
  obtain ⟨S, h1, -⟩ := h.now 1
  obtain ⟨⟨b, hK, -⟩, -⟩ := h1
  have h2 := cell_row hK.box 1
  unfold cumAt
  rw [h2]
  simp [intOf]
/-- got = append(got, z): z lies in a block b that is none of the objects. -/
theorem lk_grow (h : MO w0 w K (FL x o y p vg G vt T vd D)) (b : Nat) (z : Int) (hb : w.heap[b]? = some (.cells #[.int .i64 z] 3 (0, 0))) (hn : G.length ≤ 100000) :
    ∃ v' w', (∀ ty, (Builtin.append_ #[22, 22] ty #[vg, .slice (some ⟨b, 0, none⟩) 1 1]).run Try.prog w = .ok v' w') ∧ MO w0 w' K (FL x o y p v' (G ++ [z]) vt T vd D) ∧ KP K w w' := by
  obtain ⟨S, ⟨β, h1, h2, h3⟩, h4⟩ := h.now 2
  obtain ⟨v', w', hr, hN⟩ := push_int w β vg G h1 b z hb hn
  obtain ⟨g', h5, h6, h7⟩ := hN.out
  have hlt := h5.lt g' rfl
  obtain ⟨h8, h9⟩ := h4 (rowO v' (G ++ [z])) w' (fun k => k < w'.heap.size ∧ (S k ∨ k = g')) (frm_row _ _) ⟨some g', h5, fun k hk => by injection hk with hk; subst hk; exact ⟨hlt, .inr rfl⟩, fun k hk => hk.1⟩ (fun k hk => by
    rcases hk.2 with hk | rfl
    · exact .inl hk
    · rcases h6 with h6 | h6
      · exact .inl (h2 _ h6)
      · exact .inr (by omega)) (h7.mono (fun k _ hk => h2 k hk))
  rw [FL_2] at h8
  exact ⟨v', w', hr, h8, h9⟩
end

/-- What InboxLink knows: T: all things; P: how many were pushed. -/
structure LI (T : List Int) (W R P : Nat) (o : St) (p : Ib) : Prop where
  win : o.W = W
  reo : p.R = R
  left : o.L = (T.take P).drop o.a
  aP : o.a ≤ P
  pT : P ≤ T.length
  t4 : T.length ≤ 4096
  ac : o.a ≤ p.c
  cs : p.c ≤ o.s
  val : ∀ q ∈ p.H, q.1 ≤ o.s ∧ T[q.1 - 1]?.map (Value.int .i64) = some q.2

section
variable {T : List Int} {W R P : Nat} {o : St} {p : Ib}
theorem LI.len (h : LI T W R P o p) : o.L.length = P - o.a := by
  rw [h.left]
  have := h.pT
  simp
  omega
theorem LI.last (h : LI T W R P o p) : o.last = P := by
  have := h.len
  have := h.aP
  unfold St.last
  omega
theorem LI.sP (h : LI T W R P o p) (ho : o.ok) : o.s ≤ P := by
  have := ho.sl
  have := h.len
  have := h.aP
  omega
theorem LI.push (h : LI T W R P o p) (ho : o.ok) (hP : P < T.length) : pushN o = (P : Int) + 1 ∧ pushE o = 0 ∧ LI T W R (P + 1) (pushS o T[P]) p := by
  have hl := h.last
  have h4 := h.t4
  have e : ¬ 4096 ≤ o.last := by omega
  refine ⟨by rw [pushN, if_neg e, hl], by rw [pushE, if_neg e], ?_⟩
  rw [pushS, if_neg e]
  refine ⟨h.win, h.reo, ?_, by have := h.aP; simp; omega, hP, h4, h.ac, h.cs, h.val⟩
  simp only
  rw [h.left, List.take_succ_eq_append_getElem hP, List.drop_append_of_le_length (by have := h.aP; simp; omega)]
theorem LI.due (h : LI T W R P o p) : LI T W R P (dueS o) p :=
  ⟨h.win, h.reo, h.left, h.aP, h.pT, h.t4, h.ac, Nat.le_trans h.cs (by simp [dueS]; omega), fun q hq => ⟨Nat.le_trans (h.val q hq).1 (by simp [dueS]; omega), (h.val q hq).2⟩⟩
/-- The items that are due. -/
theorem LI.item (h : LI T W R P o p) (ho : o.ok) (i : Nat) (hi : i < (dueL o).length) : ∃ n : Nat, (dueL o)[i].1 = n ∧ n = o.a + 1 + i ∧ n ≤ (dueS o).s ∧ T[n - 1]? = some (dueL o)[i].2 := by
  have hl : (dueL o).length = dueN o := by
    unfold dueL
    rw [items_len]
    simp [dueN]
  have hn : dueN o ≤ o.L.length := by simp [dueN]; omega
  have hi2 : i < (o.L.take (dueN o)).length := by simp; omega
  have h1 := items_get o.a (o.L.take (dueN o)) i hi2
  have h2 : (dueL o)[i]? = some ((o.a : Int) + 1 + i, (o.L.take (dueN o))[i]) := h1
  rw [List.getElem?_eq_getElem hi] at h2
  injection h2 with h2
  rw [h2]
  refine ⟨o.a + 1 + i, by omega, rfl, ?_, ?_⟩
  · simp only [dueS]; omega
  · have hlen := h.len
    have hpT := h.pT
    have haP := h.aP
    simp only [List.getElem_take, h.left, List.getElem_drop]
    rw [show o.a + 1 + i - 1 = o.a + i by omega]
    rw [List.getElem?_eq_getElem (by omega)]
theorem LI.ack (h : LI T W R P o p) (ho : o.ok) (hp : p.ok) : ackE o p.c = 0 ∧ LI T W R P (ackS o p.c) p ∧ (ackS o p.c).a = p.c := by
  have h1 := h.cs
  have h2 := h.ac
  have h3 := h.sP ho
  refine ⟨by rw [ackE, if_neg (by omega)], ?_⟩
  unfold ackS
  by_cases hc : o.a < p.c
  · rw [if_pos (by omega), Int.toNat_natCast]
    refine ⟨⟨h.win, h.reo, ?_, by simp only; omega, h.pT, h.t4, Nat.le_refl _, h1, h.val⟩, rfl⟩
    simp only
    rw [h.left, List.drop_drop]
    congr 1
    omega
  · rw [if_neg (by omega)]
    exact ⟨h, by omega⟩
theorem LI.put (h : LI T W R P o p) (n : Nat) (z : Int) (hn : n ≤ o.s) (hz : T[n - 1]? = some z) : LI T W R P o (iputS p n (.int .i64 z)) := by
  unfold iputS
  split
  · refine ⟨h.win, h.reo, h.left, h.aP, h.pT, h.t4, h.ac, h.cs, fun q hq => ?_⟩
    simp at hq
    rcases hq with hq | rfl
    · exact h.val q hq
    · exact ⟨hn, by simp only; rw [hz]; rfl⟩
  · exact h
/-- What was put or refused is refused at once again. -/
theorem put_again (p : Ib) (n : Int) (v u : Value) : iputS (iputS p n v) n u = iputS p n v := by
  by_cases h : iputE p n = 0
  · have hs : iputS p n v = { p with H := p.H ++ [(n.toNat, v)] } := by rw [iputS, if_pos h]
    obtain ⟨h1, h2, -⟩ := iputE_ok h
    have : iputE (iputS p n v) n ≠ 0 := by
      rw [hs, iputE, if_neg (by omega), if_pos (.inr (by simp [hasK_snoc]))]
      omega
    rw [iputS, if_neg this]
  · have hs : iputS p n v = p := by rw [iputS, if_neg h]
    rw [hs, iputS, if_neg h]
theorem LI.pop (h : LI T W R P o p) (hh : p.hd = true) : LI T W R P o (ipopS p) ∧ (ipopS p).c = p.c + 1 ∧ p.c + 1 ≤ o.s ∧ ∃ z, atK p.H (p.c + 1) iz = .int .i64 z ∧ T[p.c]? = some z := by
  have hm := atK_mem (z := iz) hh
  obtain ⟨h1, h2⟩ := h.val _ hm
  simp only [Nat.add_sub_cancel] at h1 h2
  have hz : ∃ z, T[p.c]? = some z := by
    cases ht : T[p.c]? with
    | none => rw [ht] at h2; simp at h2
    | some z => exact ⟨z, rfl⟩
  obtain ⟨z, hz⟩ := hz
  rw [hz] at h2
  simp at h2
  rw [ipopS, if_pos hh]
  exact ⟨⟨h.win, h.reo, h.left, h.aP, h.pT, h.t4, by have := h.ac; simp only; omega, h1, fun q hq => h.val q (cut_mem hq).1⟩, rfl, h1, z, h2.symm, hz⟩
end

end Go.Proofs.Ytpjnhjijipcjkaa
