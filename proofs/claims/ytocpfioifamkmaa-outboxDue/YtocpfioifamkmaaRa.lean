/-
  Of the laws: row, drained.
-/
import Derived.Test.YtocpfioifamkmaaLimit
import Derived.Deep.QuietTactic
import Derived.BigQuiet
namespace Go.Proofs.Ytocpfioifamkmaa
open Go.RowKit
set_option linter.unusedVariables false

set_option maxRecDepth 100000 in
set_option maxHeartbeats 4000000 in
theorem row_true (g c n a : Nat) (xs : List (Int × Int)) (β : Option Nat) (v : Value) (put : List Int) (w : World) (hR : RowF it 2 w g n c 38 xs) (hn : n ≤ 4096) (hc : n ≤ c) (hc2 : c ≤ 9223372036854775807) (hP : SF ei 1 w 3 β v put) (hp : put.length ≤ 4096) (ha : a ≤ 4096)
    (hx : ∀ i, i < n → ∃ y, xs[i]? = some ((a : Int) + 1 + i, y) ∧ put[a + i]? = some y) :
    Calls Try.prog 22 #[.slice (some ⟨g, 0, none⟩) n c, .int .i64 ((a : Int) + 1), .int .i64 n, v] w fun e w' => e = .returned (.bool true) ∧ Below w.heap.size w w' := by
  obtain ⟨ap, cp, hv, hcp, hcp2⟩ := hP.form
  subst hv
  obtain ⟨m, hm⟩ : ∃ m, put.length = m := ⟨_, rfl⟩
  rw [hm] at hP hp hcp ⊢
  have HP := hd hP
  have HR := hd hR
  have HX := hd hx
  have HM := hd hm
  have hl : xs.length = n := by
    obtain ⟨cur, -, -, h, -⟩ := hR
    exact h
  have HL := hd hl
  clear hP hR hx hm hl
  go_enter Try.func22, Try.ntmps22
  go_wp2_with fail
  go_loopw [9] (fun v wr => ∃ k : Nat, k ≤ n ∧ v = .int .i64 k ∧ Hid (Below w.heap.size w wr)) (fun v _ => n - (intOf v).toNat)
  case atStart => exact ⟨0, Nat.zero_le _, rfl, Below.refl _ _⟩
  case round =>
    obtain ⟨i, hi, rfl, HB⟩ := hrel
    by_cases hlt : i < n
    · obtain ⟨y, h1, h2⟩ := HX.out i hlt
      have hil : i < xs.length := by have := HL.out; omega
      have hxi : xs[i] = ((a : Int) + 1 + i, y) := by
        rw [List.getElem?_eq_getElem hil] at h1
        injection h1
      have R1 := HR.out.fr (S := fun _ => False) (Fr.of_below HB.out) (fun h => h)
      have P1 := SF.fr (S := fun _ => False) HP.out (Fr.of_below HB.out) (fun _ _ h => h)
      have c0 : wr.cell? ⟨g, i * 2, none⟩ = some (.int .i64 ((a : Int) + 1 + i)) := by
        have := R1.cell sz_it i 0 hil (by omega)
        rw [hxi] at this
        simpa [it] using this
      have c1 : wr.cell? ⟨g, i * 2 + 1, none⟩ = some (.int .i64 y) := by
        have := R1.cell sz_it i 1 hil (by omega)
        rw [hxi] at this
        simpa [it] using this
      have hpl : a + i < put.length := (List.getElem?_eq_some_iff.1 h2).1
      obtain ⟨γ, rfl, c2⟩ : ∃ γ, ap = some ⟨γ, 0, none⟩ ∧ wr.cell? ⟨γ, a + i, none⟩ = some (.int .i64 y) := by
        cases β with
        | none =>
          have := P1.2
          rw [this] at hpl
          simp at hpl
        | some γ =>
          obtain ⟨cap, e1, e2⟩ := P1
          injection e1 with e1 e3 e4
          refine ⟨γ, e1, ?_⟩
          have := e2.cell sz_ei (a + i) 0 hpl (by omega)
          rw [List.getElem?_eq_getElem hpl] at h2
          injection h2 with h2
          rw [h2] at this
          simpa [ei] using this
      rw [HM.out] at hpl
      obtain ⟨q, hq⟩ : ∃ q, a + i = q := ⟨_, rfl⟩
      have e1 : (a : Int) + 1 + (i : Int) = (q : Int) + 1 := by omega
      rw [hq] at c2 hpl
      rw [e1] at c0
      have w0 : IntKind.i64.wrap ((a : Int) + 1 + (i : Int)) = (q : Int) + 1 := by rw [IntKind.wrap_i64]; omega
      have w1 : IntKind.i64.wrap (q : Int) = (q : Int) := by rw [IntKind.wrap_i64]; omega
      have i1 : (i : Int) < (n : Int) := by omega
      have i2 : ¬ (q : Int) + 1 < 1 := by omega
      have i3 : ¬ (m : Int) < (q : Int) + 1 := by omega
      clear h1 h2 hxi R1 P1 hil
      go_wp2_with fail
      go_quiet (fail)
      go_wp2_with fail
      exact ⟨⟨i + 1, by omega, by go_num, by repeat (first | exact HB.out | refine Below.drew ?_ | refine below_drewN ?_ _)⟩, by simp [intOf]; omega⟩
    · have i1 : ¬ (i : Int) < (n : Int) := by omega
      go_wp2
      go_ret
      exact ⟨rfl, HB.out⟩

/-- What is left is what was put, but for the acknowledged. -/
def Lk (p : St) (put : List Int) : Prop := p.last = put.length ∧ p.L = put.drop p.a

theorem Lk.len {p : St} {put : List Int} (h : Lk p put) : p.L.length = put.length - p.a ∧ p.a ≤ put.length := by
  have h1 := h.1
  unfold St.last at h1
  omega
theorem Lk.left {p : St} {put : List Int} (h : Lk p put) : ∀ i, i < p.L.length → ∃ y, (leftL p)[i]? = some ((p.a : Int) + 1 + i, y) ∧ put[p.a + i]? = some y := by
  intro i hi
  refine ⟨p.L[i], items_get p.a p.L i hi, ?_⟩
  have : p.L[i]? = put[p.a + i]? := by rw [h.2, List.getElem?_drop]
  rw [← this, List.getElem?_eq_getElem hi]
theorem Lk.due {p : St} {put : List Int} (h : Lk p put) : ∀ i, i < dueN p → ∃ y, (dueL p)[i]? = some ((p.a : Int) + 1 + i, y) ∧ put[p.a + i]? = some y := by
  intro i hi
  have hl : i < p.L.length := by simp [dueN] at hi; omega
  obtain ⟨y, h1, h2⟩ := h.left i hl
  refine ⟨y, ?_, h2⟩
  have : dueL p = (leftL p).take (dueN p) := by unfold dueL leftL; rw [items_take]
  rw [this, List.getElem?_take, if_pos hi]
  exact h1
theorem Lk.push {p : St} {put : List Int} (h : Lk p put) (hok : p.ok) (x : Int) (hf : ¬ 4096 ≤ p.last) : Lk (pushS p x) (put ++ [x]) := by
  have := h.len
  rw [pushS, if_neg hf]
  refine ⟨?_, ?_⟩
  · have := h.1; simp [St.last] at this ⊢; omega
  · show p.L ++ [x] = _
    rw [List.drop_append_of_le_length this.2, h.2]
theorem Lk.ack {p : St} {put : List Int} (h : Lk p put) (hok : p.ok) (n : Int) : Lk (ackS p n) put := by
  refine ⟨(ackS_last hok n).trans h.1, ?_⟩
  unfold ackS
  split
  · next hc =>
    show p.L.drop (n.toNat - p.a) = put.drop n.toNat
    rw [h.2, List.drop_drop]
    congr 1
    omega
  · exact h.2
theorem Lk.dueS {p : St} {put : List Int} (h : Lk p put) : Lk (dueS p) put := h
theorem Lk.reset (p : St) : Lk (resetS p) [] := ⟨rfl, rfl⟩
theorem Lk.act {p : St} {put : List Int} (h : Lk p put) (hok : p.ok) (k n : Int) (h1 : k ≠ 1) (h8 : k ≠ 8) : Lk (actS p k n) put := by
  unfold actS
  rw [if_neg h1]
  split
  · exact h.dueS
  · split
    · exact h.ack hok n
    · exact h
theorem actS_W (p : St) (k n : Int) : (actS p k n).W = p.W := by
  unfold actS pushS ackS dueS resetS
  repeat' split
  all_goals rfl

/-- The outbox and the row of what was put. -/
structure PU (w0 w : World) (x W : Nat) (p : St) (β : Option Nat) (v : Value) (put : List Int) : Prop where
  bx : BX w0 w x p (fun k => β = some k)
  row : SF ei 1 w 3 β v put
  new : ∀ g, β = some g → w0.heap.size ≤ g
  win : p.W = W
  lk : Lk p put

theorem SF.kp {α : Type} {f : α → List Value} {k : Nat} {w w' : World} {e : TypeId} {β : Option Nat} {v : Value} {xs : List α} (h : SF f k w e β v xs) (hk : KP (fun j => β = some j) w w') : SF f k w' e β v xs := by
  cases β with
  | none => exact h
  | some g =>
    obtain ⟨cap, hv, cur, hh, r⟩ := h
    exact ⟨cap, hv, cur, (hk g rfl).trans hh, r⟩

theorem PU.below {w0 w w' : World} {x W : Nat} {p : St} {β : Option Nat} {v : Value} {put : List Int} (h : PU w0 w x W p β v put) (hb : Below w.heap.size w w') : PU w0 w' x W p β v put :=
  ⟨h.bx.below hb, h.row.fr (S := fun _ => False) (Fr.of_below hb) (fun _ _ h => h), h.new, h.win, h.lk⟩
theorem PU.step {w0 w w' : World} {x W : Nat} {p p' : St} {β : Option Nat} {v : Value} {put : List Int} (h : PU w0 w x W p β v put) (h1 : BX w0 w' x p' (fun k => β = some k)) (h2 : KP (fun k => β = some k) w w') (h3 : p'.W = p.W) (h4 : Lk p' put) : PU w0 w' x W p' β v put :=
  ⟨h1, h.row.kp h2, h.new, h3.trans h.win, h4⟩

section
variable {w0 w : World} {x W : Nat} {p : St} {β : Option Nat} {v : Value} {put : List Int}
theorem pu_due (h : PU w0 w x W p β v put) : Calls Try.prog 16 #[.pointer (some ⟨x, 0, none⟩)] w fun e w' => ∃ u, e = .returned u ∧ IL w' w.heap.size u (dueL p) ∧ PU w0 w' x W (dueS p) β v put := by
  refine (bx_due h.bx).mono ?_
  rintro e w' ⟨u, rfl, h1, h2, h3⟩
  exact ⟨u, rfl, h1, h.step (h2.less (fun k hk => .inl hk)) h3 rfl h.lk.dueS⟩
theorem pu_left (h : PU w0 w x W p β v put) : Calls Try.prog 19 #[.pointer (some ⟨x, 0, none⟩)] w fun e w' => ∃ u, e = .returned u ∧ IL w' w.heap.size u (leftL p) ∧ PU w0 w' x W p β v put := by
  refine (bx_left h.bx).mono ?_
  rintro e w' ⟨u, rfl, h1, h2, h3⟩
  exact ⟨u, rfl, h1, h.step (h2.less (fun k hk => .inl hk)) h3 rfl h.lk⟩
theorem pu_ack (h : PU w0 w x W p β v put) (n : Int) : Calls Try.prog 15 #[.pointer (some ⟨x, 0, none⟩), .int .i64 n] w fun e w' => e = .returned (.int .i64 (ackE p n)) ∧ PU w0 w' x W (ackS p n) β v put := by
  refine (bx_ack h.bx n).mono ?_
  rintro e w' ⟨rfl, h1, h2⟩
  exact ⟨rfl, h.step h1 h2 (by unfold ackS; split <;> rfl) (h.lk.ack h.bx.ok n)⟩
theorem pu_last (h : PU w0 w x W p β v put) : Calls Try.prog 14 #[.pointer (some ⟨x, 0, none⟩)] w fun e w' => e = .returned (.int .i64 put.length) ∧ PU w0 w' x W p β v put := by
  refine (bx_last h.bx).mono ?_
  rintro e w' ⟨rfl, h1, h2⟩
  exact ⟨by rw [h.lk.1], h.step h1 h2 rfl h.lk⟩
theorem PU.rowDue (h : PU w0 w x W p β v put) {b : Nat} {u : Value} (hu : IL w b u (dueL p)) : Calls Try.prog 22 #[u, .int .i64 ((p.a : Int) + 1), .int .i64 (dueN p), v] w fun e w' => e = .returned (.bool true) ∧ PU w0 w' x W p β v put := by
  obtain ⟨g, c, rfl, hR, -, hc2, hc⟩ := hu.form
  have hok := h.bx.ok
  have := hok.w2
  have := hok.few
  have h1 := h.lk.len
  have h2 := h.lk.1
  have hd1 : dueN p ≤ 4096 := by simp [dueN]; omega
  rw [dueL_len p hok] at hR hc ⊢
  unfold St.last at h2
  refine (row_true g c (dueN p) p.a (dueL p) β v put w hR hd1 hc hc2 h.row (by omega) (by omega) h.lk.due).mono ?_
  rintro e w' ⟨rfl, hb⟩
  exact ⟨rfl, h.below hb⟩
theorem PU.rowLeft (h : PU w0 w x W p β v put) {b : Nat} {u : Value} (hu : IL w b u (leftL p)) : Calls Try.prog 22 #[u, .int .i64 ((p.a : Int) + 1), .int .i64 ((put.length : Int) - p.a), v] w fun e w' => e = .returned (.bool true) ∧ PU w0 w' x W p β v put := by
  obtain ⟨g, c, rfl, hR, -, hc2, hc⟩ := hu.form
  have hok := h.bx.ok
  have := hok.few
  have h1 := h.lk.len
  have h2 := h.lk.1
  have hl : (leftL p).length = p.L.length := by unfold leftL; rw [items_len]
  rw [hl] at hR hc ⊢
  unfold St.last at h2
  rw [show (put.length : Int) - p.a = (p.L.length : Nat) by omega]
  refine (row_true g c p.L.length p.a (leftL p) β v put w hR (by omega) hc hc2 h.row (by omega) (by omega) h.lk.left).mono ?_
  rintro e w' ⟨rfl, hb⟩
  exact ⟨rfl, h.below hb⟩
end

end Go.Proofs.Ytocpfioifamkmaa
