/-
  Texts put together: Wp Wq.
-/
import Derived.Test.YtmbnimlibnheeabDoorPm
/-! Wp -/
namespace Go.Proofs.YtmbnimlibnheeabDoor
set_option linter.unusedVariables false

inductive Mu where
  | nop
  | ins (e : El)
  | del (x : El)

/-- What the operation does to the text. -/
def Mean (d : List El) (o : OpE) : Mu → Prop
  | .nop => o.kind = 0
  | .ins e => o.kind = 1 ∧ o.el = e
  | .del x => (o.kind = 0 ∧ x ∉ d) ∨ (o.kind = 2 ∧ d[o.pos.toNat]? = some x)

theorem ins_td (e : El) : ∀ (d : List El) (q : Nat), q ≤ d.length → d.insertIdx q e = d.take q ++ e :: d.drop q
  | d, 0, _ => by simp
  | [], q + 1, h => by simp at h
  | y :: d, q + 1, h => by simp [List.insertIdx_succ_cons, ins_td e d q (by simpa using h)]
theorem mem_ins {d : List El} {p : Nat} {e z : El} (hp : p ≤ d.length) : z ∈ d.insertIdx p e ↔ z = e ∨ z ∈ d := List.mem_insertIdx hp
theorem mem_put {d : List El} {o : OpE} {μ : Mu} {z : El} (hf : FitO d.length o) (hm : Mean d o μ) (h : z ∈ putP d o) : z ∈ d ∨ μ = .ins z := by
  obtain ⟨k, p, ch, cl, sq⟩ := o
  rcases hf with ⟨h0, -⟩ | ⟨h0, q, h1, h2⟩ | ⟨h0, q, h1, h2⟩
  · simp only at h0
    subst h0
    rw [putP_nop] at h
    exact .inl h
  · simp only at h0 h1
    subst h0 h1
    rw [putP_ins, mem_ins h2] at h
    rcases h with h | h
    · cases μ with
      | nop => simp [Mean] at hm
      | ins e => right; rw [h, ← hm.2]; rfl
      | del x => simp [Mean] at hm
    · exact .inl h
  · simp only at h0 h1
    subst h0 h1
    rw [putP_del] at h
    exact .inl (List.mem_of_mem_eraseIdx h)
theorem nodup_put {d : List El} {o : OpE} {μ : Mu} (hd : d.Nodup) (hf : FitO d.length o) (hm : Mean d o μ) (he : ∀ e, μ = .ins e → e ∉ d) : (putP d o).Nodup := by
  obtain ⟨k, p, ch, cl, sq⟩ := o
  rcases hf with ⟨h0, -⟩ | ⟨h0, q, h1, h2⟩ | ⟨h0, q, h1, h2⟩
  · simp only at h0
    subst h0
    rw [putP_nop]
    exact hd
  · simp only at h0 h1
    subst h0 h1
    rw [putP_ins]
    have hne : ((ch, cl, sq) : El) ∉ d := by
      cases μ with
      | nop => simp [Mean] at hm
      | ins e => exact he _ (by rw [← hm.2]; rfl)
      | del x => simp [Mean] at hm
    have h2' : q ≤ d.length := h2
    rw [ins_td _ _ _ h2']
    have h3 : (d.take q ++ d.drop q).Nodup := by rw [List.take_append_drop]; exact hd
    rw [List.nodup_append] at h3 ⊢
    refine ⟨h3.1, List.nodup_cons.2 ⟨fun h => hne (List.mem_of_mem_drop h), h3.2.1⟩, fun a ha b hb => ?_⟩
    rcases List.mem_cons.1 hb with rfl | hb
    · rintro rfl
      exact hne (List.mem_of_mem_take ha)
    · exact h3.2.2 a ha b hb
  · simp only at h0 h1
    subst h0 h1
    rw [putP_del]
    exact hd.sublist (List.eraseIdx_sublist _ _)

theorem get_ins {d : List El} {q p : Nat} {e : El} (hq : q ≤ d.length) (hp : p < d.length) : (d.insertIdx q e)[if q ≤ p then p + 1 else p]? = d[p]? := by
  rw [List.getElem?_insertIdx]
  by_cases h : q ≤ p
  · rw [if_pos h, if_neg (by omega), if_neg (by omega)]
    rfl
  · rw [if_neg h, if_pos (by omega)]
theorem get_del {d : List El} {q p : Nat} (h : q ≠ p) : (d.eraseIdx q)[if q < p then p - 1 else p]? = d[p]? := by
  rw [List.getElem?_eraseIdx]
  by_cases h1 : q < p
  · rw [if_pos h1, if_neg (by omega)]
    congr 1
    omega
  · rw [if_neg h1, if_pos (by omega)]
theorem not_mem_del {d : List El} (hd : d.Nodup) {p : Nat} {x : El} (h : d[p]? = some x) : x ∉ d.eraseIdx p := by
  obtain ⟨hp, rfl⟩ := List.getElem?_eq_some_iff.1 h
  intro hm
  obtain ⟨j, hj, hne⟩ := List.mem_eraseIdx_iff_getElem.1 hm
  obtain ⟨h1, h2⟩ := hne
  have := (List.getElem_inj hd).1 h2
  exact h1 this

/-- One operation carried past another means what it meant. -/
theorem mean_shift {d : List El} {a b : OpE} {μ ν : Mu} (f : Bool) (hd : d.Nodup) (hn : d.length < 1000000) (fa : FitO d.length a) (fb : FitO d.length b) (ma : Mean d a μ) (mb : Mean d b ν) (hx : ∀ x e, μ = .del x → ν = .ins e → x ≠ e) : Mean (putP d b) (shiftP a b f) μ := by
  have keepKind : ∀ {k : Int}, a.kind = k → k ≠ 2 → (shiftP a b f).kind = k ∧ (shiftP a b f).el = a.el := by
    intro k hk h2
    unfold shiftP
    split
    · exact ⟨hk, rfl⟩
    · split
      · rename_i h3
        omega
      · split
        · exact ⟨hk, rfl⟩
        · exact ⟨hk, rfl⟩
  cases μ with
  | nop => exact (keepKind ma (by decide)).1
  | ins e =>
    obtain ⟨h1, h2⟩ := keepKind ma.1 (by decide)
    exact ⟨h1, h2.trans ma.2⟩
  | del x =>
    rcases ma with ⟨h0, hnd⟩ | ⟨h2, hg⟩
    · refine .inl ⟨(keepKind h0 (by decide)).1, fun h => ?_⟩
      rcases mem_put fb mb h with h | h
      · exact hnd h
      · exact hx x x rfl h rfl
    · obtain ⟨ka, pa, ca, la, sa⟩ := a
      obtain ⟨kb, pb, cb, lb, sb⟩ := b
      simp only at h2
      subst h2
      obtain ⟨p, rfl, hp⟩ : ∃ p : Nat, pa = p ∧ p < d.length := by
        rcases fa with ⟨h, -⟩ | ⟨h, -⟩ | ⟨-, p, h1, h2⟩
        · simp at h
        · simp at h
        · exact ⟨p, h1, h2⟩
      simp only [Int.toNat_natCast] at hg
      rcases fb with ⟨h0, -⟩ | ⟨h0, q, h1, h2⟩ | ⟨h0, q, h1, h2⟩
      · simp only at h0
        subst h0
        rw [putP_nop]
        have : shiftP ⟨2, p, ca, la, sa⟩ ⟨0, pb, cb, lb, sb⟩ f = ⟨2, p, ca, la, sa⟩ := by simp [shiftP]
        rw [this]
        exact .inr ⟨rfl, by simpa using hg⟩
      · simp only at h0 h1
        subst h0 h1
        rw [putP_ins]
        by_cases h : q ≤ p
        · have e1 : shiftP ⟨2, p, ca, la, sa⟩ ⟨1, q, cb, lb, sb⟩ f = ⟨2, (p : Int) + 1, ca, la, sa⟩ := by
            simp [shiftP, wrap_up (show p < 1000000000 by omega)]; omega
          rw [e1]
          refine .inr ⟨rfl, ?_⟩
          have := get_ins (e := ((cb, lb, sb) : El)) h2 hp
          rw [if_pos h] at this
          show (d.insertIdx q ((cb, lb, sb) : El))[((p : Int) + 1).toNat]? = some x
          rw [show ((p : Int) + 1).toNat = p + 1 by omega, this]
          exact hg
        · have e1 : shiftP ⟨2, p, ca, la, sa⟩ ⟨1, q, cb, lb, sb⟩ f = ⟨2, (p : Int), ca, la, sa⟩ := by
            simp [shiftP]; omega
          rw [e1]
          refine .inr ⟨rfl, ?_⟩
          have := get_ins (e := ((cb, lb, sb) : El)) h2 hp
          rw [if_neg h] at this
          show (d.insertIdx q ((cb, lb, sb) : El))[((p : Int)).toNat]? = some x
          rw [Int.toNat_natCast, this]
          exact hg
      · simp only at h0 h1
        subst h0 h1
        rw [putP_del]
        by_cases he : q = p
        · subst he
          have e1 : shiftP ⟨2, q, ca, la, sa⟩ ⟨2, q, cb, lb, sb⟩ f = ⟨0, 0, 0, la, sa⟩ := by simp [shiftP]
          rw [e1]
          exact .inl ⟨rfl, not_mem_del hd hg⟩
        · have hgd := get_del (d := d) he
          by_cases h : q < p
          · have e1 : shiftP ⟨2, p, ca, la, sa⟩ ⟨2, q, cb, lb, sb⟩ f = ⟨2, (p : Int) - 1, ca, la, sa⟩ := by
              have hw := wrap_dn (show p < 1000000000 by omega)
              have h3 : ¬ (p : Int) = q := by omega
              simp [shiftP, hw, h3]
              omega
            rw [e1]
            refine .inr ⟨rfl, ?_⟩
            rw [if_pos h] at hgd
            show (d.eraseIdx q)[((p : Int) - 1).toNat]? = some x
            rw [show ((p : Int) - 1).toNat = p - 1 by omega, hgd]
            exact hg
          · have e1 : shiftP ⟨2, p, ca, la, sa⟩ ⟨2, q, cb, lb, sb⟩ f = ⟨2, (p : Int), ca, la, sa⟩ := by
              have h3 : ¬ (p : Int) = q := by omega
              simp [shiftP, h3]
              omega
            rw [e1]
            refine .inr ⟨rfl, ?_⟩
            rw [if_neg h] at hgd
            show (d.eraseIdx q)[((p : Int)).toNat]? = some x
            rw [Int.toNat_natCast, hgd]
            exact hg

/-- The meanings of a line. -/
def MLw : List El → List OpE → List Mu → Prop
  | _, [], [] => True
  | d, o :: A, μ :: M => Mean d o μ ∧ MLw (putP d o) A M
  | _, [], _ :: _ => False
  | _, _ :: _, [] => False
/-- I and what is put in. -/
def grow (I : List El) : Mu → List El
  | .ins e => e :: I
  | _ => I
/-- Each is put in once, and what is taken away was there. -/
def WF : List El → List Mu → Prop
  | _, [] => True
  | I, μ :: M => (∀ e, μ = .ins e → e ∉ I) ∧ (∀ x, μ = .del x → x ∈ I) ∧ WF (grow I μ) M
theorem mem_grow {I : List El} {μ : Mu} {z : El} : z ∈ grow I μ ↔ z ∈ I ∨ μ = .ins z := by
  cases μ with
  | nop => simp [grow]
  | ins e => simp only [grow, List.mem_cons, Mu.ins.injEq]; constructor <;> (rintro (h | h) <;> first | exact .inl h | exact .inr h.symm | exact .inr h | exact .inl h.symm)
  | del x => simp [grow]
theorem WF.congr {M : List Mu} : ∀ {I J : List El}, (∀ z, z ∈ I ↔ z ∈ J) → WF I M → WF J M := by
  induction M with
  | nil => intro I J _ _; trivial
  | cons μ M ih =>
    intro I J h hw
    exact ⟨fun e he hm => hw.1 e he ((h e).2 hm), fun x hx => (h x).1 (hw.2.1 x hx), ih (fun z => by rw [mem_grow, mem_grow, h z]) hw.2.2⟩
/-- Something else is put in, that the line does not put in. -/
theorem WF.more {M : List Mu} {ν : Mu} : ∀ {I : List El}, (∀ e, ν = .ins e → Mu.ins e ∉ M) → WF I M → WF (grow I ν) M := by
  induction M with
  | nil => intro I _ _; trivial
  | cons μ M ih =>
    intro I h hw
    refine ⟨fun e he hm => ?_, fun x hx => mem_grow.2 (.inl (hw.2.1 x hx)), ?_⟩
    · rcases mem_grow.1 hm with hm | hm
      · exact hw.1 e he hm
      · exact h e hm (by rw [he]; simp)
    · exact WF.congr (fun z => by simp only [mem_grow]; constructor <;> rintro ((h1 | h1) | h1) <;> simp [h1]) (ih (I := grow I μ) (fun e he hm => h e he (by simp [hm])) hw.2.2)
theorem WF.snoc {M : List Mu} {μ : Mu} : ∀ {I : List El}, WF I M → (∀ e, μ = .ins e → e ∉ I ∧ Mu.ins e ∉ M) → (∀ x, μ = .del x → x ∈ I ∨ Mu.ins x ∈ M) → WF I (M ++ [μ]) := by
  induction M with
  | nil =>
    intro I _ h1 h2
    exact ⟨fun e he => (h1 e he).1, fun x hx => (h2 x hx).elim id (fun h => by simp at h), trivial⟩
  | cons ν M ih =>
    intro I hw h1 h2
    refine ⟨hw.1, hw.2.1, ih hw.2.2 (fun e he => ⟨fun hm => ?_, fun hm => (h1 e he).2 (by simp [hm])⟩) (fun x hx => ?_)⟩
    · rcases mem_grow.1 hm with hm | hm
      · exact (h1 e he).1 hm
      · exact (h1 e he).2 (by rw [hm]; simp)
    · rcases h2 x hx with h | h
      · exact .inl (mem_grow.2 (.inl h))
      · rcases List.mem_cons.1 h with h | h
        · exact .inl (mem_grow.2 (.inr h.symm))
        · exact .inr h
theorem MLw.snoc : ∀ {A : List OpE} {M : List Mu} {d : List El} {o : OpE} {μ : Mu}, MLw d A M → Mean (runP d A) o μ → MLw d (A ++ [o]) (M ++ [μ])
  | [], [], d, o, μ, _, h => ⟨h, trivial⟩
  | a :: A, ν :: M, d, o, μ, h, hm => ⟨h.1, MLw.snoc (A := A) h.2 hm⟩
  | [], _ :: _, _, _, _, h, _ => h.elim
  | _ :: _, [], _, _, _, h, _ => h.elim

/-- The text behind a line: no element twice, and each was there or put in. -/
theorem MLw.run : ∀ {A : List OpE} {M : List Mu} {d : List El} {I : List El}, MLw d A M → FitL d A → d.Nodup → (∀ z ∈ d, z ∈ I) → WF I M → (runP d A).Nodup ∧ ∀ z ∈ runP d A, z ∈ I ∨ Mu.ins z ∈ M
  | [], [], d, I, _, _, hd, hI, _ => ⟨hd, fun z hz => .inl (hI z hz)⟩
  | a :: A, μ :: M, d, I, h, hf, hd, hI, hw => by
    have h1 := MLw.run (A := A) (M := M) (d := putP d a) (I := grow I μ) h.2 hf.2 (nodup_put hd hf.1 h.1 (fun e he hm => hw.1 e he (hI e hm))) (fun z hz => by
      rcases mem_put hf.1 h.1 hz with h2 | h2
      · exact mem_grow.2 (.inl (hI z h2))
      · exact mem_grow.2 (.inr h2)) hw.2.2
    refine ⟨h1.1, fun z hz => ?_⟩
    rcases h1.2 z hz with h2 | h2
    · rcases mem_grow.1 h2 with h2 | h2
      · exact .inl h2
      · exact .inr (by rw [← h2]; simp)
    · exact .inr (by simp [h2])
  | [], _ :: _, _, _, h, _, _, _, _ => h.elim
  | _ :: _, [], _, _, h, _, _, _, _ => h.elim

theorem sq_any (d : List El) (b o : OpE) (f : Bool) (hn : d.length < 1000000) (hb : FitO d.length b) (ho : FitO d.length o) :
    FitO (putP d o).length (shiftP b o (!f)) ∧ FitO (putP d b).length (shiftP o b f) ∧ putP (putP d o) (shiftP b o (!f)) = putP (putP d b) (shiftP o b f) := by
  cases f with
  | true =>
    have h := square d o b hn ho hb
    exact ⟨h.fb, h.fa, h.eq⟩
  | false =>
    have h := square d b o hn hb ho
    exact ⟨h.fa, h.fb, h.eq.symm⟩

/-- One operation past a line: both mean what they meant. -/
theorem mean_through (f : Bool) : ∀ {A : List OpE} {M : List Mu} {d : List El} {I : List El} {b : OpE} {ν : Mu}, MLw d A M → FitL d A → d.Nodup → (∀ z ∈ d, z ∈ I) → WF I M → FitO d.length b → Mean d b ν → (∀ e, ν = .ins e → e ∉ I ∧ Mu.ins e ∉ M) → (∀ x, ν = .del x → x ∈ I) → d.length + A.length < 999999 →
    Mean (runP d A) (throughP b A f).1 ν ∧ MLw (putP d b) (throughP b A f).2 M
  | [], [], d, I, b, ν, _, _, _, _, _, _, hm, _, _, _ => ⟨hm, trivial⟩
  | o :: A, μ :: M, d, I, b, ν, h, hf, hd, hI, hw, hb, hm, he, hx, hn => by
    simp only [List.length_cons] at hn
    obtain ⟨s1, s2, s3⟩ := sq_any d b o f (by omega) hb hf.1
    have m1 : Mean (putP d o) (shiftP b o (!f)) ν := mean_shift (!f) hd (by omega) hb hf.1 hm h.1 (fun x e h1 h2 h3 => by
      subst h3
      exact hw.1 x h2 (hx x h1))
    have m2 : Mean (putP d b) (shiftP o b f) μ := mean_shift f hd (by omega) hf.1 hb h.1 hm (fun x e h1 h2 h3 => by
      subst h3
      exact (he x h2).1 (hw.2.1 x h1))
    have hl := putP_len d o hf.1
    have ih := mean_through f (A := A) (M := M) (d := putP d o) (I := grow I μ) (b := shiftP b o (!f)) (ν := ν) h.2 hf.2 (nodup_put hd hf.1 h.1 (fun e h1 h2 => hw.1 e h1 (hI e h2))) (fun z hz => by
      rcases mem_put hf.1 h.1 hz with h2 | h2
      · exact mem_grow.2 (.inl (hI z h2))
      · exact mem_grow.2 (.inr h2)) hw.2.2 s1 m1 (fun e h1 => ⟨fun h2 => by
        rcases mem_grow.1 h2 with h2 | h2
        · exact (he e h1).1 h2
        · exact (he e h1).2 (by rw [h2]; simp), fun h2 => (he e h1).2 (by simp [h2])⟩) (fun x h1 => mem_grow.2 (.inl (hx x h1))) (by omega)
    simp only [throughP]
    refine ⟨ih.1, m2, ?_⟩
    rw [← s3]
    exact ih.2
  | [], _ :: _, _, _, _, _, h, _, _, _, _, _, _, _, _, _ => h.elim
  | _ :: _, [], _, _, _, _, h, _, _, _, _, _, _, _, _, _ => h.elim

/-- What two texts have in common stands in one order. -/
def Same (T d : List El) : Prop := T.filter (fun z => decide (z ∈ d)) = d.filter (fun z => decide (z ∈ T))
theorem Same.refl (d : List El) : Same d d := rfl
theorem Same.put {T d : List El} {o : OpE} {μ : Mu} (h : Same T d) (hd : d.Nodup) (hf : FitO d.length o) (hm : Mean d o μ) (he : ∀ e, μ = .ins e → e ∉ T) : Same T (putP d o) := by
  obtain ⟨k, p, ch, cl, sq⟩ := o
  unfold Same at h ⊢
  rcases hf with ⟨h0, -⟩ | ⟨h0, q, h1, h2⟩ | ⟨h0, q, h1, h2⟩
  · simp only at h0
    subst h0
    rw [putP_nop]
    exact h
  · simp only at h0 h1
    subst h0 h1
    rw [putP_ins]
    have hne : ((ch, cl, sq) : El) ∉ T := by
      cases μ with
      | nop => simp [Mean] at hm
      | ins e => exact he _ (by rw [← hm.2]; rfl)
      | del x => simp [Mean] at hm
    have h2' : q ≤ d.length := h2
    have e1 : T.filter (fun z => decide (z ∈ d.insertIdx q ((ch, cl, sq) : El))) = T.filter (fun z => decide (z ∈ d)) := by
      refine List.filter_congr (fun z hz => ?_)
      have : z ≠ ((ch, cl, sq) : El) := fun h3 => hne (h3 ▸ hz)
      simp only [mem_ins h2', this, false_or]
    rw [e1, h, ins_td _ _ _ h2', List.filter_append, List.filter_cons_of_neg (by simpa using hne), ← List.filter_append, List.take_append_drop]
  · simp only at h0 h1
    subst h0 h1
    rw [putP_del]
    have h2' : q < d.length := h2
    have e0 : ∀ z, z ∈ d.eraseIdx q ↔ z ∈ d ∧ z ≠ d[q] := fun z => by
      constructor
      · intro hz
        exact ⟨List.mem_of_mem_eraseIdx hz, fun h3 => not_mem_del hd (List.getElem?_eq_getElem h2') (h3 ▸ hz)⟩
      · rintro ⟨hz, hne⟩
        obtain ⟨j, hj, rfl⟩ := List.getElem_of_mem hz
        exact List.mem_eraseIdx_iff_getElem.2 ⟨j, hj, fun h3 => hne (by subst h3; rfl), rfl⟩
    have e2 : d.eraseIdx q = d.filter (fun z => decide (z ≠ d[q])) := by
      have e3 : d.filter (fun z => decide (z ≠ d[q])) = (d.take q ++ d[q] :: d.drop (q + 1)).filter (fun z => decide (z ≠ d[q])) := by
        rw [← List.drop_eq_getElem_cons h2', List.take_append_drop]
      rw [List.eraseIdx_eq_take_drop_succ, e3, List.filter_append, List.filter_cons_of_neg (by simp)]
      have n1 : ∀ z ∈ d.take q, z ≠ d[q] := fun z hz h3 => by
        obtain ⟨j, hj, e⟩ := List.mem_take_iff_getElem.mp (h3 ▸ hz)
        have := (List.getElem_inj hd).mp e
        omega
      have n2 : ∀ z ∈ d.drop (q + 1), z ≠ d[q] := fun z hz h3 => by
        obtain ⟨j, hj, e⟩ := List.mem_drop_iff_getElem.mp (h3 ▸ hz)
        have := (List.getElem_inj hd).mp e
        omega
      rw [List.filter_eq_self.2 (fun z hz => by simpa using n1 z hz), List.filter_eq_self.2 (fun z hz => by simpa using n2 z hz)]
    have e1 : T.filter (fun z => decide (z ∈ d.eraseIdx q)) = (T.filter (fun z => decide (z ∈ d))).filter (fun z => decide (z ≠ d[q])) := by
      rw [List.filter_filter]
      refine List.filter_congr (fun z hz => ?_)
      simp only [e0]
      by_cases h3 : z ∈ d <;> by_cases h4 : z = d[q] <;> simp [h3, h4]
    rw [e1, h, e2, List.filter_filter, List.filter_filter]
    refine List.filter_congr (fun z hz => ?_)
    rw [Bool.and_comm]

end Go.Proofs.YtmbnimlibnheeabDoor

/-! Wq -/
namespace Go.Proofs.YtmbnimlibnheeabDoor
set_option linter.unusedVariables false

section
variable {N : Nat} {s t : Sd} {d0 : List El} {A1 A2 B1 B2 : List (Int × OpE)}
theorem Inv.takes_eq (h : Inv N s t d0 A1 A2 B1 B2) {p : Pc} {W : List Pc} (hw : t.way = p :: W) (hm : (N : Int) + s.made + s.made + t.made + t.made < 900000) :
    ∃ b B2t, B2 = (p.m, b) :: B2t ∧ FitO d0.length b ∧ (s.crossed p).1 = (thrQ b A2 s.f).1 ∧ FitO s.d.length (s.crossed p).1 ∧ ∃ C1 D1, Inv N (s.take p) t.sent (putP d0 b) C1 (thrQ b A2 s.f).2 D1 B2t := by
  have hts := h.ts
  have htt := h.tt
  obtain ⟨⟨m, b⟩, B2t, rfl⟩ : ∃ x l, B2 = x :: l := by
    have := h.wb
    rw [hw] at this
    cases B2 with
    | nil => simp at this
    | cons x l => exact ⟨x, l, rfl⟩
  have hpa := h.pa
  have hwb := h.wb
  rw [hw] at hpa hwb
  simp only [List.map_cons, List.cons.injEq] at hwb
  obtain ⟨rfl, hwb⟩ := hwb
  simp only [List.map_cons, Par] at hpa
  obtain ⟨e1, hpa⟩ := hpa
  have hpt : p.t ≤ t.took := h.tb p (by rw [hw]; simp)
  have hcr : s.crossed p = ((thrQ b A2 s.f).1, (thrQ p.o (dropQ A1 p.t) s.f).2 ++ (thrQ b A2 s.f).2) := by
    unfold Sd.crossed
    rw [h.qs, dropQ_app (fun x hx => by have := h.a2 x hx; omega), thrQ_app, e1]
  have hfb := h.fb
  simp only [List.map_cons, FitL] at hfb
  have hrb := h.rb
  simp only [List.map_cons, runP] at hrb
  have hla := h.la
  have hld := h.ld
  obtain ⟨g1, g2, g3⟩ := through_sq (A2.map (·.2)) d0 b s.f (by rw [List.length_map]; omega) hfb.1 h.fa
  rw [h.ra] at g1 g3
  rw [← thrQ_1] at g1 g3
  rw [← thrQ_2] at g2 g3
  have hb2 := h.b2 (p.m, b) (by simp)
  have hbr := h.br
  simp only [List.map_cons, List.pairwise_cons] at hbr
  refine ⟨b, B2t, rfl, hfb.1, by rw [hcr], by rw [hcr]; exact g1, (thrQ p.o (dropQ A1 p.t) s.f).2, B1 ++ [(p.m, b)], ?_⟩
  have hW : t.sent.way = W := by simp [Sd.sent, hw]
  have hd1 : (s.take p).d = putP s.d (thrQ b A2 s.f).1 := by simp only [Sd.take, hcr]
  have hl1 := putP_len d0 b hfb.1
  have hl2 := putP_len s.d _ g1
  have hls := h.ls
  have hlb := h.lb
  simp only [List.length_cons] at hlb
  exact {
    ff := h.ff
    qs := by simp only [Sd.take, hcr]
    qt := by simp only [Sd.sent]; rw [h.qt]; simp
    a1 := thrQ_all (p := fun m => m ≤ t.took) (fun x hx => h.a1 x (dropQ_mem hx))
    b1 := by
      intro x hx
      simp only [Sd.take]
      rcases List.mem_append.1 hx with hx | hx
      · have := h.b1 x hx
        omega
      · simp at hx
        subst hx
        exact Int.le_refl _
    a2 := thrQ_all (p := fun m => t.took < m ∧ m ≤ s.made) h.a2
    b2 := fun x hx => ⟨hbr.1 _ (List.mem_map_of_mem hx), (h.b2 x (by simp [hx])).2⟩
    ar := by rw [thrQ_m]; exact h.ar
    br := hbr.2
    ts := ⟨by simp only [Sd.take]; omega, hb2.2⟩
    tt := h.tt
    wa := by rw [thrQ_m]; exact h.wa
    wb := by rw [hW]; exact hwb
    pa := by rw [hW]; exact hpa
    pb := by
      have := Par.more s.way B1 (A2.map (·.2)) p.m b (fun p' hp => by have := h.ta p' hp; omega) h.pb
      rw [h.ff, Bool.not_not, ← thrQ_2] at this
      rw [show t.sent.f = !s.f from h.ff]
      exact this
    ta := fun p' hp => by have := h.ta p' hp; simp only [Sd.take]; omega
    tb := by rw [hW]; exact fun p' hp => h.tb p' (by rw [hw]; simp [hp])
    fa := g2
    fb := hfb.2
    ra := by rw [hd1]; exact g3
    rb := hrb
    la := by rw [thrQ_len]; exact h.la
    lb := by simp only [Sd.sent]; omega
    ld := by simp only [Sd.take, Sd.sent]; omega
    ls := by rw [hd1]; simp only [Sd.take]; omega
    lt := h.lt }

end

def lose (G : List El) : Mu → List El
  | .del x => x :: G
  | _ => G
theorem mem_lose {G : List El} {μ : Mu} {z : El} : z ∈ lose G μ ↔ z ∈ G ∨ μ = .del z := by
  cases μ with
  | nop => simp [lose]
  | ins e => simp [lose]
  | del x => simp only [lose, List.mem_cons, Mu.del.injEq]; constructor <;> (rintro (a | a) <;> first | exact .inl a | exact .inr a.symm | exact .inr a | exact .inl a.symm)

/-- The number of the element that a side makes as its k-th. -/
def keyO (base : Int) (k : Nat) : Int × Int := (base + 1 + ((k / 64 : Nat) : Int), 1 + ((k % 64 : Nat) : Int))
theorem keyO_inj {base : Int} {k j : Nat} (h : keyO base k = keyO base j) : k = j := by
  unfold keyO at h
  simp only [Prod.mk.injEq] at h
  omega

structure WI (s t : Sd) (b1 b2 : Int) (d0 : List El) (A2 B2 : List (Int × OpE)) (I0 G0 : List El) (MA MB : List Mu) (Gs Gt Ins : List El) (Ts Tt : List (List El)) : Prop where
  nd : d0.Nodup
  di : ∀ z, z ∈ d0 ↔ z ∈ I0 ∧ z ∉ G0
  gi : ∀ z, z ∈ G0 → z ∈ I0
  ma : MLw d0 (A2.map (·.2)) MA
  mb : MLw d0 (B2.map (·.2)) MB
  wa : WF I0 MA
  wb : WF I0 MB
  ra : ∀ e, Mu.ins e ∈ MA → b1 < e.2.1 ∧ e.2.1 ≤ b1 + 20
  rb : ∀ e, Mu.ins e ∈ MB → b2 < e.2.1 ∧ e.2.1 ≤ b2 + 20
  ka : ∀ z, (z ∈ I0 ∨ Mu.ins z ∈ MA) → b1 < z.2.1 → z.2.1 ≤ b1 + 20 → ∃ k, k < s.made ∧ z.2 = keyO b1 k
  kb : ∀ z, (z ∈ I0 ∨ Mu.ins z ∈ MB) → b2 < z.2.1 → z.2.1 ≤ b2 + 20 → ∃ k, k < t.made ∧ z.2 = keyO b2 k
  uni : ∀ z z', (z ∈ I0 ∨ Mu.ins z ∈ MA ∨ Mu.ins z ∈ MB) → (z' ∈ I0 ∨ Mu.ins z' ∈ MA ∨ Mu.ins z' ∈ MB) → z.2 = z'.2 → z = z'
  go : ∀ x, (x ∈ Gs ∨ x ∈ Gt) ↔ (x ∈ G0 ∨ Mu.del x ∈ MA ∨ Mu.del x ∈ MB)
  is : ∀ e, e ∈ Ins ↔ (e ∈ I0 ∨ Mu.ins e ∈ MA ∨ Mu.ins e ∈ MB)
  ni : Ins.Nodup
  ts : ∀ T ∈ Ts, (∀ z ∈ T, z ∈ I0 ∨ Mu.ins z ∈ MA) ∧ Same T s.d
  tt : ∀ T ∈ Tt, (∀ z ∈ T, z ∈ I0 ∨ Mu.ins z ∈ MB) ∧ Same T t.d
  bb : b1 = 0 ∧ b2 = 32 ∨ b1 = 32 ∧ b2 = 0

theorem or_swap3 {a b c : Prop} : (a ∨ b ∨ c) ↔ (a ∨ c ∨ b) := ⟨fun h => h.imp id Or.symm, fun h => h.imp id Or.symm⟩
section
variable {N : Nat} {s t : Sd} {b1 b2 : Int} {d0 : List El} {A1 A2 B1 B2 : List (Int × OpE)} {I0 G0 : List El} {MA MB : List Mu} {Gs Gt Ins : List El} {Ts Tt : List (List El)}
theorem WI.swap (h : WI s t b1 b2 d0 A2 B2 I0 G0 MA MB Gs Gt Ins Ts Tt) : WI t s b2 b1 d0 B2 A2 I0 G0 MB MA Gt Gs Ins Tt Ts :=
  ⟨h.nd, h.di, h.gi, h.mb, h.ma, h.wb, h.wa, h.rb, h.ra, h.kb, h.ka, fun z z' a b => h.uni z z' (or_swap3.1 a) (or_swap3.1 b), fun x => by rw [or_comm, h.go, or_swap3], fun e => by rw [h.is, or_swap3], h.ni, h.tt, h.ts, h.bb.symm.imp (fun h => ⟨h.2, h.1⟩) (fun h => ⟨h.2, h.1⟩)⟩
/-- The side's text: no element twice, each known. -/
theorem WI.text (h : WI s t b1 b2 d0 A2 B2 I0 G0 MA MB Gs Gt Ins Ts Tt) (hi : Inv N s t d0 A1 A2 B1 B2) : s.d.Nodup ∧ ∀ z ∈ s.d, z ∈ I0 ∨ Mu.ins z ∈ MA := by
  have := MLw.run h.ma hi.fa h.nd (fun z hz => ((h.di z).1 hz).1) h.wa
  rwa [hi.ra] at this

/-- One more operation of the side. -/
theorem WI.make (h : WI s t b1 b2 d0 A2 B2 I0 G0 MA MB Gs Gt Ins Ts Tt) (hi : Inv N s t d0 A1 A2 B1 B2) (o : OpE) (ho : FitO s.d.length o) (hk : (o.cl, o.sq) = keyO b1 s.made) (hm : s.made < 1000) {Gs' Ins' : List El}
    (hc : (o.kind = 0 ∧ Gs' = Gs ∧ Ins' = Ins) ∨ (o.kind = 1 ∧ Gs' = Gs ∧ Ins' = Ins ++ [o.el]) ∨ (o.kind = 2 ∧ (∃ x, s.d[o.pos.toNat]? = some x ∧ Gs' = Gs ++ [x]) ∧ Ins' = Ins)) :
    ∃ MA', WI (s.make o) t b1 b2 d0 (A2 ++ [((s.made : Int) + 1, o)]) B2 I0 G0 MA' MB Gs' Gt Ins' Ts Tt := by
  obtain ⟨nds, kn⟩ := h.text hi
  have hA : (A2 ++ [((s.made : Int) + 1, o)]).map (·.2) = A2.map (·.2) ++ [o] := by simp
  have fresh : ∀ z, (z ∈ I0 ∨ Mu.ins z ∈ MA ∨ Mu.ins z ∈ MB) → z.2 ≠ keyO b1 s.made := by
    intro z hz he
    have hcl : z.2.1 = b1 + 1 + ((s.made / 64 : Nat) : Int) := by rw [he]; rfl
    have r1 : b1 < z.2.1 ∧ z.2.1 ≤ b1 + 20 := by omega
    rcases or_assoc.2 hz with hz | hz
    · obtain ⟨k, h1, h2⟩ := h.ka z hz r1.1 r1.2
      have := keyO_inj (h2.symm.trans he)
      omega
    · have := h.rb z hz
      have := h.bb
      omega
  have step : ∀ (μ : Mu), Mean s.d o μ → (∀ e, μ = .ins e → e = o.el ∧ o.kind = 1) → (∀ x, μ = .del x → x ∈ s.d) →
      (∀ x, (x ∈ Gs' ∨ x ∈ Gt) ↔ ((x ∈ Gs ∨ x ∈ Gt) ∨ μ = .del x)) → (∀ e, e ∈ Ins' ↔ (e ∈ Ins ∨ μ = .ins e)) → Ins'.Nodup → WI (s.make o) t b1 b2 d0 (A2 ++ [((s.made : Int) + 1, o)]) B2 I0 G0 (MA ++ [μ]) MB Gs' Gt Ins' Ts Tt := by
    intro μ hμ hi1 hd1 hg hin hnd
    have inM : ∀ e, Mu.ins e ∈ MA ++ [μ] ↔ (Mu.ins e ∈ MA ∨ μ = .ins e) := fun e => by simp [eq_comm]
    have delM : ∀ e, Mu.del e ∈ MA ++ [μ] ↔ (Mu.del e ∈ MA ∨ μ = .del e) := fun e => by simp [eq_comm]
    have newk : ∀ e, μ = .ins e → e.2 = keyO b1 s.made := fun e he => by rw [(hi1 e he).1, ← hk]; rfl
    have frE : ∀ e, μ = .ins e → ¬ (e ∈ I0 ∨ Mu.ins e ∈ MA ∨ Mu.ins e ∈ MB) := fun e he hz => fresh e hz (newk e he)
    refine ⟨h.nd, h.di, h.gi, ?_, h.mb, WF.snoc h.wa (fun e he => ⟨fun h1 => frE e he (.inl h1), fun h1 => frE e he (.inr (.inl h1))⟩) (fun x hx => kn x (hd1 x hx)), h.wb, ?_, h.rb, ?_, h.kb, ?_, ?_, ?_, hnd, ?_, h.tt, h.bb⟩
    · rw [hA]
      exact MLw.snoc h.ma (by rw [hi.ra]; exact hμ)
    · intro e he
      rcases (inM e).1 he with he | he
      · exact h.ra e he
      · have h1 : e.2.1 = b1 + 1 + ((s.made / 64 : Nat) : Int) := by rw [newk e he]; rfl
        omega
    · intro z hz h1 h2
      have : (z ∈ I0 ∨ Mu.ins z ∈ MA) ∨ μ = .ins z := by rw [inM] at hz; exact or_assoc.2 hz
      rcases this with hz | hz
      · obtain ⟨k, h3, h4⟩ := h.ka z hz h1 h2
        exact ⟨k, by simp only [Sd.make]; omega, h4⟩
      · exact ⟨s.made, by simp [Sd.make], newk z hz⟩
    · intro z z' hz hz' he
      have key : ∀ z, (z ∈ I0 ∨ Mu.ins z ∈ MA ++ [μ] ∨ Mu.ins z ∈ MB) → (z ∈ I0 ∨ Mu.ins z ∈ MA ∨ Mu.ins z ∈ MB) ∨ μ = .ins z := fun z hz => by
        rw [inM] at hz
        rcases hz with hz | (hz | hz) | hz
        · exact .inl (.inl hz)
        · exact .inl (.inr (.inl hz))
        · exact .inr hz
        · exact .inl (.inr (.inr hz))
      rcases key z hz with a | a <;> rcases key z' hz' with b | b
      · exact h.uni z z' a b he
      · exact absurd (he.trans (newk z' b)) (fresh z a)
      · exact absurd (he.symm.trans (newk z a)) (fresh z' b)
      · rw [(hi1 z a).1, (hi1 z' b).1]
    · intro x
      rw [hg, h.go, delM]
      constructor
      · rintro ((a | a | a) | a)
        · exact .inl a
        · exact .inr (.inl (.inl a))
        · exact .inr (.inr a)
        · exact .inr (.inl (.inr a))
      · rintro (a | (a | a) | a)
        · exact .inl (.inl a)
        · exact .inl (.inr (.inl a))
        · exact .inr a
        · exact .inl (.inr (.inr a))
    · intro e
      rw [hin, h.is, inM]
      constructor
      · rintro ((a | a | a) | a)
        · exact .inl a
        · exact .inr (.inl (.inl a))
        · exact .inr (.inr a)
        · exact .inr (.inl (.inr a))
      · rintro (a | (a | a) | a)
        · exact .inl (.inl a)
        · exact .inl (.inr (.inl a))
        · exact .inr a
        · exact .inl (.inr (.inr a))
    · intro T hT
      obtain ⟨h1, h2⟩ := h.ts T hT
      refine ⟨fun z hz => (h1 z hz).imp id (fun h3 => (inM z).2 (.inl h3)), ?_⟩
      exact h2.put nds ho hμ (fun e he hz => frE e he ((h1 e hz).imp id .inl))
  rcases hc with ⟨h0, rfl, rfl⟩ | ⟨h0, rfl, rfl⟩ | ⟨h0, ⟨x, hx, rfl⟩, rfl⟩
  · exact ⟨_, step .nop h0 (fun e he => by cases he) (fun x hx => by cases hx) (fun x => by simp) (fun e => by simp) h.ni⟩
  · refine ⟨_, step (.ins o.el) ⟨h0, rfl⟩ (fun e he => by cases he; exact ⟨rfl, h0⟩) (fun x hx => by cases hx) (fun x => by simp) (fun e => by simp [eq_comm]) ?_⟩
    rw [List.nodup_append]
    refine ⟨h.ni, by simp, fun a ha b hb => ?_⟩
    simp at hb
    subst hb
    rintro rfl
    exact fresh _ ((h.is _).1 ha) hk
  · refine ⟨_, step (.del x) (.inr ⟨h0, hx⟩) (fun e he => by cases he) (fun y hy => by cases hy; exact List.mem_of_getElem? hx) (fun y => ?_) (fun e => by simp) h.ni⟩
    simp only [List.mem_append, List.mem_singleton, Mu.del.injEq]
    constructor
    · rintro ((a | a) | a)
      · exact .inl (.inl a)
      · exact .inr a.symm
      · exact .inl (.inr a)
    · rintro ((a | a) | a)
      · exact .inl (.inl a)
      · exact .inr a
      · exact .inl (.inr a.symm)

/-- The side takes in what comes next. -/
theorem WI.take (h : WI s t b1 b2 d0 A2 B2 I0 G0 MA MB Gs Gt Ins Ts Tt) (hi : Inv N s t d0 A1 A2 B1 B2) {p : Pc} {b : OpE} {B2t : List (Int × OpE)} (hB : B2 = (p.m, b) :: B2t) (hb : FitO d0.length b) (hcr : (s.crossed p).1 = (thrQ b A2 s.f).1) (hfit : FitO s.d.length (s.crossed p).1) (hn : d0.length + A2.length < 999999) :
    ∃ I1 G1 MB', WI (s.take p) t.sent b1 b2 (putP d0 b) (thrQ b A2 s.f).2 B2t I1 G1 MA MB' Gs Gt Ins Ts Tt := by
  subst hB
  obtain ⟨nds, kn⟩ := h.text hi
  have hmb := h.mb
  have hwb := h.wb
  have hrb := h.rb
  have huni := h.uni
  have hgo := h.go
  have his := h.is
  have hkb := h.kb
  have htt := h.tt
  cases MB with
  | nil => exact hmb.elim
  | cons ν MB =>
    simp only [List.map_cons, MLw] at hmb
    have dsub : ∀ z ∈ d0, z ∈ I0 := fun z hz => ((h.di z).1 hz).1
    have apart : ∀ e, ν = .ins e → Mu.ins e ∉ MA := fun e he hm => by
      have r1 := h.ra e hm
      have r2 := hrb e (by rw [he]; simp)
      have := h.bb
      omega
    obtain ⟨m1, m2⟩ := mean_through s.f h.ma hi.fa h.nd dsub h.wa hb hmb.1 (fun e he => ⟨hwb.1 e he, apart e he⟩) hwb.2.1 (by rw [List.length_map]; exact hn)
    rw [hi.ra, ← thrQ_1, ← hcr] at m1
    rw [← thrQ_2] at m2
    have insB : ∀ e, Mu.ins e ∈ ν :: MB ↔ (ν = .ins e ∨ Mu.ins e ∈ MB) := fun e => by simp [eq_comm]
    have delB : ∀ e, Mu.del e ∈ ν :: MB ↔ (ν = .del e ∨ Mu.del e ∈ MB) := fun e => by simp [eq_comm]
    refine ⟨grow I0 ν, lose G0 ν, MB, ?_⟩
    have gm : ∀ z, z ∈ lose G0 ν ↔ (z ∈ G0 ∨ ν = .del z) := fun z => mem_lose
    refine ⟨nodup_put h.nd hb hmb.1 (fun e he hm => hwb.1 e he (dsub e hm)), ?_, ?_, m2, hmb.2, WF.more apart h.wa, hwb.2.2, h.ra, fun e he => hrb e (by simp [he]), ?_, ?_, ?_, ?_, ?_, h.ni, ?_, ?_, h.bb⟩
    · intro z
      rw [mem_grow, gm]
      constructor
      · intro hz
        rcases mem_put hb hmb.1 hz with hz1 | hz1
        · have := (h.di z).1 hz1
          refine ⟨.inl this.1, ?_⟩
          rintro (a | a)
          · exact this.2 a
          · -- z is what is taken away: it is not there any more
            have hmn := hmb.1
            rw [a] at hmn
            rcases hmn with ⟨-, hnd⟩ | ⟨k2, hg⟩
            · exact hnd hz1
            · obtain ⟨kk, pp, cc, ll, ss⟩ := b
              simp only at k2
              subst k2
              have hz2 : z ∈ d0.eraseIdx pp.toNat := by simpa [putP] using hz
              exact not_mem_del h.nd hg hz2
        · refine ⟨.inr hz1, ?_⟩
          rintro (a | a)
          · exact hwb.1 z hz1 (h.gi z a)
          · rw [hz1] at a; cases a
      · rintro ⟨h1, h2⟩
        have g0 : z ∉ G0 := fun a => h2 (.inl a)
        have gν : ν ≠ .del z := fun a => h2 (.inr a)
        obtain ⟨kk, pp, cc, ll, ss⟩ := b
        rcases hb with ⟨k0, -⟩ | ⟨k0, q, k1, k2⟩ | ⟨k0, q, k1, k2⟩
        · simp only at k0
          subst k0
          rw [putP_nop]
          rcases h1 with h1 | h1
          · exact (h.di z).2 ⟨h1, g0⟩
          · have := hmb.1
            rw [h1] at this
            simp [Mean] at this
        · simp only at k0 k1
          subst k0 k1
          rw [putP_ins, mem_ins k2]
          rcases h1 with h1 | h1
          · exact .inr ((h.di z).2 ⟨h1, g0⟩)
          · have := hmb.1
            rw [h1] at this
            exact .inl this.2.symm
        · simp only at k0 k1
          subst k0 k1
          rw [putP_del]
          rcases h1 with h1 | h1
          · have hz := (h.di z).2 ⟨h1, g0⟩
            obtain ⟨j, hj, rfl⟩ := List.getElem_of_mem hz
            refine List.mem_eraseIdx_iff_getElem.2 ⟨j, hj, fun e => ?_, rfl⟩
            subst e
            have hmn := hmb.1
            cases ν with
            | nop => simp [Mean] at hmn
            | ins e => simp [Mean] at hmn
            | del x =>
              rcases hmn with ⟨a, -⟩ | ⟨-, a⟩
              · simp at a
              · simp only [Int.toNat_natCast] at a
                rw [List.getElem?_eq_getElem hj] at a
                exact gν (by rw [Option.some.inj a])
          · have := hmb.1
            rw [h1] at this
            simp [Mean] at this
    · intro z hz
      rcases (gm z).1 hz with a | a
      · exact mem_grow.2 (.inl (h.gi z a))
      · exact mem_grow.2 (.inl (hwb.2.1 z a))
    · intro z hz h1 h2
      have hz' : (z ∈ I0 ∨ Mu.ins z ∈ MA) ∨ ν = .ins z := by
        rcases hz with hz | hz
        · rcases mem_grow.1 hz with a | a
          · exact .inl (.inl a)
          · exact .inr a
        · exact .inl (.inr hz)
      rcases hz' with hz | hz
      · exact h.ka z hz h1 h2
      · have := hrb z (by rw [hz]; simp)
        have := h.bb
        omega
    · intro z hz h1 h2
      refine hkb z ?_ h1 h2
      rcases hz with hz | hz
      · rcases mem_grow.1 hz with a | a
        · exact .inl a
        · exact .inr (by rw [a]; simp)
      · exact .inr (by simp [hz])
    · have key : ∀ z, (z ∈ grow I0 ν ∨ Mu.ins z ∈ MA ∨ Mu.ins z ∈ MB) → (z ∈ I0 ∨ Mu.ins z ∈ MA ∨ Mu.ins z ∈ ν :: MB) := fun z hz => by
        rcases hz with hz | hz | hz
        · rcases mem_grow.1 hz with a | a
          · exact .inl a
          · exact .inr (.inr (by rw [a]; simp))
        · exact .inr (.inl hz)
        · exact .inr (.inr (by simp [hz]))
      exact fun z z' a b => huni z z' (key z a) (key z' b)
    · intro x
      rw [hgo, delB, gm]
      constructor
      · rintro (a | a | a | a)
        · exact .inl (.inl a)
        · exact .inr (.inl a)
        · exact .inl (.inr a)
        · exact .inr (.inr a)
      · rintro ((a | a) | a | a)
        · exact .inl a
        · exact .inr (.inr (.inl a))
        · exact .inr (.inl a)
        · exact .inr (.inr (.inr a))
    · intro e
      rw [his, insB, mem_grow]
      constructor
      · rintro (a | a | a | a)
        · exact .inl (.inl a)
        · exact .inr (.inl a)
        · exact .inl (.inr a)
        · exact .inr (.inr a)
      · rintro ((a | a) | a | a)
        · exact .inl a
        · exact .inr (.inr (.inl a))
        · exact .inr (.inl a)
        · exact .inr (.inr (.inr a))
    · intro T hT
      obtain ⟨h1, h2⟩ := h.ts T hT
      refine ⟨fun z hz => (h1 z hz).imp (fun a => mem_grow.2 (.inl a)) id, ?_⟩
      exact h2.put nds hfit m1 (fun e he hz => by
        rcases h1 e hz with a | a
        · exact hwb.1 e he a
        · exact apart e he a)
    · intro T hT
      obtain ⟨h1, h2⟩ := htt T hT
      refine ⟨fun z hz => ?_, h2⟩
      rcases h1 z hz with a | a
      · exact .inl (mem_grow.2 (.inl a))
      · rcases List.mem_cons.1 a with a | a
        · exact .inl (mem_grow.2 (.inr a.symm))
        · exact .inr a
end

/-- Two sides, and what was put in, taken out and shown. -/
def WT (N : Nat) (s t : Sd) (b1 b2 : Int) (Gs Gt Ins : List El) (Ts Tt : List (List El)) : Prop := ∃ d0 A1 A2 B1 B2 I0 G0 MA MB, Inv N s t d0 A1 A2 B1 B2 ∧ WI s t b1 b2 d0 A2 B2 I0 G0 MA MB Gs Gt Ins Ts Tt
section
variable {N : Nat} {s t : Sd} {b1 b2 : Int} {Gs Gt Ins : List El} {Ts Tt : List (List El)}
theorem WT.swap (h : WT N s t b1 b2 Gs Gt Ins Ts Tt) : WT N t s b2 b1 Gt Gs Ins Tt Ts := by
  obtain ⟨d0, A1, A2, B1, B2, I0, G0, MA, MB, h1, h2⟩ := h
  exact ⟨d0, B1, B2, A1, A2, I0, G0, MB, MA, h1.swap, h2.swap⟩
theorem WT.inv (h : WT N s t b1 b2 Gs Gt Ins Ts Tt) : ∃ d0 A1 A2 B1 B2, Inv N s t d0 A1 A2 B1 B2 := by
  obtain ⟨d0, A1, A2, B1, B2, I0, G0, MA, MB, h1, h2⟩ := h
  exact ⟨_, _, _, _, _, h1⟩
theorem WT.make (h : WT N s t b1 b2 Gs Gt Ins Ts Tt) (o : OpE) (ho : FitO s.d.length o) (hk : (o.cl, o.sq) = keyO b1 s.made) (hm : s.made < 1000) {Gs' Ins' : List El}
    (hc : (o.kind = 0 ∧ Gs' = Gs ∧ Ins' = Ins) ∨ (o.kind = 1 ∧ Gs' = Gs ∧ Ins' = Ins ++ [o.el]) ∨ (o.kind = 2 ∧ (∃ x, s.d[o.pos.toNat]? = some x ∧ Gs' = Gs ++ [x]) ∧ Ins' = Ins)) : WT N (s.make o) t b1 b2 Gs' Gt Ins' Ts Tt := by
  obtain ⟨d0, A1, A2, B1, B2, I0, G0, MA, MB, h1, h2⟩ := h
  obtain ⟨MA', h3⟩ := h2.make h1 o ho hk hm hc
  exact ⟨d0, A1, _, B1, B2, I0, G0, MA', MB, h1.make o ho, h3⟩
theorem WT.take (h : WT N s t b1 b2 Gs Gt Ins Ts Tt) {p : Pc} {W : List Pc} (hw : t.way = p :: W) (hm : (N : Int) + s.made + s.made + t.made + t.made < 900000) : FitO s.d.length (s.crossed p).1 ∧ WT N (s.take p) t.sent b1 b2 Gs Gt Ins Ts Tt := by
  obtain ⟨d0, A1, A2, B1, B2, I0, G0, MA, MB, h1, h2⟩ := h
  obtain ⟨b, B2t, e1, e2, e3, e4, C1, D1, h3⟩ := h1.takes_eq hw hm
  have := h1.la
  have := h1.ld
  have := h1.ts
  have := h1.tt
  obtain ⟨I1, G1, MB', h4⟩ := h2.take h1 e1 e2 e3 e4 (by omega)
  exact ⟨e4, _, _, _, _, _, I1, G1, MA, MB', h3, h4⟩
theorem WT.show_ (h : WT N s t b1 b2 Gs Gt Ins Ts Tt) : WT N s t b1 b2 Gs Gt Ins (Ts ++ [s.d]) (Tt ++ [t.d]) := by
  obtain ⟨d0, A1, A2, B1, B2, I0, G0, MA, MB, h1, h2⟩ := h
  have a := h2.text h1
  have b := h2.swap.text h1.swap
  refine ⟨d0, A1, A2, B1, B2, I0, G0, MA, MB, h1, { h2 with ts := fun T hT => ?_, tt := fun T hT => ?_ }⟩
  · rcases List.mem_append.1 hT with hT | hT
    · exact h2.ts T hT
    · simp at hT
      subst hT
      exact ⟨a.2, Same.refl _⟩
  · rcases List.mem_append.1 hT with hT | hT
    · exact h2.tt T hT
    · simp at hT
      subst hT
      exact ⟨b.2, Same.refl _⟩
theorem wt_start (d : List El) (hd : d.Nodup) (h64 : ∀ z ∈ d, z.2.1 = 64) (hu : ∀ z ∈ d, ∀ z' ∈ d, z.2 = z'.2 → z = z') : WT d.length ⟨true, d, [], 0, 0, []⟩ ⟨false, d, [], 0, 0, []⟩ 0 32 [] [] d [d] [d] := by
  refine ⟨d, [], [], [], [], d, [], [], [], inv_start d, ⟨hd, by simp, by simp, trivial, trivial, trivial, trivial, by simp, by simp, ?_, ?_, ?_, by simp, by simp, hd, ?_, ?_, .inl ⟨rfl, rfl⟩⟩⟩
  · intro z hz h1 h2
    simp at hz
    have := h64 z hz
    omega
  · intro z hz h1 h2
    simp at hz
    have := h64 z hz
    omega
  · intro z z' a b
    simp at a b
    exact hu z a z' b
  · intro T hT
    simp at hT
    subst hT
    exact ⟨fun z hz => .inl hz, Same.refl _⟩
  · intro T hT
    simp at hT
    subst hT
    exact ⟨fun z hz => .inl hz, Same.refl _⟩
/-- At the end. -/
theorem WT.fin (h : WT N s t b1 b2 Gs Gt Ins Ts Tt) (hs : s.way = []) (ht : t.way = []) : s.d = t.d ∧ s.d.Nodup ∧ Ins.Nodup ∧ (∀ z, z ∈ s.d ↔ z ∈ Ins ∧ z ∉ Gs ∧ z ∉ Gt) ∧ (∀ z ∈ Ins, ∀ z' ∈ Ins, z.2 = z'.2 → z = z') ∧ (∀ T ∈ Ts, Same T s.d ∧ ∀ z ∈ T, z ∈ Ins) ∧ (∀ T ∈ Tt, Same T s.d ∧ ∀ z ∈ T, z ∈ Ins) := by
  obtain ⟨d0, A1, A2, B1, B2, I0, G0, MA, MB, h1, h2⟩ := h
  have hA : A2 = [] := by
    have := h1.wa
    rw [hs] at this
    simpa using this.symm
  have hB : B2 = [] := by
    have := h1.wb
    rw [ht] at this
    simpa using this.symm
  subst hA hB
  have eMA : MA = [] := by
    have := h2.ma
    cases MA with
    | nil => rfl
    | cons _ _ => exact this.elim
  have eMB : MB = [] := by
    have := h2.mb
    cases MB with
    | nil => rfl
    | cons _ _ => exact this.elim
  subst eMA eMB
  have e1 : d0 = s.d := h1.ra
  have e2 : d0 = t.d := h1.rb
  have his : ∀ e, e ∈ Ins ↔ e ∈ I0 := fun e => by rw [h2.is]; simp
  have hgo : ∀ x, (x ∈ Gs ∨ x ∈ Gt) ↔ x ∈ G0 := fun x => by rw [h2.go]; simp
  refine ⟨e1.symm.trans e2, e1 ▸ h2.nd, h2.ni, fun z => ?_, fun z hz z' hz' => h2.uni z z' (.inl ((his z).1 hz)) (.inl ((his z').1 hz')), fun T hT => ⟨(h2.ts T hT).2, fun z hz => (his z).2 (((h2.ts T hT).1 z hz).elim id (fun a => by simp at a))⟩, fun T hT => ⟨?_, fun z hz => (his z).2 (((h2.tt T hT).1 z hz).elim id (fun a => by simp at a))⟩⟩
  · rw [← e1, h2.di, his, ← hgo, not_or]
  · rw [← e1, e2]
    exact (h2.tt T hT).2
end

end Go.Proofs.YtmbnimlibnheeabDoor
