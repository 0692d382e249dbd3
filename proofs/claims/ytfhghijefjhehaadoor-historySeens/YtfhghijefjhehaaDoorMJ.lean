/-
  Texts put together: Ja Jb Jd.
-/
import Derived.Test.YtfhghijefjhehaaDoorMG
import Derived.Test.YtfhghijefjhehaaDoorME
import Derived.Test.YtfhghijefjhehaaDoorMF
import Derived.Laws.StructEq
import Derived.Deep.QuietTactic
import Derived.BigQuiet
/-! Ja -/
namespace Go.Proofs.YtfhghijefjhehaaDoor
open Go.RowKit
set_option linter.unusedVariables false

section
variable {C : Int} {log : List Ed} {evs : List Ev} {D : Nat → List El}

theorem GE.mono {i j : Nat} (h : GE C log evs i) (hj : j ≤ i) : GE C log evs j := fun a x ha hx => h a x (by omega) hx

/-- Where an event's deed lies among the deeds of its site. -/
theorem dd_at (n : Nat) {j : Nat} {e : Ev} (hj : j < n) (he : evs[j]? = some e) (ho : e.o ≠ zo) : (ddAt evs D n e.site)[dn evs j e.site]? = some (mkD (pvD evs D j e.site) e) := by
  induction n with
  | zero => omega
  | succ n ih =>
    simp only [ddAt]
    by_cases h : j = n
    · subst h
      rw [List.getElem?_append_right (by rw [ddAt_len]; exact Nat.le_refl _), ddAt_len, he]
      simp only [Nat.sub_self]
      rw [if_pos ⟨trivial, (zoB_false _).2 ho⟩]
      rfl
    · have := ih (by omega)
      rw [List.getElem?_append_left (by exact (List.getElem?_eq_some_iff.1 this).1)]
      exact this
/-- Every deed is an event's. -/
theorem dd_of (n : Nat) {c : Int} {q : Nat} {d : Dd} (h : (ddAt evs D n c)[q]? = some d) : ∃ j e, j < n ∧ evs[j]? = some e ∧ e.site = c ∧ e.o ≠ zo ∧ dn evs j c = q ∧ d = mkD (pvD evs D j c) e := by
  induction n with
  | zero => simp [ddAt] at h
  | succ n ih =>
    simp only [ddAt] at h
    by_cases hq : q < (ddAt evs D n c).length
    · rw [List.getElem?_append_left hq] at h
      obtain ⟨j, e, h1, h2⟩ := ih h
      exact ⟨j, e, by omega, h2⟩
    · rw [List.getElem?_append_right (by omega), ddAt_len] at h
      rw [ddAt_len] at hq
      cases he : evs[n]? with
      | none => rw [he] at h; simp at h
      | some e =>
        rw [he] at h
        simp only at h
        by_cases hs : e.site = c ∧ zoB e.o = false
        · rw [if_pos hs] at h
          have hq0 : q - dn evs n c = 0 := by
            have := (List.getElem?_eq_some_iff.1 h).1
            simp at this
            omega
          rw [hq0] at h
          simp at h
          exact ⟨n, e, by omega, he, hs.1, (zoB_false _).1 hs.2, by omega, h.symm⟩
        · rw [if_neg hs] at h
          simp at h

/-- What is known of an edit event. -/
theorem ev_made {j : Nat} {e : Ev} (h : GE C log evs (j + 1)) (hf : ∀ a x, a < j → evs[a]? = some x → FactE evs log a x) (he : evs[j]? = some e) (ho : e.o ≠ zo) : e.site ≠ 0 ∧ e.o.cl = e.site ∧ e.o.sq = (dn evs j e.site : Int) + 1 := by
  obtain ⟨-, -, hh⟩ := h j e (by omega) he
  rcases hh with ⟨-, -, h3⟩ | ⟨h1, -, ⟨h2, h3, h4, -⟩, -⟩ | ⟨-, h2, -⟩
  · exact absurd h3 ho
  · refine ⟨h1, h2, ?_⟩
    rw [h3, h4, made_dn hf h1]
  · exact absurd h2 ho

/-- A site's own edits in the log that it has: it has made them. -/
theorem own_le {i : Nat} (h : GE C log evs i) {c : Int} (hc : c ≠ 0) : ((ownN (log := log) (pv evs i c).hav.toNat c : Nat) : Int) ≤ (pv evs i c).made := by
  induction i with
  | zero => simp [pv, zev, ownN]
  | succ i ih =>
    have ih' := ih (h.mono (by omega))
    cases he : evs[i]? with
    | none => simp only [pv, he]; exact ih'
    | some e =>
      by_cases hs : e.site = c
      · simp only [pv, he, if_pos hs]
        obtain ⟨-, ⟨a5, -⟩, hh⟩ := h i e (by omega) he
        have hb := pv_bounds (h.mono (Nat.le_succ i)) e.site
        rcases hh with ⟨h1, -⟩ | ⟨-, -, ⟨-, -, h4, h5⟩, -⟩ | ⟨-, -, h3, h4⟩
        · exact absurd (hs.symm.trans h1) hc
        · rw [hs] at h4 h5
          rw [h4, h5]
          omega
        · have := (unm_iff e.site e.made e.hav (by omega) (by omega)).1 h4
          rw [hs] at this
          exact this
      · simp only [pv, he, if_neg hs]
        exact ih'

/-- How many edits of each client an event shows (the document's counts). -/
def nP (log : List Ed) (e : Ev) (c : Int) : Int := if 0 < e.site ∧ c = e.site then e.made else ((lgAt log e.hav.toNat c).length : Int)
/-- The deeds that an event shows: the program's, one after another. -/
def visP (log : List Ed) (evs : List Ev) (D : Nat → List El) (e : Ev) : List Dd :=
  ((log.take e.hav.toNat).filterMap fun x => (ddAt evs D evs.length x.o.cl)[x.o.sq.toNat - 1]?) ++ (ddAt evs D evs.length e.site).take e.made.toNat

/-- The document's: the events whose edit is shown. -/
def shows (log : List Ed) (e x : Ev) : Prop := x.o ≠ zo ∧ x.o.sq ≤ nP log e x.o.cl

theorem lg_mono (c : Int) {a b : Nat} (h : a ≤ b) : (lgAt log a c).length ≤ (lgAt log b c).length := by
  induction b with
  | zero => obtain rfl : a = 0 := by omega
            exact Nat.le_refl _
  | succ b ih =>
    by_cases e : a = b + 1
    · subst e; exact Nat.le_refl _
    · have := ih (by omega)
      simp only [lgAt, List.length_append]
      omega

theorem vis_iff (hg : GoodL chg C log log.length) (hE : GE C log evs evs.length) (hf : ∀ a x, a < evs.length → evs[a]? = some x → FactE evs log a x) (hall : ∀ (j : Nat) (x : Ed), log[j]? = some x → x.o.sq ≤ (dn evs evs.length x.o.cl : Int))
    {i : Nat} {e : Ev} (hi : evs[i]? = some e) (d : Dd) : d ∈ visP log evs D e ↔ ∃ j x, evs[j]? = some x ∧ shows log e x ∧ d = mkD (pvD evs D j x.site) x := by
  have hil : i < evs.length := (List.getElem?_eq_some_iff.1 hi).1
  have hpv : pv evs (i + 1) e.site = e := by simp only [pv, hi, if_true]
  have hE1 : GE C log evs (i + 1) := hE.mono (by omega)
  have hb := pv_bounds hE1 e.site
  rw [hpv] at hb
  have hlen : e.hav ≤ log.length := (hE i e hil hi).2.1.2
  have hs0 : 0 ≤ e.site := (hE i e hil hi).1.1
  have hown : e.site ≠ 0 → ((lgAt log e.hav.toNat e.site).length : Int) ≤ e.made := by
    intro hc
    have := own_le hE1 hc
    rw [hpv, ownN_eq log e.site _ (by omega)] at this
    exact this
  have zero : e.site = 0 → e.made = 0 := by
    intro h0
    obtain ⟨-, -, hh⟩ := hE i e hil hi
    rcases hh with ⟨-, h2, -⟩ | ⟨h1, -⟩ | ⟨h1, -⟩
    · exact h2
    · exact absurd h0 h1
    · exact absurd h0 h1
  constructor
  · intro hd
    rcases List.mem_append.1 hd with hd | hd
    · obtain ⟨x, hx, hdx⟩ := List.mem_filterMap.1 hd
      obtain ⟨k, hk⟩ := List.mem_iff_getElem?.1 hx
      rw [List.getElem?_take] at hk
      split at hk
      · rename_i hkh
        obtain ⟨j, y, h1, h2, h3, h4, h5, h6⟩ := dd_of _ hdx
        have hkl : k < log.length := (List.getElem?_eq_some_iff.1 hk).1
        obtain ⟨-, -, c3, -⟩ := hg k x hkl hk
        obtain ⟨m1, m2, m3⟩ := ev_made (hE.mono (show j + 1 ≤ _ by omega)) (fun a z ha => hf a z (by omega)) h2 h4
        have hsq : y.o.sq = x.o.sq := by rw [m3, h3, h5]; omega
        have hstep : (lgAt log (k + 1) x.o.cl).length = (lgAt log k x.o.cl).length + 1 := by simp [lgAt, hk]
        have hle : x.o.sq ≤ ((lgAt log e.hav.toNat x.o.cl).length : Int) := by
          have := lg_mono (log := log) x.o.cl (show k + 1 ≤ e.hav.toNat by omega)
          omega
        refine ⟨j, y, h2, ⟨h4, ?_⟩, by rw [h6, h3]⟩
        rw [hsq, m2, h3]
        unfold nP
        split
        · rename_i hh
          have := hown (by omega)
          rw [← hh.2] at this
          omega
        · exact hle
      · cases hk
    · obtain ⟨q, hq⟩ := List.mem_iff_getElem?.1 hd
      rw [List.getElem?_take] at hq
      split at hq
      · rename_i hqm
        obtain ⟨j, y, h1, h2, h3, h4, h5, h6⟩ := dd_of _ hq
        obtain ⟨m1, m2, m3⟩ := ev_made (hE.mono (show j + 1 ≤ _ by omega)) (fun a z ha => hf a z (by omega)) h2 h4
        refine ⟨j, y, h2, ⟨h4, ?_⟩, by rw [h6, h3]⟩
        unfold nP
        rw [m2, h3, if_pos ⟨by omega, rfl⟩, m3, h3]
        omega
      · cases hq
  · rintro ⟨j, x, h2, ⟨h4, h5⟩, rfl⟩
    have hjl : j < evs.length := (List.getElem?_eq_some_iff.1 h2).1
    obtain ⟨m1, m2, m3⟩ := ev_made (hE.mono (show j + 1 ≤ _ by omega)) (fun a z ha => hf a z (by omega)) h2 h4
    have hd := dd_at (D := D) evs.length hjl h2 h4
    unfold nP at h5
    refine List.mem_append.2 ?_
    split at h5
    · rename_i hh
      right
      refine List.mem_iff_getElem?.2 ⟨dn evs j x.site, ?_⟩
      rw [List.getElem?_take, if_pos (by omega), ← hh.2, m2]
      exact hd
    · left
      rw [m2] at h5
      have hgk : GoodL chg C log e.hav.toNat := fun a z ha hz => hg a z (by omega) hz
      obtain ⟨y, y1, y2, y3⟩ := lgAt_seq hgk x.site (dn evs j x.site) (by omega)
      have hk := lgAt_lt (List.getElem_mem (show dn evs j x.site < (lgAt log e.hav.toNat x.site).length by omega))
      refine List.mem_filterMap.2 ⟨y, List.mem_iff_getElem?.2 ⟨_, by rw [List.getElem?_take, if_pos hk.1]; exact y1⟩, ?_⟩
      rw [y2, y3, show ((dn evs j x.site : Int) + 1).toNat - 1 = dn evs j x.site by omega]
      exact hd
end

/-- By Client and Seq. -/
def ltK (a b : El) : Prop := a.2.1 < b.2.1 ∨ (a.2.1 = b.2.1 ∧ a.2.2 < b.2.2)
theorem ltK.irr (a : El) : ¬ ltK a a := fun h => by unfold ltK at h; omega
theorem ltK.asym {a b : El} (h : ltK a b) : ¬ ltK b a := fun k => by unfold ltK at h k; omega
/-- Two lists in that order with the same elements are the same. -/
theorem sorted_ext : ∀ {l m : List El}, l.Pairwise ltK → m.Pairwise ltK → (∀ x, x ∈ l ↔ x ∈ m) → l = m
  | [], [], _, _, _ => rfl
  | [], b :: m, _, _, h => absurd ((h b).2 List.mem_cons_self) (by simp)
  | a :: l, [], _, _, h => absurd ((h a).1 List.mem_cons_self) (by simp)
  | a :: l, b :: m, hl, hm, h => by
    obtain ⟨hl1, hl2⟩ := List.pairwise_cons.1 hl
    obtain ⟨hm1, hm2⟩ := List.pairwise_cons.1 hm
    have hab : a = b := by
      rcases List.mem_cons.1 ((h a).1 List.mem_cons_self) with e | e
      · exact e
      · rcases List.mem_cons.1 ((h b).2 List.mem_cons_self) with e' | e'
        · exact e'.symm
        · exact absurd (hl1 b e') (ltK.asym (hm1 a e))
    subst hab
    rw [sorted_ext hl2 hm2 fun x => ⟨fun hx => ?_, fun hx => ?_⟩]
    · rcases List.mem_cons.1 ((h x).1 (List.mem_cons_of_mem _ hx)) with e | e
      · subst e; exact absurd (hl1 x hx) (ltK.irr x)
      · exact e
    · rcases List.mem_cons.1 ((h x).2 (List.mem_cons_of_mem _ hx)) with e | e
      · subst e; exact absurd (hm1 x hx) (ltK.irr x)
      · exact e

end Go.Proofs.YtfhghijefjhehaaDoor

/-! Jb -/
namespace Go.Proofs.YtfhghijefjhehaaDoor
open Go.RowKit
set_option linter.unusedVariables false

theorem elFields : Tryd.prog.underlying 64 = some (.struct (Tryd.prog.fieldsOf 64)) := by kernel_rfl
theorem elHeld : Tryd.prog.stoodInHeld 64 = false := by kernel_rfl
theorem elEq (c l s c' l' s' : Int) (W : World) : (Op.equalIn 10000 64 (.agg #[.int .u8 c, .int .i64 l, .int .i64 s]) (.agg #[.int .u8 c', .int .i64 l', .int .i64 s'])).run Tryd.prog W =
    .ok (decide (c = c' ∧ l = l' ∧ s = s')) W := by
  rw [show (10000 : Nat) = 9999 + 1 from rfl, run_equalIn_struct W _ _ _ _ elFields elHeld]
  simp only [Program.fieldsOf, Tryd.underlying64]
  by_cases h2 : c = c' <;> by_cases h3 : l = l' <;> by_cases h4 : s = s' <;>
    simp [Op.eqFields, part, go_sem, h2, h3, h4]
theorem elNe {c l s c' l' s' : Int} (h : ((c, l, s) : El) ≠ (c', l', s')) (W : World) : (Op.equalIn 10000 64 (.agg #[.int .u8 c, .int .i64 l, .int .i64 s]) (.agg #[.int .u8 c', .int .i64 l', .int .i64 s'])).run Tryd.prog W = .ok false W := by
  rw [elEq]
  congr 1
  have : ¬ (c = c' ∧ l = l' ∧ s = s') := fun ⟨h1, h2, h3⟩ => h (by rw [h1, h2, h3])
  simpa using this
theorem elSame (c l s : Int) (W : World) : (Op.equalIn 10000 64 (.agg #[.int .u8 c, .int .i64 l, .int .i64 s]) (.agg #[.int .u8 c, .int .i64 l, .int .i64 s])).run Tryd.prog W = .ok true W := by
  rw [elEq]
  simp

/-- A text in memory. -/
def IsTx (w : World) (a : Option Addr) (xs : List El) : Prop := 0 < xs.length → ∃ b off, a = some ⟨b, off, none⟩ ∧ b < w.heap.size ∧ ∀ q (hq : q < xs.length), w.cell? ⟨b, off + q * 3, none⟩ = some (.int .u8 xs[q].1) ∧ w.cell? ⟨b, off + q * 3 + 1, none⟩ = some (.int .i64 xs[q].2.1) ∧ w.cell? ⟨b, off + q * 3 + 2, none⟩ = some (.int .i64 xs[q].2.2)
theorem IsTx.below {w w' : World} {a : Option Addr} {xs : List El} {B : Nat} (h : IsTx w a xs) (hb : Below B w w') (hB : w.heap.size ≤ B) : IsTx w' a xs := by
  intro hl
  obtain ⟨b, off, e, hlt, hc⟩ := h hl
  refine ⟨b, off, e, Nat.lt_of_lt_of_le hlt hb.size, fun q hq => ?_⟩
  have k : ∀ m, w'.cell? ⟨b, m, none⟩ = w.cell? ⟨b, m, none⟩ := fun m => hb.cell (p := ⟨b, m, none⟩) (show b < B by omega)
  simp only [k]
  exact hc q hq

def elV (x : El) : Value := .agg #[.int .u8 x.1, .int .i64 x.2.1, .int .i64 x.2.2]
/-- The order of Client, Seq, Ch. -/
def lessB (a b : El) : Bool := if a.2.1 ≠ b.2.1 then decide (a.2.1 < b.2.1) else if a.2.2 ≠ b.2.2 then decide (a.2.2 < b.2.2) else decide (a.1 < b.1)

set_option maxRecDepth 100000 in
set_option maxHeartbeats 2000000 in
theorem less_any (a b : El) (w : World) : Calls Tryd.prog 61 #[elV a, elV b] w fun e w' => e = .returned (.bool (lessB a b)) ∧ Below w.heap.size w w' := by
  obtain ⟨a0, a1, a2⟩ := a
  obtain ⟨b0, b1, b2⟩ := b
  unfold elV lessB
  simp only []
  go_enter Tryd.func61, Tryd.ntmps61
  by_cases h1 : a1 = b1
  · subst h1
    by_cases h2 : a2 = b2
    · subst h2
      go_wp2
      go_ret
      exact ⟨by simp, by repeat (first | exact Below.refl _ _ | refine Below.alloc ?_ (by simp) _)⟩
    · go_wp2
      go_ret
      exact ⟨by simp, by repeat (first | exact Below.refl _ _ | refine Below.alloc ?_ (by simp) _)⟩
  · go_wp2
    go_ret
    exact ⟨by simp, by repeat (first | exact Below.refl _ _ | refine Below.alloc ?_ (by simp) _)⟩

set_option maxRecDepth 100000 in
set_option maxHeartbeats 4000000 in
theorem place_el (a : Option Addr) (c : Nat) (xs : List El) (y : El) (w : World) (hT : IsTx w a xs) (hn : xs.length ≤ 9223372036854775807) :
    Calls Tryd.prog 42 #[.slice a xs.length c, elV y] w fun e w' => ∃ p : Int, e = .returned (.int .i64 p) ∧ (p < 0 ↔ y ∉ xs) ∧ Below w.heap.size w w' := by
  obtain ⟨n, hnx⟩ : ∃ n, n = xs.length := ⟨_, rfl⟩
  rw [← hnx] at hn ⊢
  have hb : Below w.heap.size w (w.alloc (.cells #[.int .u8 y.1, .int .i64 y.2.1, .int .i64 y.2.2] 64)) := (Below.refl _ _).alloc (Nat.le_refl _) _
  have hE := hd (heap_alloc_new w (.cells #[.int .u8 y.1, .int .i64 y.2.1, .int .i64 y.2.2] 64))
  have HB := hd hb
  have HT := hd (hT.below hb (Nat.le_refl _))
  have HN := hd hnx
  clear hT hb hnx
  obtain ⟨y0, y1, y2⟩ := y
  unfold elV
  simp only [] at hE HB HT ⊢
  go_enter Tryd.func42, Tryd.ntmps42
  go_upto_region 1 with fail
  generalize w.alloc (.cells #[.int .u8 y0, .int .i64 y1, .int .i64 y2] 64) = w0 at *
  go_wp2
  go_loopw [5] (fun i wr => ∃ k m : Nat, k ≤ n ∧ i = .int .i64 k ∧ wr = w0.drewN m ∧ ∀ q (hq : q < xs.length), q < k → xs[q] ≠ (y0, y1, y2)) (fun i _ => n - (intOf i).toNat)
  case atStart => exact ⟨0, 0, Nat.zero_le _, rfl, rfl, fun q _ h => by omega⟩
  case round =>
    obtain ⟨k, m, hk, rfl, rfl, hne⟩ := hrel
    by_cases hlt : k < n
    · have kx : k < xs.length := by have := HN.out; omega
      obtain ⟨b1, o1, rfl, -, hc⟩ := HT.out (by omega)
      obtain ⟨x0, x1, x2⟩ := hc k kx
      have z0 := cell_row hE.out 0; have z1 := cell_row hE.out 1; have z2 := cell_row hE.out 2
      simp at z0 z1 z2
      have i1 : (k : Int) < (n : Int) := by omega
      clear hc
      by_cases he : xs[k] = (y0, y1, y2)
      · have hm := hd (show (y0, y1, y2) ∈ xs from he ▸ List.getElem_mem kx)
        rw [he] at x0 x1 x2
        simp only [] at x0 x1 x2
        have eqs := elSame y0 y1 y2
        go_wp2
        go_quiet (fail)
        go_wp2
        go_ret
        exact ⟨k, rfl, ⟨fun h => by omega, fun h => absurd hm.out h⟩, below_drewN (below_drewN HB.out _) _⟩
      · have hne' := hd (show ∀ q (hq : q < xs.length), q < k + 1 → xs[q] ≠ (y0, y1, y2) from fun q hq h => if e : q = k then by subst e; exact he else hne q hq (by omega))
        generalize xs[k] = x at x0 x1 x2 he
        obtain ⟨xa, xb, xc⟩ := x
        simp only [] at x0 x1 x2
        have eqs := fun W => elNe he W
        go_wp2
        go_quiet (fail)
        go_wp2
        exact ⟨⟨k + 1, _, by omega, by go_num, rfl, hne'.out⟩, by simp [intOf]; omega⟩
    · obtain rfl : k = n := by omega
      have hm := hd (show (y0, y1, y2) ∉ xs from fun h => by
        obtain ⟨q, hq, e⟩ := List.getElem_of_mem h
        exact hne q hq (by have h9 := HN.out; have h10 : q < List.length (α := El) xs := hq; omega) e)
      go_wp2
      go_ret
      exact ⟨-1, rfl, ⟨fun _ => hm.out, fun _ => by omega⟩, below_drewN HB.out _⟩

end Go.Proofs.YtfhghijefjhehaaDoor

/-! Jd -/
namespace Go.Proofs.YtfhghijefjhehaaDoor
open Go.RowKit
set_option linter.unusedVariables false

def keyNe (a b : El) : Prop := ¬ (a.2.1 = b.2.1 ∧ a.2.2 = b.2.2)
theorem keyNe.symm {a b : El} (h : keyNe a b) : keyNe b a := fun k => h ⟨k.1.symm, k.2.symm⟩
theorem less_true {a b : El} (h : keyNe a b) : lessB a b = true ↔ ltK a b := by
  unfold lessB ltK keyNe at *
  by_cases h1 : a.2.1 = b.2.1
  · have h2 : a.2.2 ≠ b.2.2 := fun k => h ⟨h1, k⟩
    simp [h1, h2]
  · simp [h1]
theorem less_false {a b : El} (h : keyNe a b) (hl : lessB a b = false) : ltK b a := by
  have : ¬ ltK a b := fun k => by rw [(less_true h).2 k] at hl; cases hl
  unfold ltK keyNe at *
  omega

/-- While the element x is put to its place: what lies ahead and behind is in order, and x is ahead of all that is behind. -/
def Put (P : List El) (x : El) (S : List El) : Prop := (P ++ S).Pairwise ltK ∧ ∀ s ∈ S, ltK x s
theorem Put.start {L : List El} (h : L.Pairwise ltK) (x : El) : Put L x [] := ⟨by simpa using h, fun s hs => by cases hs⟩
theorem Put.step {P S : List El} {x y : El} (h : Put (P ++ [y]) x S) (hxy : ltK x y) : Put P x (y :: S) :=
  ⟨by simpa using h.1, fun s hs => by
    rcases List.mem_cons.1 hs with rfl | hs
    · exact hxy
    · exact h.2 s hs⟩
theorem ltK.trans {a b c : El} (h : ltK a b) (k : ltK b c) : ltK a c := by unfold ltK at *; omega
theorem Put.stop {P S : List El} {x y : El} (h : Put (P ++ [y]) x S) (hyx : ltK y x) : ((P ++ [y]) ++ x :: S).Pairwise ltK := by
  obtain ⟨h1, h2⟩ := h
  rw [List.pairwise_append] at h1 ⊢
  obtain ⟨a, b, c⟩ := h1
  refine ⟨a, List.pairwise_cons.2 ⟨h2, b⟩, fun p hp q hq => ?_⟩
  rcases List.mem_cons.1 hq with rfl | hq
  · rcases List.mem_append.1 hp with hp | hp
    · exact ((List.pairwise_append.1 a).2.2 p hp y (by simp)).trans hyx
    · simp at hp
      subst hp
      exact hyx
  · exact c p hp q hq
theorem Put.stop0 {S : List El} {x : El} (h : Put [] x S) : (x :: S).Pairwise ltK := List.pairwise_cons.2 ⟨h.2, by simpa using h.1⟩

def oEl (o : OpE) : El := (o.ch, o.cl, o.sq)
theorem elD_ins {p : List El} {x : Ev} (h : x.o.kind ≠ 2) : elD p x = oEl x.o := if_neg h
theorem elD_del {p : List El} {x : Ev} (h : x.o.kind = 2) : elD p x = p.getD x.o.pos.toNat (0, 0, 0) := if_pos h
def dEl (d : Dd) : El := (d.c, d.l, d.s)
theorem dEl_mk (p : List El) (x : Ev) : dEl (mkD p x) = elD p x := rfl

section
variable (log : List Ed) (evs : List Ev) (D : Nat → List El) (e : Ev)
def shB (x : Ev) : Bool := !zoB x.o && decide (x.o.sq ≤ nP log e x.o.cl)
def inAt : Nat → List El
  | 0 => []
  | k + 1 => inAt k ++ (match evs[k]? with | some x => if shB log e x = true ∧ x.o.kind = 1 then [oEl x.o] else [] | none => [])
def outAt : Nat → List El
  | 0 => []
  | k + 1 => outAt k ++ (match evs[k]? with | some x => if shB log e x = true ∧ x.o.kind ≠ 1 then [(pvD evs D k x.site).getD x.o.pos.toNat (0, 0, 0)] else [] | none => [])
variable {log evs D e}
theorem shB_iff (x : Ev) : shB log e x = true ↔ shows log e x := by
  unfold shB shows
  rw [Bool.and_eq_true, Bool.not_eq_true', zoB_false, decide_eq_true_iff]
theorem mem_inAt {y : El} (k : Nat) : y ∈ inAt log evs e k ↔ ∃ j x, j < k ∧ evs[j]? = some x ∧ shows log e x ∧ x.o.kind = 1 ∧ y = oEl x.o := by
  induction k with
  | zero => simp [inAt]
  | succ k ih =>
    simp only [inAt, List.mem_append, ih]
    constructor
    · rintro (⟨j, x, h1, h2⟩ | h)
      · exact ⟨j, x, by omega, h2⟩
      · cases he : evs[k]? with
        | none => rw [he] at h; simp at h
        | some x =>
          rw [he] at h
          simp only at h
          split at h
          · rename_i hc
            exact ⟨k, x, by omega, he, (shB_iff x).1 hc.1, hc.2, List.mem_singleton.1 h⟩
          · simp at h
    · rintro ⟨j, x, h1, h2, h3, h4, h5⟩
      by_cases hj : j = k
      · subst hj
        right
        rw [h2]
        simp only
        rw [if_pos ⟨(shB_iff x).2 h3, h4⟩]
        exact List.mem_singleton.2 h5
      · exact .inl ⟨j, x, by omega, h2, h3, h4, h5⟩
theorem mem_outAt {y : El} (k : Nat) : y ∈ outAt log evs D e k ↔ ∃ j x, j < k ∧ evs[j]? = some x ∧ shows log e x ∧ x.o.kind ≠ 1 ∧ y = (pvD evs D j x.site).getD x.o.pos.toNat (0, 0, 0) := by
  induction k with
  | zero => simp [outAt]
  | succ k ih =>
    simp only [outAt, List.mem_append, ih]
    constructor
    · rintro (⟨j, x, h1, h2⟩ | h)
      · exact ⟨j, x, by omega, h2⟩
      · cases he : evs[k]? with
        | none => rw [he] at h; simp at h
        | some x =>
          rw [he] at h
          simp only at h
          split at h
          · rename_i hc
            exact ⟨k, x, by omega, he, (shB_iff x).1 hc.1, hc.2, List.mem_singleton.1 h⟩
          · simp at h
    · rintro ⟨j, x, h1, h2, h3, h4, h5⟩
      by_cases hj : j = k
      · subst hj
        right
        rw [h2]
        simp only
        rw [if_pos ⟨(shB_iff x).2 h3, h4⟩]
        exact List.mem_singleton.2 h5
      · exact .inl ⟨j, x, by omega, h2, h3, h4, h5⟩

/-- No two edits have the same client and number. -/
theorem in_keys {C : Int} (hE : GE C log evs evs.length) (hf : ∀ a x, a < evs.length → evs[a]? = some x → FactE evs log a x) (k : Nat) : (inAt log evs e k).Pairwise keyNe := by
  induction k with
  | zero => exact List.Pairwise.nil
  | succ k ih =>
    simp only [inAt]
    cases he : evs[k]? with
    | none => simpa using ih
    | some x =>
      simp only
      split
      · rename_i hc
        refine List.pairwise_append.2 ⟨ih, List.pairwise_singleton _ _, fun a ha b hb => ?_⟩
        obtain rfl := List.mem_singleton.1 hb
        obtain ⟨j, y, h1, h2, h3, h4, rfl⟩ := (mem_inAt k).1 ha
        have hk : k < evs.length := (List.getElem?_eq_some_iff.1 he).1
        obtain ⟨-, m2, m3⟩ := ev_made (hE.mono (show j + 1 ≤ _ by omega)) (fun a z ha => hf a z (by omega)) h2 h3.1
        obtain ⟨-, n2, n3⟩ := ev_made (hE.mono (show k + 1 ≤ _ by omega)) (fun a z ha => hf a z (by omega)) he ((shB_iff x).1 hc.1).1
        rintro ⟨k1, k2⟩
        simp only [oEl] at k1 k2
        have hs : y.site = x.site := by omega
        have hstep : dn evs (j + 1) y.site = dn evs j y.site + 1 := by
          simp only [dn, h2]
          rw [if_pos ⟨rfl, h3.1⟩]
        have := dn_mono (evs := evs) (show j + 1 ≤ k by omega) y.site
        rw [← hs] at n3
        omega
      · simpa using ih

noncomputable def stayP (log : List Ed) (evs : List Ev) (D : Nat → List El) (e : Ev) : List El := open Classical in (inAt log evs e evs.length).filter fun y => decide (y ∉ outAt log evs D e evs.length)
theorem stay_keys {C : Int} (hE : GE C log evs evs.length) (hf : ∀ a x, a < evs.length → evs[a]? = some x → FactE evs log a x) : (stayP log evs D e).Pairwise keyNe := (in_keys hE hf _).filter _

/-- What stays: what a deed that is seen put in, and none took out. -/
theorem stay_iff {C : Int} (hg : GoodL chg C log log.length) (hE : GE C log evs evs.length) (hf : ∀ a x, a < evs.length → evs[a]? = some x → FactE evs log a x) (hall : ∀ (j : Nat) (x : Ed), log[j]? = some x → x.o.sq ≤ (dn evs evs.length x.o.cl : Int))
    (hk : ∀ (a : Nat) (x : Ev), evs[a]? = some x → x.o ≠ zo → x.o.kind = 1 ∨ x.o.kind = 2) {i : Nat} (hi : evs[i]? = some e) (y : El) :
    y ∈ stayP log evs D e ↔ (∃ d ∈ visP log evs D e, d.e.o.kind = 1 ∧ dEl d = y) ∧ ¬ ∃ d ∈ visP log evs D e, d.e.o.kind ≠ 1 ∧ dEl d = y := by
  have hv := fun d => vis_iff (D := D) hg hE hf hall hi d
  have e1 : (∃ d ∈ visP log evs D e, d.e.o.kind = 1 ∧ dEl d = y) ↔ y ∈ inAt log evs e evs.length := by
    rw [mem_inAt]
    constructor
    · rintro ⟨d, hd, h1, h2⟩
      obtain ⟨j, x, h3, h4, rfl⟩ := (hv d).1 hd
      have h1' : x.o.kind = 1 := h1
      refine ⟨j, x, (List.getElem?_eq_some_iff.1 h3).1, h3, h4, h1', ?_⟩
      rw [← h2, dEl_mk, elD_ins (by omega)]
    · rintro ⟨j, x, h1, h2, h3, h4, h5⟩
      refine ⟨_, (hv _).2 ⟨j, x, h2, h3, rfl⟩, h4, ?_⟩
      rw [h5, dEl_mk, elD_ins (by omega)]
  have e2 : (∃ d ∈ visP log evs D e, d.e.o.kind ≠ 1 ∧ dEl d = y) ↔ y ∈ outAt log evs D e evs.length := by
    rw [mem_outAt]
    constructor
    · rintro ⟨d, hd, h1, h2⟩
      obtain ⟨j, x, h3, h4, rfl⟩ := (hv d).1 hd
      have h1' : x.o.kind ≠ 1 := h1
      refine ⟨j, x, (List.getElem?_eq_some_iff.1 h3).1, h3, h4, h1', ?_⟩
      rw [← h2, dEl_mk, elD_del (by have := hk j x h3 h4.1; omega)]
    · rintro ⟨j, x, h1, h2, h3, h4, h5⟩
      refine ⟨_, (hv _).2 ⟨j, x, h2, h3, rfl⟩, h4, ?_⟩
      rw [h5, dEl_mk, elD_del (by have := hk j x h2 h3.1; omega)]
  rw [e1, e2]
  unfold stayP
  rw [List.mem_filter]
  simp
end

end Go.Proofs.YtfhghijefjhehaaDoor
