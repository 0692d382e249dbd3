/-
  A field: what a word comes to, and where it is put.
-/
import Derived.Test.YtplmhilkehkeiaaDoorSd
namespace Go.Proofs.YtplmhilkehkeiaaDoor
open Go.RowKit
set_option linter.unusedVariables false

def valE (p : Int) (s : Bs) : Int × Int := match valP p s with | .ok v => (v, 0) | .error e => (0, e)
theorem valE_4 (s : Bs) : valE 4 s = singleE s := by
  unfold valE valP singleE
  rw [if_pos rfl]
  by_cases h : s.length = 1
  · rw [if_pos h, if_pos h]
  · rw [if_neg h, if_neg h]
theorem valE_5 (s : Bs) : valE 5 s = hexE s := by
  unfold valE valP hexE
  rw [if_neg (by decide), if_pos rfl]
  cases hexP s <;> rfl
theorem valE_n (p : Int) (s : Bs) (h4 : p ≠ 4) (h5 : p ≠ 5) : valE p s = numE s := by
  unfold valE valP numE
  rw [if_neg h4, if_neg h5]
  cases numP s <;> rfl

def cF (f : Fl) : List Value := [.int .i64 f.place, .int .i64 f.lo, .int .i64 f.hi]

set_option maxRecDepth 100000 in
set_option maxHeartbeats 4000000 in
theorem value_any (f : Fl) (s : ByteArray) (w : World) (hz : s.size ≤ 2000000) :
    Calls Tryd.prog 45 #[.agg #[.int .i64 f.place, .int .i64 f.lo, .int .i64 f.hi], .string s] w fun e w' => e = .returned (.tuple #[.int .i64 (valE f.place (tl s)).1, .int .i64 (valE f.place (tl s)).2]) ∧ Below w.heap.size w w' := by
  obtain ⟨p, lo, hi⟩ := f
  simp only
  by_cases h4 : p = 4
  · subst h4
    rw [valE_4]
    go_enter Tryd.func45, Tryd.ntmps45
    go_wp2_with (go_at_call 60; refine (single_any _ _ hz).mono ?_; rintro e w' ⟨rfl, rfl⟩)
    go_ret2
    exact ⟨rfl, (Below.refl _ _).alloc (Nat.le_refl _) _⟩
  by_cases h5 : p = 5
  · subst h5
    rw [valE_5]
    go_enter Tryd.func45, Tryd.ntmps45
    go_wp2_with (go_at_call 61; refine (hexSize_any _ _ hz).mono ?_; rintro e w' ⟨rfl, rfl⟩)
    go_ret2
    exact ⟨rfl, (Below.refl _ _).alloc (Nat.le_refl _) _⟩
  rw [valE_n p _ h4 h5]
  go_enter Tryd.func45, Tryd.ntmps45
  go_wp2_with (go_at_call 56; refine (number_any _ _).mono ?_; rintro e w' ⟨rfl, rfl⟩)
  go_ret2
  exact ⟨rfl, (Below.refl _ _).alloc (Nat.le_refl _) _⟩

/-- The cells of an entry. -/
def ecell (E : En) (v : Value) : Array Value := #[.int .i64 E.kind, .int .i64 E.site, .int .i64 E.a, .int .i64 E.b, .int .i64 E.c, .int .u8 E.ch, v, .int .i64 E.err]

/-- An entry at block x, its bytes made from block base on. -/
def EB (w : World) (base x : Nat) (E : En) : Prop := ∃ v, w.heap[x]? = some (.cells (ecell E v) 25 (0, 0)) ∧ NL bc 1 5 w base v (bI E.bytes)

theorem NL.form {α : Type} {f : α → List Value} {k : Nat} {e : TypeId} {w : World} {base : Nat} {v : Value} {xs : List α} (h : NL f k e w base v xs) : ∃ a c, v = .slice a xs.length c := by
  obtain ⟨β, h1, h2⟩ := h
  obtain ⟨a, c, h3, -⟩ := h1.form
  exact ⟨a, c, h3⟩
theorem NL.set {α : Type} {f : α → List Value} {k : Nat} {e : TypeId} {w : World} {base : Nat} {v : Value} {xs : List α} (h : NL f k e w base v xs) (x : Nat) (i : Nat) (u : Value) (hx : ∀ cur, w.heap[x]? ≠ some (.cells cur e (0, 0))) : NL f k e (w.setCell ⟨x, i, none⟩ u) base v xs := by
  obtain ⟨β, h1, h2⟩ := h
  refine ⟨β, h1.fr (Fr.setCell (S := (· = x)) w ⟨x, i, none⟩ u rfl) (fun g hg he => ?_), h2⟩
  subst he
  subst hg
  obtain ⟨cur, hc⟩ := h1.blk
  exact hx _ hc

theorem put_done {w : World} {base x : Nat} {E E' : En} {v : Value} (i : Nat) (u : Value) (o : Obj) (hx : w.heap[x]? = some (.cells (ecell E v) 25 (0, 0))) (hN : NL bc 1 5 w base v (bI E.bytes)) (hne : ∀ cur, w.heap[x]? ≠ some (.cells cur 5 (0, 0)))
    (he : ecell E' v = (ecell E v).setIfInBounds i u) (hb : E'.bytes = E.bytes) : EB ((w.setCell ⟨x, i, none⟩ u).alloc o) base x E' ∧ Fr (· = x) w ((w.setCell ⟨x, i, none⟩ u).alloc o) := by
  have F1 : Fr (· = x) w (w.setCell ⟨x, i, none⟩ u) := Fr.setCell w ⟨x, i, none⟩ u rfl
  have F2 : Fr (fun _ => False) (w.setCell ⟨x, i, none⟩ u) ((w.setCell ⟨x, i, none⟩ u).alloc o) := Fr.alloc _ _ _
  refine ⟨⟨v, ?_, ?_⟩, F1.next F2 (fun _ _ h => h.elim)⟩
  · rw [he]
    exact F2.keeps (set_row hx i u) (fun h => h)
  · rw [hb]
    exact (hN.set x i u hne).fr F2 (fun _ _ _ h => h)

set_option maxRecDepth 100000 in
set_option maxHeartbeats 4000000 in
theorem put_any (f : Fl) (s : ByteArray) (E : En) (n : Int) (base x : Nat) (w : World) (hz : s.size ≤ 2000000) (hE : EB w base x E) (hb : base ≤ w.heap.size) (hv : valP f.place (tl s) = .ok n) :
    Calls Tryd.prog 26 #[.agg #[.int .i64 f.place, .int .i64 f.lo, .int .i64 f.hi], .pointer (some ⟨x, 0, none⟩), .string s, .int .i64 n] w fun e w' => e = .returned (.tuple #[]) ∧ EB w' base x (putP E f (tl s) n) ∧ Fr (· = x) w w' := by
  obtain ⟨p, lo, hi⟩ := f
  simp only at hv ⊢
  obtain ⟨v, hx, hN⟩ := hE
  have hlt := block_lt hx
  have c1 := cell_row hx 1; have c2 := cell_row hx 2; have c3 := cell_row hx 3; have c4 := cell_row hx 4; have c5 := cell_row hx 5; have c6 := cell_row hx 6
  simp only [ecell] at c1 c2 c3 c4 c5 c6
  simp at c1 c2 c3 c4 c5 c6
  have f1 := frozen_row hx 1; have f2 := frozen_row hx 2; have f3 := frozen_row hx 3; have f4 := frozen_row hx 4; have f5 := frozen_row hx 5; have f6 := frozen_row hx 6
  have HX := hd hx
  have HN := hd hN
  have HB := hd hb
  have HV := hd hv
  clear hx hN hb hv
  have hne : ∀ cur, w.heap[x]? ≠ some (.cells cur 5 (0, 0)) := fun cur h => by
    have := HX.out
    rw [h] at this
    simp at this
  have HNE := hd hne
  clear hne
  by_cases h0 : p = 0
  · subst h0
    go_enter Tryd.func26, Tryd.ntmps26
    go_wp2_with fail
    go_end0
    exact ⟨rfl, put_done 1 _ _ HX.out HN.out HNE.out rfl rfl⟩
  by_cases h1 : p = 1
  · subst h1
    go_enter Tryd.func26, Tryd.ntmps26
    go_wp2_with fail
    go_end0
    exact ⟨rfl, put_done 2 _ _ HX.out HN.out HNE.out rfl rfl⟩
  by_cases h2 : p = 2
  · subst h2
    go_enter Tryd.func26, Tryd.ntmps26
    go_wp2_with fail
    go_end0
    exact ⟨rfl, put_done 3 _ _ HX.out HN.out HNE.out rfl rfl⟩
  by_cases h3 : p = 3
  · subst h3
    go_enter Tryd.func26, Tryd.ntmps26
    go_wp2_with fail
    go_end0
    exact ⟨rfl, put_done 4 _ _ HX.out HN.out HNE.out rfl rfl⟩
  by_cases h4 : p = 4
  · subst h4
    have hn : 0 ≤ n ∧ n < 256 := by
      have h := HV.out
      unfold valP at h
      rw [if_pos rfl] at h
      split at h
      · injection h with h
        have := (List.headD (tl s) 0).toNat_lt
        omega
      · cases h
    have hm : n % 256 = n := by omega
    have HM := hd hn
    clear hn
    go_enter Tryd.func26, Tryd.ntmps26
    go_wp2_with fail
    go_end0
    exact ⟨rfl, put_done 5 _ _ HX.out HN.out HNE.out rfl rfl⟩
  by_cases h5 : p = 5
  · subst h5
    obtain ⟨t, ht⟩ : ∃ t, hexP (tl s) = some t := by
      have h := HV.out
      unfold valP at h
      rw [if_neg (by decide), if_pos rfl] at h
      cases hh : hexP (tl s) with
      | none => rw [hh] at h; cases h
      | some t => exact ⟨t, rfl⟩
    have HT := hd ht
    clear ht
    have B1 : Below w.heap.size w (w.alloc (.cells #[.int .i64 5, .int .i64 lo, .int .i64 hi] 59)) := (Below.refl _ _).alloc (Nat.le_refl _) _
    have HB1 := hd B1
    clear B1
    go_enter Tryd.func26, Tryd.ntmps26
    go_wp2_with (go_at_call 46; refine (hexBytes_any s t _ hz HT.out).mono ?_; rintro e w2 ⟨u, rfl, hN2, hB2⟩; have HB2 := hd (HB1.out.trans (hB2.mono (by simp))); have HN2 := hd (hN2.base (base' := base) (by simp; have := HB.out; omega)); obtain ⟨ua, uc, hu⟩ := HN2.out.form; subst hu; have x2 := (Fr.of_below (S := fun _ => False) HB2.out).keeps HX.out (fun h => h); have g6 := cell_row x2 6; simp [ecell] at g6; have q6 := frozen_row x2 6; have s2 := block_lt x2; have HX2 := hd x2; clear x2 hB2 hN2)
    go_end0
    refine ⟨rfl, ⟨.slice ua (bI t).length uc, ?_, ?_⟩, (Fr.of_below HB2.out).trans (Fr.setCell _ _ _ rfl)⟩
    · rw [set_row HX2.out 6]
      rfl
    · have hbt : (putP E ⟨5, lo, hi⟩ (tl s) n).bytes = t := by
        show (hexP (tl s)).getD [] = t
        rw [HT.out]; rfl
      rw [hbt]
      exact HN2.out.set x 6 _ (fun cur h => by have := HX2.out; rw [h] at this; simp at this)
  have hput : putP E ⟨p, lo, hi⟩ (tl s) n = E := by
    unfold putP
    simp only
    rw [if_neg h0, if_neg h1, if_neg h2, if_neg h3, if_neg h4, if_neg h5]
  rw [hput]
  have B1 : Below w.heap.size w (w.alloc (.cells #[.int .i64 p, .int .i64 lo, .int .i64 hi] 59)) := (Below.refl _ _).alloc (Nat.le_refl _) _
  have HB1 := hd B1
  clear hput B1
  go_enter Tryd.func26, Tryd.ntmps26
  go_wp2_with fail
  go_end0
  exact ⟨rfl, ⟨v, (Fr.of_below (S := fun _ => False) HB1.out).keeps HX.out (fun h => h), HN.out.fr (Fr.of_below (S := fun _ => False) HB1.out) (fun _ _ _ h => h)⟩, Fr.of_below HB1.out⟩

end Go.Proofs.YtplmhilkehkeiaaDoor
