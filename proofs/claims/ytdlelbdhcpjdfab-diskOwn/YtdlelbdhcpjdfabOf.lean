/-
  The kept lists: the steps of marked, without the walk.
-/
import Derived.Test.YtdlelbdhcpjdfabOc
namespace Go.Proofs.Ytdlelbdhcpjdfab
open Go.RowKit
set_option linter.unusedVariables false

/-- What turns of the blocks that were there: none that is loose, but for g. -/
def MK (ws : World) (tag : Nat → Nat) (g : Nat) (w' : World) (tag' : Nat → Nat) : Prop :=
  Fr (fun k => ¬ tag k = 6 ∨ k = g) ws w' ∧ (∀ k, k < ws.heap.size → tag k = 6 → ¬ k = g → tag' k = 6)

theorem MK.next {ws wk w' : World} {tag tk t' : Nat → Nat} {g : Nat} {S : Nat → Prop} (h : MK ws tag g wk tk) (hF : Fr S wk w') (hS : ∀ k, k < wk.heap.size → S k → ¬ tk k = 6 ∨ k = g) (ht : ∀ k, k < ws.heap.size → ¬ k = g → tk k = 6 → t' k = 6) : MK ws tag g w' t' := by
  refine ⟨⟨hF.os.trans h.1.os, hF.tape.trans h.1.tape, hF.output.trans h.1.output, Nat.le_trans h.1.size hF.size, fun k hk hn => ?_⟩, fun k hk h6 hg => ht k hk hg (h.2 k hk h6 hg)⟩
  have h6 : tag k = 6 := by
    by_cases e : tag k = 6
    · exact e
    · exact absurd (.inl e) hn
  have hg : ¬ k = g := fun e => hn (.inr e)
  have hkl := Nat.lt_of_lt_of_le hk h.1.size
  refine (hF.block k hkl (fun s => ?_)).trans (h.1.block k hk hn)
  rcases hS k hkl s with e | e
  · exact e (h.2 k hk h6 hg)
  · exact hg e

theorem MK.next' {ws wk w' : World} {tag tk t' : Nat → Nat} {g : Nat} {S : Nat → Prop} (h : MK ws tag g wk tk) (hF : Fr S wk w') (hS : ∀ k, k < ws.heap.size → ¬ S k) (ht : ∀ k, k < ws.heap.size → ¬ k = g → tk k = 6 → t' k = 6) : MK ws tag g w' t' :=
  ⟨⟨hF.os.trans h.1.os, hF.tape.trans h.1.tape, hF.output.trans h.1.output, Nat.le_trans h.1.size hF.size, fun k hk hn => (hF.block k (Nat.lt_of_lt_of_le hk h.1.size) (hS k hk)).trans (h.1.block k hk hn)⟩, fun k hk h6 hg => ht k hk hg (h.2 k hk h6 hg)⟩

/-- The state within marked: b, whose block is g, and what was appended to it, at g'. -/
structure Bun (w ws : World) (tag : Nat → Nat) (K rd rx : Nat) (ρd ρw : Option Nat) (td tw : FS) (g n cap : Nat) (zs : List Int) (g' n' cap' : Nat) (zs' : List Int) (wk : World) (βL βW : Option Nat) (Lv Wv : Value) (LL WW : List Value) (tk : Nat → Nat) : Prop where
  k : KSt w wk K rd rx ρd ρw βL βW td tw Lv Wv LL WW tk
  m : MK ws tag g wk tk
  r1 : RowB wk g n cap zs
  t1 : tk g = 6 ∨ tk g = 5
  r2 : RowB wk g' n' cap' zs'
  t2 : tk g' = 6 ∨ tk g' = 5

section
variable {w ws wk w' : World} {tag tk : Nat → Nat} {K rd rx : Nat} {ρd ρw : Option Nat} {td tw : FS} {g n cap : Nat} {zs : List Int} {g' n' cap' : Nat} {zs' : List Int} {βL βW : Option Nat} {Lv Wv : Value} {LL WW : List Value}

theorem Bun.bel (h : Bun w ws tag K rd rx ρd ρw td tw g n cap zs g' n' cap' zs' wk βL βW Lv Wv LL WW tk) (hb : Below wk.heap.size wk w') :
    ∃ t', Bun w ws tag K rd rx ρd ρw td tw g n cap zs g' n' cap' zs' w' βL βW Lv Wv LL WW t' ∧ (∀ k, k < wk.heap.size → t' k = tk k) ∧ ∀ k, wk.heap.size ≤ k → t' k = 6 := by
  have old : ∀ k, k < wk.heap.size → (if wk.heap.size ≤ k then 6 else tk k) = tk k := fun k hk => if_neg (by omega)
  have hF : Fr (fun _ => False) wk w' := Fr.of_below hb
  refine ⟨fun k => if wk.heap.size ≤ k then 6 else tk k, ⟨h.k.bel hb, h.m.next hF (fun _ _ s => s.elim) (fun k hk _ e => (old k (Nat.lt_of_lt_of_le hk h.m.1.size)).trans e), h.r1.fr hF (fun s => s), ?_, h.r2.fr hF (fun s => s), ?_⟩, old, fun k hk => if_pos hk⟩
  · show (if _ then _ else _) = 6 ∨ (if _ then _ else _) = 5
    rw [old g h.r1.lt]
    exact h.t1
  · show (if _ then _ else _) = 6 ∨ (if _ then _ else _) = 5
    rw [old g' h.r2.lt]
    exact h.t2

/-- One of the two is laid into L. -/
theorem Bun.pushL (h : Bun w ws tag K rd rx ρd ρw td tw g n cap zs g' n' cap' zs' wk βL βW Lv Wv LL WW tk) {N gL capL : Nat} {u : Value} {w5 : World} (hN : LL.length = N) (hP : Pushed wk w5 22 βL gL (N + 1) capL (LL ++ [u])) (hWL : WW.length ≤ N) :
    ∃ t', Bun w ws tag K rd rx ρd ρw td tw g n cap zs g' n' cap' zs' (w5.setCell ⟨K, 0, none⟩ (.slice (some ⟨gL, 0, none⟩) (N + 1) capL)) (some gL) βW (.slice (some ⟨gL, 0, none⟩) (N + 1) capL) Wv (LL ++ [u]) WW t' := by
  subst hN
  obtain ⟨t', hk, old⟩ := h.k.pushL hP hWL
  have hF : Fr (fun k => βL = some k ∨ k = K) wk (w5.setCell ⟨K, 0, none⟩ (.slice (some ⟨gL, 0, none⟩) (LL.length + 1) capL)) := (hP.fr.mono (fun k _ e => .inl e)).trans (Fr.setCell _ _ _ (.inr rfl))
  have nS : ∀ k, (βL = some k ∨ k = K) → tk k = 2 ∨ tk k = 3 := by
    rintro k (e | rfl)
    · exact .inr (h.k.tagL k e).1
    · exact .inl h.k.tagK.1
  refine ⟨t', hk, h.m.next hF (fun k _ s => .inl (by have := nS k s; omega)) (fun k hk _ e => (old k (Nat.lt_of_lt_of_le hk h.m.1.size)).trans e), h.r1.fr hF (fun s => by have := nS g s; have := h.t1; omega), ?_, h.r2.fr hF (fun s => by have := nS g' s; have := h.t2; omega), ?_⟩
  · rw [old g h.r1.lt]
    exact h.t1
  · rw [old g' h.r2.lt]
    exact h.t2

/-- The retagging of a loose block. -/
theorem Bun.keep (h : Bun w ws tag K rd rx ρd ρw td tw g n cap zs g' n' cap' zs' wk βL βW Lv Wv LL WW tk) (b : Nat) (hb : tk b = 6 ∨ tk b = 5) (hw : b = g ∨ ws.heap.size ≤ b) : Bun w ws tag K rd rx ρd ρw td tw g n cap zs g' n' cap' zs' wk βL βW Lv Wv LL WW (fun k => if k = b then 5 else tk k) := by
  refine ⟨h.k.keep b hb, h.m.next (Fr.refl (fun _ => False) wk) (fun _ _ s => s.elim) (fun k hk hg e => (if_neg (fun e2 => by subst e2; rcases hw with e3 | e3; exact hg e3; omega)).trans e), h.r1, ?_, h.r2, ?_⟩
  · show (if _ then _ else _) = 6 ∨ (if _ then _ else _) = 5
    split
    · exact .inr rfl
    · exact h.t1
  · show (if _ then _ else _) = 6 ∨ (if _ then _ else _) = 5
    split
    · exact .inr rfl
    · exact h.t2

/-- Its copy, at gc, is laid into W. -/
theorem Bun.pushW (h : Bun w ws tag K rd rx ρd ρw td tw g n cap zs g' n' cap' zs' wk βL βW Lv Wv LL WW tk) {N gW capW : Nat} {u v : Value} {xs : List Int} {w5 : World} (hN : WW.length = N) (hP : Pushed wk w5 22 βW gW (N + 1) capW (WW ++ [v])) (hu : LL[N]? = some u)
    {au av : Nat} {nu cu cv : Nat} (eu : u = .slice (some ⟨au, 0, none⟩) nu cu) (ev : v = .slice (some ⟨av, 0, none⟩) nu cv) (bu : IsB wk (some ⟨au, 0, none⟩) nu cu xs) (bv : IsB wk (some ⟨av, 0, none⟩) nu cv xs) (tu : tk au = 6 ∨ tk au = 5) (tv : tk av = 6 ∨ tk av = 5) (wu : au = g ∨ ws.heap.size ≤ au) (wv : av = g ∨ ws.heap.size ≤ av) :
    ∃ t', Bun w ws tag K rd rx ρd ρw td tw g n cap zs g' n' cap' zs' (w5.setCell ⟨K, 1, none⟩ (.slice (some ⟨gW, 0, none⟩) (N + 1) capW)) βL (some gW) Lv (.slice (some ⟨gW, 0, none⟩) (N + 1) capW) LL (WW ++ [v]) t' := by
  subst hN
  have h1 := h.keep au tu wu
  have h2 : Bun w ws tag K rd rx ρd ρw td tw g n cap zs g' n' cap' zs' wk βL βW Lv Wv LL WW (fun k => if k = av then 5 else if k = au then 5 else tk k) := h1.keep av (by
    show (if _ then _ else _) = 6 ∨ (if _ then _ else _) = 5
    split
    · exact .inr rfl
    · exact tv) wv
  have iu : Item wk (fun k => if k = av then 5 else if k = au then 5 else tk k) u xs := ⟨_, _, _, eu, bu, fun _ b off e => by
    have e2 := Option.some.inj e
    simp at e2
    show (if _ then _ else _) = 5
    rw [← e2.1]
    split
    · rfl
    · exact if_pos rfl⟩
  have iv : Item wk (fun k => if k = av then 5 else if k = au then 5 else tk k) v xs := ⟨_, _, _, ev, bv, fun _ b off e => by
    have e2 := Option.some.inj e
    simp at e2
    show (if _ then _ else _) = 5
    rw [← e2.1]
    exact if_pos rfl⟩
  generalize (fun k => if k = av then 5 else if k = au then 5 else tk k) = T at h2 iu iv
  obtain ⟨t', hk, old⟩ := h2.k.pushW hP hu iu iv
  have hF : Fr (fun k => βW = some k ∨ k = K) wk (w5.setCell ⟨K, 1, none⟩ (.slice (some ⟨gW, 0, none⟩) (WW.length + 1) capW)) := (hP.fr.mono (fun k _ e => .inl e)).trans (Fr.setCell _ _ _ (.inr rfl))
  have nS : ∀ k, (βW = some k ∨ k = K) → T k = 2 ∨ T k = 4 := by
    rintro k (e | rfl)
    · exact .inr (h2.k.tagW k e).1
    · exact .inl h2.k.tagK.1
  refine ⟨t', hk, h2.m.next hF (fun k _ s => .inl (by have := nS k s; omega)) (fun k hk _ e => (old k (Nat.lt_of_lt_of_le hk h.m.1.size)).trans e), h.r1.fr hF (fun s => by have := nS g s; have := h2.t1; omega), ?_, h.r2.fr hF (fun s => by have := nS g' s; have := h2.t2; omega), ?_⟩
  · rw [old g h.r1.lt]
    exact h2.t1
  · rw [old g' h.r2.lt]
    exact h2.t2

/-- A copy of b, new. -/
structure Cp (ws : World) (W0 : World) (t0 : Nat → Nat) (g g' gc n : Nat) (zs : List Int) : Prop where
  row : RowB W0 gc n n zs
  six : t0 gc = 6
  ge : ws.heap.size ≤ gc
  ne : ¬ gc = g ∧ ¬ gc = g'

theorem Bun.copy (h : Bun w ws tag K rd rx ρd ρw td tw g n cap zs g' n' cap' zs' wk βL βW Lv Wv LL WW tk) {w1 w2 : World} {gc : Nat} (hb : Below wk.heap.size wk w1) (hN : NewB w1 wk.heap.size (.slice (some ⟨gc, 0, none⟩) n n) n zs) (hb2 : Below w1.heap.size w1 w2) (hn : n ≤ 9223372036854775807) :
    ∃ t', Bun w ws tag K rd rx ρd ρw td tw g n cap zs g' n' cap' zs' w2 βL βW Lv Wv LL WW t' ∧ Cp ws w2 t' g g' gc n zs := by
  obtain ⟨t1, b1, old1, new1⟩ := h.bel hb
  obtain ⟨t2, b2, old2, new2⟩ := b1.bel hb2
  obtain ⟨g2, e, hge, hg, hl⟩ := hN
  simp at e
  subst e
  have hR : RowB w1 gc n n zs := ⟨_, hg, by rw [List.toList_toArray, List.take_of_length_le (by rw [ints_len]; omega)], hl, Nat.le_refl _, hn, by simp [ints, hl]⟩
  have l1 := h.r1.lt
  have l2 := h.r2.lt
  have ms := h.m.1.size
  exact ⟨t2, b2, hR.fr (Fr.of_below hb2 : Fr (fun _ => False) _ _) (fun s => s), (old2 gc (block_lt hg)).trans (new1 gc hge), by omega, by omega, by omega⟩

theorem Bun.app (h : Bun w ws tag K rd rx ρd ρw td tw g n cap zs g' n' cap' zs' wk βL βW Lv Wv LL WW tk) {gc : Nat} (hc : Cp ws wk tk g g' gc n zs) (hws : w.heap.size ≤ ws.heap.size) {w4 : World} {g4 cap4 : Nat} {y : Int} (hP : Pushed wk w4 5 (some gc) g4 (n + 3) cap4 (ints zs ++ ints [y, 2, 2])) :
    ∃ t', Bun w ws tag K rd rx ρd ρw td tw g n cap zs g' n' cap' zs' w4 βL βW Lv Wv LL WW t' ∧ t' g4 = 6 ∧ ws.heap.size ≤ g4 ∧ RowB w4 g4 (n + 3) cap4 (zs ++ [y, 2, 2]) := by
  have old : ∀ k, k < wk.heap.size → (if wk.heap.size ≤ k then 6 else tk k) = tk k := fun k hk => if_neg (by omega)
  have hbase : w.heap.size ≤ gc := by
    have h3 := hc.ge
    omega
  have hF := hP.fr
  have e3 : ints zs ++ ints [y, 2, 2] = ints (zs ++ [y, 2, 2]) := by simp [ints]
  have hR2 : RowB w4 g4 (n + 3) cap4 (zs ++ [y, 2, 2]) := by
    have := hP.1
    rw [e3] at this
    exact this.rowB
  have l1 := h.r1.lt
  have l2 := h.r2.lt
  have lc := hc.row.lt
  refine ⟨fun k => if wk.heap.size ≤ k then 6 else tk k, ⟨h.k.fr hF (fun k _ e => by obtain rfl := Option.some.inj e; exact ⟨hc.six, hbase⟩), h.m.next' hF (fun k hk e => by obtain rfl := Option.some.inj e; have := hc.ge; omega) (fun k hk _ e => (old k (Nat.lt_of_lt_of_le hk h.m.1.size)).trans e), h.r1.fr hF (fun e => hc.ne.1 (Option.some.inj e)), ?_, h.r2.fr hF (fun e => hc.ne.2 (Option.some.inj e)), ?_⟩, ?_, ?_, hR2⟩
  · show (if _ then _ else _) = 6 ∨ (if _ then _ else _) = 5
    rw [old g l1]
    exact h.t1
  · show (if _ then _ else _) = 6 ∨ (if _ then _ else _) = 5
    rw [old g' l2]
    exact h.t2
  · show (if _ then _ else _) = 6
    rcases hP.ge with e | e
    · obtain rfl := Option.some.inj e
      rw [old gc lc]
      exact hc.six
    · exact if_pos e
  · rcases hP.ge with e | e
    · obtain rfl := Option.some.inj e
      exact hc.ge
    · exact Nat.le_trans h.m.1.size e

/-- The marks are written, and three bytes are appended. -/
theorem Bun.start {wr wA w3 : World} (h : KSt w ws K rd rx ρd ρw βL βW td tw Lv Wv LL WW tag) (hg : tag g = 6) (hgb : w.heap.size ≤ g) (hgl : g < ws.heap.size) (hF : Fr (· = g) ws wr) (hR : RowB wr g n cap zs) (hb : Below wr.heap.size wr wA) {y : Int} (hP : Pushed wA w3 5 (some g) g' (n + 3) cap' (ints zs ++ ints [y, 2, 2])) :
    ∃ cap1 tk, Bun w ws tag K rd rx ρd ρw td tw g n cap1 zs g' (n + 3) cap' (zs ++ [y, 2, 2]) w3 βL βW Lv Wv LL WW tk := by
  have hlr := hR.lt
  have hlA : g < wA.heap.size := Nat.lt_of_lt_of_le hlr hb.size
  have k1 := h.fr hF (fun k _ e => by rw [e]; exact ⟨hg, hgb⟩)
  have k2 := k1.bel hb
  have g6 : (fun k => if wr.heap.size ≤ k then 6 else (fun k => if ws.heap.size ≤ k then 6 else tag k) k) g = 6 := by
    show (if wr.heap.size ≤ g then 6 else if ws.heap.size ≤ g then 6 else tag g) = 6
    rw [if_neg (by omega), if_neg (by omega)]
    exact hg
  have k3 := k2.fr hP.fr (fun k _ e => by obtain rfl := Option.some.inj e; exact ⟨g6, hgb⟩)
  have hFA : Fr (· = g) ws wA := hF.trans (Fr.of_below hb)
  have hF3 : Fr (· = g) ws w3 := hFA.trans (hP.fr.mono (fun k _ e => (Option.some.inj e).symm))
  have g6' : (if wA.heap.size ≤ g then 6 else (fun k => if wr.heap.size ≤ k then 6 else (fun k => if ws.heap.size ≤ k then 6 else tag k) k) g) = 6 := by
    rw [if_neg (by omega)]
    exact g6
  have e3 : ints zs ++ ints [y, 2, 2] = ints (zs ++ [y, 2, 2]) := by simp [ints]
  have hR2 : RowB w3 g' (n + 3) cap' (zs ++ [y, 2, 2]) := by
    have := hP.1
    rw [e3] at this
    exact this.rowB
  have hzl : zs.length = n := by
    obtain ⟨_, _, _, h, _⟩ := hR
    exact h
  obtain ⟨cap1, hR1⟩ : ∃ cap1, RowB w3 g n cap1 zs := by
    rcases hP.2 with ⟨e1, _⟩ | ⟨_, hF⟩
    · obtain rfl := Option.some.inj e1
      have hs := hR2.shorter n (by omega)
      rw [show (zs ++ [y, 2, 2]).take n = zs from by rw [← hzl, List.take_left]] at hs
      exact ⟨cap', hs⟩
    · exact ⟨cap, (hR.fr (Fr.of_below hb : Fr (fun _ => False) _ _) (fun s => s)).fr hF (fun s => s)⟩
  refine ⟨cap1, _, k3, ⟨hF3.mono (fun k _ e => .inr e), fun k hk h6 hkg => ?_⟩, hR1, .inl g6', hR2, ?_⟩
  · have := hFA.size
    have := hF.size
    show (if _ then _ else _) = _
    rw [if_neg (by omega)]
    show (if _ then _ else _) = _
    rw [if_neg (by omega)]
    show (if _ then _ else _) = _
    rw [if_neg (by omega)]
    exact h6
  · rcases hP.ge with e1 | e1
    · obtain rfl := Option.some.inj e1
      exact .inl g6'
    · exact .inl (if_pos e1)
end

end Go.Proofs.Ytdlelbdhcpjdfab
