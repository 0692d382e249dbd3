/-
  makeEdit.
-/
import Derived.Test.YtjgpibajndlhaaaCc
import Derived.Deep.DeepCutAuto
namespace Go.Proofs.Ytjgpibajndlhaaa
open Go.RowKit
set_option linter.unusedVariables false
variable {T : Nat → Prop}

set_option maxRecDepth 100000 in
set_option maxHeartbeats 4000000 in
theorem makeEdit_full (x z : Nat) (id : Int) (ds : List El) (es : List (Int × OpE)) (βp : Option Nat) (p : Sp) (o : OpE) (w : World) (h : CL T w x z id ds es βp p) (hf : 64 ≤ p.last) :
    Calls Try.prog 17 #[.pointer (some ⟨x, 0, none⟩), o.val] w fun e w' => e = .returned (.tuple #[.agg #[.int .i64 0, .int .i64 0, .int .i64 0, .int .u8 0, .int .i64 0, .int .i64 0], .int .i64 111]) ∧ Below w.heap.size w w' := by
  obtain ⟨k, ps, ch, q, sq⟩ := o
  simp only [OpE.val]
  have HH := hd h
  clear h
  go_enter Try.func17, Try.ntmps17
  go_wp2_with fail
  refine (made_any x z id ds es βp p _ (HH.out.below (((Below.refl _ _).alloc (Nat.le_refl _) _).alloc (by simp) _))).mono ?_
  rintro e w' ⟨rfl, rfl⟩
  go_wp2
  refine bodyPost_ret (v := .tuple #[.agg #[.int .i64 0, .int .i64 0, .int .i64 0, .int .u8 0, .int .i64 0, .int .i64 0], .int .i64 111]) (by simp [results, Try.results17, go_sem]) rfl ?_
  refine ⟨rfl, ?_⟩
  repeat (first | exact ((Below.refl _ _).alloc (Nat.le_refl _) _).alloc (by simp) _ | refine Below.setCell ?_ (by simp) _)

theorem cells6 {w : World} {g : Nat} {a b c d e f : Value} {t : TypeId} (h : w.heap[g]? = some (.cells #[a, b, c, d, e, f] t (0, 0))) :
    (w.cell? ⟨g, 0, none⟩ = some a ∧ w.cell? ⟨g, 1, none⟩ = some b ∧ w.cell? ⟨g, 2, none⟩ = some c ∧ w.cell? ⟨g, 3, none⟩ = some d ∧ w.cell? ⟨g, 4, none⟩ = some e ∧ w.cell? ⟨g, 5, none⟩ = some f) ∧
    (w.frozen? ⟨g, 0, none⟩ = false ∧ w.frozen? ⟨g, 1, none⟩ = false ∧ w.frozen? ⟨g, 2, none⟩ = false ∧ w.frozen? ⟨g, 3, none⟩ = false ∧ w.frozen? ⟨g, 4, none⟩ = false ∧ w.frozen? ⟨g, 5, none⟩ = false) := by
  simp [World.cell?, World.frozen?, h]

/-- append of one edit. -/
theorem push_ed (w : World) (β : Option Nat) (v : Value) (xs : List (Int × OpE)) (hv : SF edc 6 w 36 β v xs) (b : Nat) (x : Int × OpE) (hb : w.heap[b]? = some (.cells (edc x).toArray 36 (0, 0))) (hn : xs.length ≤ 100000) :
    ∃ v' w', (∀ ty, (Builtin.append_ #[30, 30] ty #[v, .slice (some ⟨b, 0, none⟩) 1 1]).run Try.prog w = .ok v' w') ∧ NowF edc 6 w w' 36 β v' (xs ++ [x]) := by
  obtain ⟨i0, hi0, hz0, hz1, hz2⟩ := info_parts Try.infoD
  obtain ⟨v', w', hr, hN⟩ := run_pushF sz_edc (P := Try.prog) w 30 0 36 i0 _ 48 Try.underlying30 hi0 hz0 hz1 rfl hz2 β v xs hv ⟨b, 0, none⟩ 1 1 [x] rfl (fun j u hj => by
    rw [cl_one] at hj
    rw [add_lit, cell_row hb, List.getElem?_toArray, Nat.zero_add]
    exact hj) (by omega) (by omega) (by omega)
  exact ⟨v', w', fun ty => hr, hN⟩

/-- The pending edits have one more. -/
theorem CL.pend {w u : World} {x z : Nat} {id : Int} {ds : List El} {es : List (Int × OpE)} {βp : Option Nat} {p : Sp} {vp : Value} {ed : Int × OpE} {b : Nat} (h : CL T w x z id ds es βp p) (hc : w.cell? ⟨x, 4, none⟩ = some vp) (hu : Below w.heap.size w u) (hb : u.heap[b]? = some (.cells (edc ed).toArray 36 (0, 0))) (hl : es.length ≤ 64) :
    ∃ a n c w', (∀ ty, (Builtin.append_ #[30, 30] ty #[vp, .slice (some ⟨b, 0, none⟩) 1 1]).run Try.prog u = .ok (.slice a n c) w') ∧ (x < w'.heap.size ∧ w'.cell? ⟨x, 4, none⟩ = some vp ∧ w'.frozen? ⟨x, 4, none⟩ = false) ∧
      ∃ βp', CL (TU T w.heap.size) (w'.setCell ⟨x, 4, none⟩ (.slice a n c)) x z id ds (es ++ [ed]) βp' p ∧ (βp' = βp ∨ ∃ g, βp' = some g ∧ w.heap.size ≤ g) ∧ Fr (fun j => j = x ∨ βp = some j) w (w'.setCell ⟨x, 4, none⟩ (.slice a n c)) := by
  obtain ⟨y, vt, vp', βt, cb, i, t, e, s, bx, bp⟩ := h
  obtain rfl : vp' = vp := by have := cb.cells.1.2.2.2.2.2.1; rw [hc] at this; exact (Option.some.inj this).symm
  have hFu : Fr (fun _ => False) w u := Fr.of_below hu
  have cu := cb.fr hFu (fun h => h)
  have iu := i.fr hFu (fun h => h)
  have tu := t.fr hFu (fun _ _ h => h)
  have eu := e.fr hFu (fun _ _ h => h)
  have su := s.fr hFu (fun _ _ h => h)
  obtain ⟨v', w', hr, N⟩ := push_ed u βp vp' es eu b ed hb (by omega)
  obtain ⟨a, n, c, rfl⟩ := N.slice
  obtain ⟨g, n1, n2, n3⟩ := N.out
  have c2 := cu.fr n3 (fun hb => (eu.tg hb).ne cu.tg (by decide) rfl)
  have hF : Fr (· = x) w' (w'.setCell ⟨x, 4, none⟩ (.slice a n c)) := Fr.setCell _ _ _ rfl
  refine ⟨a, n, c, w', hr, ⟨c2.cells.1.1, c2.cells.1.2.2.2.2.2.1, c2.cells.2 4⟩, some g, ⟨y, vt, _, βt, c2.pend _, ?_, ?_, n1.fr hF (fun k hk => (n1.tg hk).ne c2.tg (by decide)), ?_, .inl bx, ?_⟩, ?_, ?_⟩
  · have i2 := iu.fr n3 (fun hb => (eu.tg hb).ne iu.tg (by decide) rfl)
    exact i2.fr hF (i2.tg.ne c2.tg (by decide))
  · have t2 := tu.fr n3 (fun k hk hb => (eu.tg hb).ne (tu.tg hk) (by decide) rfl)
    exact t2.fr hF (fun k hk => (t2.tg hk).ne c2.tg (by decide))
  · have s2 := su.fr n3 (by
      rintro k ⟨-, hk | hk | hk⟩ hb
      · exact (eu.tg hb).ne hk (by decide) rfl
      · exact (eu.tg hb).ne hk (by decide) rfl
      · exact (eu.tg hb).ne hk (by decide) rfl)
    refine (s2.fr hF ?_).mono (fun k h => .inl h)
    rintro k ⟨-, hk | hk | hk⟩
    · exact hk.ne c2.tg (by decide)
    · exact hk.ne c2.tg (by decide)
    · exact hk.ne c2.tg (by decide)
  · rintro k hk
    injection hk with hk
    subst hk
    rcases n2 with h | h
    · exact .inl (bp _ h)
    · exact .inr (by rw [h]; exact hu.size)
  · rcases n2 with h | h
    · exact .inl h.symm
    · exact .inr ⟨g, rfl, by rw [h]; exact hu.size⟩
  · exact ((hFu.mono (S' := fun j => j = x ∨ βp = some j) (fun k _ h => h.elim)).next n3 (fun k _ h => .inr h)).next hF (fun k _ h => .inl h)

/-- Six cells stored. -/
theorem set6 {W : World} {b : Nat} {z0 z1 z2 z3 z4 z5 : Value} {t : TypeId} (hb : W.heap[b]? = some (.cells #[z0, z1, z2, z3, z4, z5] t (0, 0))) (a0 a1 a2 a3 a4 a5 : Value) :
    ((((((W.setCell ⟨b, 0, none⟩ a0).setCell ⟨b, 1, none⟩ a1).setCell ⟨b, 2, none⟩ a2).setCell ⟨b, 3, none⟩ a3).setCell ⟨b, 4, none⟩ a4).setCell ⟨b, 5, none⟩ a5).heap[b]? = some (.cells #[a0, a1, a2, a3, a4, a5] t (0, 0)) ∧
    Fr (· = b) W ((((((W.setCell ⟨b, 0, none⟩ a0).setCell ⟨b, 1, none⟩ a1).setCell ⟨b, 2, none⟩ a2).setCell ⟨b, 3, none⟩ a3).setCell ⟨b, 4, none⟩ a4).setCell ⟨b, 5, none⟩ a5) := by
  have h := set_row (set_row (set_row (set_row (set_row (set_row hb 0 a0) 1 a1) 2 a2) 3 a3) 4 a4) 5 a5
  refine ⟨by simpa using h, ?_⟩
  exact (((((Fr.setCell (S := (· = b)) W ⟨b, 0, none⟩ a0 rfl).trans (Fr.setCell _ ⟨b, 1, none⟩ a1 rfl)).trans (Fr.setCell _ ⟨b, 2, none⟩ a2 rfl)).trans (Fr.setCell _ ⟨b, 3, none⟩ a3 rfl)).trans (Fr.setCell _ ⟨b, 4, none⟩ a4 rfl)).trans (Fr.setCell _ ⟨b, 5, none⟩ a5 rfl)

theorem CL.tg {w : World} {x z : Nat} {id : Int} {ds : List El} {es : List (Int × OpE)} {βp : Option Nat} {p : Sp} (h : CL T w x z id ds es βp p) : Tg w x 64 := by
  obtain ⟨_, _, _, _, c, _⟩ := h
  exact c.tg
theorem CL.bx {w : World} {x z : Nat} {id : Int} {ds : List El} {es : List (Int × OpE)} {βp : Option Nat} {p : Sp} (h : CL T w x z id ds es βp p) : T x := by
  obtain ⟨_, _, _, _, _, _, _, _, _, b, _⟩ := h
  exact b
theorem CL.bp {w : World} {x z : Nat} {id : Int} {ds : List El} {es : List (Int × OpE)} {βp : Option Nat} {p : Sp} (h : CL T w x z id ds es βp p) {g : Nat} (hg : βp = some g) : T g := by
  obtain ⟨_, _, _, _, _, _, _, _, _, _, b⟩ := h
  exact b g hg
theorem CL.plt {w : World} {x z : Nat} {id : Int} {ds : List El} {es : List (Int × OpE)} {βp : Option Nat} {p : Sp} (h : CL T w x z id ds es βp p) {g : Nat} (hg : βp = some g) : g < w.heap.size := by
  obtain ⟨_, _, _, _, c, _, _, e, _⟩ := h
  exact (e.tg hg).lt
theorem SpS.at {w W : World} {x k : Nat} (hF : Fr (· = x) w W) (hx : Tg w x 64) (h : SpS T w k) : SpS T W k := by
  obtain ⟨hb, h | h | h⟩ := h
  · exact ⟨hb, .inl (h.fr hF (h.ne hx (by decide)))⟩
  · exact ⟨hb, .inr (.inl (h.fr hF (h.ne hx (by decide))))⟩
  · exact ⟨hb, .inr (.inr (h.fr hF (h.ne hx (by decide))))⟩
theorem SpS.not {w : World} {k j : Nat} {t : TypeId} (h : SpS T w k) (ht : Tg w j t) (h1 : t ≠ 81) (h2 : t ≠ 3) (h3 : t ≠ 34) : k ≠ j := by
  obtain ⟨-, h | h | h⟩ := h
  · exact h.ne ht h1.symm
  · exact h.ne ht h2.symm
  · exact h.ne ht h3.symm

/-- Keep of the client's space. -/
theorem ckeep (x z : Nat) (id : Int) (ds ds' : List El) (es : List (Int × OpE)) (βp : Option Nat) (p : Sp) (o : OpE) (n : Nat) (w W : World) (h : CL T w x z id ds es βp p) (hC : CL T W x z id ds' es βp p) (hF : Fr (· = x) w W) (hn : p.last = n) (hn4 : n < 64) (ho : OkOp o) (hv : validP o = 0) :
    Calls Try.prog 25 #[.pointer (some ⟨z, 0, none⟩), .int .i64 ((n : Int) + 1), o.val] W fun e w' => ∃ E, e = .returned (.int .i64 E) ∧ Hid (∃ p', CL (TU T W.heap.size) w' x z id ds' es βp p' ∧ p'.last = (n : Int) + 1 ∧ Fr (SpS T w) W w') := by
  obtain ⟨_, _, _, _, cw, _, _, _, sw, bw, _⟩ := h
  obtain ⟨S, hS, hSs⟩ := sw.at
  obtain ⟨y, vt, vp, βt, c, i, t, e, s, b⟩ := hC
  have hSW : ∀ k, S k → SpS T W k := fun k hk => (hSs k hk).at hF cw.tg
  have hA : SpAt W z p S := hS.fr hF (fun k hk => (hSs k hk).not cw.tg (by decide) (by decide) (by decide))
  refine (keep_any z p _ o S W hA ho).mono ?_
  rintro e' w' ⟨rfl, S2, h1, h2, h3⟩
  have hk : keepE p ((n : Int) + 1) o = 0 := by
    rw [keepE, if_neg (by rw [hv]; omega), if_neg (by rw [hn]; omega)]
  refine ⟨_, rfl, keepS p ((n : Int) + 1) o, ⟨y, vt, vp, βt, c.fr h3 ?_, i.fr h3 ?_, t.fr h3 ?_, e.fr h3 ?_, h1.t ?_, .inl b.1, fun g hg => .inl (b.2 g hg)⟩, by rw [keepS, if_pos hk], h3.mono (fun k _ hk => hSs k hk)⟩
  · exact fun hk => (hSW _ hk).not c.tg (by decide) (by decide) (by decide) rfl
  · exact fun hk => (hSW _ hk).not i.tg (by decide) (by decide) (by decide) rfl
  · exact fun g hg hk => (hSW _ hk).not (t.tg hg) (by decide) (by decide) (by decide) rfl
  · exact fun g hg hk => (hSW _ hk).not (e.tg hg) (by decide) (by decide) (by decide) rfl
  · intro k hk
    rcases h2 k hk with h | h
    · exact .inl (hSs k h).1
    · exact .inr h

/-- What makeEdit has made for itself. -/
def ME (w wx : World) (o : OpE) : Prop := wx.heap[w.heap.size]? = some (.cells (opc o).toArray 34 (0, 0)) ∧ wx.heap[w.heap.size + 1]? = some (.cells #[.int .i64 0, .int .i64 0, .int .i64 0, .int .u8 0, .int .i64 0, .int .i64 0] 36 (0, 0))
theorem ME.fr {w wx wy : World} {o : OpE} {S : Nat → Prop} (h : ME w wx o) (hF : Fr S wx wy) (h0 : ¬ S w.heap.size) (h1 : ¬ S (w.heap.size + 1)) : ME w wy o := ⟨hF.keeps h.1 h0, hF.keeps h.2 h1⟩

set_option maxRecDepth 100000 in
set_option maxHeartbeats 4000000 in
theorem makeEdit_good (x z : Nat) (id : Int) (ds : List El) (es : List (Int × OpE)) (βp : Option Nat) (p : Sp) (k ps ch : Int) (n : Nat) (w : World) (h : CL T w x z id ds es βp p) (hn : p.last = n) (hn4 : n < 64) (hc0 : 0 ≤ ch) (hc1 : ch ≤ 255) (hf : fitsP ds.length ⟨k, ps, ch, id, (n : Int) + 1⟩ = 0) (he : es.length ≤ 64) :
    Calls Try.prog 17 #[.pointer (some ⟨x, 0, none⟩), .agg #[.int .i64 k, .int .i64 ps, .int .u8 ch, .int .i64 0, .int .i64 0]] w fun e w' => e = .returned (.tuple #[.agg #[.int .i64 0, .int .i64 k, .int .i64 ps, .int .u8 ch, .int .i64 id, .int .i64 ((n : Int) + 1)], .int .i64 0]) ∧
      ∃ βp' p', CL (TU T w.heap.size) w' x z id (applyP ds ⟨k, ps, ch, id, (n : Int) + 1⟩) (es ++ [(0, ⟨k, ps, ch, id, (n : Int) + 1⟩)]) βp' p' ∧ p'.last = (n : Int) + 1 ∧ (βp' = βp ∨ ∃ g, βp' = some g ∧ w.heap.size ≤ g) ∧ Fr (fun j => T j ∧ (Tg w j 64 ∨ SpS T w j ∨ βp = some j)) w w' := by
  obtain ⟨U, hU⟩ : ∃ U, U = (w.alloc (.cells #[.int .i64 k, .int .i64 ps, .int .u8 ch, .int .i64 0, .int .i64 0] 34)).alloc (.cells #[.int .i64 0, .int .i64 0, .int .i64 0, .int .u8 0, .int .i64 0, .int .i64 0] 36) := ⟨_, rfl⟩
  have bU : Below w.heap.size w U := by rw [hU]; exact ((Below.refl _ _).alloc (Nat.le_refl _) _).alloc (by simp) _
  have X0 : U.heap[w.heap.size]? = some (.cells #[.int .i64 k, .int .i64 ps, .int .u8 ch, .int .i64 0, .int .i64 0] 34 (0, 0)) := by
    rw [hU]; exact (((Below.refl _ _).alloc (Nat.le_refl _) _).block _ (by simp)).trans (heap_alloc_new w _)
  have X1 : U.heap[w.heap.size + 1]? = some (.cells #[.int .i64 0, .int .i64 0, .int .i64 0, .int .u8 0, .int .i64 0, .int .i64 0] 36 (0, 0)) := by
    rw [hU]; have := heap_alloc_new (w.alloc (.cells #[.int .i64 k, .int .i64 ps, .int .u8 ch, .int .i64 0, .int .i64 0] 34)) (.cells #[.int .i64 0, .int .i64 0, .int .i64 0, .int .u8 0, .int .i64 0, .int .i64 0] 36); rw [World.size_alloc] at this; exact this
  have hC := h.below bU
  have HU := hd hU
  have M1 : Hid (∀ W, Below U.heap.size U W → Calls Try.prog 20 #[.pointer (some ⟨x, 0, none⟩)] W fun e w' => e = .returned (.int .i64 n) ∧ w' = W) := by
    intro W hW
    have := made_any x z id ds es βp p W (hC.below hW)
    rw [hn] at this
    exact this
  obtain ⟨y, vt, vp, βt, c, -⟩ := hC
  obtain ⟨⟨hl, c0, -⟩, -⟩ := c.cells
  obtain ⟨⟨y0, y1, y2, y3, y4⟩, ⟨f0, f1, f2, f3, f4⟩⟩ := cells5 X0
  have l0 := block_lt X0
  have l1 := block_lt X1
  have hw : IntKind.i64.wrap ((n : Int) + 1) = (n : Int) + 1 := by rw [IntKind.wrap_i64]; omega
  have hx : x ≠ w.heap.size := c.tg.ne ⟨_, X0⟩ (by decide)
  have HP := hd (And.intro h (And.intro hf (And.intro he (And.intro hn (And.intro bU (And.intro X0 X1))))))
  clear h hn hf he hU bU X0 X1 c
  go_enter Try.func17, Try.ntmps17
  go_wp2_with fail
  rw [← HU.out]
  refine (M1.out U (Below.refl _ _)).mono ?_
  rintro e U ⟨rfl, rfl⟩
  go_wp2_with fail
  go_cut [] (fun wx => Hid (ME w wx ⟨k, ps, ch, id, (n : Int) + 1⟩ ∧ Below w.heap.size w wx))
  case first =>
    have Z : Hid (ME w ((U.setCell ⟨w.heap.size, 3, none⟩ (.int .i64 id)).setCell ⟨w.heap.size, 4, none⟩ (.int .i64 ((n : Int) + 1))).drew ⟨k, ps, ch, id, (n : Int) + 1⟩ ∧ Below w.heap.size w ((U.setCell ⟨w.heap.size, 3, none⟩ (.int .i64 id)).setCell ⟨w.heap.size, 4, none⟩ (.int .i64 ((n : Int) + 1))).drew) := by
      obtain ⟨-, -, -, -, bU, X0, X1⟩ := HP.out
      have hF : Fr (· = w.heap.size) U ((U.setCell ⟨w.heap.size, 3, none⟩ (.int .i64 id)).setCell ⟨w.heap.size, 4, none⟩ (.int .i64 ((n : Int) + 1))).drew := ((Fr.setCell (S := (· = w.heap.size)) U ⟨w.heap.size, 3, none⟩ _ rfl).trans (Fr.setCell _ ⟨w.heap.size, 4, none⟩ _ rfl)).trans (Fr.drew _ _)
      refine ⟨⟨?_, hF.keeps X1 (by omega)⟩, bU.trans (hF.below bU.size (fun k h => by omega))⟩
      have := set_row (set_row X0 3 (.int .i64 id)) 4 (.int .i64 ((n : Int) + 1))
      change ((U.setCell ⟨w.heap.size, 3, none⟩ (.int .i64 id)).setCell ⟨w.heap.size, 4, none⟩ (.int .i64 ((n : Int) + 1))).heap[w.heap.size]? = _
      simpa [opc] using this
    go_region_law (first | (go_simp; go_at_call 20; refine (M1.out _ (by repeat (first | exact Below.refl _ _ | refine Below.drew ?_ | refine below_drewN ?_ _))).mono ?_; rintro ex w3 ⟨rfl, rfl⟩))
    all_goals
      go_wp2_with fail
      go_meet
      exact Z
  case rest =>
    obtain ⟨wa, rfl⟩ : ∃ u, u = wc := ⟨wc, rfl⟩
    clear M1 c0 y0 y1 y2 y3 y4 f0 f1 f2 f3 f4 l0 l1 hl HU
    obtain ⟨hM, hB⟩ := hcut.out
    have HH := hd HP.out
    obtain ⟨h, hf, he, hn, -⟩ := HP.out
    have hC := h.below hB
    have H1 : Hid (∀ W, Below wa.heap.size wa W → Calls Try.prog 21 #[.pointer (some ⟨x, 0, none⟩)] W fun e w' => e = .returned (.int .i64 0) ∧ ∃ m, w' = W.drewN m) := fun W hW => have_any x z id ds es βp p W (hC.below hW)
    obtain ⟨⟨y0, y1, y2, y3, y4⟩, -⟩ := cells5 (show wa.heap[w.heap.size]? = some (.cells #[.int .i64 k, .int .i64 ps, .int .u8 ch, .int .i64 id, .int .i64 ((n : Int) + 1)] 34 (0, 0)) from hM.1)
    have l0 := block_lt hM.1
    have HB := hd hB
    have HM := hd hM
    clear h hf he hn hC hM hB HP
    go_wp2_with fail
    go_cut [6] (fun v wx => v = .pointer (some ⟨wa.heap.size, 0, none⟩) ∧ Hid (wx.heap[wa.heap.size]? = some (.cells #[.int .i64 0, .int .i64 k, .int .i64 ps, .int .u8 ch, .int .i64 id, .int .i64 ((n : Int) + 1)] 36 (0, 0)) ∧ Below wa.heap.size wa wx))
    case first =>
      have hz := fun m => cells6 (heap_alloc_new (wa.drewN m) (.cells #[.int .i64 0, .int .i64 0, .int .i64 0, .int .u8 0, .int .i64 0, .int .i64 0] 36))
      have hz' : ∀ m, (wa.drewN m).heap.size = wa.heap.size := fun _ => rfl
      simp only [hz'] at hz
      have z0 := fun m => (hz m).1.1
      have z1 := fun m => (hz m).1.2.1
      have z2 := fun m => (hz m).1.2.2.1
      have z3 := fun m => (hz m).1.2.2.2.1
      have z4 := fun m => (hz m).1.2.2.2.2.1
      have z5 := fun m => (hz m).1.2.2.2.2.2
      have g0 := fun m => (hz m).2.1
      have g1 := fun m => (hz m).2.2.1
      have g2 := fun m => (hz m).2.2.2.1
      have g3 := fun m => (hz m).2.2.2.2.1
      have g4 := fun m => (hz m).2.2.2.2.2.1
      have g5 := fun m => (hz m).2.2.2.2.2.2
      clear hz hz'
      have hq := fun m => (cells5 ((Fr.alloc (fun _ => False) (wa.drewN m) (.cells #[.int .i64 0, .int .i64 0, .int .i64 0, .int .u8 0, .int .i64 0, .int .i64 0] 36)).keeps (show (wa.drewN m).heap[w.heap.size]? = some (.cells #[.int .i64 k, .int .i64 ps, .int .u8 ch, .int .i64 id, .int .i64 ((n : Int) + 1)] 34 (0, 0)) from HM.out.1) (fun h => h))).1
      have q0 := fun m => (hq m).1
      have q1 := fun m => (hq m).2.1
      have q2 := fun m => (hq m).2.2.1
      have q3 := fun m => (hq m).2.2.2.1
      have q4 := fun m => (hq m).2.2.2.2
      clear hq
      have Z : ∀ W, Below wa.heap.size wa W → W.heap[wa.heap.size]? = some (.cells #[.int .i64 0, .int .i64 0, .int .i64 0, .int .u8 0, .int .i64 0, .int .i64 0] 36 (0, 0)) → Hid ((((((((W.setCell ⟨wa.heap.size, 0, none⟩ (.int .i64 0)).setCell ⟨wa.heap.size, 1, none⟩ (.int .i64 k)).setCell ⟨wa.heap.size, 2, none⟩ (.int .i64 ps)).setCell ⟨wa.heap.size, 3, none⟩ (.int .u8 ch)).setCell ⟨wa.heap.size, 4, none⟩ (.int .i64 id)).setCell ⟨wa.heap.size, 5, none⟩ (.int .i64 ((n : Int) + 1)))).heap[wa.heap.size]? = some (.cells #[.int .i64 0, .int .i64 k, .int .i64 ps, .int .u8 ch, .int .i64 id, .int .i64 ((n : Int) + 1)] 36 (0, 0)) ∧ Below wa.heap.size wa (((((((W.setCell ⟨wa.heap.size, 0, none⟩ (.int .i64 0)).setCell ⟨wa.heap.size, 1, none⟩ (.int .i64 k)).setCell ⟨wa.heap.size, 2, none⟩ (.int .i64 ps)).setCell ⟨wa.heap.size, 3, none⟩ (.int .u8 ch)).setCell ⟨wa.heap.size, 4, none⟩ (.int .i64 id)).setCell ⟨wa.heap.size, 5, none⟩ (.int .i64 ((n : Int) + 1))))) := fun W hb hX => by
        obtain ⟨h1, h2⟩ := set6 hX (.int .i64 0) (.int .i64 k) (.int .i64 ps) (.int .u8 ch) (.int .i64 id) (.int .i64 ((n : Int) + 1))
        exact ⟨h1, hb.trans (h2.below hb.size (fun j h => by omega))⟩
      have ZA : Hid (∀ m, Hid ((((((((((wa.drewN m).alloc (.cells #[.int .i64 0, .int .i64 0, .int .i64 0, .int .u8 0, .int .i64 0, .int .i64 0] 36)).setCell ⟨wa.heap.size, 0, none⟩ (.int .i64 0)).setCell ⟨wa.heap.size, 1, none⟩ (.int .i64 k)).setCell ⟨wa.heap.size, 2, none⟩ (.int .i64 ps)).setCell ⟨wa.heap.size, 3, none⟩ (.int .u8 ch)).setCell ⟨wa.heap.size, 4, none⟩ (.int .i64 id)).setCell ⟨wa.heap.size, 5, none⟩ (.int .i64 ((n : Int) + 1)))).heap[wa.heap.size]? = some (.cells #[.int .i64 0, .int .i64 k, .int .i64 ps, .int .u8 ch, .int .i64 id, .int .i64 ((n : Int) + 1)] 36 (0, 0)) ∧ Below wa.heap.size wa (((((((((wa.drewN m).alloc (.cells #[.int .i64 0, .int .i64 0, .int .i64 0, .int .u8 0, .int .i64 0, .int .i64 0] 36)).setCell ⟨wa.heap.size, 0, none⟩ (.int .i64 0)).setCell ⟨wa.heap.size, 1, none⟩ (.int .i64 k)).setCell ⟨wa.heap.size, 2, none⟩ (.int .i64 ps)).setCell ⟨wa.heap.size, 3, none⟩ (.int .u8 ch)).setCell ⟨wa.heap.size, 4, none⟩ (.int .i64 id)).setCell ⟨wa.heap.size, 5, none⟩ (.int .i64 ((n : Int) + 1)))))) := fun m => Z _ ((below_drewN (Below.refl _ _) m).alloc (Nat.le_refl _) _) (heap_alloc_new (wa.drewN m) _)
      have ZB : Hid (∀ m, Hid ((((((((((wa.alloc (.cells #[.int .i64 0, .int .i64 0, .int .i64 0, .int .u8 0, .int .i64 0, .int .i64 0] 36)).drewN m).setCell ⟨wa.heap.size, 0, none⟩ (.int .i64 0)).setCell ⟨wa.heap.size, 1, none⟩ (.int .i64 k)).setCell ⟨wa.heap.size, 2, none⟩ (.int .i64 ps)).setCell ⟨wa.heap.size, 3, none⟩ (.int .u8 ch)).setCell ⟨wa.heap.size, 4, none⟩ (.int .i64 id)).setCell ⟨wa.heap.size, 5, none⟩ (.int .i64 ((n : Int) + 1)))).heap[wa.heap.size]? = some (.cells #[.int .i64 0, .int .i64 k, .int .i64 ps, .int .u8 ch, .int .i64 id, .int .i64 ((n : Int) + 1)] 36 (0, 0)) ∧ Below wa.heap.size wa (((((((((wa.alloc (.cells #[.int .i64 0, .int .i64 0, .int .i64 0, .int .u8 0, .int .i64 0, .int .i64 0] 36)).drewN m).setCell ⟨wa.heap.size, 0, none⟩ (.int .i64 0)).setCell ⟨wa.heap.size, 1, none⟩ (.int .i64 k)).setCell ⟨wa.heap.size, 2, none⟩ (.int .i64 ps)).setCell ⟨wa.heap.size, 3, none⟩ (.int .u8 ch)).setCell ⟨wa.heap.size, 4, none⟩ (.int .i64 id)).setCell ⟨wa.heap.size, 5, none⟩ (.int .i64 ((n : Int) + 1)))))) := fun m => Z _ (below_drewN ((Below.refl _ _).alloc (Nat.le_refl _) _) m) (heap_alloc_new wa _)
      clear Z
      go_region_law (first | (go_simp; go_at_call 21; refine (H1.out _ (by repeat (first | exact Below.refl _ _ | refine Below.drew ?_ | refine below_drewN ?_ _ | refine Below.alloc ?_ (by simp) _))).mono ?_; rintro ex w3 ⟨rfl, m, rfl⟩))
      all_goals
        go_wp2_with fail
        go_meet
        first | exact ⟨rfl, ZA.out _⟩ | exact ⟨rfl, ZB.out _⟩
    case rest =>
      obtain ⟨rfl, h6⟩ := hcut
      obtain ⟨hE6, hB6⟩ := h6.out
      have hM6 : ME w wc ⟨k, ps, ch, id, (n : Int) + 1⟩ := HM.out.fr (S := fun _ => False) (Fr.of_below hB6) (fun h => h) (fun h => h)
      obtain ⟨h, hf, he, hn, -⟩ := HH.out
      obtain ⟨we, hwe⟩ : ∃ u, u = wc := ⟨wc, rfl⟩
      have hBw : Below w.heap.size w wc := HB.out.trans (hB6.mono HB.out.size)
      have hC6 := h.below hBw
      have hlw : w.heap.size + 1 < wa.heap.size := block_lt HM.out.2
      have H6 := hd (And.intro hC6 (And.intro hBw (And.intro hM6 hE6)))
      clear l0 y0 y1 y2 y3 y4 H1
      obtain ⟨⟨y0, y1, y2, y3, y4⟩, -⟩ := cells5 (show wc.heap[w.heap.size]? = some (.cells #[.int .i64 k, .int .i64 ps, .int .u8 ch, .int .i64 id, .int .i64 ((n : Int) + 1)] 34 (0, 0)) from hM6.1)
      have l0 := block_lt hM6.1
      generalize hbe : wa.heap.size = be at *
      have HLW := hd hlw
      clear hbe h hf he hn h6 hE6 hB6 hM6 hBw hC6 hlw HM HB
      go_wp2_with fail
      refine (capply_any x z id ds es βp p ⟨k, ps, ch, id, (n : Int) + 1⟩ wc H6.out.1 ⟨hc0, hc1⟩ HH.out.2.1).mono ?_
      rintro e w5 ⟨rfl, hC5, hF5⟩
      subst hwe
      obtain ⟨hC6, hBw, hM6, hE6⟩ := H6.out
      obtain ⟨h, hf, he, hn, -⟩ := HH.out
      have hxw : x < w.heap.size := h.tg.lt
      have hM5 : ME w w5 ⟨k, ps, ch, id, (n : Int) + 1⟩ := hM6.fr hF5 (by omega) (by omega)
      have hE5 := hF5.keeps hE6 (by have := HLW.out; omega)
      have hFw : Fr (· = x) w w5 := (Fr.of_below hBw).trans hF5
      have hv := (fitsP_zero hf).1
      have K1 : Hid (∀ W, Below w5.heap.size w5 W → Calls Try.prog 25 #[.pointer (some ⟨z, 0, none⟩), .int .i64 ((n : Int) + 1), .agg #[.int .i64 k, .int .i64 ps, .int .u8 ch, .int .i64 id, .int .i64 ((n : Int) + 1)]] W fun e w' => ∃ E, e = .returned (.int .i64 E) ∧ Hid (ME w w' ⟨k, ps, ch, id, (n : Int) + 1⟩ ∧ w'.heap[be]? = some (.cells #[.int .i64 0, .int .i64 k, .int .i64 ps, .int .u8 ch, .int .i64 id, .int .i64 ((n : Int) + 1)] 36 (0, 0)) ∧ Fr (fun j => T j ∧ (Tg w j 64 ∨ SpS T w j ∨ βp = some j)) w w' ∧ ∃ p', CL (TU T w.heap.size) w' x z id (applyP ds ⟨k, ps, ch, id, (n : Int) + 1⟩) es βp p' ∧ p'.last = (n : Int) + 1)) := by
        intro W hW
        have hFW : Fr (· = x) w W := hFw.trans (Fr.of_below hW)
        refine (ckeep x z id ds (applyP ds ⟨k, ps, ch, id, (n : Int) + 1⟩) es βp p ⟨k, ps, ch, id, (n : Int) + 1⟩ n w W h (hC5.below hW) hFW hn hn4 ⟨hc0, hc1⟩ hv).mono ?_
        rintro e w' ⟨E, rfl, hh⟩
        obtain ⟨p', q1, q2, q3⟩ := hh.out
        have n0 : ¬ SpS T w w.heap.size := by rintro ⟨-, h | h | h⟩ <;> (have := h.lt; omega)
        have n1 : ¬ SpS T w (w.heap.size + 1) := by rintro ⟨-, h | h | h⟩ <;> (have := h.lt; omega)
        have n2 : ¬ SpS T w be := by have := HLW.out; rintro ⟨-, h | h | h⟩ <;> (have := h.lt; omega)
        have hsW : w.heap.size ≤ W.heap.size := hFW.size
        refine ⟨E, rfl, (hM5.fr (S := fun _ => False) (Fr.of_below hW) (fun h => h) (fun h => h)).fr q3 n0 n1, q3.keeps ((Fr.of_below (S := fun _ => False) hW).keeps hE5 (fun h => h)) n2, ?_, p', q1.mono (fun k h => h.imp (fun h => h) (fun h => Nat.le_trans hsW h)), q2⟩
        exact (hFW.mono (fun k _ hk => ⟨by rw [hk]; exact h.bx, .inl (by rw [hk]; exact h.tg)⟩)).next q3 (fun k _ hk => ⟨hk.1, .inr (.inl hk)⟩)
      obtain ⟨y', vt', vp', βt', c5, -⟩ := hC5
      obtain ⟨⟨lx, -, -, -, -, -, k5, -⟩, -⟩ := c5.cells
      clear y0 y1 y2 y3 y4 l0
      obtain ⟨⟨y0, y1, y2, y3, y4⟩, -⟩ := cells5 (show w5.heap[w.heap.size]? = some (.cells #[.int .i64 k, .int .i64 ps, .int .u8 ch, .int .i64 id, .int .i64 ((n : Int) + 1)] 34 (0, 0)) from hM5.1)
      have l0 := block_lt hM5.1
      have l2 := block_lt hE5
      clear c5 hC6 hBw hM6 hE6 h hf he hn hM5 hE5 hFw hv hF5 H6 hxw
      go_wp2_with fail
      go_cut [] (fun wx => Hid (ME w wx ⟨k, ps, ch, id, (n : Int) + 1⟩ ∧ wx.heap[be]? = some (.cells #[.int .i64 0, .int .i64 k, .int .i64 ps, .int .u8 ch, .int .i64 id, .int .i64 ((n : Int) + 1)] 36 (0, 0)) ∧ Fr (fun j => T j ∧ (Tg w j 64 ∨ SpS T w j ∨ βp = some j)) w wx ∧ ∃ p', CL (TU T w.heap.size) wx x z id (applyP ds ⟨k, ps, ch, id, (n : Int) + 1⟩) es βp p' ∧ p'.last = (n : Int) + 1))
      case first =>
        go_region_law (first | (go_simp; go_at_call 25; refine (K1.out _ (by repeat (first | exact Below.refl _ _ | refine Below.drew ?_ | refine below_drewN ?_ _ | refine Below.alloc ?_ (by simp) _))).mono ?_; rintro ex w3 ⟨E, rfl, k3⟩))
        all_goals
          go_wp2_with fail
          go_meet
          exact k3
      case rest =>
        obtain ⟨wk, rfl⟩ : ∃ u, u = wc := ⟨wc, rfl⟩
        obtain ⟨hM, hE, hF, p', hC, hp'⟩ := hcut.out
        obtain ⟨h, hf, he, hn, -⟩ := HH.out
        have hC' := hC
        obtain ⟨_, _, vp, _, cb, _⟩ := hC'
        obtain ⟨⟨lx, -, kc1, -, -, kc4, -⟩, -⟩ := cb.cells
        have hu : Below wk.heap.size wk (wk.drew.alloc (.cells #[.int .i64 0, .int .i64 k, .int .i64 ps, .int .u8 ch, .int .i64 id, .int .i64 ((n : Int) + 1)] 36)) := ((Below.refl _ _).drew).alloc (Nat.le_refl _) _
        obtain ⟨a4, n4, c4, wb, hr, ⟨m1, m2, m3⟩, βp', hCL, hβ, hFr⟩ := CL.pend (ed := (0, ⟨k, ps, ch, id, (n : Int) + 1⟩)) hC kc4 hu (heap_alloc_new wk.drew _) he
        have hsz := hF.size
        have lM := block_lt hM.2
        have lE := block_lt hE
        have hFx : ∀ j, j = x ∨ βp = some j → j < w.heap.size := by
          rintro j (rfl | hj)
          · exact h.tg.lt
          · exact h.plt hj
        obtain ⟨WF, hWF⟩ : ∃ u, u = wb.setCell ⟨x, 4, none⟩ (.slice a4 n4 c4) := ⟨_, rfl⟩
        rw [← hWF] at hCL hFr
        have Z : Hid (ME w WF ⟨k, ps, ch, id, (n : Int) + 1⟩ ∧ WF.heap[be]? = some (.cells #[.int .i64 0, .int .i64 k, .int .i64 ps, .int .u8 ch, .int .i64 id, .int .i64 ((n : Int) + 1)] 36 (0, 0)) ∧ Fr (fun j => T j ∧ (Tg w j 64 ∨ SpS T w j ∨ βp = some j)) w WF ∧ ∃ βp' p', CL (TU T w.heap.size) WF x z id (applyP ds ⟨k, ps, ch, id, (n : Int) + 1⟩) (es ++ [(0, ⟨k, ps, ch, id, (n : Int) + 1⟩)]) βp' p' ∧ p'.last = (n : Int) + 1 ∧ (βp' = βp ∨ ∃ g, βp' = some g ∧ w.heap.size + 2 ≤ g)) := by
          refine ⟨hM.fr hFr (fun hh => by have := hFx _ hh; omega) (fun hh => by have := hFx _ hh; omega), hFr.keeps hE (fun hh => by have := hFx _ hh; have := HLW.out; omega), hF.next hFr (fun j hj hh => ?_), βp', p', hCL.mono (fun k h => by rcases h with h | h; exact h; exact .inr (Nat.le_trans hsz h)), hp', ?_⟩
          · rcases hh with rfl | hh
            · exact ⟨h.bx, .inl h.tg⟩
            · exact ⟨h.bp hh, .inr (.inr hh)⟩
          · rcases hβ with hb | ⟨g, hb, hg⟩
            · exact .inl hb
            · exact .inr ⟨g, hb, by omega⟩
        obtain ⟨⟨e0, e1, e2, e3, e4, e5⟩, -⟩ := cells6 hE
        have HWF := hd hWF
        rw [show wk.drew.heap.size = wk.heap.size from rfl] at hr
        clear hM hE hF hC hp' h hf he hn cb hu hCL hβ hFr hsz lM hFx hWF K1 k5 y0 y1 y2 y3 y4 l0 l2
        go_wp2_with fail
        go_cut [] (fun wx => wx = WF)
        case first =>
          go_region_law (refine step_append_k rfl (.tmp 39) (.tmp 41) 30 30 rfl _ _ (by simp [Act.eval]) (by simp [Act.eval]) (hr _) ?_)
          all_goals
            go_wp2_with fail
            go_meet
            exact HWF.out.symm
        case rest =>
          obtain rfl := hcut
          obtain ⟨hM, hE, hF, βq, q, hC, hq, hβ⟩ := Z.out
          have hC' := hC
          obtain ⟨_, _, _, _, cb, _⟩ := hC'
          obtain ⟨⟨lx', -, kx1, -⟩, -⟩ := cb.cells
          clear e0 e1 e2 e3 e4 e5
          obtain ⟨⟨e0, e1, e2, e3, e4, e5⟩, -⟩ := cells6 hE
          obtain ⟨⟨r0, r1, r2, r3, r4, r5⟩, ⟨t0, t1, t2, t3, t4, t5⟩⟩ := cells6 hM.2
          have lE' := block_lt hE
          have lM' := block_lt hM.2
          have hne : ¬ be = w.heap.size + 1 := by have := HLW.out; omega
          obtain ⟨h6, hF6⟩ := set6 hM.2 (.int .i64 0) (.int .i64 k) (.int .i64 ps) (.int .u8 ch) (.int .i64 id) (.int .i64 ((n : Int) + 1))
          have X : Hid (∃ βp' p', CL (TU T w.heap.size) ((((((wc.setCell ⟨w.heap.size + 1, 0, none⟩ (.int .i64 0)).setCell ⟨w.heap.size + 1, 1, none⟩ (.int .i64 k)).setCell ⟨w.heap.size + 1, 2, none⟩ (.int .i64 ps)).setCell ⟨w.heap.size + 1, 3, none⟩ (.int .u8 ch)).setCell ⟨w.heap.size + 1, 4, none⟩ (.int .i64 id)).setCell ⟨w.heap.size + 1, 5, none⟩ (.int .i64 ((n : Int) + 1))) x z id (applyP ds ⟨k, ps, ch, id, (n : Int) + 1⟩) (es ++ [(0, ⟨k, ps, ch, id, (n : Int) + 1⟩)]) βp' p' ∧ p'.last = (n : Int) + 1 ∧ (βp' = βp ∨ ∃ g, βp' = some g ∧ w.heap.size ≤ g) ∧ Fr (fun j => T j ∧ (Tg w j 64 ∨ SpS T w j ∨ βp = some j)) w ((((((wc.setCell ⟨w.heap.size + 1, 0, none⟩ (.int .i64 0)).setCell ⟨w.heap.size + 1, 1, none⟩ (.int .i64 k)).setCell ⟨w.heap.size + 1, 2, none⟩ (.int .i64 ps)).setCell ⟨w.heap.size + 1, 3, none⟩ (.int .u8 ch)).setCell ⟨w.heap.size + 1, 4, none⟩ (.int .i64 id)).setCell ⟨w.heap.size + 1, 5, none⟩ (.int .i64 ((n : Int) + 1)))) := by
            refine ⟨βq, q, hC.fr hF6 ?_ ?_, hq, ?_, hF.next hF6 (fun j hj hh => by omega)⟩
            · have ht : Tg wc (w.heap.size + 1) 36 := ⟨_, hM.2⟩
              rintro j (hj | hj | hj | hj)
              · exact hj.ne ht (by decide)
              · exact hj.ne ht (by decide)
              · exact hj.ne ht (by decide)
              · exact hj.not ht (by decide) (by decide) (by decide)
            · rintro g hg rfl
              rcases hβ with hb | ⟨g', hb, hg'⟩
              · have := HH.out.1.plt (hb ▸ hg)
                omega
              · rw [hb] at hg
                injection hg with hg
                omega
            · rcases hβ with hb | ⟨g, hb, hg⟩
              · exact .inl hb
              · exact .inr ⟨g, hb, by omega⟩
          clear hM hE hF hC hq hβ cb h6 hF6 Z HWF hr kc1 kc4 m1 m2 m3 lE
          go_wp2
          refine bodyPost_ret (v := .tuple #[.agg #[.int .i64 0, .int .i64 k, .int .i64 ps, .int .u8 ch, .int .i64 id, .int .i64 ((n : Int) + 1)], .int .i64 0]) (by simp [results, Try.results17, go_sem, r0, r1, r2, r3, r4, r5]) rfl ?_
          exact ⟨rfl, X.out⟩

end Go.Proofs.Ytjgpibajndlhaaa
