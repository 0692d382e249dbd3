/-
  The document's: an entry with a word.
-/
import Derived.Test.YtplmhilkehkeiaaDoorRg
import Derived.Test.YtplmhilkehkeiaaDoorRw
import Derived.Deep.DeepCutAuto
namespace Go.Proofs.YtplmhilkehkeiaaDoor
open Go.RowKit
set_option linter.unusedVariables false

theorem NL.frx {α : Type} {f : α → List Value} {k : Nat} {e : TypeId} {w w' : World} {base : Nat} {v : Value} {xs : List α} {x : Nat} (h : NL f k e w base v xs) (hF : Fr (· = x) w w') (hx : ∀ cur, w.heap[x]? ≠ some (.cells cur e (0, 0))) : NL f k e w' base v xs := by
  obtain ⟨β, h1, h2⟩ := h
  refine ⟨β, h1.fr hF (fun g hg he => ?_), h2⟩
  have he' : g = x := he
  subst he'
  subst hg
  obtain ⟨cur, hc⟩ := h1.blk
  exact hx _ hc

/-- What with leaves: an entry that reads so. -/
def WR (w w' : World) (base : Nat) (E : En) (e : Ending) : Prop := ∃ v, e = .returned (.agg (ecell E v)) ∧ NL bc 1 5 w' base v (bI E.bytes) ∧ Below w.heap.size w w'

set_option maxRecDepth 100000 in
set_option maxHeartbeats 8000000 in
theorem with_any (E : En) (p lo hi n : Int) (s : ByteArray) (ve : Value) (base : Nat) (w : World) (hz : s.size ≤ 2000000) (h0 : 0 ≤ p) (h5 : p ≤ 5) (hv : valP p (tl s) = .ok n) (hN : NL bc 1 5 w base ve (bI E.bytes)) (hb : base ≤ w.heap.size) :
    Calls Tryd.prog 32 #[.agg (ecell E ve), .agg #[.int .u8 (letP p), .int .i64 lo, .int .i64 hi], .string s] w fun e w' => WR w w' base (putP E ⟨p, lo, hi⟩ (tl s) n) e := by
  obtain ⟨va, vc, hvf⟩ := hN.form
  obtain ⟨vn, hvn⟩ : ∃ vn, (bI E.bytes).length = vn := ⟨_, rfl⟩
  rw [hvn] at hvf
  subst hvf
  have HN := hd hN
  have HB := hd hb
  have HV := hd hv
  have CV : Hid (∀ U : World, Calls Tryd.prog 31 #[.agg #[.int .u8 (letP p), .int .i64 lo, .int .i64 hi], .string s] U fun e w' => e = .returned (.int .i64 n) ∧ Below U.heap.size U w') := fun U => rvalue_any p lo hi n s U hz h0 h5 hv
  clear hN hb hv hvn
  obtain ⟨ek, es, ea, eb, ec, ech, ebs, ee⟩ := E
  simp only [ecell]
  simp only at HN
  generalize hl : letP p = l at CV ⊢
  have HL := hd hl
  clear hl
  have g1 : (((w.alloc (.cells #[.int .i64 ek, .int .i64 es, .int .i64 ea, .int .i64 eb, .int .i64 ec, .int .u8 ech, .slice va vn vc, .int .i64 ee] 25)).alloc (.cells #[.int .u8 l, .int .i64 lo, .int .i64 hi] 67)).alloc (.cells #[.int .i64 0, .int .i64 0, .int .i64 0, .int .i64 0, .int .i64 0, .int .u8 0, .slice none 0 0, .int .i64 0] 25)).heap[w.heap.size]? = some (.cells (ecell ⟨ek, es, ea, eb, ec, ech, ebs, ee⟩ (.slice va vn vc)) 25 (0, 0)) := (heap_alloc_old _ _ (by simp; omega)).trans ((heap_alloc_old _ _ (by simp)).trans (heap_alloc_new _ _))
  have g2 : (((w.alloc (.cells #[.int .i64 ek, .int .i64 es, .int .i64 ea, .int .i64 eb, .int .i64 ec, .int .u8 ech, .slice va vn vc, .int .i64 ee] 25)).alloc (.cells #[.int .u8 l, .int .i64 lo, .int .i64 hi] 67)).alloc (.cells #[.int .i64 0, .int .i64 0, .int .i64 0, .int .i64 0, .int .i64 0, .int .u8 0, .slice none 0 0, .int .i64 0] 25)).heap[w.heap.size + 1]? = some (.cells #[.int .u8 l, .int .i64 lo, .int .i64 hi] 67 (0, 0)) := (heap_alloc_old _ _ (by simp)).trans (heap2 _ _ _)
  have g3 : EZ (((w.alloc (.cells #[.int .i64 ek, .int .i64 es, .int .i64 ea, .int .i64 eb, .int .i64 ec, .int .u8 ech, .slice va vn vc, .int .i64 ee] 25)).alloc (.cells #[.int .u8 l, .int .i64 lo, .int .i64 hi] 67)).alloc (.cells #[.int .i64 0, .int .i64 0, .int .i64 0, .int .i64 0, .int .i64 0, .int .u8 0, .slice none 0 0, .int .i64 0] 25)) (w.heap.size + 1 + 1) := by
    have h := heap2 (w.alloc (.cells #[.int .i64 ek, .int .i64 es, .int .i64 ea, .int .i64 eb, .int .i64 ec, .int .u8 ech, .slice va vn vc, .int .i64 ee] 25)) (.cells #[.int .u8 l, .int .i64 lo, .int .i64 hi] 67) (.cells #[.int .i64 0, .int .i64 0, .int .i64 0, .int .i64 0, .int .i64 0, .int .u8 0, .slice none 0 0, .int .i64 0] 25)
    rw [World.size_alloc] at h
    exact h
  have gb : Below w.heap.size w (((w.alloc (.cells #[.int .i64 ek, .int .i64 es, .int .i64 ea, .int .i64 eb, .int .i64 ec, .int .u8 ech, .slice va vn vc, .int .i64 ee] 25)).alloc (.cells #[.int .u8 l, .int .i64 lo, .int .i64 hi] 67)).alloc (.cells #[.int .i64 0, .int .i64 0, .int .i64 0, .int .i64 0, .int .i64 0, .int .u8 0, .slice none 0 0, .int .i64 0] 25)) := (((Below.refl _ _).alloc (Nat.le_refl _) _).alloc (by simp) _).alloc (by simp; omega) _
  have gs : (((w.alloc (.cells #[.int .i64 ek, .int .i64 es, .int .i64 ea, .int .i64 eb, .int .i64 ec, .int .u8 ech, .slice va vn vc, .int .i64 ee] 25)).alloc (.cells #[.int .u8 l, .int .i64 lo, .int .i64 hi] 67)).alloc (.cells #[.int .i64 0, .int .i64 0, .int .i64 0, .int .i64 0, .int .i64 0, .int .u8 0, .slice none 0 0, .int .i64 0] 25)).heap.size = w.heap.size + 3 := by simp
  have H1 := hd g1
  have H2 := hd g2
  have H3 := hd g3
  have HG := hd gb
  have HS := hd gs
  have x0 := cell_row g2 0
  have x1 := cell_row g2 1
  have x2 := cell_row g2 2
  simp at x0 x1 x2
  clear g1 g2 g3 gb gs
  have hc : p = 0 ∨ p = 1 ∨ p = 2 ∨ p = 3 ∨ p = 4 ∨ p = 5 := by omega
  clear h0 h5
  rcases hc with rfl | rfl | rfl | rfl | rfl | rfl
  · obtain rfl : l = 83 := HL.out.symm
    go_enter Tryd.func32, Tryd.ntmps32
    go_wp2_with fail
    generalize (((w.alloc (.cells #[.int .i64 ek, .int .i64 es, .int .i64 ea, .int .i64 eb, .int .i64 ec, .int .u8 ech, .slice va vn vc, .int .i64 ee] 25)).alloc (.cells #[.int .u8 83, .int .i64 lo, .int .i64 hi] 67)).alloc (.cells #[.int .i64 0, .int .i64 0, .int .i64 0, .int .i64 0, .int .i64 0, .int .u8 0, .slice none 0 0, .int .i64 0] 25)) = w0 at *
    go_upto_region 15 with (go_at_call 31; refine (CV.out _).mono ?_; rintro e w1 ⟨rfl, hB1⟩; have K1 := hd ((hB1.block _ (block_lt H1.out)).trans H1.out); have K2 := hd ((hB1.block _ (block_lt H2.out)).trans H2.out); have K3 := hd (H3.out.below hB1 (block_lt H3.out)); have KG := hd (HG.out.trans (hB1.mono HG.out.size)); have KS := hd (show w.heap.size + 3 ≤ w1.heap.size by have := hB1.size; have := HS.out; omega); have y0 := cell_row K2.out 0; simp at y0; clear hB1 x0 x1 x2; obtain ⟨⟨d0, d1, d2, d3⟩, d4, d5, d6, d7⟩ := en_cells K1.out; obtain ⟨⟨f0, f1, f2, f3⟩, f4, f5, f6, f7⟩ := en_frozen K1.out; simp only at d0 d1 d2 d3 d4 d5 d6 d7; have s1 := block_lt K1.out)
    have P1 : (w1.setCell ⟨w.heap.size, 1, none⟩ (.int .i64 n)).heap[w.heap.size]? = some (.cells (ecell ⟨ek, n, ea, eb, ec, ech, ebs, ee⟩ (.slice va vn vc)) 25 (0, 0)) := (set_row K1.out 1 _).trans rfl
    have P3 : EZ (w1.setCell ⟨w.heap.size, 1, none⟩ (.int .i64 n)) (w.heap.size + 1 + 1) := (Fr.setCell (S := (· = w.heap.size)) w1 ⟨w.heap.size, 1, none⟩ (.int .i64 n) rfl).keeps K3.out (by omega)
    have PG : Below w.heap.size w (w1.setCell ⟨w.heap.size, 1, none⟩ (.int .i64 n)) := KG.out.setCell (Nat.le_refl _) _
    have PN : NL bc 1 5 (w1.setCell ⟨w.heap.size, 1, none⟩ (.int .i64 n)) base (.slice va vn vc) (bI ebs) := (HN.out.fr (Fr.of_below (S := fun _ => False) KG.out) (fun _ _ _ h => h)).set w.heap.size 1 _ (fun cur h => by have := K1.out; rw [h] at this; simp at this)
    have Q1 := hd P1
    have Q3 := hd P3
    have QG := hd PG
    have QN := hd PN
    clear P1 P3 PG PN d0 d1 d2 d3 d4 d5 d6 d7 f0 f1 f2 f3 f4 f5 f6 f7 s1
    generalize w1.setCell ⟨w.heap.size, 1, none⟩ (.int .i64 n) = w2 at *
    obtain ⟨⟨d0, d1, d2, d3⟩, d4, d5, d6, d7⟩ := en_cells Q1.out
    obtain ⟨⟨c0, c1, c2, c3⟩, c4, c5, c6, c7⟩ := en_cells Q3.out
    obtain ⟨⟨f0, f1, f2, f3⟩, f4, f5, f6, f7⟩ := en_frozen Q3.out
    simp only at d0 d1 d2 d3 d4 d5 d6 d7 c0 c1 c2 c3 c4 c5 c6 c7
    have s3 := block_lt Q3.out
    have s1 := block_lt Q1.out
    obtain ⟨R1, R2⟩ := put8_heap (E := ⟨ek, n, ea, eb, ec, ech, ebs, ee⟩) (v := (.slice va vn vc)) Q3.out
    unfold put8 at R1 R2
    simp only at R1 R2
    have BF : Below w.heap.size w ((((((((w2.setCell ⟨w.heap.size + 1 + 1, 0, none⟩ (.int .i64 ek)).setCell ⟨w.heap.size + 1 + 1, 1, none⟩ (.int .i64 n)).setCell ⟨w.heap.size + 1 + 1, 2, none⟩ (.int .i64 ea)).setCell ⟨w.heap.size + 1 + 1, 3, none⟩ (.int .i64 eb)).setCell ⟨w.heap.size + 1 + 1, 4, none⟩ (.int .i64 ec)).setCell ⟨w.heap.size + 1 + 1, 5, none⟩ (.int .u8 ech)).setCell ⟨w.heap.size + 1 + 1, 6, none⟩ (.slice va vn vc)).setCell ⟨w.heap.size + 1 + 1, 7, none⟩ (.int .i64 ee)) := QG.out.trans (R2.below (by have := QG.out.size; omega) (fun k hk => by omega))
    have NF := QN.out.frx R2 (fun cur h => by have := Q3.out; unfold EZ at this; rw [h] at this; simp at this)
    have BB := hd BF
    have PH := hd R1
    have NG := hd NF
    clear R1 R2 BF NF
    go_wp2
    clear c0 c1 c2 c3 c4 c5 c6 c7 f0 f1 f2 f3 f4 f5 f6 f7 d0 d1 d2 d3 d4 d5 d6 d7
    generalize ((((((((w2.setCell ⟨w.heap.size + 1 + 1, 0, none⟩ (.int .i64 ek)).setCell ⟨w.heap.size + 1 + 1, 1, none⟩ (.int .i64 n)).setCell ⟨w.heap.size + 1 + 1, 2, none⟩ (.int .i64 ea)).setCell ⟨w.heap.size + 1 + 1, 3, none⟩ (.int .i64 eb)).setCell ⟨w.heap.size + 1 + 1, 4, none⟩ (.int .i64 ec)).setCell ⟨w.heap.size + 1 + 1, 5, none⟩ (.int .u8 ech)).setCell ⟨w.heap.size + 1 + 1, 6, none⟩ (.slice va vn vc)).setCell ⟨w.heap.size + 1 + 1, 7, none⟩ (.int .i64 ee)) = W at *
    obtain ⟨⟨q0, q1, q2, q3⟩, q4, q5, q6, q7⟩ := en_cells PH.out
    simp only at q0 q1 q2 q3 q4 q5 q6 q7
    refine bodyPost_ret (v := .agg (ecell ⟨ek, n, ea, eb, ec, ech, ebs, ee⟩ (.slice va vn vc))) (by simp [results, Tryd.results32, go_sem, q0, q1, q2, q3, q4, q5, q6, q7, ecell]) rfl ?_
    exact ⟨_, rfl, NG.out, BB.out⟩
  · obtain rfl : l = 65 := HL.out.symm
    go_enter Tryd.func32, Tryd.ntmps32
    go_wp2_with fail
    generalize (((w.alloc (.cells #[.int .i64 ek, .int .i64 es, .int .i64 ea, .int .i64 eb, .int .i64 ec, .int .u8 ech, .slice va vn vc, .int .i64 ee] 25)).alloc (.cells #[.int .u8 65, .int .i64 lo, .int .i64 hi] 67)).alloc (.cells #[.int .i64 0, .int .i64 0, .int .i64 0, .int .i64 0, .int .i64 0, .int .u8 0, .slice none 0 0, .int .i64 0] 25)) = w0 at *
    go_upto_region 15 with (go_at_call 31; refine (CV.out _).mono ?_; rintro e w1 ⟨rfl, hB1⟩; have K1 := hd ((hB1.block _ (block_lt H1.out)).trans H1.out); have K2 := hd ((hB1.block _ (block_lt H2.out)).trans H2.out); have K3 := hd (H3.out.below hB1 (block_lt H3.out)); have KG := hd (HG.out.trans (hB1.mono HG.out.size)); have KS := hd (show w.heap.size + 3 ≤ w1.heap.size by have := hB1.size; have := HS.out; omega); have y0 := cell_row K2.out 0; simp at y0; clear hB1 x0 x1 x2; obtain ⟨⟨d0, d1, d2, d3⟩, d4, d5, d6, d7⟩ := en_cells K1.out; obtain ⟨⟨f0, f1, f2, f3⟩, f4, f5, f6, f7⟩ := en_frozen K1.out; simp only at d0 d1 d2 d3 d4 d5 d6 d7; have s1 := block_lt K1.out)
    have P1 : (w1.setCell ⟨w.heap.size, 2, none⟩ (.int .i64 n)).heap[w.heap.size]? = some (.cells (ecell ⟨ek, es, n, eb, ec, ech, ebs, ee⟩ (.slice va vn vc)) 25 (0, 0)) := (set_row K1.out 2 _).trans rfl
    have P3 : EZ (w1.setCell ⟨w.heap.size, 2, none⟩ (.int .i64 n)) (w.heap.size + 1 + 1) := (Fr.setCell (S := (· = w.heap.size)) w1 ⟨w.heap.size, 2, none⟩ (.int .i64 n) rfl).keeps K3.out (by omega)
    have PG : Below w.heap.size w (w1.setCell ⟨w.heap.size, 2, none⟩ (.int .i64 n)) := KG.out.setCell (Nat.le_refl _) _
    have PN : NL bc 1 5 (w1.setCell ⟨w.heap.size, 2, none⟩ (.int .i64 n)) base (.slice va vn vc) (bI ebs) := (HN.out.fr (Fr.of_below (S := fun _ => False) KG.out) (fun _ _ _ h => h)).set w.heap.size 2 _ (fun cur h => by have := K1.out; rw [h] at this; simp at this)
    have Q1 := hd P1
    have Q3 := hd P3
    have QG := hd PG
    have QN := hd PN
    clear P1 P3 PG PN d0 d1 d2 d3 d4 d5 d6 d7 f0 f1 f2 f3 f4 f5 f6 f7 s1
    generalize w1.setCell ⟨w.heap.size, 2, none⟩ (.int .i64 n) = w2 at *
    obtain ⟨⟨d0, d1, d2, d3⟩, d4, d5, d6, d7⟩ := en_cells Q1.out
    obtain ⟨⟨c0, c1, c2, c3⟩, c4, c5, c6, c7⟩ := en_cells Q3.out
    obtain ⟨⟨f0, f1, f2, f3⟩, f4, f5, f6, f7⟩ := en_frozen Q3.out
    simp only at d0 d1 d2 d3 d4 d5 d6 d7 c0 c1 c2 c3 c4 c5 c6 c7
    have s3 := block_lt Q3.out
    have s1 := block_lt Q1.out
    obtain ⟨R1, R2⟩ := put8_heap (E := ⟨ek, es, n, eb, ec, ech, ebs, ee⟩) (v := (.slice va vn vc)) Q3.out
    unfold put8 at R1 R2
    simp only at R1 R2
    have BF : Below w.heap.size w ((((((((w2.setCell ⟨w.heap.size + 1 + 1, 0, none⟩ (.int .i64 ek)).setCell ⟨w.heap.size + 1 + 1, 1, none⟩ (.int .i64 es)).setCell ⟨w.heap.size + 1 + 1, 2, none⟩ (.int .i64 n)).setCell ⟨w.heap.size + 1 + 1, 3, none⟩ (.int .i64 eb)).setCell ⟨w.heap.size + 1 + 1, 4, none⟩ (.int .i64 ec)).setCell ⟨w.heap.size + 1 + 1, 5, none⟩ (.int .u8 ech)).setCell ⟨w.heap.size + 1 + 1, 6, none⟩ (.slice va vn vc)).setCell ⟨w.heap.size + 1 + 1, 7, none⟩ (.int .i64 ee)) := QG.out.trans (R2.below (by have := QG.out.size; omega) (fun k hk => by omega))
    have NF := QN.out.frx R2 (fun cur h => by have := Q3.out; unfold EZ at this; rw [h] at this; simp at this)
    have BB := hd BF
    have PH := hd R1
    have NG := hd NF
    clear R1 R2 BF NF
    go_wp2
    clear c0 c1 c2 c3 c4 c5 c6 c7 f0 f1 f2 f3 f4 f5 f6 f7 d0 d1 d2 d3 d4 d5 d6 d7
    generalize ((((((((w2.setCell ⟨w.heap.size + 1 + 1, 0, none⟩ (.int .i64 ek)).setCell ⟨w.heap.size + 1 + 1, 1, none⟩ (.int .i64 es)).setCell ⟨w.heap.size + 1 + 1, 2, none⟩ (.int .i64 n)).setCell ⟨w.heap.size + 1 + 1, 3, none⟩ (.int .i64 eb)).setCell ⟨w.heap.size + 1 + 1, 4, none⟩ (.int .i64 ec)).setCell ⟨w.heap.size + 1 + 1, 5, none⟩ (.int .u8 ech)).setCell ⟨w.heap.size + 1 + 1, 6, none⟩ (.slice va vn vc)).setCell ⟨w.heap.size + 1 + 1, 7, none⟩ (.int .i64 ee)) = W at *
    obtain ⟨⟨q0, q1, q2, q3⟩, q4, q5, q6, q7⟩ := en_cells PH.out
    simp only at q0 q1 q2 q3 q4 q5 q6 q7
    refine bodyPost_ret (v := .agg (ecell ⟨ek, es, n, eb, ec, ech, ebs, ee⟩ (.slice va vn vc))) (by simp [results, Tryd.results32, go_sem, q0, q1, q2, q3, q4, q5, q6, q7, ecell]) rfl ?_
    exact ⟨_, rfl, NG.out, BB.out⟩
  · obtain rfl : l = 66 := HL.out.symm
    go_enter Tryd.func32, Tryd.ntmps32
    go_wp2_with fail
    generalize (((w.alloc (.cells #[.int .i64 ek, .int .i64 es, .int .i64 ea, .int .i64 eb, .int .i64 ec, .int .u8 ech, .slice va vn vc, .int .i64 ee] 25)).alloc (.cells #[.int .u8 66, .int .i64 lo, .int .i64 hi] 67)).alloc (.cells #[.int .i64 0, .int .i64 0, .int .i64 0, .int .i64 0, .int .i64 0, .int .u8 0, .slice none 0 0, .int .i64 0] 25)) = w0 at *
    go_upto_region 15 with (go_at_call 31; refine (CV.out _).mono ?_; rintro e w1 ⟨rfl, hB1⟩; have K1 := hd ((hB1.block _ (block_lt H1.out)).trans H1.out); have K2 := hd ((hB1.block _ (block_lt H2.out)).trans H2.out); have K3 := hd (H3.out.below hB1 (block_lt H3.out)); have KG := hd (HG.out.trans (hB1.mono HG.out.size)); have KS := hd (show w.heap.size + 3 ≤ w1.heap.size by have := hB1.size; have := HS.out; omega); have y0 := cell_row K2.out 0; simp at y0; clear hB1 x0 x1 x2; obtain ⟨⟨d0, d1, d2, d3⟩, d4, d5, d6, d7⟩ := en_cells K1.out; obtain ⟨⟨f0, f1, f2, f3⟩, f4, f5, f6, f7⟩ := en_frozen K1.out; simp only at d0 d1 d2 d3 d4 d5 d6 d7; have s1 := block_lt K1.out)
    have P1 : (w1.setCell ⟨w.heap.size, 3, none⟩ (.int .i64 n)).heap[w.heap.size]? = some (.cells (ecell ⟨ek, es, ea, n, ec, ech, ebs, ee⟩ (.slice va vn vc)) 25 (0, 0)) := (set_row K1.out 3 _).trans rfl
    have P3 : EZ (w1.setCell ⟨w.heap.size, 3, none⟩ (.int .i64 n)) (w.heap.size + 1 + 1) := (Fr.setCell (S := (· = w.heap.size)) w1 ⟨w.heap.size, 3, none⟩ (.int .i64 n) rfl).keeps K3.out (by omega)
    have PG : Below w.heap.size w (w1.setCell ⟨w.heap.size, 3, none⟩ (.int .i64 n)) := KG.out.setCell (Nat.le_refl _) _
    have PN : NL bc 1 5 (w1.setCell ⟨w.heap.size, 3, none⟩ (.int .i64 n)) base (.slice va vn vc) (bI ebs) := (HN.out.fr (Fr.of_below (S := fun _ => False) KG.out) (fun _ _ _ h => h)).set w.heap.size 3 _ (fun cur h => by have := K1.out; rw [h] at this; simp at this)
    have Q1 := hd P1
    have Q3 := hd P3
    have QG := hd PG
    have QN := hd PN
    clear P1 P3 PG PN d0 d1 d2 d3 d4 d5 d6 d7 f0 f1 f2 f3 f4 f5 f6 f7 s1
    generalize w1.setCell ⟨w.heap.size, 3, none⟩ (.int .i64 n) = w2 at *
    obtain ⟨⟨d0, d1, d2, d3⟩, d4, d5, d6, d7⟩ := en_cells Q1.out
    obtain ⟨⟨c0, c1, c2, c3⟩, c4, c5, c6, c7⟩ := en_cells Q3.out
    obtain ⟨⟨f0, f1, f2, f3⟩, f4, f5, f6, f7⟩ := en_frozen Q3.out
    simp only at d0 d1 d2 d3 d4 d5 d6 d7 c0 c1 c2 c3 c4 c5 c6 c7
    have s3 := block_lt Q3.out
    have s1 := block_lt Q1.out
    obtain ⟨R1, R2⟩ := put8_heap (E := ⟨ek, es, ea, n, ec, ech, ebs, ee⟩) (v := (.slice va vn vc)) Q3.out
    unfold put8 at R1 R2
    simp only at R1 R2
    have BF : Below w.heap.size w ((((((((w2.setCell ⟨w.heap.size + 1 + 1, 0, none⟩ (.int .i64 ek)).setCell ⟨w.heap.size + 1 + 1, 1, none⟩ (.int .i64 es)).setCell ⟨w.heap.size + 1 + 1, 2, none⟩ (.int .i64 ea)).setCell ⟨w.heap.size + 1 + 1, 3, none⟩ (.int .i64 n)).setCell ⟨w.heap.size + 1 + 1, 4, none⟩ (.int .i64 ec)).setCell ⟨w.heap.size + 1 + 1, 5, none⟩ (.int .u8 ech)).setCell ⟨w.heap.size + 1 + 1, 6, none⟩ (.slice va vn vc)).setCell ⟨w.heap.size + 1 + 1, 7, none⟩ (.int .i64 ee)) := QG.out.trans (R2.below (by have := QG.out.size; omega) (fun k hk => by omega))
    have NF := QN.out.frx R2 (fun cur h => by have := Q3.out; unfold EZ at this; rw [h] at this; simp at this)
    have BB := hd BF
    have PH := hd R1
    have NG := hd NF
    clear R1 R2 BF NF
    go_wp2
    clear c0 c1 c2 c3 c4 c5 c6 c7 f0 f1 f2 f3 f4 f5 f6 f7 d0 d1 d2 d3 d4 d5 d6 d7
    generalize ((((((((w2.setCell ⟨w.heap.size + 1 + 1, 0, none⟩ (.int .i64 ek)).setCell ⟨w.heap.size + 1 + 1, 1, none⟩ (.int .i64 es)).setCell ⟨w.heap.size + 1 + 1, 2, none⟩ (.int .i64 ea)).setCell ⟨w.heap.size + 1 + 1, 3, none⟩ (.int .i64 n)).setCell ⟨w.heap.size + 1 + 1, 4, none⟩ (.int .i64 ec)).setCell ⟨w.heap.size + 1 + 1, 5, none⟩ (.int .u8 ech)).setCell ⟨w.heap.size + 1 + 1, 6, none⟩ (.slice va vn vc)).setCell ⟨w.heap.size + 1 + 1, 7, none⟩ (.int .i64 ee)) = W at *
    obtain ⟨⟨q0, q1, q2, q3⟩, q4, q5, q6, q7⟩ := en_cells PH.out
    simp only at q0 q1 q2 q3 q4 q5 q6 q7
    refine bodyPost_ret (v := .agg (ecell ⟨ek, es, ea, n, ec, ech, ebs, ee⟩ (.slice va vn vc))) (by simp [results, Tryd.results32, go_sem, q0, q1, q2, q3, q4, q5, q6, q7, ecell]) rfl ?_
    exact ⟨_, rfl, NG.out, BB.out⟩
  · obtain rfl : l = 67 := HL.out.symm
    go_enter Tryd.func32, Tryd.ntmps32
    go_wp2_with fail
    generalize (((w.alloc (.cells #[.int .i64 ek, .int .i64 es, .int .i64 ea, .int .i64 eb, .int .i64 ec, .int .u8 ech, .slice va vn vc, .int .i64 ee] 25)).alloc (.cells #[.int .u8 67, .int .i64 lo, .int .i64 hi] 67)).alloc (.cells #[.int .i64 0, .int .i64 0, .int .i64 0, .int .i64 0, .int .i64 0, .int .u8 0, .slice none 0 0, .int .i64 0] 25)) = w0 at *
    go_upto_region 15 with (go_at_call 31; refine (CV.out _).mono ?_; rintro e w1 ⟨rfl, hB1⟩; have K1 := hd ((hB1.block _ (block_lt H1.out)).trans H1.out); have K2 := hd ((hB1.block _ (block_lt H2.out)).trans H2.out); have K3 := hd (H3.out.below hB1 (block_lt H3.out)); have KG := hd (HG.out.trans (hB1.mono HG.out.size)); have KS := hd (show w.heap.size + 3 ≤ w1.heap.size by have := hB1.size; have := HS.out; omega); have y0 := cell_row K2.out 0; simp at y0; clear hB1 x0 x1 x2; obtain ⟨⟨d0, d1, d2, d3⟩, d4, d5, d6, d7⟩ := en_cells K1.out; obtain ⟨⟨f0, f1, f2, f3⟩, f4, f5, f6, f7⟩ := en_frozen K1.out; simp only at d0 d1 d2 d3 d4 d5 d6 d7; have s1 := block_lt K1.out)
    have P1 : (w1.setCell ⟨w.heap.size, 4, none⟩ (.int .i64 n)).heap[w.heap.size]? = some (.cells (ecell ⟨ek, es, ea, eb, n, ech, ebs, ee⟩ (.slice va vn vc)) 25 (0, 0)) := (set_row K1.out 4 _).trans rfl
    have P3 : EZ (w1.setCell ⟨w.heap.size, 4, none⟩ (.int .i64 n)) (w.heap.size + 1 + 1) := (Fr.setCell (S := (· = w.heap.size)) w1 ⟨w.heap.size, 4, none⟩ (.int .i64 n) rfl).keeps K3.out (by omega)
    have PG : Below w.heap.size w (w1.setCell ⟨w.heap.size, 4, none⟩ (.int .i64 n)) := KG.out.setCell (Nat.le_refl _) _
    have PN : NL bc 1 5 (w1.setCell ⟨w.heap.size, 4, none⟩ (.int .i64 n)) base (.slice va vn vc) (bI ebs) := (HN.out.fr (Fr.of_below (S := fun _ => False) KG.out) (fun _ _ _ h => h)).set w.heap.size 4 _ (fun cur h => by have := K1.out; rw [h] at this; simp at this)
    have Q1 := hd P1
    have Q3 := hd P3
    have QG := hd PG
    have QN := hd PN
    clear P1 P3 PG PN d0 d1 d2 d3 d4 d5 d6 d7 f0 f1 f2 f3 f4 f5 f6 f7 s1
    generalize w1.setCell ⟨w.heap.size, 4, none⟩ (.int .i64 n) = w2 at *
    obtain ⟨⟨d0, d1, d2, d3⟩, d4, d5, d6, d7⟩ := en_cells Q1.out
    obtain ⟨⟨c0, c1, c2, c3⟩, c4, c5, c6, c7⟩ := en_cells Q3.out
    obtain ⟨⟨f0, f1, f2, f3⟩, f4, f5, f6, f7⟩ := en_frozen Q3.out
    simp only at d0 d1 d2 d3 d4 d5 d6 d7 c0 c1 c2 c3 c4 c5 c6 c7
    have s3 := block_lt Q3.out
    have s1 := block_lt Q1.out
    obtain ⟨R1, R2⟩ := put8_heap (E := ⟨ek, es, ea, eb, n, ech, ebs, ee⟩) (v := (.slice va vn vc)) Q3.out
    unfold put8 at R1 R2
    simp only at R1 R2
    have BF : Below w.heap.size w ((((((((w2.setCell ⟨w.heap.size + 1 + 1, 0, none⟩ (.int .i64 ek)).setCell ⟨w.heap.size + 1 + 1, 1, none⟩ (.int .i64 es)).setCell ⟨w.heap.size + 1 + 1, 2, none⟩ (.int .i64 ea)).setCell ⟨w.heap.size + 1 + 1, 3, none⟩ (.int .i64 eb)).setCell ⟨w.heap.size + 1 + 1, 4, none⟩ (.int .i64 n)).setCell ⟨w.heap.size + 1 + 1, 5, none⟩ (.int .u8 ech)).setCell ⟨w.heap.size + 1 + 1, 6, none⟩ (.slice va vn vc)).setCell ⟨w.heap.size + 1 + 1, 7, none⟩ (.int .i64 ee)) := QG.out.trans (R2.below (by have := QG.out.size; omega) (fun k hk => by omega))
    have NF := QN.out.frx R2 (fun cur h => by have := Q3.out; unfold EZ at this; rw [h] at this; simp at this)
    have BB := hd BF
    have PH := hd R1
    have NG := hd NF
    clear R1 R2 BF NF
    go_wp2
    clear c0 c1 c2 c3 c4 c5 c6 c7 f0 f1 f2 f3 f4 f5 f6 f7 d0 d1 d2 d3 d4 d5 d6 d7
    generalize ((((((((w2.setCell ⟨w.heap.size + 1 + 1, 0, none⟩ (.int .i64 ek)).setCell ⟨w.heap.size + 1 + 1, 1, none⟩ (.int .i64 es)).setCell ⟨w.heap.size + 1 + 1, 2, none⟩ (.int .i64 ea)).setCell ⟨w.heap.size + 1 + 1, 3, none⟩ (.int .i64 eb)).setCell ⟨w.heap.size + 1 + 1, 4, none⟩ (.int .i64 n)).setCell ⟨w.heap.size + 1 + 1, 5, none⟩ (.int .u8 ech)).setCell ⟨w.heap.size + 1 + 1, 6, none⟩ (.slice va vn vc)).setCell ⟨w.heap.size + 1 + 1, 7, none⟩ (.int .i64 ee)) = W at *
    obtain ⟨⟨q0, q1, q2, q3⟩, q4, q5, q6, q7⟩ := en_cells PH.out
    simp only at q0 q1 q2 q3 q4 q5 q6 q7
    refine bodyPost_ret (v := .agg (ecell ⟨ek, es, ea, eb, n, ech, ebs, ee⟩ (.slice va vn vc))) (by simp [results, Tryd.results32, go_sem, q0, q1, q2, q3, q4, q5, q6, q7, ecell]) rfl ?_
    exact ⟨_, rfl, NG.out, BB.out⟩
  · obtain rfl : l = 99 := HL.out.symm
    have hn : n % 256 = n := by
      have h := HV.out
      unfold valP at h
      rw [if_pos rfl] at h
      split at h
      · injection h with h
        have := (List.headD (tl s) 0).toNat_lt
        omega
      · cases h
    go_enter Tryd.func32, Tryd.ntmps32
    go_wp2_with fail
    generalize (((w.alloc (.cells #[.int .i64 ek, .int .i64 es, .int .i64 ea, .int .i64 eb, .int .i64 ec, .int .u8 ech, .slice va vn vc, .int .i64 ee] 25)).alloc (.cells #[.int .u8 99, .int .i64 lo, .int .i64 hi] 67)).alloc (.cells #[.int .i64 0, .int .i64 0, .int .i64 0, .int .i64 0, .int .i64 0, .int .u8 0, .slice none 0 0, .int .i64 0] 25)) = w0 at *
    go_upto_region 15 with (go_at_call 31; refine (CV.out _).mono ?_; rintro e w1 ⟨rfl, hB1⟩; have K1 := hd ((hB1.block _ (block_lt H1.out)).trans H1.out); have K2 := hd ((hB1.block _ (block_lt H2.out)).trans H2.out); have K3 := hd (H3.out.below hB1 (block_lt H3.out)); have KG := hd (HG.out.trans (hB1.mono HG.out.size)); have KS := hd (show w.heap.size + 3 ≤ w1.heap.size by have := hB1.size; have := HS.out; omega); have y0 := cell_row K2.out 0; simp at y0; clear hB1 x0 x1 x2; obtain ⟨⟨d0, d1, d2, d3⟩, d4, d5, d6, d7⟩ := en_cells K1.out; obtain ⟨⟨f0, f1, f2, f3⟩, f4, f5, f6, f7⟩ := en_frozen K1.out; simp only at d0 d1 d2 d3 d4 d5 d6 d7; have s1 := block_lt K1.out)
    have P1 : (w1.setCell ⟨w.heap.size, 5, none⟩ (.int .u8 n)).heap[w.heap.size]? = some (.cells (ecell ⟨ek, es, ea, eb, ec, n, ebs, ee⟩ (.slice va vn vc)) 25 (0, 0)) := (set_row K1.out 5 _).trans rfl
    have P3 : EZ (w1.setCell ⟨w.heap.size, 5, none⟩ (.int .u8 n)) (w.heap.size + 1 + 1) := (Fr.setCell (S := (· = w.heap.size)) w1 ⟨w.heap.size, 5, none⟩ (.int .u8 n) rfl).keeps K3.out (by omega)
    have PG : Below w.heap.size w (w1.setCell ⟨w.heap.size, 5, none⟩ (.int .u8 n)) := KG.out.setCell (Nat.le_refl _) _
    have PN : NL bc 1 5 (w1.setCell ⟨w.heap.size, 5, none⟩ (.int .u8 n)) base (.slice va vn vc) (bI ebs) := (HN.out.fr (Fr.of_below (S := fun _ => False) KG.out) (fun _ _ _ h => h)).set w.heap.size 5 _ (fun cur h => by have := K1.out; rw [h] at this; simp at this)
    have Q1 := hd P1
    have Q3 := hd P3
    have QG := hd PG
    have QN := hd PN
    clear P1 P3 PG PN d0 d1 d2 d3 d4 d5 d6 d7 f0 f1 f2 f3 f4 f5 f6 f7 s1
    generalize w1.setCell ⟨w.heap.size, 5, none⟩ (.int .u8 n) = w2 at *
    obtain ⟨⟨d0, d1, d2, d3⟩, d4, d5, d6, d7⟩ := en_cells Q1.out
    obtain ⟨⟨c0, c1, c2, c3⟩, c4, c5, c6, c7⟩ := en_cells Q3.out
    obtain ⟨⟨f0, f1, f2, f3⟩, f4, f5, f6, f7⟩ := en_frozen Q3.out
    simp only at d0 d1 d2 d3 d4 d5 d6 d7 c0 c1 c2 c3 c4 c5 c6 c7
    have s3 := block_lt Q3.out
    have s1 := block_lt Q1.out
    obtain ⟨R1, R2⟩ := put8_heap (E := ⟨ek, es, ea, eb, ec, n, ebs, ee⟩) (v := (.slice va vn vc)) Q3.out
    unfold put8 at R1 R2
    simp only at R1 R2
    have BF : Below w.heap.size w ((((((((w2.setCell ⟨w.heap.size + 1 + 1, 0, none⟩ (.int .i64 ek)).setCell ⟨w.heap.size + 1 + 1, 1, none⟩ (.int .i64 es)).setCell ⟨w.heap.size + 1 + 1, 2, none⟩ (.int .i64 ea)).setCell ⟨w.heap.size + 1 + 1, 3, none⟩ (.int .i64 eb)).setCell ⟨w.heap.size + 1 + 1, 4, none⟩ (.int .i64 ec)).setCell ⟨w.heap.size + 1 + 1, 5, none⟩ (.int .u8 n)).setCell ⟨w.heap.size + 1 + 1, 6, none⟩ (.slice va vn vc)).setCell ⟨w.heap.size + 1 + 1, 7, none⟩ (.int .i64 ee)) := QG.out.trans (R2.below (by have := QG.out.size; omega) (fun k hk => by omega))
    have NF := QN.out.frx R2 (fun cur h => by have := Q3.out; unfold EZ at this; rw [h] at this; simp at this)
    have BB := hd BF
    have PH := hd R1
    have NG := hd NF
    clear R1 R2 BF NF
    go_wp2
    clear c0 c1 c2 c3 c4 c5 c6 c7 f0 f1 f2 f3 f4 f5 f6 f7 d0 d1 d2 d3 d4 d5 d6 d7
    generalize ((((((((w2.setCell ⟨w.heap.size + 1 + 1, 0, none⟩ (.int .i64 ek)).setCell ⟨w.heap.size + 1 + 1, 1, none⟩ (.int .i64 es)).setCell ⟨w.heap.size + 1 + 1, 2, none⟩ (.int .i64 ea)).setCell ⟨w.heap.size + 1 + 1, 3, none⟩ (.int .i64 eb)).setCell ⟨w.heap.size + 1 + 1, 4, none⟩ (.int .i64 ec)).setCell ⟨w.heap.size + 1 + 1, 5, none⟩ (.int .u8 n)).setCell ⟨w.heap.size + 1 + 1, 6, none⟩ (.slice va vn vc)).setCell ⟨w.heap.size + 1 + 1, 7, none⟩ (.int .i64 ee)) = W at *
    obtain ⟨⟨q0, q1, q2, q3⟩, q4, q5, q6, q7⟩ := en_cells PH.out
    simp only at q0 q1 q2 q3 q4 q5 q6 q7
    refine bodyPost_ret (v := .agg (ecell ⟨ek, es, ea, eb, ec, n, ebs, ee⟩ (.slice va vn vc))) (by simp [results, Tryd.results32, go_sem, q0, q1, q2, q3, q4, q5, q6, q7, ecell]) rfl ?_
    exact ⟨_, rfl, NG.out, BB.out⟩
  · obtain rfl : l = 104 := HL.out.symm
    obtain ⟨t, ht⟩ : ∃ t, hexP (tl s) = some t := by
      have h := HV.out
      unfold valP at h
      rw [if_neg (by decide), if_pos rfl] at h
      cases hh : hexP (tl s) with
      | none => rw [hh] at h; cases h
      | some t => exact ⟨t, rfl⟩
    have HT := hd ht
    clear ht
    go_enter Tryd.func32, Tryd.ntmps32
    go_wp2_with fail
    generalize (((w.alloc (.cells #[.int .i64 ek, .int .i64 es, .int .i64 ea, .int .i64 eb, .int .i64 ec, .int .u8 ech, .slice va vn vc, .int .i64 ee] 25)).alloc (.cells #[.int .u8 104, .int .i64 lo, .int .i64 hi] 67)).alloc (.cells #[.int .i64 0, .int .i64 0, .int .i64 0, .int .i64 0, .int .i64 0, .int .u8 0, .slice none 0 0, .int .i64 0] 25)) = w0 at *
    go_upto_region 15 with (first | (go_at_call 31; refine (CV.out _).mono ?_; rintro e w1 ⟨rfl, hB1⟩; have K1 := hd ((hB1.block _ (block_lt H1.out)).trans H1.out); have K2 := hd ((hB1.block _ (block_lt H2.out)).trans H2.out); have K3 := hd (H3.out.below hB1 (block_lt H3.out)); have KG := hd (HG.out.trans (hB1.mono HG.out.size)); have KS := hd (show w.heap.size + 3 ≤ w1.heap.size by have := hB1.size; have := HS.out; omega); have y0 := cell_row K2.out 0; simp at y0; clear hB1 x0 x1 x2; obtain ⟨⟨d0, d1, d2, d3⟩, d4, d5, d6, d7⟩ := en_cells K1.out; obtain ⟨⟨f0, f1, f2, f3⟩, f4, f5, f6, f7⟩ := en_frozen K1.out; simp only at d0 d1 d2 d3 d4 d5 d6 d7; have s1 := block_lt K1.out) | (go_at_call 48; refine (bytesOf_any s _ hz).mono ?_; rw [HT.out]; rintro e w3 ⟨v3, fl3, rfl, -, hN3, hB3⟩; rw [Option.getD_some] at hN3; obtain ⟨ta, tc, hvf⟩ := hN3.form; subst hvf; have M1 := hd ((hB3.block _ (block_lt K1.out)).trans K1.out); have M3 := hd (K3.out.below hB3 (block_lt K3.out)); have MG := hd (KG.out.trans (hB3.mono KG.out.size)); have MN := hd (hN3.base (base' := base) (by have := HB.out; have := KS.out; omega)); have MS := hd (Nat.le_trans KS.out hB3.size); clear d0 d1 d2 d3 d4 d5 d6 d7 f0 f1 f2 f3 f4 f5 f6 f7 s1 hN3 hB3 y0; obtain ⟨⟨d0, d1, d2, d3⟩, d4, d5, d6, d7⟩ := en_cells M1.out; obtain ⟨⟨f0, f1, f2, f3⟩, f4, f5, f6, f7⟩ := en_frozen M1.out; simp only at d0 d1 d2 d3 d4 d5 d6 d7; have s1 := block_lt M1.out))
    have P1 : (w3.setCell ⟨w.heap.size, 6, none⟩ (.slice ta (bI t).length tc)).heap[w.heap.size]? = some (.cells (ecell ⟨ek, es, ea, eb, ec, ech, t, ee⟩ (.slice ta (bI t).length tc)) 25 (0, 0)) := (set_row M1.out 6 _).trans rfl
    have P3 : EZ (w3.setCell ⟨w.heap.size, 6, none⟩ (.slice ta (bI t).length tc)) (w.heap.size + 1 + 1) := (Fr.setCell (S := (· = w.heap.size)) w3 ⟨w.heap.size, 6, none⟩ (.slice ta (bI t).length tc) rfl).keeps M3.out (by omega)
    have PG : Below w.heap.size w (w3.setCell ⟨w.heap.size, 6, none⟩ (.slice ta (bI t).length tc)) := MG.out.setCell (Nat.le_refl _) _
    have PN : NL bc 1 5 (w3.setCell ⟨w.heap.size, 6, none⟩ (.slice ta (bI t).length tc)) base (.slice ta (bI t).length tc) (bI t) := MN.out.set w.heap.size 6 _ (fun cur h => by have := M1.out; rw [h] at this; simp at this)
    have Q1 := hd P1
    have Q3 := hd P3
    have QG := hd PG
    have QN := hd PN
    clear P1 P3 PG PN d0 d1 d2 d3 d4 d5 d6 d7 f0 f1 f2 f3 f4 f5 f6 f7 s1
    generalize w3.setCell ⟨w.heap.size, 6, none⟩ (.slice ta (bI t).length tc) = w2 at *
    obtain ⟨⟨d0, d1, d2, d3⟩, d4, d5, d6, d7⟩ := en_cells Q1.out
    obtain ⟨⟨c0, c1, c2, c3⟩, c4, c5, c6, c7⟩ := en_cells Q3.out
    obtain ⟨⟨f0, f1, f2, f3⟩, f4, f5, f6, f7⟩ := en_frozen Q3.out
    simp only at d0 d1 d2 d3 d4 d5 d6 d7 c0 c1 c2 c3 c4 c5 c6 c7
    have s3 := block_lt Q3.out
    have s1 := block_lt Q1.out
    obtain ⟨R1, R2⟩ := put8_heap (E := ⟨ek, es, ea, eb, ec, ech, t, ee⟩) (v := (.slice ta (bI t).length tc)) Q3.out
    unfold put8 at R1 R2
    simp only at R1 R2
    have BF : Below w.heap.size w ((((((((w2.setCell ⟨w.heap.size + 1 + 1, 0, none⟩ (.int .i64 ek)).setCell ⟨w.heap.size + 1 + 1, 1, none⟩ (.int .i64 es)).setCell ⟨w.heap.size + 1 + 1, 2, none⟩ (.int .i64 ea)).setCell ⟨w.heap.size + 1 + 1, 3, none⟩ (.int .i64 eb)).setCell ⟨w.heap.size + 1 + 1, 4, none⟩ (.int .i64 ec)).setCell ⟨w.heap.size + 1 + 1, 5, none⟩ (.int .u8 ech)).setCell ⟨w.heap.size + 1 + 1, 6, none⟩ (.slice ta (bI t).length tc)).setCell ⟨w.heap.size + 1 + 1, 7, none⟩ (.int .i64 ee)) := QG.out.trans (R2.below (by have := QG.out.size; omega) (fun k hk => by omega))
    have NF := QN.out.frx R2 (fun cur h => by have := Q3.out; unfold EZ at this; rw [h] at this; simp at this)
    have BB := hd BF
    have PH := hd R1
    have NG := hd NF
    clear R1 R2 BF NF
    go_wp2
    clear c0 c1 c2 c3 c4 c5 c6 c7 f0 f1 f2 f3 f4 f5 f6 f7 d0 d1 d2 d3 d4 d5 d6 d7
    generalize ((((((((w2.setCell ⟨w.heap.size + 1 + 1, 0, none⟩ (.int .i64 ek)).setCell ⟨w.heap.size + 1 + 1, 1, none⟩ (.int .i64 es)).setCell ⟨w.heap.size + 1 + 1, 2, none⟩ (.int .i64 ea)).setCell ⟨w.heap.size + 1 + 1, 3, none⟩ (.int .i64 eb)).setCell ⟨w.heap.size + 1 + 1, 4, none⟩ (.int .i64 ec)).setCell ⟨w.heap.size + 1 + 1, 5, none⟩ (.int .u8 ech)).setCell ⟨w.heap.size + 1 + 1, 6, none⟩ (.slice ta (bI t).length tc)).setCell ⟨w.heap.size + 1 + 1, 7, none⟩ (.int .i64 ee)) = W at *
    obtain ⟨⟨q0, q1, q2, q3⟩, q4, q5, q6, q7⟩ := en_cells PH.out
    simp only at q0 q1 q2 q3 q4 q5 q6 q7
    refine bodyPost_ret (v := .agg (ecell ⟨ek, es, ea, eb, ec, ech, t, ee⟩ (.slice ta (bI t).length tc))) (by simp [results, Tryd.results32, go_sem, q0, q1, q2, q3, q4, q5, q6, q7, ecell]) rfl ?_
    show WR w W base (putP ⟨ek, es, ea, eb, ec, ech, ebs, ee⟩ ⟨5, lo, hi⟩ (tl s) n) _
    have hput : putP ⟨ek, es, ea, eb, ec, ech, ebs, ee⟩ ⟨5, lo, hi⟩ (tl s) n = ⟨ek, es, ea, eb, ec, ech, t, ee⟩ := by
      show (⟨ek, es, ea, eb, ec, ech, (hexP (tl s)).getD [], ee⟩ : En) = _
      rw [HT.out]; rfl
    rw [hput]
    exact ⟨_, rfl, NG.out, BB.out⟩

end Go.Proofs.YtplmhilkehkeiaaDoor
