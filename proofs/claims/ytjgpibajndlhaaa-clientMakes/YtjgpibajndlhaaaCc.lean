/-
  apply, makeEdit.
-/
import Derived.Test.YtjgpibajndlhaaaCb
namespace Go.Proofs.Ytjgpibajndlhaaa
open Go.RowKit
set_option linter.unusedVariables false
variable {T : Nat → Prop}

theorem CL.text {w w' : World} {x z : Nat} {id : Int} {ds ds' : List El} {es : List (Int × OpE)} {βp : Option Nat} {p : Sp} {g : Nat} {v : Value} (h : CL T w x z id ds es βp p) (hb : Below w.heap.size w w') (ht : SE w' (some g) v ds') : CL T (w'.setCell ⟨x, 3, none⟩ v) x z id ds' es βp p ∧ Fr (· = x) w (w'.setCell ⟨x, 3, none⟩ v) := by
  obtain ⟨y, vt, vp, βt, c, i, t, e, s, b⟩ := h.below hb
  have hF : Fr (· = x) w' (w'.setCell ⟨x, 3, none⟩ v) := Fr.setCell _ _ _ rfl
  refine ⟨⟨y, v, vp, some g, c.text v, i.fr hF (i.tg.ne c.tg (by decide)), ht.fr hF (fun k hk => (ht.tg hk).ne c.tg (by decide)), e.fr hF (fun k hk => (e.tg hk).ne c.tg (by decide)), s.fr hF ?_, b⟩, (Fr.of_below hb).trans hF⟩
  rintro k ⟨-, hk | hk | hk⟩
  · exact hk.ne c.tg (by decide)
  · exact hk.ne c.tg (by decide)
  · exact hk.ne c.tg (by decide)

set_option maxRecDepth 100000 in
set_option maxHeartbeats 4000000 in
theorem capply_any (x z : Nat) (id : Int) (ds : List El) (es : List (Int × OpE)) (βp : Option Nat) (p : Sp) (o : OpE) (w : World) (h : CL T w x z id ds es βp p) (ho : OkOp o) (hf : fitsP ds.length o = 0) :
    Calls Try.prog 24 #[.pointer (some ⟨x, 0, none⟩), o.val] w fun e w' => e = .returned (.tuple #[]) ∧ CL T w' x z id (applyP ds o) es βp p ∧ Fr (· = x) w w' := by
  have HH := hd h
  obtain ⟨y, vt, vp, βt, c, i, t, e, s, _⟩ := h
  obtain ⟨at', ct, rfl, hE, -⟩ := t.form
  obtain ⟨⟨hl, -, -, -, c3, -⟩, fz⟩ := c.cells
  have f3 := fz 3
  obtain ⟨k, ps, ch, q, sq⟩ := o
  simp only [OpE.val]
  obtain ⟨n, hn⟩ : ∃ n, ds.length = n := ⟨_, rfl⟩
  have HN := hd hn
  rw [hn] at c3 hE hf
  have HE := hd hE
  have HF := hd hf
  have HO := hd ho
  obtain ⟨U, hU⟩ : ∃ U, U = w.alloc (.cells #[.int .i64 k, .int .i64 ps, .int .u8 ch, .int .i64 q, .int .i64 sq] 34) := ⟨_, rfl⟩
  have bU : Below w.heap.size w U := by rw [hU]; exact (Below.refl _ _).alloc (Nat.le_refl _) _
  have X : U.heap[w.heap.size]? = some (.cells #[.int .i64 k, .int .i64 ps, .int .u8 ch, .int .i64 q, .int .i64 sq] 34 (0, 0)) := by rw [hU]; exact heap_alloc_new w _
  have C1 : Hid (∀ W, Below U.heap.size U W → Calls Try.prog 29 #[.slice at' n ct, .agg #[.int .i64 k, .int .i64 ps, .int .u8 ch, .int .i64 q, .int .i64 sq]] W fun e w' => ∃ g N C, e = .returned (.tuple #[.slice (some ⟨g, 0, none⟩) N C, .int .i64 0]) ∧ w'.cell? ⟨x, 3, none⟩ = some (.slice at' n ct) ∧ w'.frozen? ⟨x, 3, none⟩ = false ∧ x < w'.heap.size ∧ Hid (CL T (w'.setCell ⟨x, 3, none⟩ (.slice (some ⟨g, 0, none⟩) N C)) x z id (applyP ds ⟨k, ps, ch, q, sq⟩) es βp p ∧ Fr (· = x) w (w'.setCell ⟨x, 3, none⟩ (.slice (some ⟨g, 0, none⟩) N C)))) := by
    intro W hW
    have bW : Below w.heap.size w W := bU.trans (hW.mono bU.size)
    refine (apply_good at' n ct k ps ch q sq ds W (HE.out.below bW) HO.out.1 HO.out.2 HF.out).mono ?_
    rintro e w' ⟨v, rfl, hO, hB⟩
    have B : Below w.heap.size w w' := bW.trans (hB.mono bW.size)
    obtain ⟨g, hg, C, rfl, hR⟩ := hO
    have cc := (c.fr (S := fun _ => False) (Fr.of_below B) (fun h => h)).cells
    exact ⟨g, _, C, rfl, by rw [HN.out] at cc; exact cc.1.2.2.2.2.1, cc.2 3, cc.1.1, HH.out.text B ⟨C, rfl, hR⟩⟩
  obtain ⟨⟨y0, y1, y2, y3, y4⟩, -⟩ := cells5 X
  have hlU : x < U.heap.size := Nat.lt_of_lt_of_le hl bU.size
  have c3U : U.cell? ⟨x, 3, none⟩ = some (.slice at' n ct) := (bU.cell (p := ⟨x, 3, none⟩) hl).trans c3
  have lu := block_lt X
  have HU := hd hU
  clear hU bU X hE hf ho HH c i t e s fz hn c3 hl f3 HE HF HO HN
  go_enter Try.func24, Try.ntmps24
  go_wp2
  rw [← HU.out]
  go_region_law (first | (go_simp; go_at_call 29; refine (C1.out _ (by repeat (first | exact Below.refl _ _ | refine Below.drew ?_ | refine below_drewN ?_ _))).mono ?_; rintro ex w3 ⟨g, N, C, rfl, k0, k1, k2, k3⟩))
  all_goals go_wp2
  all_goals refine bodyPost_end (v := .tuple #[]) (by simp [results, Try.results24, go_sem]) rfl ?_
  all_goals exact ⟨rfl, k3.out⟩

end Go.Proofs.Ytjgpibajndlhaaa
