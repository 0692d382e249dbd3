/-
  note.in, Look.
-/
import Derived.Test.YtkkklfnooeofcaaIa
namespace Go.Proofs.Ytkkklfnooeofcaa
open Go.RowKit Go.Maps Go.ChangeMaps Go.MapKept Go.WideMaps
set_option linter.unusedVariables false

/-- A note as it is told. -/
def ntA (n : Nt) (s : Nat × Nat) (v : Value) : Array Value := #[.int .i64 (n.id : Int), .int .i64 n.cl, .string n.wo, .int .i64 (s.1 : Int), .int .i64 (s.2 : Int), .bool ((s.1 : Int) == (s.2 : Int)), .bool n.sh, v]

theorem NK.below {w w' : World} {p : NB} (h : NK w p) (hb : Below w.heap.size w w') : NK w' p := h.fr (S := fun _ => False) (Fr.of_below hb) (fun h => h) (fun _ _ h => h) (fun h => h)

set_option maxRecDepth 100000 in
set_option maxHeartbeats 4000000 in
theorem in_any (p : NB) (b : Nat) (xs : List El) (w : World) (h : NK w p) (hM : SM w b xs) (hroom : roomy p.n.sd.length 24) :
    Calls Try.prog 30 #[.pointer (some ⟨p.x, 0, none⟩), .map (some b)] w fun e w' => ∃ u β, e = .returned (.agg (ntA p.n (reachP xs p.n.el) u)) ∧ SF rpc 2 w' 45 β u p.n.sd ∧ (∀ k, β = some k → w.heap.size ≤ k) ∧ Below w.heap.size w w' := by
  have hB0 : Below w.heap.size w (w.alloc (.cells #[.int .i64 0, .int .i64 0, .string ⟨#[]⟩, .int .i64 0, .int .i64 0, .bool false, .bool false, .slice none 0 0] 37)) := (Below.refl _ _).alloc (Nat.le_refl _) _
  have hR0 := heap_alloc_new w (.cells #[.int .i64 0, .int .i64 0, .string ⟨#[]⟩, .int .i64 0, .int .i64 0, .bool false, .bool false, .slice none 0 0] 37)
  have H0 := hd (h.below hB0)
  have M0 := hd (hM.below hB0)
  have HB0 := hd hB0
  have HR0 := hd hR0
  have LX := hd (block_lt h.box)
  clear h hM hB0 hR0
  go_enter Try.func30, Try.ntmps30
  go_upto_region 1 with fail
  generalize w.alloc (.cells #[.int .i64 0, .int .i64 0, .string ⟨#[]⟩, .int .i64 0, .int .i64 0, .bool false, .bool false, .slice none 0 0] 37) = w0 at *
  obtain ⟨aq, cq, hsv, -, -⟩ := H0.out.said.form
  have hbx := H0.out.box
  rw [hsv] at hbx
  have x0 := cell_row hbx 0; have x1 := cell_row hbx 1; have x2 := cell_row hbx 2; have x3 := cell_row hbx 3
  have x4 := cell_row hbx 4; have x5 := cell_row hbx 5; have x6 := cell_row hbx 6; have x7 := cell_row hbx 7
  simp [ntc] at x0 x1 x2 x3 x4 x5 x6 x7
  have CR := hd (fun u (hu : Below w0.heap.size w0 u) => reach_any p b xs u (H0.out.below hu) (M0.out.below hu))
  refine regIn _ w0 p.x b p.n.id (reachP xs p.n.el).1 (reachP xs p.n.el).2 p.n.sd.length cq aq p.n.cl p.n.wo p.n.sh (block_lt hbx) x0 x1 x2 x3 x4 x5 x6 x7 CR.out (by simp) rfl rfl ?_
  intro L val u hL hW hV
  obtain ⟨hBu, h7, h8⟩ := hW
  obtain ⟨kp, v7, kp1, cs7, kp2, -, kp3⟩ := h7 (hL 7 (by omega))
  obtain ⟨kn, v8, kn1, cs8, kn2, -, kn3⟩ := h8 (hL 8 (by omega))
  obtain rfl := kp3 (hL 9 (by omega))
  obtain rfl := kn3 (hL 10 (by omega))
  simp only [slIn, DIn, List.getD_cons_zero, List.getD_cons_succ, List.map_cons, List.map_nil, puts, List.foldl_cons, List.foldl_nil, Act.put, List.setIfInBounds_toArray, List.set_cons_succ, List.set_cons_zero, v7, v8]
  have HU := hd hBu
  have NE := hd (ty_ne kp2 kn2 (by decide))
  have KP := hd kp2
  have KN := hd kn2
  have KG := hd (And.intro kp1 kn1)
  clear hV hL h7 h8 v7 v8 kp2 kn2 kp1 kn1 x0 x1 x2 x3 x4 x5 x6 x7 hBu
  generalize val 0 = y0; generalize val 1 = y1; generalize val 2 = y2; generalize val 3 = y3; generalize val 4 = y4; generalize val 5 = y5; generalize val 6 = y6
  go_upto_region 2 with fail
  refine regTo _ u kp kn p.n.id (reachP xs p.n.el).1 (reachP xs p.n.el).2 p.n.sd.length cq aq p.n.cl p.n.wo p.n.sh _ _ _ KP.out KN.out NE.out (by simp) rfl rfl ?_
  intro L val2 u2 hL hW hV
  obtain ⟨hF2, p3, p4, p5, hb2, e3, e4, e5⟩ := hW
  obtain rfl := e3 (hL 7 (by omega))
  obtain rfl := e4 (hL 9 (by omega))
  obtain rfl := e5 (hL 11 (by omega))
  clear hL hV e3 e4 e5
  simp only [slTo, DTo, List.getD_cons_zero, List.getD_cons_succ, List.map_cons, List.map_nil, puts, List.foldl_cons, List.foldl_nil, Act.put, List.setIfInBounds_toArray, List.set_cons_succ, List.set_cons_zero]
  have hB2 : Below w0.heap.size w0 u2 := HU.out.trans (hF2.below HU.out.size (fun k hk => by have := KG.out; omega))
  have H2 := hd (H0.out.below hB2)
  have HB2 := hd hB2
  have HN2 := hd hb2
  have x7 := cell_row H2.out.box 7
  simp [ntc] at x7
  rw [hsv] at x7
  clear hF2 hb2 hB2
  generalize val2 0 = q0; generalize val2 1 = q1; generalize val2 2 = q2; generalize val2 3 = q3; generalize val2 4 = q4; generalize val2 5 = q5; generalize val2 6 = q6; generalize val2 8 = q8; generalize val2 10 = q10
  have CC := hd (cloneR_any p.ρ (.slice aq p.n.sd.length cq) p.n.sd u2 (by rw [← hsv]; exact H2.out.said) hroom)
  go_wp2_with fail
  refine CC.out.mono ?_
  rintro e u3 ⟨v, β, rfl, hS3, hβ, b3⟩
  have hb3 := (Fr.of_below b3 : Fr (fun _ => False) u2 u3).keeps HN2.out (fun h => h)
  have c7 := cell_row hb3 7
  have z7 := frozen_row hb3 7
  simp at c7
  obtain ⟨av, cv, hv, -, -⟩ := hS3.form
  subst hv
  have hb4 := set_row hb3 7 (.slice av p.n.sd.length cv)
  have hF4 : Fr (· = kn) u3 (u3.setCell ⟨kn, 7, none⟩ (.slice av p.n.sd.length cv)) := Fr.setCell u3 ⟨kn, 7, none⟩ _ rfl
  have hB3 : Below w0.heap.size w0 u3 := HB2.out.trans (b3.mono HB2.out.size)
  have hB4 : Below w0.heap.size w0 (u3.setCell ⟨kn, 7, none⟩ (.slice av p.n.sd.length cv)) := hB3.trans (hF4.below hB3.size (fun k hk => by have := KG.out; omega))
  have hr4 := hB4.block w.heap.size (block_lt HR0.out)
  rw [HR0.out] at hr4
  have hS4 := hS3.fr hF4 (fun k hk e => by
    rw [hk] at hS3
    obtain ⟨cur, hc⟩ := hS3.blk
    exact ty_ne hc hb3 (by decide) e)
  simp only [List.setIfInBounds_toArray, List.set_cons_succ, List.set_cons_zero] at hb4
  have HB4 := hd hb4
  have HBB := hd hB4
  have HRR := hd hr4
  have HSS := hd hS4
  have HBE := hd (show ∀ k, β = some k → w0.heap.size ≤ k from fun k hk => Nat.le_trans HB2.out.size (hβ k hk))
  clear hb4 hF4 hB3 hB4 hr4 hS4 hS3 hβ b3 hb3
  go_upto_region 4 with fail
  generalize u3.setCell ⟨kn, 7, none⟩ (.slice av p.n.sd.length cv) = u4 at *
  clear c7 z7 x7
  have y0 := cell_row HB4.out 0; have y1 := cell_row HB4.out 1; have y2 := cell_row HB4.out 2; have y3 := cell_row HB4.out 3
  have y4 := cell_row HB4.out 4; have y5 := cell_row HB4.out 5; have y6 := cell_row HB4.out 6; have y7 := cell_row HB4.out 7
  have r0 := cell_row HRR.out 0; have r1 := cell_row HRR.out 1; have r2 := cell_row HRR.out 2; have r3 := cell_row HRR.out 3
  have r4 := cell_row HRR.out 4; have r5 := cell_row HRR.out 5; have r6 := cell_row HRR.out 6; have r7 := cell_row HRR.out 7
  have z0 := frozen_row HRR.out 0; have z1 := frozen_row HRR.out 1; have z2 := frozen_row HRR.out 2; have z3 := frozen_row HRR.out 3
  have z4 := frozen_row HRR.out 4; have z5 := frozen_row HRR.out 5; have z6 := frozen_row HRR.out 6; have z7 := frozen_row HRR.out 7
  simp at y0 y1 y2 y3 y4 y5 y6 y7 r0 r1 r2 r3 r4 r5 r6 r7
  have hfin := set8_row HRR.out (.int .i64 (p.n.id : Int)) (.int .i64 p.n.cl) (.string p.n.wo) (.int .i64 ((reachP xs p.n.el).1 : Int)) (.int .i64 ((reachP xs p.n.el).2 : Int)) (.bool (((reachP xs p.n.el).1 : Int) == ((reachP xs p.n.el).2 : Int))) (.bool p.n.sh) (.slice av p.n.sd.length cv)
  have hFf := fr_sets8 u4 w.heap.size (.int .i64 (p.n.id : Int)) (.int .i64 p.n.cl) (.string p.n.wo) (.int .i64 ((reachP xs p.n.el).1 : Int)) (.int .i64 ((reachP xs p.n.el).2 : Int)) (.bool (((reachP xs p.n.el).1 : Int) == ((reachP xs p.n.el).2 : Int))) (.bool p.n.sh) (.slice av p.n.sd.length cv)
  have HFI := hd hfin
  have Z : Hid (SF rpc 2 _ 45 β (.slice av p.n.sd.length cv) p.n.sd ∧ Below w.heap.size w _) := ⟨HSS.out.fr hFf (fun k hk e => by have := HBE.out k hk; have := block_lt HR0.out; omega), (HB0.out.trans (HBB.out.mono HB0.out.size)).trans (hFf.below (HB0.out.trans (HBB.out.mono HB0.out.size)).size (fun k hk => by omega))⟩
  have HG := hd (show ∀ k, β = some k → w.heap.size ≤ k from fun k hk => by have := HBE.out k hk; have := HB0.out.size; omega)
  clear hfin hFf HSS HBE HBB HB4 HRR
  go_wp2
  have f0 := cell_row HFI.out 0; have f1 := cell_row HFI.out 1; have f2 := cell_row HFI.out 2; have f3 := cell_row HFI.out 3
  have f4 := cell_row HFI.out 4; have f5 := cell_row HFI.out 5; have f6 := cell_row HFI.out 6; have f7 := cell_row HFI.out 7
  simp only [List.getElem?_toArray, List.getElem?_cons_zero, List.getElem?_cons_succ] at f0 f1 f2 f3 f4 f5 f6 f7
  refine bodyPost_ret (v := .agg (ntA p.n (reachP xs p.n.el) (.slice av p.n.sd.length cv))) ?_ rfl ⟨_, β, rfl, Z.out.1, HG.out, Z.out.2⟩
  simp [results, Try.results30, go_sem, f0, f1, f2, f3, f4, f5, f6, f7, ntA]

end Go.Proofs.Ytkkklfnooeofcaa
