/-
  Look.
-/
import Derived.Test.YtkkklfnooeofcaaIb
namespace Go.Proofs.Ytkkklfnooeofcaa
open Go.RowKit Go.Maps Go.ChangeMaps Go.MapKept Go.WideMaps
set_option linter.unusedVariables false

theorem BK.below {w w' : World} {O : Nat → Prop} {r b g : Nat} {ps : List NB} (h : BK w O r b g ps) (hb : Below w.heap.size w w') : BK w' O r b g ps := h.fr (S := fun _ => False) (Fr.of_below hb) (fun _ _ h => h)

set_option maxRecDepth 100000 in
set_option maxHeartbeats 1000000 in
theorem look_none (O : Nat → Prop) (r g : Nat) (Ns : List Nt) (v : Value) (k : Int) (w : World) (h : BD w O r g Ns) (hk : -9223372036854775808 ≤ k ∧ k ≤ 9223372036854775807) (hn : ∀ n ∈ Ns, (n.id : Int) ≠ k) :
    Calls Try.prog 15 #[.pointer (some ⟨r, 0, none⟩), v, .int .i64 k] w fun e w' => e = .returned (.tuple #[.agg #[.int .i64 0, .int .i64 0, .string ⟨#[]⟩, .int .i64 0, .int .i64 0, .bool false, .bool false, .slice none 0 0], .int .i64 232]) ∧ Below w.heap.size w w' := by
  obtain ⟨b, ps, rfl, hK⟩ := h
  have hB0 : Below w.heap.size w (w.alloc (.cells #[.int .i64 0, .int .i64 0, .string ⟨#[]⟩, .int .i64 0, .int .i64 0, .bool false, .bool false, .slice none 0 0] 37)) := (Below.refl _ _).alloc (Nat.le_refl _) _
  have hR0 := heap_alloc_new w (.cells #[.int .i64 0, .int .i64 0, .string ⟨#[]⟩, .int .i64 0, .int .i64 0, .bool false, .bool false, .slice none 0 0] 37)
  have hK0 := hK.below hB0
  have lk := hK0.lk0 hk hn
  have r0 := cell_row hK0.box 0
  simp at r0
  have HB0 := hd hB0
  clear hK hn hk hK0 hB0
  go_enter Try.func15, Try.ntmps15
  go_upto_region 1 with fail
  generalize w.alloc (.cells #[.int .i64 0, .int .i64 0, .string ⟨#[]⟩, .int .i64 0, .int .i64 0, .bool false, .bool false, .slice none 0 0] 37) = w0 at *
  have y0 := cell_row hR0 0; have y1 := cell_row hR0 1; have y2 := cell_row hR0 2; have y3 := cell_row hR0 3
  have y4 := cell_row hR0 4; have y5 := cell_row hR0 5; have y6 := cell_row hR0 6; have y7 := cell_row hR0 7
  have z0 := frozen_row hR0 0; have z1 := frozen_row hR0 1; have z2 := frozen_row hR0 2; have z3 := frozen_row hR0 3
  have z4 := frozen_row hR0 4; have z5 := frozen_row hR0 5; have z6 := frozen_row hR0 6; have z7 := frozen_row hR0 7
  simp at y0 y1 y2 y3 y4 y5 y6 y7
  have hfin := set8_row hR0 (.int .i64 0) (.int .i64 0) (.string ⟨#[]⟩) (.int .i64 0) (.int .i64 0) (.bool false) (.bool false) (.slice none 0 0)
  have hFf := fr_sets8 w0 w.heap.size (.int .i64 0) (.int .i64 0) (.string ⟨#[]⟩) (.int .i64 0) (.int .i64 0) (.bool false) (.bool false) (.slice none 0 0)
  have HFI := hd hfin
  have Z := hd (HB0.out.trans (hFf.below HB0.out.size (fun k hk => by omega)))
  clear hfin hFf hR0
  go_wp2
  have f0 := cell_row HFI.out 0; have f1 := cell_row HFI.out 1; have f2 := cell_row HFI.out 2; have f3 := cell_row HFI.out 3
  have f4 := cell_row HFI.out 4; have f5 := cell_row HFI.out 5; have f6 := cell_row HFI.out 6; have f7 := cell_row HFI.out 7
  simp only [List.getElem?_toArray, List.getElem?_cons_zero, List.getElem?_cons_succ] at f0 f1 f2 f3 f4 f5 f6 f7
  refine bodyPost_ret (v := .tuple #[.agg #[.int .i64 0, .int .i64 0, .string ⟨#[]⟩, .int .i64 0, .int .i64 0, .bool false, .bool false, .slice none 0 0], .int .i64 232]) ?_ rfl ⟨rfl, Z.out⟩
  simp [results, Try.results15, go_sem, f0, f1, f2, f3, f4, f5, f6, f7]

set_option maxRecDepth 100000 in
set_option maxHeartbeats 1000000 in
theorem look_good (O : Nat → Prop) (r g : Nat) (A B : List Nt) (n : Nt) (w : World) (h : BD w O r g (A ++ n :: B)) (a : Option Addr) (N c : Nat) (xs : List El) (hE : IsE w a N c xs) (hwf : ∀ x ∈ xs, wfE x) (hroom : roomy n.sd.length 24) :
    Calls Try.prog 15 #[.pointer (some ⟨r, 0, none⟩), .slice a N c, .int .i64 (n.id : Int)] w fun e w' => ∃ u β, e = .returned (.tuple #[.agg (ntA n (reachP xs n.el) u), .int .i64 0]) ∧ SF rpc 2 w' 45 β u n.sd ∧ (∀ k, β = some k → w.heap.size ≤ k) ∧ Below w.heap.size w w' := by
  obtain ⟨b, ps, e, hK⟩ := h
  obtain ⟨A', B', p, rfl, rfl, rfl, rfl⟩ := split_map e
  have hB0 : Below w.heap.size w (w.alloc (.cells #[.int .i64 0, .int .i64 0, .string ⟨#[]⟩, .int .i64 0, .int .i64 0, .bool false, .bool false, .slice none 0 0] 37)) := (Below.refl _ _).alloc (Nat.le_refl _) _
  have hR0 := heap_alloc_new w (.cells #[.int .i64 0, .int .i64 0, .string ⟨#[]⟩, .int .i64 0, .int .i64 0, .bool false, .bool false, .slice none 0 0] 37)
  have hK0 := hK.below hB0
  have lk := hK0.lk
  have r0 := cell_row hK0.box 0
  simp at r0
  have HB0 := hd hB0
  have HK0 := hd hK0
  have HE0 := hd (hE.below hB0)
  clear hK hK0 hB0 hE e
  go_enter Try.func15, Try.ntmps15
  go_upto_region 1 with fail
  generalize w.alloc (.cells #[.int .i64 0, .int .i64 0, .string ⟨#[]⟩, .int .i64 0, .int .i64 0, .bool false, .bool false, .slice none 0 0] 37) = w0 at *
  have HR0 := hd hR0
  clear hR0
  go_wp2_with fail
  refine (spots_any a N c xs w0 HE0.out hwf).mono ?_
  rintro e u1 ⟨mb, rfl, hM, -, b1⟩
  have C2 := hd (in_any p mb xs u1 (((HK0.out.nk p (by simp))).below b1) hM hroom)
  have HB1 := hd (HB0.out.trans (b1.mono HB0.out.size))
  have HL1 := hd (b1.block w.heap.size (block_lt HR0.out))
  have L1 := hd b1.size
  clear hM b1
  go_wp2_with fail
  refine C2.out.mono ?_
  rintro e u2 ⟨v, β, rfl, hS, hβ, b2⟩
  have hr2 := (b2.block w.heap.size (Nat.lt_of_lt_of_le (block_lt HR0.out) L1.out)).trans (HL1.out.trans HR0.out)
  have hB2 := HB1.out.trans (b2.mono HB1.out.size)
  simp only [ntA]
  have y0 := cell_row hr2 0; have y1 := cell_row hr2 1; have y2 := cell_row hr2 2; have y3 := cell_row hr2 3
  have y4 := cell_row hr2 4; have y5 := cell_row hr2 5; have y6 := cell_row hr2 6; have y7 := cell_row hr2 7
  have z0 := frozen_row hr2 0; have z1 := frozen_row hr2 1; have z2 := frozen_row hr2 2; have z3 := frozen_row hr2 3
  have z4 := frozen_row hr2 4; have z5 := frozen_row hr2 5; have z6 := frozen_row hr2 6; have z7 := frozen_row hr2 7
  simp at y0 y1 y2 y3 y4 y5 y6 y7
  obtain ⟨av, cv, hv, -, -⟩ := hS.form
  subst hv
  have hfin := set8_row hr2 (.int .i64 (p.n.id : Int)) (.int .i64 p.n.cl) (.string p.n.wo) (.int .i64 ((reachP xs p.n.el).1 : Int)) (.int .i64 ((reachP xs p.n.el).2 : Int)) (.bool (((reachP xs p.n.el).1 : Int) == ((reachP xs p.n.el).2 : Int))) (.bool p.n.sh) (.slice av p.n.sd.length cv)
  have hFf := fr_sets8 u2 w.heap.size (.int .i64 (p.n.id : Int)) (.int .i64 p.n.cl) (.string p.n.wo) (.int .i64 ((reachP xs p.n.el).1 : Int)) (.int .i64 ((reachP xs p.n.el).2 : Int)) (.bool (((reachP xs p.n.el).1 : Int) == ((reachP xs p.n.el).2 : Int))) (.bool p.n.sh) (.slice av p.n.sd.length cv)
  have HFI := hd hfin
  have lt1 : w.heap.size < u1.heap.size := by have := block_lt HR0.out; have := L1.out; omega
  have Z : Hid (SF rpc 2 _ 45 β (.slice av p.n.sd.length cv) p.n.sd ∧ Below w.heap.size w _) := ⟨hS.fr hFf (fun k hk e => by have := hβ k hk; omega), hB2.trans (hFf.below hB2.size (fun k hk => by omega))⟩
  have HG := hd (show ∀ k, β = some k → w.heap.size ≤ k from fun k hk => by have := hβ k hk; omega)
  clear hfin hFf hS hβ b2 hr2 hB2 C2 lt1
  go_wp2
  have f0 := cell_row HFI.out 0; have f1 := cell_row HFI.out 1; have f2 := cell_row HFI.out 2; have f3 := cell_row HFI.out 3
  have f4 := cell_row HFI.out 4; have f5 := cell_row HFI.out 5; have f6 := cell_row HFI.out 6; have f7 := cell_row HFI.out 7
  simp only [List.getElem?_toArray, List.getElem?_cons_zero, List.getElem?_cons_succ] at f0 f1 f2 f3 f4 f5 f6 f7
  refine bodyPost_ret (v := .tuple #[.agg (ntA p.n (reachP xs p.n.el) (.slice av p.n.sd.length cv)), .int .i64 0]) ?_ rfl ⟨_, β, rfl, Z.out.1, HG.out, Z.out.2⟩
  simp [results, Try.results15, go_sem, f0, f1, f2, f3, f4, f5, f6, f7, ntA]

end Go.Proofs.Ytkkklfnooeofcaa
