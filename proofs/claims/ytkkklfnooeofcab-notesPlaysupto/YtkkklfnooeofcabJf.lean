/-
  The document's Look.
-/
import Derived.Test.YtkkklfnooeofcabJe
import Derived.Test.YtkkklfnooeofcabMIa
namespace Go.Proofs.Ytkkklfnooeofcab
open Go.RowKit Go.Lib
set_option linter.unusedVariables false

set_option maxRecDepth 100000 in
set_option maxHeartbeats 4000000 in
theorem rlook_none (O : Nat → Prop) (r g : Nat) (Ns : List Nt) (v : Value) (k : Int) (w : World) (h : RBD w O r g Ns) (hn : ∀ n ∈ Ns, (n.id : Int) ≠ k) :
    Calls Try.prog 17 #[.pointer (some ⟨r, 0, none⟩), v, .int .i64 k] w fun e w' => e = .returned (.tuple #[.agg #[.int .i64 0, .int .i64 0, .string ⟨#[]⟩, .int .i64 0, .int .i64 0, .bool false, .bool false, .slice none 0 0], .int .i64 232]) ∧ Below w.heap.size w w' := by
  have hB0 : Below w.heap.size w (w.alloc (.cells #[.int .i64 0, .int .i64 0, .string ⟨#[]⟩, .int .i64 0, .int .i64 0, .bool false, .bool false, .slice none 0 0] 47)) := (Below.refl _ _).alloc (Nat.le_refl _) _
  have hR0 := heap_alloc_new w (.cells #[.int .i64 0, .int .i64 0, .string ⟨#[]⟩, .int .i64 0, .int .i64 0, .bool false, .bool false, .slice none 0 0] 47)
  have CF := hd (rfind_none O r g Ns k _ (h.below hB0) hn)
  have HB := hd hB0
  have HR := hd hR0
  clear h hn hB0 hR0
  go_enter Try.func17, Try.ntmps17
  go_upto_region 2 with (go_at_call 39; refine CF.out.mono ?_; rintro e w1 ⟨rfl, rfl⟩)
  generalize w.alloc (.cells #[.int .i64 0, .int .i64 0, .string ⟨#[]⟩, .int .i64 0, .int .i64 0, .bool false, .bool false, .slice none 0 0] 47) = u at *
  clear CF
  have r0 := cell_row HR.out 0; have r1 := cell_row HR.out 1; have r2 := cell_row HR.out 2; have r3 := cell_row HR.out 3
  have r4 := cell_row HR.out 4; have r5 := cell_row HR.out 5; have r6 := cell_row HR.out 6; have r7 := cell_row HR.out 7
  have z0 := frozen_row HR.out 0; have z1 := frozen_row HR.out 1; have z2 := frozen_row HR.out 2; have z3 := frozen_row HR.out 3
  have z4 := frozen_row HR.out 4; have z5 := frozen_row HR.out 5; have z6 := frozen_row HR.out 6; have z7 := frozen_row HR.out 7
  simp at r0 r1 r2 r3 r4 r5 r6 r7
  have hfin := hd (set8_row HR.out (.int .i64 0) (.int .i64 0) (.string ⟨#[]⟩) (.int .i64 0) (.int .i64 0) (.bool false) (.bool false) (.slice none 0 0))
  have hFf := fr_sets8 u w.heap.size (.int .i64 0) (.int .i64 0) (.string ⟨#[]⟩) (.int .i64 0) (.int .i64 0) (.bool false) (.bool false) (.slice none 0 0)
  have Z : Hid (Below w.heap.size w _) := HB.out.trans (hFf.below HB.out.size (fun k hk => by omega))
  clear hFf
  go_wp2
  have f0 := cell_row hfin.out 0; have f1 := cell_row hfin.out 1; have f2 := cell_row hfin.out 2; have f3 := cell_row hfin.out 3
  have f4 := cell_row hfin.out 4; have f5 := cell_row hfin.out 5; have f6 := cell_row hfin.out 6; have f7 := cell_row hfin.out 7
  simp only [List.getElem?_toArray, List.getElem?_cons_zero, List.getElem?_cons_succ] at f0 f1 f2 f3 f4 f5 f6 f7
  refine bodyPost_ret (v := .tuple #[.agg #[.int .i64 0, .int .i64 0, .string ⟨#[]⟩, .int .i64 0, .int .i64 0, .bool false, .bool false, .slice none 0 0], .int .i64 232]) ?_ rfl ⟨rfl, Z.out⟩
  simp [results, Try.results17, go_sem, f0, f1, f2, f3, f4, f5, f6, f7]

set_option maxRecDepth 100000 in
set_option maxHeartbeats 4000000 in
theorem rlook_hit (O : Nat → Prop) (r g : Nat) (A B : List Nt) (n : Nt) (w : World) (h : RBD w O r g (A ++ n :: B)) (a : Option Addr) (nx cx : Nat) (xs : List El) (hE : IsE w a nx cx xs) (hroom : roomy n.sd.length 24) :
    Calls Try.prog 17 #[.pointer (some ⟨r, 0, none⟩), .slice a nx cx, .int .i64 (n.id : Int)] w fun e w' => ∃ u β, e = .returned (.tuple #[.agg (ntA n (reachP xs n.el) u), .int .i64 0]) ∧ SF rpc 2 w' 90 β u n.sd ∧ (∀ k, β = some k → w.heap.size ≤ k) ∧ Below w.heap.size w w' := by
  have hB0 : Below w.heap.size w (w.alloc (.cells #[.int .i64 0, .int .i64 0, .string ⟨#[]⟩, .int .i64 0, .int .i64 0, .bool false, .bool false, .slice none 0 0] 47)) := (Below.refl _ _).alloc (Nat.le_refl _) _
  have hR0 := heap_alloc_new w (.cells #[.int .i64 0, .int .i64 0, .string ⟨#[]⟩, .int .i64 0, .int .i64 0, .bool false, .bool false, .slice none 0 0] 47)
  have h0 := h.below hB0
  have CF := hd (rfind_hit O r g A B n _ h0)
  have HE := hd (hE.below hB0)
  have HB := hd hB0
  have HR := hd hR0
  obtain ⟨β, v, ps, e, hK⟩ := h0
  obtain ⟨A', B', p, rfl, rfl, rfl, rfl⟩ := split_r e
  obtain ⟨a0, c, hv, c0, -, hc1, hc2, hr⟩ := hK.len
  have hle := hK.lele
  have hal : A'.length < (A' ++ p :: B').length := by simp
  obtain ⟨b, c', hb, hv', hcell⟩ := hK.at A'.length hal
  rw [get_mid] at hcell
  rw [hv'] at hv
  injection hv with v1 v2 v3
  subst v1
  have HP := hd (hK.rk p (by simp))
  have CS := hd (rstands_any a nx cx xs p _ (hK.rk p (by simp)) HE.out hroom)
  have d0 := hcell 0 _ (by omega) rfl; have d1 := hcell 1 _ (by omega) rfl; have d2 := hcell 2 _ (by omega) rfl
  have d3 := hcell 3 _ (by omega) rfl; have d4 := hcell 4 _ (by omega) rfl; have d5 := hcell 5 _ (by omega) rfl
  rw [Nat.add_zero] at d0
  obtain ⟨N, hN⟩ : ∃ N, (A' ++ p :: B').length = N := ⟨_, rfl⟩
  rw [List.length_map] at CF
  rw [hN] at c0 hal hc1 hle
  have j1 : (A'.length : Int) < (N : Int) := by omega
  have j2 : ¬ (A'.length : Int) < 0 := by omega
  unfold rna at CS
  clear hcell hK e hN hb hv' v3 hB0 hR0 h hE
  generalize A'.length = m at *
  go_enter Try.func17, Try.ntmps17
  go_upto_region 2 with (go_at_call 39; refine CF.out.mono ?_; rintro e w1 ⟨rfl, rfl⟩)
  generalize w.alloc (.cells #[.int .i64 0, .int .i64 0, .string ⟨#[]⟩, .int .i64 0, .int .i64 0, .bool false, .bool false, .slice none 0 0] 47) = u0 at *
  clear CF
  go_wp2_with (go_at_call 40; refine CS.out.mono ?_)
  rintro e w2 ⟨y, β, rfl, hS, hβ, hb⟩
  have hR := (Fr.of_below hb : Fr (fun _ => False) u0 w2).keeps HR.out (fun h => h)
  obtain ⟨a1, ca, rfl, -, -⟩ := hS.form
  have r0 := cell_row hR 0; have r1 := cell_row hR 1; have r2 := cell_row hR 2; have r3 := cell_row hR 3
  have r4 := cell_row hR 4; have r5 := cell_row hR 5; have r6 := cell_row hR 6; have r7 := cell_row hR 7
  have z0 := frozen_row hR 0; have z1 := frozen_row hR 1; have z2 := frozen_row hR 2; have z3 := frozen_row hR 3
  have z4 := frozen_row hR 4; have z5 := frozen_row hR 5; have z6 := frozen_row hR 6; have z7 := frozen_row hR 7
  simp at r0 r1 r2 r3 r4 r5 r6 r7
  obtain ⟨⟨f, t⟩, hft⟩ : ∃ q, reachP xs p.n.el = q := ⟨_, rfl⟩
  rw [hft]
  have hfin := hd (set8_row hR (.int .i64 (p.n.id : Int)) (.int .i64 p.n.cl) (.string p.n.wo) (.int .i64 (f : Int)) (.int .i64 (t : Int)) (.bool ((f : Int) == (t : Int))) (.bool p.n.sh) (.slice a1 p.n.sd.length ca))
  have hFf := fr_sets8 w2 w.heap.size (.int .i64 (p.n.id : Int)) (.int .i64 p.n.cl) (.string p.n.wo) (.int .i64 (f : Int)) (.int .i64 (t : Int)) (.bool ((f : Int) == (t : Int))) (.bool p.n.sh) (.slice a1 p.n.sd.length ca)
  have hBB := HB.out.trans (hb.mono HB.out.size)
  have lR := block_lt HR.out
  have Z : Hid (SF rpc 2 _ 90 β (.slice a1 p.n.sd.length ca) p.n.sd ∧ Below w.heap.size w _) := ⟨hS.fr hFf (fun k hk e => by have := hβ k hk; omega), hBB.trans (hFf.below hBB.size (fun k hk => by omega))⟩
  have HG := hd (show ∀ k, β = some k → w.heap.size ≤ k from fun k hk => by have := hβ k hk; have := HB.out.size; omega)
  clear hFf hR hS hβ hb hBB CS HP HE d0 d1 d2 d3 d4 d5
  simp only [ntA]
  go_wp2
  have f0 := cell_row hfin.out 0; have f1 := cell_row hfin.out 1; have f2 := cell_row hfin.out 2; have f3 := cell_row hfin.out 3
  have f4 := cell_row hfin.out 4; have f5 := cell_row hfin.out 5; have f6 := cell_row hfin.out 6; have f7 := cell_row hfin.out 7
  simp only [List.getElem?_toArray, List.getElem?_cons_zero, List.getElem?_cons_succ] at f0 f1 f2 f3 f4 f5 f6 f7
  refine bodyPost_ret (v := .tuple #[.agg (ntA p.n (f, t) (.slice a1 p.n.sd.length ca)), .int .i64 0]) ?_ rfl ⟨_, β, by rw [← hft], Z.out.1, HG.out, Z.out.2⟩
  simp [results, Try.results17, go_sem, f0, f1, f2, f3, f4, f5, f6, f7, ntA]
end Go.Proofs.Ytkkklfnooeofcab
