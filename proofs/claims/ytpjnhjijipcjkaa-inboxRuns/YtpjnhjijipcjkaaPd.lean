/-
  keep.
-/
import Derived.Test.YtpjnhjijipcjkaaPc
import Derived.Deep.DeepCutAuto
namespace Go.Proofs.Ytpjnhjijipcjkaa
open Go.RowKit
set_option linter.unusedVariables false

theorem step_pushA {ops : Array Oper} {o : Oper} {a : Act} {w : World} {K : Act → World → Prop} {Q : Exit → Act → World → Prop} {E : Prop}
    (hg : o.guard = none) (d x : Operand) (hop : o.op = Op.call { callee := Callee.builtin Builtin.append, args := #[d, x], argTypes := #[22, 22] })
    (gv : Nat) (s : SV) (hv : a.eval d = .slice (some ⟨gv, 0, none⟩) 0 0) (hx : a.eval x = .slice s.a s.n s.c) (hR : RowF ei 1 w gv 0 0 3 []) (S : Nat → Prop) (ys : List Int) (hs : HJ w S s ys) (hn : s.n ≤ 100000)
    (hK : ∀ t w', (∃ g', SF ei 1 w' 3 (some g') (.slice t.a t.n t.c) ys ∧ (g' = gv ∨ g' = w.heap.size) ∧ Fr (· = gv) w w') → K (a.put o.dst (.slice (SV.a t) (SV.n t) (SV.c t))) w') :
    if Region.wanted o (yielded ops a.tmps) = true then Oper.wp Try.prog o a w K Q else E := by
  obtain ⟨v', w', hr, g', h1, h2, h3⟩ := push_all w gv 0 hR S s ys hs hn
  obtain ⟨a', c', rfl, -⟩ := h1.form
  exact step_append_k hg d x 22 22 hop _ _ hv hx (hr _) (hK ⟨a', _, c'⟩ w' ⟨g', h1, h2, h3⟩)
theorem step_pushV {ops : Array Oper} {o : Oper} {a : Act} {w : World} {K : Act → World → Prop} {Q : Exit → Act → World → Prop} {E : Prop}
    (hg : o.guard = none) (d x : Operand) (hop : o.op = Op.call { callee := Callee.builtin Builtin.append, args := #[d, x], argTypes := #[72, 72] })
    (va : Value) (g : Nat) (hv : a.eval d = va) (hx : a.eval x = .slice (some ⟨g, 0, none⟩) 1 1) (β : Option Nat) (xs : List SV) (w2 : World) (hF : Fr (fun _ => False) w2 w) (hS : SF sv 1 w2 22 β va xs) (s : SV)
    (hb : w.heap[g]? = some (.cells #[.slice s.a s.n s.c] 22 (0, 0))) (hn : xs.length ≤ 1000)
    (hK : ∀ a' c' w', NowF sv 1 w w' 22 β (.slice a' (xs.length + 1) c') (xs ++ [s]) → K (a.put o.dst (.slice a' (xs.length + 1) c')) w') :
    if Region.wanted o (yielded ops a.tmps) = true then Oper.wp Try.prog o a w K Q else E := by
  obtain ⟨v', w', hr, hP⟩ := push_sv w β va xs (hS.fr hF (fun _ _ h => h)) g s hb (by omega)
  obtain ⟨a', c', rfl⟩ := hP.slice
  rw [List.length_append] at hr hP
  exact step_append_k hg d x 72 72 hop _ _ hv hx (hr _) (hK a' c' w' hP)

def KN (x : Nat) (p1 p2 p3 p4 : Value) (m : Nat) (S : Nat → Prop) (s : SV) (l : List Int) (w w' : World) : Prop :=
  ∃ S', KX w' x p1 p2 p3 p4 m S' s l ∧ (∀ k, S k → S' k) ∧ (∀ k, S' k → S k ∨ w.heap.size ≤ k) ∧ Fr S w w' ∧ ∀ (b : Nat) (cur : Array Value), w.heap[b]? = some (.cells cur 3 (0, 0)) → w'.heap[b]? = w.heap[b]?

set_option maxRecDepth 100000 in
set_option maxHeartbeats 16000000 in
theorem keep_any (x m : Nat) (p1 p2 p3 p4 : Value) (S T : Nat → Prop) (a : Option Addr) (n c : Nat) (e : List Int) (w : World) (hK : keptO x p1 p2 p3 p4 m w S) (hs : HJ w T ⟨a, n, c⟩ e) (hn : n ≤ 10000) (hm : m ≤ 60) :
    Calls Try.prog 69 #[.pointer (some ⟨x, 0, none⟩), .slice a n c] w fun ex w' => ex = .returned (.tuple #[]) ∧ KN x p1 p2 p3 p4 m S ⟨a, n, c⟩ e w w' := by
  obtain ⟨vL, βL, SL, vW, βW, SW, E, K0⟩ := hK
  have hSLm : SL.length = m := by rw [K0.ke.1]; exact K0.len
  have hSWm : SW.length = m := by rw [K0.ke.2.1]; exact K0.len
  obtain ⟨aL, cL, rfl, -⟩ := K0.rowL.form
  obtain ⟨aW, cW, rfl, -⟩ := K0.rowW.form
  rw [hSLm, hSWm] at K0
  have HK := hd K0
  have HS := hd hs
  have HM := hd (And.intro hSLm hSWm)
  have kL0 := cell_row K0.box 4
  simp at kL0
  have kL0a := fun o => (((Below.refl w.heap.size w).alloc (Nat.le_refl _) o).cell (p := ⟨x, 4, none⟩) (block_lt K0.box)).trans kL0
  obtain ⟨v7, w7, hr7, N7⟩ := push_sv (w.alloc (.cells #[.slice a n c] 22)) βL (.slice aL m cL) SL (K0.rowL.fr (S := fun _ => False) (Fr.alloc _ _ _) (fun _ _ h => h)) w.heap.size ⟨a, n, c⟩ (heap_alloc_new w _) (by omega)
  obtain ⟨a7, c7, rfl⟩ := N7.slice
  obtain ⟨n7, hn7⟩ : ∃ n7, (SL ++ [(⟨a, n, c⟩ : SV)]).length = n7 := ⟨_, rfl⟩
  rw [hn7] at hr7 N7
  have bL : βL ≠ some x := fun h => by
    have := K0.rowL
    rw [h] at this
    obtain ⟨c2, h2⟩ := this.blk
    rw [K0.box] at h2
    simp at h2
  have bW : βW ≠ some x := fun h => by
    have := K0.rowW
    rw [h] at this
    obtain ⟨c2, h2⟩ := this.blk
    rw [K0.box] at h2
    simp at h2
  have F7 : Fr (fun j => βL = some j) w w7 := by
    obtain ⟨g7, -, -, f7⟩ := N7.out
    exact (Fr.alloc _ w _).trans f7
  have Bk7 := F7.keeps K0.box bL
  have fL7 := frozen_row Bk7 4
  have kL7 := cell_row Bk7 4
  simp at kL7
  have Bk8 := set_row Bk7 4 (.slice a7 n7 c7)
  simp at Bk8
  have rW7 := K0.rowW.fr F7 (fun k hk he => K0.ne k he hk)
  have F8 : Fr (fun j => βL = some j ∨ j = x) w (w7.setCell ⟨x, 4, none⟩ (.slice a7 n7 c7)) := (F7.mono (fun k _ h => .inl h)).trans (Fr.setCell _ _ _ (.inr rfl))
  have rW8 : SF sv 1 (w7.setCell ⟨x, 4, none⟩ (.slice a7 n7 c7)) 22 βW (.slice aW m cW) SW := rW7.fr (S := (· = x)) (Fr.setCell _ _ _ rfl) (fun k hk he => bW (he ▸ hk))
  have hs8 : HJ (w7.setCell ⟨x, 4, none⟩ (.slice a7 n7 c7)) T ⟨a, n, c⟩ e := hs.typed (fun b cur hb hh => F8.block b (block_lt hh) (fun h => by
    rcases h with h | h
    · have := K0.rowL
      rw [h] at this
      obtain ⟨c2, h2⟩ := this.blk
      rw [hh] at h2
      simp at h2
    · subst h
      have := K0.box
      rw [hh] at this
      simp at this))
  have e8 : (w7.setCell ⟨x, 4, none⟩ (.slice a7 n7 c7)).heap.size = w7.heap.size := by simp
  have z7 : w.heap.size ≤ w7.heap.size := F7.size
  have HE := hd (And.intro e8 z7)
  have HX := hd (And.intro bW (block_lt K0.box))
  have H7 := hd N7
  have H8 := hd (And.intro Bk8 (And.intro rW8 hs8))
  clear N7 F7 Bk7 Bk8 rW7 F8 rW8 hs8 bL bW hn7 K0 hs hSLm hSWm e8 z7
  go_enter Try.func69, Try.ntmps69
  go_wp2_with (at_builtin; refine wpList_append_k _ rfl (.tmp 8) (.tmp 10) 72 72 rfl _ _ rfl rfl (hr7 _) ?_)
  have ZZ : Hid (∀ w8, w8 = w7.setCell ⟨x, 4, none⟩ (.slice a7 n7 c7) → ∀ U9 gv w10 t, Fr (fun _ => False) w8 U9 → w8.heap.size ≤ gv → (∃ g', SF ei 1 w10 3 (some g') (.slice (SV.a t) (SV.n t) (SV.c t)) e ∧ (g' = gv ∨ g' = U9.heap.size) ∧ Fr (· = gv) U9 w10) → w10.heap[x]? = some (.cells #[p1, p2, p3, p4, .slice a7 n7 c7, .slice aW m cW] 74 (0, 0)) ∧ SF sv 1 w10 22 βW (.slice aW m cW) SW ∧ ∀ U11 w11 v11, Fr (fun _ => False) w10 U11 → NowF sv 1 U11 w11 22 βW v11 (SW ++ [t]) → w11.heap[x]? = some (.cells #[p1, p2, p3, p4, .slice a7 n7 c7, .slice aW m cW] 74 (0, 0)) ∧ ∀ u, RowKit.Below w11.heap.size (w11.setCell ⟨x, 5, none⟩ v11) u → KN x p1 p2 p3 p4 m S ⟨a, n, c⟩ e w u) := by
    rintro w8 rfl U9 gv w10 t F9 hgv ⟨g', S9, d9, F10⟩
    have G10 : Fr (· = gv) (w7.setCell ⟨x, 4, none⟩ (.slice a7 n7 c7)) w10 := (F9.mono (fun _ _ h => h.elim)).trans F10
    have hx7 : x < w7.heap.size := by have := HX.out.2; have := HE.out.2; omega
    have hsz := HE.out.1
    have hU9 := F9.size
    have Bk10 := G10.keeps H8.out.1 (fun h => by omega)
    refine ⟨Bk10, H8.out.2.1.fr G10 (fun k hk he => by have := HK.out.rowW.lt k hk; have := HE.out.2; omega), fun U11 w11 v11 F11 N11 => ?_⟩
    obtain ⟨g11, -, -, f11⟩ := N11.out
    have G11 : Fr (fun j => βW = some j) w10 w11 := (F11.mono (fun _ _ h => h.elim)).trans f11
    refine ⟨G11.keeps Bk10 HX.out.1, fun u hu => ?_⟩
    obtain ⟨S', q1, q2, q3, q4, q5⟩ := kept_more HK.out H7.out F9 F10 (by omega) S9 (by rcases d9 with d9 | d9 <;> omega) F11 N11
    have hu' : RowKit.Below (w11.setCell ⟨x, 5, none⟩ v11).heap.size (w11.setCell ⟨x, 5, none⟩ v11) u := by simpa using hu
    exact ⟨S', q1.fr (T := fun _ => False) (Fr.of_below hu') (fun _ _ h => h), q2, q3, q4.trans (Fr.of_below hu'), fun b cur h => (hu'.block b (by have := q4.size; have := block_lt h; omega)).trans (q5 b cur h)⟩
  have HS8 := hd H8.out.2.2
  have Bk8 := H8.out.1
  have hSW8 : SW.length ≤ 1000 := by rw [HM.out.2]; omega
  have hSWe := HM.out.2
  clear H7 HE HX H8 HK HS HM kL0 kL0a hr7 fL7 kL7
  generalize hw8 : w7.setCell ⟨x, 4, none⟩ (.slice a7 n7 c7) = w8 at *
  have ZY := ZZ.out w8 rfl
  have ZX := hd ZY
  clear ZZ ZY hw8
  have kW8 := cell_row Bk8 5
  simp at kW8
  have kW8a := fun o => (((Below.refl w8.heap.size w8).alloc (Nat.le_refl _) o).cell (p := ⟨x, 5, none⟩) (block_lt Bk8)).trans kW8
  clear Bk8
  have HSE := hd hSWe
  clear hSWe
  go_region_law (first | (refine step_pushA rfl (.tmp 19) (.tmp 20) rfl w8.heap.size ⟨a, n, c⟩ (by simp [Act.eval]) (by simp [Act.eval]) ⟨[], heap_alloc_new _ _, rfl, rfl, Nat.le_refl _, by omega, rfl⟩ T e (HS8.out.fr (T := fun _ => False) (by repeat (first | exact Fr.refl _ _ | refine Fr.trans ?_ (Fr.alloc _ _ _) | refine Fr.trans ?_ (Fr.drew _ _) | refine Fr.trans ?_ (Fr.drewN _ _ _))) (fun _ _ h => h)) (by show n ≤ 100000; omega) ?_; intro t w10 hP; obtain ⟨Y1, Y2, Y3⟩ := ZX.out _ _ w10 t (by repeat (first | exact Fr.refl _ _ | refine Fr.trans ?_ (Fr.alloc _ _ _) | refine Fr.trans ?_ (Fr.drew _ _) | refine Fr.trans ?_ (Fr.drewN _ _ _))) (Nat.le_refl _) hP; obtain ⟨ta, tn, tc⟩ := t; simp only at Y3 ⊢; have kW10 := cell_row Y1 5; simp at kW10; have kW10a := fun o => (((Below.refl w10.heap.size w10).alloc (Nat.le_refl _) o).cell (p := ⟨x, 5, none⟩) (block_lt Y1)).trans kW10; have HY2 := hd Y2; have HY3 := hd Y3; clear hP Y1 Y2 Y3) | (refine step_pushV rfl (.tmp 18) (.tmp 22) rfl (.slice aW m cW) w10.heap.size (by simp [Act.eval]) (by simp [Act.eval]) βW SW w10 (by repeat (first | exact Fr.refl _ _ | refine Fr.trans ?_ (Fr.alloc _ _ _) | refine Fr.trans ?_ (Fr.drew _ _) | refine Fr.trans ?_ (Fr.drewN _ _ _))) HY2.out ⟨ta, tn, tc⟩ (heap_alloc_new _ _) hSW8 ?_; intro a11 c11 w11 hQ; obtain ⟨Y4, Y5⟩ := HY3.out _ w11 _ (by repeat (first | exact Fr.refl _ _ | refine Fr.trans ?_ (Fr.alloc _ _ _) | refine Fr.trans ?_ (Fr.drew _ _) | refine Fr.trans ?_ (Fr.drewN _ _ _))) hQ; have kW11 := cell_row Y4 5; simp at kW11; have fW11 := frozen_row Y4 5; have HY5 := hd Y5; clear hQ Y4 Y5))
  all_goals
    go_wp2
    refine bodyPost_end (results_none rfl _ _ _) rfl ?_
    refine ⟨rfl, HY5.out _ ?_⟩
    repeat (first | exact Below.refl _ _ | refine Below.drew ?_ | refine below_drewN ?_ _)

end Go.Proofs.Ytpjnhjijipcjkaa
