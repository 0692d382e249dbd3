/-
  marked.
-/
import Derived.Test.YtocpfioifamkmaaOc
import Derived.Deep.DeepCutAuto
namespace Go.Proofs.Ytocpfioifamkmaa
open Go.RowKit
set_option linter.unusedVariables false

theorem NowF.slice {α : Type} {f : α → List Value} {k : Nat} {w w' : World} {e : TypeId} {β : Option Nat} {v' : Value} {xs : List α} (h : NowF f k w w' e β v' xs) : ∃ a c, v' = .slice a xs.length c := by
  obtain ⟨g', h1, -⟩ := h
  obtain ⟨a', c', h, -⟩ := h1.form
  exact ⟨a', c', h⟩

theorem step_pushI {ops : Array Oper} {o : Oper} {a : Act} {w : World} {K : Act → World → Prop} {Q : Exit → Act → World → Prop} {E : Prop}
    (hg : o.guard = none) (d x : Operand) (hop : o.op = Op.call { callee := Callee.builtin Builtin.append, args := #[d, x], argTypes := #[35, 35] })
    (va : Value) (g : Nat) (hv : a.eval d = va) (hx : a.eval x = .slice (some ⟨g, 0, none⟩) 1 1) (β : Option Nat) (xs : List (Int × Int)) (w2 : World) (hF : Fr (fun _ => False) w2 w) (hS : SF it 2 w2 38 β va xs) (n y : Int)
    (hb : w.heap[g]? = some (.cells #[.int .i64 n, .int .i64 y] 38 (0, 0))) (hn : xs.length ≤ 4096)
    (hK : ∀ a' c' w', NowF it 2 w w' 38 β (.slice a' (xs.length + 1) c') (xs ++ [(n, y)]) → K (a.put o.dst (.slice a' (xs.length + 1) c')) w') :
    if Region.wanted o (yielded ops a.tmps) = true then Oper.wp Try.prog o a w K Q else E := by
  obtain ⟨v', w', hr, hP⟩ := push_item w β va xs (hS.fr hF (fun _ _ h => h)) g n y hb (by omega)
  obtain ⟨a', c', rfl⟩ := hP.slice
  rw [List.length_append] at hr hP
  exact step_append_k hg d x 35 35 hop _ _ hv hx (hr _) (hK a' c' w' hP)
theorem step_pushV {ops : Array Oper} {o : Oper} {a : Act} {w : World} {K : Act → World → Prop} {Q : Exit → Act → World → Prop} {E : Prop}
    (hg : o.guard = none) (d x : Operand) (hop : o.op = Op.call { callee := Callee.builtin Builtin.append, args := #[d, x], argTypes := #[43, 43] })
    (va : Value) (g : Nat) (hv : a.eval d = va) (hx : a.eval x = .slice (some ⟨g, 0, none⟩) 2 2) (β : Option Nat) (xs : List SV) (w2 : World) (hF : Fr (fun _ => False) w2 w) (hS : SF sv 1 w2 35 β va xs) (s t : SV)
    (hb : w.heap[g]? = some (.cells #[.slice s.a s.n s.c, .slice t.a t.n t.c] 35 (0, 0))) (hn : xs.length ≤ 100000000)
    (hK : ∀ a' c' w', NowF sv 1 w w' 35 β (.slice a' (xs.length + 2) c') (xs ++ [s, t]) → K (a.put o.dst (.slice a' (xs.length + 2) c')) w') :
    if Region.wanted o (yielded ops a.tmps) = true then Oper.wp Try.prog o a w K Q else E := by
  obtain ⟨v', w', hr, hP⟩ := push_svs w β va xs (hS.fr hF (fun _ _ h => h)) g s t hb (by omega)
  obtain ⟨a', c', rfl⟩ := hP.slice
  rw [List.length_append] at hr hP
  exact step_append_k hg d x 43 43 hop _ _ hv hx (hr _) (hK a' c' w' hP)

/-- What the first loop has done. -/
def MR (w wr : World) (g n c : Nat) (mark : Int) (xs : List (Int × Int)) (i : Nat) (vw : Value) : Prop :=
  RowF it 2 wr g n c 38 (mk mark i ++ xs.drop i) ∧ (∃ βw, SF it 2 wr 38 βw vw (mk mark i) ∧ ∀ b, βw = some b → w.heap.size ≤ b) ∧ Fr (· = g) w wr

theorem mr_step {w wr : World} {g n c : Nat} {mark : Int} {xs : List (Int × Int)} {i : Nat} {vw : Value} (h : MR w wr g n c mark xs i vw) (hi : i < n) (hn : n ≤ 4096) (hl : xs.length = n) (hg : g < w.heap.size) :
    ∃ v' w', (∀ ty, (Builtin.append_ #[35, 35] ty #[vw, .slice (some ⟨wr.heap.size, 0, none⟩) 1 1]).run Try.prog (((wr.setCell ⟨g, i * 2, none⟩ (.int .i64 mark)).setCell ⟨g, i * 2 + 1, none⟩ (.int .i64 i)).alloc (.cells #[.int .i64 mark, .int .i64 i] 38)) = .ok v' w') ∧ MR w w' g n c mark xs (i + 1) v' := by
  obtain ⟨hR, ⟨βw, hS, hβ⟩, hF⟩ := h
  have hR2 := hR.set2 i hi mark i
  rw [mix_set mark i xs (by omega)] at hR2
  obtain ⟨U, hU⟩ : ∃ U, U = (wr.setCell ⟨g, i * 2, none⟩ (.int .i64 mark)).setCell ⟨g, i * 2 + 1, none⟩ (.int .i64 i) := ⟨_, rfl⟩
  have FU : Fr (· = g) wr U := by rw [hU]; exact Fr.trans (S := (· = g)) (Fr.setCell _ _ _ rfl) (Fr.setCell _ _ _ rfl)
  have zU : U.heap.size = wr.heap.size := by rw [hU]; simp
  rw [← hU] at hR2 ⊢
  have hz := hF.size
  have hSU : SF it 2 U 38 βw vw (mk mark i) := hS.fr FU (fun b hb he => by have := hβ b hb; omega)
  obtain ⟨v', w', hr, hN⟩ := push_item (U.alloc (.cells #[.int .i64 mark, .int .i64 i] 38)) βw vw (mk mark i) (hSU.fr (S := fun _ => False) (Fr.alloc _ _ _) (fun _ _ h => h)) U.heap.size mark i (heap_alloc_new U _) (by rw [mk_len]; omega)
  rw [zU] at hr
  obtain ⟨g', h1, h2, h3⟩ := hN.out
  rw [← mk_succ] at h1
  refine ⟨v', w', hr, (hR2.fr (S := fun _ => False) (Fr.alloc _ _ _) (fun h => h)).fr h3 (fun h => by have := hβ g h; omega), ⟨some g', h1, ?_⟩, ?_⟩
  · intro b hb
    injection hb with hb
    subst hb
    rcases h2 with h2 | h2
    · exact hβ _ h2
    · simp at h2; omega
  · exact (hF.trans FU).next ((Fr.alloc (fun j => βw = some j) U _).trans h3) (fun k hk he => by have := hβ k he; omega)

set_option maxRecDepth 100000 in
set_option maxHeartbeats 16000000 in
theorem marked_any (kb m : Nat) (S : Nat → Prop) (g n c : Nat) (xs : List (Int × Int)) (mark : Int) (w : World) (hK : keptO kb m w S) (hR : RowF it 2 w g n c 38 xs) (hg : ¬ S g) (hn : n ≤ 4096) (hm : m ≤ 10000000) :
    Calls Try.prog 21 #[.pointer (some ⟨kb, 0, none⟩), .slice (some ⟨g, 0, none⟩) n c, .int .i64 mark] w fun e w' => e = .returned (.tuple #[]) ∧ ∃ S', keptO kb (m + 2) w' S' ∧ (∀ k, S' k → S k ∨ k = g ∨ w.heap.size ≤ k) ∧ Fr (fun k => S k ∨ k = g) w w' := by
  obtain ⟨i0, hi0, hz0, hz1, hz2⟩ := info_parts Try.infoT
  obtain ⟨vL, βL, SL, vW, βW, SW, E, K0⟩ := hK
  have hgl := hR.lt
  obtain ⟨hl, hnc, hcm⟩ : xs.length = n ∧ n ≤ c ∧ c ≤ 9223372036854775807 := by
    obtain ⟨cur, -, -, h1, h2, h3, -⟩ := hR
    exact ⟨h1, h2, h3⟩
  have hSLm : SL.length = m := by rw [K0.ke.1]; exact K0.len
  have hSWm : SW.length = m := by rw [K0.ke.2.1]; exact K0.len
  obtain ⟨aL, cL, rfl, -⟩ := K0.rowL.form
  obtain ⟨aW, cW, rfl, -⟩ := K0.rowW.form
  rw [hSLm, hSWm] at K0
  have HK := hd K0
  have HG := hd (And.intro hg hgl)
  have HL := hd hl
  have HSL := hd (And.intro hSLm hSWm)
  have M0 : Hid (MR w w g n c mark xs 0 (.slice none 0 0)) := ⟨by simpa [mk] using hR, ⟨none, ⟨rfl, rfl⟩, fun b hb => by cases hb⟩, Fr.refl _ _⟩
  clear hR hg hgl K0 hl hSLm hSWm
  go_enter Try.func21, Try.ntmps21
  go_wp2_with fail
  go_loopw [6, 7] (fun vw vi wr => ∃ i : Nat, i ≤ n ∧ vi = .int .i64 i ∧ ∃ aw cw, vw = .slice aw i cw ∧ Hid (MR w wr g n c mark xs i (.slice aw i cw))) (fun _ vi _ => n - (intOf vi).toNat)
  case atStart => exact ⟨0, Nat.zero_le _, rfl, none, 0, rfl, M0⟩
  case round =>
    obtain ⟨i, hi, rfl, aw, cw, rfl, HM⟩ := hrel
    clear M0
    by_cases hlt : i < n
    · have i1 : (i : Int) < (n : Int) := by omega
      obtain ⟨v', w', hr, hM'⟩ := mr_step HM.out hlt hn HL.out HG.out.2
      obtain ⟨a', c', rfl⟩ : ∃ a' c', v' = .slice a' (i + 1) c' := by
        obtain ⟨-, ⟨β, h, -⟩, -⟩ := hM'
        obtain ⟨a', c', h1, -⟩ := h.form
        exact ⟨a', c', by rw [h1, mk_len]⟩
      have hRr := HM.out.1
      have hml := mix_len mark i xs (by have := HL.out; omega)
      obtain ⟨z0, x0⟩ : ∃ z0, wr.cell? ⟨g, i * 2, none⟩ = some (.int .i64 z0) := ⟨_, by
        have := hRr.cell sz_it i 0 (by rw [hml, HL.out]; exact hlt) (by omega)
        simpa [it] using this⟩
      obtain ⟨z1, x1⟩ : ∃ z1, wr.cell? ⟨g, i * 2 + 1, none⟩ = some (.int .i64 z1) := ⟨_, by
        have := hRr.cell sz_it i 1 (by rw [hml, HL.out]; exact hlt) (by omega)
        simpa [it] using this⟩
      obtain ⟨cur, hh, -⟩ := hRr
      have f0 := frozen_row hh (i * 2)
      have f1 := frozen_row hh (i * 2 + 1)
      have Z := hd hM'
      clear hM' HM hh hml
      go_wp2_with (at_builtin; refine wpList_append_k _ rfl _ _ 35 35 rfl _ _ rfl rfl (hr _) ?_)
      exact ⟨⟨i + 1, by omega, by go_num, _, _, rfl, Z⟩, by simp [intOf]; omega⟩
    · have i1 : ¬ (i : Int) < (n : Int) := by omega
      obtain rfl : i = n := by omega
      obtain ⟨hRg, ⟨βw, hW, hβw⟩, F1⟩ := HM.out
      rw [List.drop_eq_nil_of_le (by rw [HL.out]; exact Nat.le_refl _), List.append_nil] at hRg
      obtain ⟨ng, hng⟩ : ∃ ng, wrap64 (-mark) = ng := ⟨_, rfl⟩
      have hgk : g ≠ kb := fun h => HG.out.1 (h ▸ HK.out.inK)
      obtain ⟨v6, w6, hr6, N6⟩ := push_item (wr.alloc (.cells #[.int .i64 ng, .int .i64 1] 38)) (some g) (.slice (some ⟨g, 0, none⟩) i c) (mk mark i) ⟨c, by rw [mk_len], by rw [mk_len]; exact hRg.fr (S := fun _ => False) (Fr.alloc _ _ _) (fun h => h)⟩ wr.heap.size ng 1 (heap_alloc_new wr _) (by rw [mk_len]; omega)
      obtain ⟨a2, c2, rfl⟩ := N6.slice
      rw [List.length_append, mk_len, List.length_singleton] at hr6 N6
      have F6 : Fr (· = g) w w6 := by
        obtain ⟨g6, -, -, f6⟩ := N6.out
        exact F1.trans ((Fr.alloc (· = g) wr _).trans (f6.mono (fun k _ hk => by injection hk with hk; exact hk.symm)))
      have Bk6 := F6.keeps HK.out.box (fun h => hgk h.symm)
      have rL6 := HK.out.rowL.fr F6 (fun k hk he => HG.out.1 (he ▸ HK.out.inL k hk))
      have rW6 := HK.out.rowW.fr F6 (fun k hk he => HG.out.1 (he ▸ HK.out.inW k hk))
      have kL6 := cell_row Bk6 0
      simp at kL6
      obtain ⟨v7, w7, hr7, N7⟩ := push_svs (w6.alloc (.cells #[.slice (some ⟨g, 0, none⟩) i c, .slice a2 (i + 1) c2] 35)) βL (.slice aL m cL) SL (rL6.fr (S := fun _ => False) (Fr.alloc _ _ _) (fun _ _ h => h)) w6.heap.size ⟨some ⟨g, 0, none⟩, i, c⟩ ⟨a2, i + 1, c2⟩ (heap_alloc_new w6 _) (by rw [HSL.out.1]; omega)
      obtain ⟨a7, c7, rfl⟩ := N7.slice
      obtain ⟨n7, hn7⟩ : ∃ n7, (SL ++ [(⟨some ⟨g, 0, none⟩, i, c⟩ : SV), ⟨a2, i + 1, c2⟩]).length = n7 := ⟨_, rfl⟩
      rw [hn7] at hr7 N7
      have bL : βL ≠ some kb := fun h => by
        have := HK.out.rowL
        rw [h] at this
        obtain ⟨c2, h2⟩ := this.blk
        rw [HK.out.box] at h2
        simp at h2
      have bW : βW ≠ some kb := fun h => by
        have := HK.out.rowW
        rw [h] at this
        obtain ⟨c2, h2⟩ := this.blk
        rw [HK.out.box] at h2
        simp at h2
      have F7 : Fr (fun j => βL = some j) w6 w7 := by
        obtain ⟨g7, -, -, f7⟩ := N7.out
        exact (Fr.alloc _ w6 _).trans f7
      have Bk7 := F7.keeps Bk6 bL
      have kL7 := cell_row Bk7 0
      simp at kL7
      have fL7 := frozen_row Bk7 0
      have rW7 := rW6.fr F7 (fun k hk he => HK.out.ne k he hk)
      have Bk7' := set_row Bk7 0 (.slice a7 n7 c7)
      have F7' : Fr (· = kb) w7 (w7.setCell ⟨kb, 0, none⟩ (.slice a7 n7 c7)) := Fr.setCell _ _ _ rfl
      have rW7' := rW7.fr F7' (fun k hk he => bW (he ▸ hk))
      have W7' : SF it 2 (w7.setCell ⟨kb, 0, none⟩ (.slice a7 n7 c7)) 38 βw (.slice aw i cw) (mk mark i) := by
        have z1 := F1.size
        have hkbl := block_lt HK.out.box
        refine ((hW.fr (S := fun j => some g = some j) ?_ (fun b hb he => ?_)).fr F7 (fun b hb he => ?_)).fr F7' (fun b hb he => ?_)
        · obtain ⟨g6, -, -, f6⟩ := N6.out
          exact (Fr.alloc _ wr _).trans f6
        · injection he with he; have := hβw b hb; have := HG.out.2; omega
        · have := hβw b hb; have := HK.out.rowL.lt b he; omega
        · have := hβw b hb; omega
      have HF6 := hd F6
      have z67 : wr.heap.size < w6.heap.size ∧ w6.heap.size < w7.heap.size := by
        obtain ⟨g6, -, -, f6⟩ := N6.out
        obtain ⟨g7, -, -, f7⟩ := N7.out
        have h1 := f6.size
        have h2 := f7.size
        simp at h1 h2
        omega
      have e7 : (w7.setCell ⟨kb, 0, none⟩ (.slice a7 n7 c7)).heap.size = w7.heap.size := by simp
      have H1 := hd (And.intro hRg (And.intro hW (And.intro hβw F1)))
      have H6 := hd N6
      have H7 := hd N7
      have HB7 := hd Bk7'
      have HR7 := hd (And.intro rW7' W7')
      have HZ := hd (And.intro z67 e7)
      have HBW := hd bW
      clear hRg hW hβw F1 N6 N7 F6 Bk6 rL6 rW6 F7 Bk7 rW7 Bk7' F7' rW7' W7' HM bL bW z67 e7 HF6 hn7
      go_wp2_with (first | (at_builtin; refine wpList_append_k _ rfl (.tmp 29) (.tmp 33) 35 35 rfl _ _ rfl rfl (hr6 _) ?_) | (at_builtin; refine wpList_append_k _ rfl (.tmp 39) (.tmp 42) 43 43 rfl _ _ rfl rfl (hr7 _) ?_) | (at_make; refine wpList_make_k _ rfl _ _ 35 rfl 38 i0 _ Try.underlying35 hi0 hz0 _ _ _ _ 0 (i + 1) rfl rfl (by go_num) (by go_num) (by omega) (by rw [hz2]; omega) (by omega) ?_; intro w8 cur hg8 hcur hb8; have hrow := row_empty (f := it) (e := 38) hg8.out (by have := hcur.out; rw [hz1] at this; exact this) (by omega); obtain ⟨v9, w9, hr9, g9, S9, d9, F9⟩ := push_all w8 _ (i + 1) hrow βw aw i cw (mk mark i) (HR7.out.2.fr (S := fun _ => False) (Fr.of_below hb8.out) (fun _ _ h => h)) (mk_len _ _) (by omega); obtain ⟨a9, c9, hv9⟩ : ∃ a9 c9, v9 = .slice a9 i c9 := (by obtain ⟨a9, c9, h, -⟩ := S9.form; exact ⟨a9, c9, by rw [h, mk_len]⟩); subst hv9; have H9 := hd (And.intro S9 (And.intro d9 F9)); have HB8 := hd hb8.out; clear hrow S9 d9 F9 hg8 hcur hb8; rw [HZ.out.2] at hr9) | (at_builtin; refine wpList_append_k _ rfl (.tmp 50) (.tmp 51) 35 35 rfl _ _ rfl rfl (hr9 _) ?_))
      have hkbl := block_lt HK.out.box
      have z9 : w7.heap.size ≤ w8.heap.size ∧ w8.heap.size ≤ w9.heap.size := by
        have h1 := HB8.out.size
        rw [HZ.out.2] at h1
        exact ⟨h1, H9.out.2.2.size⟩
      have zw := H1.out.2.2.2.size
      have zz := HZ.out.1
      have hg9 : w7.heap.size ≤ g9 := by
        rcases H9.out.2.1 with h | h
        · rw [h, HZ.out.2]; exact Nat.le_refl _
        · omega
      have hgk9 : kb < w7.heap.size := by omega
      have hWl : ∀ k, βW = some k → k < w7.heap.size := fun k hk => by have := HK.out.rowW.lt k hk; omega
      have Bk9 : w9.heap[kb]? = some (.cells #[.slice a7 n7 c7, .slice aW m cW] 45 (0, 0)) := by
        have h1 := HB7.out
        have h2 := (HB8.out.block kb (by rw [HZ.out.2]; exact hgk9)).trans h1
        have h3 := H9.out.2.2.keeps h2 (fun h => by rw [HZ.out.2] at h; omega)
        simpa using h3
      have rW9 : SF sv 1 w9 35 βW (.slice aW m cW) SW := (HR7.out.1.fr (S := fun _ => False) (Fr.of_below HB8.out) (fun _ _ h => h)).fr H9.out.2.2 (fun k hk he => by have := hWl k hk; rw [HZ.out.2] at he; omega)
      have ZZ : Hid (∀ U10 w10 a4 c4, Fr (fun _ => False) w9 U10 → NowF it 2 U10 w10 38 (some g9) (.slice a4 (i + 1) c4) (mk mark i ++ [(ng, 1)]) → w10.heap[kb]? = some (.cells #[.slice a7 n7 c7, .slice aW m cW] 45 (0, 0)) ∧ SF sv 1 w10 35 βW (.slice aW m cW) SW ∧ ∀ U11 w11 v11, Fr (fun _ => False) w10 U11 → NowF sv 1 U11 w11 35 βW v11 (SW ++ [⟨aw, i, cw⟩, ⟨a4, i + 1, c4⟩]) → w11.heap[kb]? = some (.cells #[.slice a7 n7 c7, .slice aW m cW] 45 (0, 0)) ∧ ∀ u, Below w11.heap.size (w11.setCell ⟨kb, 1, none⟩ v11) u → ∃ S', keptO kb (m + 2) u S' ∧ (∀ k, S' k → S k ∨ k = g ∨ w.heap.size ≤ k) ∧ Fr (fun k => S k ∨ k = g) w u) := by
        intro U10 w10 a4 c4 F10 N10
        obtain ⟨g10, -, -, f10⟩ := N10.out
        have G10 : Fr (fun j => some g9 = some j) w9 w10 := (F10.mono (fun _ _ h => h.elim)).trans f10
        have Bk10 := G10.keeps Bk9 (fun h => by injection h with h; omega)
        refine ⟨Bk10, rW9.fr G10 (fun k hk he => by injection he with he; have := hWl k hk; omega), fun U11 w11 v11 F11 N11 => ?_⟩
        obtain ⟨g11, -, -, f11⟩ := N11.out
        have G11 : Fr (fun j => βW = some j) w10 w11 := (F11.mono (fun _ _ h => h.elim)).trans f11
        refine ⟨G11.keeps Bk10 HBW.out, fun u hu => ?_⟩
        obtain ⟨S', q1, q2, q3⟩ := kept_more HK.out HG.out.1 HG.out.2 H1.out.2.2.2 H1.out.1 H1.out.2.1 H1.out.2.2.1 H6.out H7.out HB8.out H9.out.2.2 (by rw [HZ.out.2]; exact Nat.le_refl _) hg9 F10 N10 F11 N11
        have hu' : Below (w11.setCell ⟨kb, 1, none⟩ v11).heap.size (w11.setCell ⟨kb, 1, none⟩ v11) u := by simpa using hu
        exact ⟨S', (frm_kept _ _).fr _ _ _ (fun _ => False) q1 (Fr.of_below hu') (fun _ _ h => h), q2, q3.trans (Fr.of_below hu')⟩
      have kW9 := cell_row Bk9 1
      simp at kW9
      have kW9a := fun o => (((Below.refl w9.heap.size w9).alloc (Nat.le_refl _) o).cell (p := ⟨kb, 1, none⟩) (block_lt Bk9)).trans kW9
      have hng2 : IntKind.i64.wrap (-mark) = ng := by rw [IntKind.wrap_i64, ← hng]; unfold wrap64; rfl
      have HS9 := hd H9.out.1
      have hSW8 : SW.length ≤ 100000000 := by rw [HSL.out.2]; omega
      clear Bk9 rW9 hWl H1 H6 H7 HB7 HR7 HB8 H9 hr6 hr7 hr9 kL6 kL7 fL7 hkbl hgk9 hg9 z9 zw zz HBW
      go_region_law (first | (refine step_pushI rfl (.tmp 59) (.tmp 63) rfl (.slice a9 i c9) w9.heap.size (by simp [Act.eval]) (by simp [Act.eval]) (some g9) (mk mark i) w9 (by repeat (first | exact Fr.refl _ _ | refine Fr.trans ?_ (Fr.alloc _ _ _) | refine Fr.trans ?_ (Fr.drew _ _) | refine Fr.trans ?_ (Fr.drewN _ _ _))) HS9.out ng 1 (heap_alloc_new _ _) (by rw [mk_len]; exact hn) ?_; intro a4 c4 w10 hP; simp only [mk_len] at hP ⊢; obtain ⟨Y1, Y2, Y3⟩ := ZZ.out _ w10 a4 c4 (by repeat (first | exact Fr.refl _ _ | refine Fr.trans ?_ (Fr.alloc _ _ _) | refine Fr.trans ?_ (Fr.drew _ _) | refine Fr.trans ?_ (Fr.drewN _ _ _))) hP; have kW10 := cell_row Y1 1; simp at kW10; have kW10a := fun o => (((Below.refl w10.heap.size w10).alloc (Nat.le_refl _) o).cell (p := ⟨kb, 1, none⟩) (block_lt Y1)).trans kW10; have HY2 := hd Y2; have HY3 := hd Y3; clear hP Y1 Y2 Y3) | (refine step_pushV rfl (.tmp 57) (.tmp 65) rfl (.slice aW m cW) w10.heap.size (by simp [Act.eval]) (by simp [Act.eval]) βW SW w10 (by repeat (first | exact Fr.refl _ _ | refine Fr.trans ?_ (Fr.alloc _ _ _) | refine Fr.trans ?_ (Fr.drew _ _) | refine Fr.trans ?_ (Fr.drewN _ _ _))) HY2.out ⟨aw, i, cw⟩ ⟨a4, i + 1, c4⟩ (heap_alloc_new _ _) hSW8 ?_; intro a11 c11 w11 hQ; obtain ⟨Y4, Y5⟩ := HY3.out _ w11 _ (by repeat (first | exact Fr.refl _ _ | refine Fr.trans ?_ (Fr.alloc _ _ _) | refine Fr.trans ?_ (Fr.drew _ _) | refine Fr.trans ?_ (Fr.drewN _ _ _))) hQ; have kW11 := cell_row Y4 1; simp at kW11; have fW11 := frozen_row Y4 1; have HY5 := hd Y5; clear hQ Y4 Y5))
      all_goals
        go_wp2
        refine bodyPost_end (results_none rfl _ _ _) rfl ?_
        refine ⟨rfl, HY5.out _ ?_⟩
        repeat (first | exact Below.refl _ _ | refine Below.drew ?_ | refine below_drewN ?_ _)

end Go.Proofs.Ytocpfioifamkmaa
