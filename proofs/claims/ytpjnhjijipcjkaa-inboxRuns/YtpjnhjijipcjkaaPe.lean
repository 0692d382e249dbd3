/-
  scrawl.
-/
import Derived.Test.YtpjnhjijipcjkaaPd
namespace Go.Proofs.Ytpjnhjijipcjkaa
open Go.RowKit
set_option linter.unusedVariables false

theorem RowF.set1 {w : World} {g N cap : Nat} {e : TypeId} {xs : List Int} (h : RowF ei 1 w g N cap e xs) (i : Nat) (hi : i < N) (a : Int) : RowF ei 1 (w.setCell ⟨g, i, none⟩ (.int .i64 a)) g N cap e (xs.set i a) := by
  obtain ⟨cur, hh, ht, hl, h1, h2, h3⟩ := h
  have h4 := set_row hh i (.int .i64 a)
  refine ⟨cur.set i (.int .i64 a), by simpa using h4, ?_, by simpa using hl, h1, h2, by simpa using h3⟩
  have e1 : ∀ ys : List Int, cl ei ys = ys.map (fun y => .int .i64 y) := fun ys => by
    induction ys with
    | nil => rfl
    | cons y ys ih => rw [cl_cons, ih]; rfl
  rw [e1] at ht ⊢
  rw [List.map_set, ← ht, List.take_set]
theorem SF.set1 {w : World} {β : Option Nat} {a : Option Addr} {n c : Nat} {xs : List Int} (h : SF ei 1 w 3 β (.slice a n c) xs) (i : Nat) (hi : i < n) : ∃ g, β = some g ∧ a = some ⟨g, 0, none⟩ ∧ w.cell? ⟨g, i, none⟩ = some (.int .i64 (xs[i]?.getD 0)) ∧ w.frozen? ⟨g, i, none⟩ = false ∧ ∀ y, SF ei 1 (w.setCell ⟨g, i, none⟩ (.int .i64 y)) 3 β (.slice a n c) (xs.set i y) := by
  cases β with
  | none =>
    obtain ⟨h1, -⟩ := h
    injection h1 with h1 h2 h3
    omega
  | some g =>
    obtain ⟨cap, h1, hR⟩ := h
    injection h1 with h1 h2 h3
    subst h1 h2 h3
    refine ⟨g, rfl, rfl, ?_, ?_, fun y => ⟨c, by rw [List.length_set], ?_⟩⟩
    · have := hR.cell sz_ei i 0 hi (by omega)
      rw [List.getElem?_eq_getElem hi]
      simpa [ei] using this
    · obtain ⟨cur, hh, -⟩ := hR
      exact frozen_row hh i
    · rw [List.length_set]
      exact hR.set1 i hi y

def mkL (mark : Int) (i : Nat) (xs : List Int) : List Int := List.replicate i mark ++ xs.drop i
theorem mkL_set (mark : Int) (i : Nat) (xs : List Int) (h : i < xs.length) : (mkL mark i xs).set i mark = mkL mark (i + 1) xs := by
  unfold mkL
  rw [List.drop_eq_getElem_cons h, List.set_append_right _ _ (by simp), List.length_replicate, Nat.sub_self, List.set_cons_zero, List.replicate_succ', List.append_assoc]
  rfl

theorem hj_after {w w' : World} {β : Option Nat} {a : Option Addr} {n c : Nat} {v' : Value} {ys zs : List Int} (hR : SF ei 1 w 3 β (.slice a n c) ys) (hN : NowF ei 1 w w' 3 β v' (ys ++ zs)) : HJ w' (fun k => β = some k) ⟨a, n, c⟩ ys := by
  cases β with
  | none => exact SF.hj (w := w') (β := none) hR (fun b hb => hb)
  | some g =>
    obtain ⟨cap, h1, hR⟩ := hR
    injection h1 with h1 h2 h3
    subst h1 h2 h3
    have hR0 := hR
    obtain ⟨cur0, hh0, ht0, hl, e1, e2, -⟩ := hR0
    refine ⟨rfl, e1, e2, fun _ => ?_⟩
    obtain ⟨g', ⟨cap, -, cur, hh, ht, -⟩, h2 | h2⟩ := hN
    · obtain ⟨h2, -⟩ := h2
      injection h2 with h2
      subst h2
      refine ⟨g, cur, rfl, rfl, hh, ?_⟩
      have h3 := congrArg (List.take ys.length) ht
      have h4 : (cl ei ys).length = ys.length := by rw [cl_len sz_ei, Nat.mul_one]
      have h5 : (cl ei (ys ++ zs)).take ys.length = cl ei ys := by rw [cl_app]; exact List.take_left' h4
      rw [List.take_take, Nat.min_eq_left (by simp), h5] at h3
      exact h3
    · exact ⟨g, cur0, rfl, rfl, h2.2.keeps hh0 (fun h => h), by simpa using ht0⟩

theorem push_3 (w : World) (β : Option Nat) (v : Value) (xs : List Int) (hv : SF ei 1 w 3 β v xs) (b : Nat) (y1 y2 y3 : Int) (hb : w.heap[b]? = some (.cells #[.int .i64 y1, .int .i64 y2, .int .i64 y3] 3 (0, 0))) (hn : xs.length ≤ 4096) :
    ∃ v' w', (∀ ty, (Builtin.append_ #[22, 22] ty #[v, .slice (some ⟨b, 0, none⟩) 3 3]).run Try.prog w = .ok v' w') ∧ NowF ei 1 w w' 3 β v' (xs ++ [y1, y2, y3]) := by
  obtain ⟨i0, hi0, hz0, hz1, hz2⟩ := info_parts Try.infoI
  obtain ⟨v', w', hr, hN⟩ := run_pushF sz_ei (P := Try.prog) w 22 0 3 i0 _ 8 Try.underlying22 hi0 hz0 hz1 rfl hz2 β v xs hv ⟨b, 0, none⟩ 3 3 [y1, y2, y3] rfl (fun j u hj => by
    rcases j with _ | _ | _ | j
    · rw [add_lit, cell_row hb]; simpa [cl, ei] using hj
    · rw [add_lit, cell_row hb]; simpa [cl, ei] using hj
    · rw [add_lit, cell_row hb]; simpa [cl, ei] using hj
    · simp [cl, ei] at hj) (by omega) (by omega) (by omega)
  exact ⟨v', w', fun ty => hr, hN⟩

set_option maxRecDepth 100000 in
set_option maxHeartbeats 4000000 in
theorem scrawl_any (x m : Nat) (p1 p2 p3 p4 : Value) (S : Nat → Prop) (β : Option Nat) (a : Option Addr) (n c : Nat) (xs : List Int) (w : World) (hK : keptO x p1 p2 p3 p4 m w S) (hl : SF ei 1 w 3 β (.slice a n c) xs) (hg : ∀ g, β = some g → ¬ S g) (hn : n ≤ 4096) (hm : m ≤ 50) :
    Calls Try.prog 51 #[.pointer (some ⟨x, 0, none⟩), .slice a n c] w fun ex w' => ex = .returned (.tuple #[]) ∧ ∃ S', keptO x p1 p2 p3 p4 (m + 2) w' S' ∧ (∀ k, S' k → S k ∨ β = some k ∨ w.heap.size ≤ k) ∧ Fr (fun k => S k ∨ β = some k) w w' := by
  obtain ⟨h1, h2, hxl⟩ : n ≤ c ∧ c ≤ 9223372036854775807 ∧ xs.length = n := by
    obtain ⟨a', c', h, h1, h2⟩ := hl.form
    injection h with h3 h4 h5
    subst h5
    exact ⟨by omega, h2, h4.symm⟩
  have hKK := hK
  obtain ⟨vL, βL, SL, vW, βW, SW, E, K0⟩ := hKK
  have hSLm : SL.length = m := by rw [K0.ke.1]; exact K0.len
  obtain ⟨aL, cL, rfl, hL1, hL2⟩ := K0.rowL.form
  rw [hSLm] at K0 hL1
  have kL0 := cell_row K0.box 4
  simp at kL0
  obtain ⟨mark, hmark⟩ : ∃ mark : Int, mark = -1 - (m : Int) := ⟨_, rfl⟩
  have hw1 : IntKind.i64.wrap (-1 - (m : Int)) = mark := by rw [hmark, IntKind.wrap_i64]; omega
  have hw1' : wrap64 (-1 - (m : Int)) = mark := by rw [hmark]; unfold wrap64; omega
  have HK := hd hK
  have HG := hd hg
  have HX := hd (And.intro hxl (fun k hk => hl.lt k hk))
  have HL := hd hl
  have HMk := hd hmark
  clear K0 hK hl hg hSLm hxl hmark
  go_enter Try.func51, Try.ntmps51
  go_wp2_with fail
  go_loopw [5] (fun i wr => ∃ j : Nat, j ≤ n ∧ i = .int .i64 j ∧ Hid (SF ei 1 wr 3 β (.slice a n c) (mkL mark j xs) ∧ Fr (fun k => β = some k) w wr)) (fun i _ => n - (intOf i).toNat)
  case atStart => exact ⟨0, Nat.zero_le _, rfl, HL.out, Fr.refl _ _⟩
  case round =>
    obtain ⟨j, hj, rfl, HR⟩ := hrel
    by_cases hlt : j < n
    · obtain ⟨g, hβ, rfl, q1, q2, q3⟩ := HR.out.1.set1 j hlt
      have i1 : (j : Int) < (n : Int) := by omega
      have HQ := hd q3
      have HB := hd hβ
      clear q3 hβ
      go_wp2_with fail
      refine ⟨⟨j + 1, by omega, by go_num, ?_⟩, by simp [intOf]; omega⟩
      have := HQ.out mark
      rw [mkL_set mark j xs (by have := HX.out.1; omega)] at this
      exact ⟨this, HR.out.2.trans (Fr.setCell _ _ _ HB.out)⟩
    · have i1 : ¬ (j : Int) < (n : Int) := by omega
      obtain rfl : j = n := by omega
      have hmk : mkL mark j xs = List.replicate j mark := by
        unfold mkL
        rw [List.drop_eq_nil_of_le (by have := HX.out.1; omega), List.append_nil]
      have hKr := (frm_kept _ _ _ _ _ _).fr _ _ S _ HK.out HR.out.2 (fun k hk he => HG.out k he hk)
      obtain ⟨s1, s2⟩ := HR.out
      rw [hmk] at s1
      have HS := hd (And.intro s1 s2)
      have HKr := hd hKr
      clear HR hKr s1 s2 hmk
      go_wp2_with fail
      refine (keep_any x m p1 p2 p3 p4 S (fun k => β = some k) a j c (List.replicate j mark) wr HKr.out (HS.out.1.hj (fun b hb => hb)) (by omega) (by omega)).mono ?_
      rintro _ w2 ⟨rfl, S2, k1, k2, k3, k4, k5⟩
      have s2 : SF ei 1 w2 3 β (.slice a j c) (List.replicate j mark) := HS.out.1.fr k4 (fun g hgg => HG.out g hgg)
      obtain ⟨v3, w3, hr3, N3⟩ := push_3 (w2.alloc (.cells #[.int .i64 mark, .int .i64 (wrap64 (mark - 1000)), .int .i64 (wrap64 (mark - 2000))] 3)) β (.slice a j c) (List.replicate j mark) (s2.fr (S := fun _ => False) (Fr.alloc _ _ _) (fun _ _ h => h)) w2.heap.size mark (wrap64 (mark - 1000)) (wrap64 (mark - 2000)) (heap_alloc_new w2 _) (by rw [List.length_replicate]; omega)
      obtain ⟨a3, c3, rfl⟩ := N3.slice
      obtain ⟨n3, hn3⟩ : ∃ n3, (List.replicate j mark ++ [mark, wrap64 (mark - 1000), wrap64 (mark - 2000)]).length = n3 := ⟨_, rfl⟩
      rw [hn3] at hr3 N3
      have hn3' : n3 = j + 3 := by rw [← hn3, List.length_append, List.length_replicate]; rfl
      have z2 := k4.size
      have zr := HS.out.2.size
      obtain ⟨g3, s3, d3, f3⟩ := N3.out
      have F3 : Fr (fun k => β = some k) w2 w3 := (Fr.alloc _ w2 _).trans f3
      have z3 : w2.heap.size + 1 ≤ w3.heap.size := by have := f3.size; simpa using this
      have hβl := HX.out.2
      have k1' := k1.fr F3 (fun k hk he => by
        rcases k3 k hk with h | h
        · exact HG.out k he h
        · have := hβl k he; omega)
      have hj3 := hj_after (s2.fr (S := fun _ => False) (Fr.alloc _ _ _) (fun _ _ h => h)) N3
      obtain ⟨S3, hS3⟩ : ∃ S3 : Nat → Prop, S3 = fun k => S2 k ∨ β = some k ∨ (w.heap.size ≤ k ∧ k < w3.heap.size) := ⟨_, rfl⟩
      have k6 : keptO x p1 p2 p3 p4 (m + 1) w3 S3 := k1'.kept (hj3.more (fun k hk => by rw [hS3]; exact .inr (.inl hk))) (fun k hk => by rw [hS3]; exact .inl hk) (fun k hk => by
        rw [hS3] at hk
        rcases hk with hk | hk | hk
        · obtain ⟨_, _, _, _, _, _, _, _, hy⟩ := k1'
          exact hy.old k hk
        · have := hβl k hk; omega
        · exact hk.2)
      have hg3 : S3 g3 := by
        have hlt := s3.lt g3 rfl
        rw [hS3]
        rcases d3 with d3 | d3
        · exact .inr (.inl d3)
        · exact .inr (.inr ⟨by simp at d3; omega, hlt⟩)
      have hj4 : HJ w3 S3 ⟨a3, n3, c3⟩ (List.replicate j mark ++ [mark, wrap64 (mark - 1000), wrap64 (mark - 2000)]) := s3.hj (fun b hb => by injection hb with hb; subst hb; exact hg3)
      have F03 : Fr (fun k => S k ∨ β = some k) w w3 := ((HS.out.2.mono (fun k _ h => .inr h)).trans (k4.mono (fun k _ h => .inl h))).trans (F3.mono (fun k _ h => .inr h))
      have hSS : ∀ k, S3 k → S k ∨ β = some k ∨ w.heap.size ≤ k := fun k hk => by
        rw [hS3] at hk
        rcases hk with hk | hk | hk
        · rcases k3 k hk with h | h
          · exact .inl h
          · exact .inr (.inr (by omega))
        · exact .inr (.inl hk)
        · exact .inr (.inr hk.1)
      have HA := hd (And.intro k6 (And.intro hj4 (And.intro F03 hSS)))
      have hz3 := F03.size
      have hnn3 : n3 ≤ 10000 := by omega
      clear HKr HS k1 k2 k3 k4 k5 s2 N3 s3 d3 f3 F3 k1' hj3 k6 hg3 hj4 F03 hSS hS3 hn3 hn3' hβl HL
      go_wp2_with (at_builtin; refine wpList_append_k _ rfl (.tmp 26) (.tmp 32) 22 22 rfl _ _ rfl rfl (hr3 _) ?_)
      refine (keep_any x (m + 1) p1 p2 p3 p4 S3 S3 a3 n3 c3 _ w3 HA.out.1 HA.out.2.1 hnn3 (by omega)).mono ?_
      rintro _ w4 ⟨rfl, S4, k1, k2, k3, k4, k5⟩
      have HB := hd (And.intro k1 (And.intro k2 (And.intro k3 (And.intro k4 k5))))
      clear k1 k2 k3 k4 k5
      go_wp2_with fail
      refine bodyPost_end (results_none rfl _ _ _) rfl ?_
      obtain ⟨k1, k2, k3, k4, k5⟩ := HB.out
      have hj5 := (HA.out.2.1.typed (w' := w4) (fun b cur _ hh => k5 b cur hh)).more k2
      refine ⟨rfl, S4, k1.kept hj5 (fun k h => h) (fun k hk => ?_), fun k hk => ?_, HA.out.2.2.1.next k4 (fun k hk h => ?_)⟩
      · obtain ⟨_, _, _, _, _, _, _, _, hy⟩ := k1
        exact hy.old k hk
      · rcases k3 k hk with h | h
        · exact HA.out.2.2.2 k h
        · exact .inr (.inr (by omega))
      · rcases HA.out.2.2.2 k h with h | h | h
        · exact .inl h
        · exact .inr h
        · omega

end Go.Proofs.Ytpjnhjijipcjkaa
