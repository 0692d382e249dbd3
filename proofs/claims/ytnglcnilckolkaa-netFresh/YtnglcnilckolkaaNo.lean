/-
  Flight.
-/
import Derived.Test.YtnglcnilckolkaaNm
namespace Go.Proofs.Ytnglcnilckolkaa
open Go.RowKit Go.Lib
set_option linter.unusedVariables false

/-- A list of datagrams, all of its blocks from lo to hi, no two of them the same. -/
structure FLk (w : World) (lo hi : Nat) (β : Option Nat) (v : Value) (L : List It) : Prop where
  so : SO w β v L
  at_ : ∀ g, β = some g → lo ≤ g ∧ g < hi
  rows : ∀ x ∈ L, SB w x.γ x.sv x.d.b ∧ ∀ g, x.γ = some g → lo ≤ g ∧ g < hi
  sep : L.Pairwise (fun a b => ∀ g, a.γ = some g → b.γ ≠ some g)

theorem FLk.fr {T : Nat → Prop} {w w' : World} {lo hi : Nat} {β : Option Nat} {v : Value} {L : List It} (h : FLk w lo hi β v L) (hF : Fr T w w') (hT : ∀ k, lo ≤ k → k < hi → ¬ T k) : FLk w' lo hi β v L :=
  ⟨h.so.fr hF (fun g hg => hT g (h.at_ g hg).1 (h.at_ g hg).2), h.at_, fun x hx => ⟨SRow.fr (h.rows x hx).1 hF (fun g hg => hT g ((h.rows x hx).2 g hg).1 ((h.rows x hx).2 g hg).2), (h.rows x hx).2⟩, h.sep⟩
theorem FLk.below {w w' : World} {lo hi : Nat} {β : Option Nat} {v : Value} {L : List It} (h : FLk w lo hi β v L) (hb : Below w.heap.size w w') : FLk w' lo hi β v L :=
  h.fr (T := fun _ => False) (Fr.of_below hb) (fun _ _ _ h => h)

def FL (w : World) (lo hi : Nat) (v : Value) (G : List DG) : Prop := ∃ β L, FLk w lo hi β v L ∧ L.map It.d = G
theorem FL.fr {T : Nat → Prop} {w w' : World} {lo hi : Nat} {v : Value} {G : List DG} (h : FL w lo hi v G) (hF : Fr T w w') (hT : ∀ k, lo ≤ k → k < hi → ¬ T k) : FL w' lo hi v G := by
  obtain ⟨β, L, h, hG⟩ := h
  exact ⟨β, L, h.fr hF hT, hG⟩
theorem FL.below {w w' : World} {lo hi : Nat} {v : Value} {G : List DG} (h : FL w lo hi v G) (hb : Below w.heap.size w w') : FL w' lo hi v G :=
  h.fr (T := fun _ => False) (Fr.of_below hb) (fun _ _ _ h => h)

theorem SB.sv_of {w : World} {γ : Option Nat} {v : Value} {b : List Int} (h : SB w γ v b) : ∃ a c, v = .slice a b.length c := by
  obtain ⟨a, c, hv, -⟩ := h.isB
  exact ⟨a, c, hv⟩

theorem FLk.push {w wr u : World} {lo : Nat} {β : Option Nat} {v : Value} {L : List It} (h : FLk wr lo wr.heap.size β v L) (bu : Below wr.heap.size wr u) (hlo : lo ≤ wr.heap.size) (d : DG) (a : Option Addr) (c : Nat) (γ : Option Nat)
    (hs : SB u γ (.slice a d.b.length c) d.b) (hγ : ∀ g, γ = some g → wr.heap.size ≤ g) (hn : L.length ≤ 4096) :
    ∃ v' w', (∀ ty, (Builtin.append_ #[43, 43] ty #[v, .slice (some ⟨u.heap.size, 0, none⟩) 1 1]).run Try.prog (u.alloc (.cells #[.int .i64 d.f, .int .i64 d.t, .slice a d.b.length c, .bool d.s] 37)) = .ok v' w') ∧
      ∃ β', FLk w' lo w'.heap.size β' v' (L ++ [⟨d, a, c, γ⟩]) ∧ Fr (fun k => β = some k) wr w' := by
  have b2 : Below wr.heap.size wr (u.alloc (.cells #[.int .i64 d.f, .int .i64 d.t, .slice a d.b.length c, .bool d.s] 37)) := bu.alloc bu.size _
  obtain ⟨v', w', hr, β', hS, hM, hF⟩ := run_pushO _ β v L (h.so.below b2) u.heap.size ⟨d, a, c, γ⟩ (heap_alloc_new _ _) hn
  have hF' : Fr (fun k => β = some k) wr w' := (Fr.of_below b2).trans hF
  refine ⟨v', w', hr, β', ⟨hS, ?_, ?_, ?_⟩, hF'⟩
  · intro g hg
    refine ⟨?_, SO.lt hS g hg⟩
    rcases hM with hM | ⟨g', hM, hl⟩
    · rw [hM] at hg
      exact (h.at_ g hg).1
    · rw [hM] at hg
      injection hg with hg
      simp at hl
      have := bu.size
      omega
  · intro x hx
    simp at hx
    have nb : ∀ γ' v' b g, SB (u.alloc (.cells #[.int .i64 d.f, .int .i64 d.t, .slice a d.b.length c, .bool d.s] 37)) γ' v' b → γ' = some g → β ≠ some g := by
      rintro γ' v' b g hs' rfl rfl
      obtain ⟨cur, h1⟩ := SRow.blk hs'
      obtain ⟨cap, -, cur2, h2, -⟩ := h.so.below b2
      rw [h1] at h2
      simp at h2
    rcases hx with hx | rfl
    · have h1 := SRow.fr (h.rows x hx).1 (S := fun _ => False) (Fr.of_below b2) (fun _ _ h => h)
      exact ⟨SRow.fr h1 hF (fun g hg => nb _ _ _ g h1 hg), fun g hg => ⟨((h.rows x hx).2 g hg).1, Nat.lt_of_lt_of_le ((h.rows x hx).2 g hg).2 hF'.size⟩⟩
    · have h1 : SB (u.alloc (.cells #[.int .i64 d.f, .int .i64 d.t, .slice a d.b.length c, .bool d.s] 37)) γ (.slice a d.b.length c) d.b := SRow.fr hs (S := fun _ => False) (Fr.alloc _ _ _) (fun _ _ h => h)
      have h2 := SRow.fr h1 hF (fun g hg => nb _ _ _ g h1 hg)
      exact ⟨h2, fun g hg => ⟨Nat.le_trans hlo (hγ g hg), SRow.lt h2 g hg⟩⟩
  · rw [List.pairwise_append]
    refine ⟨h.sep, by simp, fun x hx y hy g h1 h2 => ?_⟩
    simp at hy
    subst hy
    have := ((h.rows x hx).2 g h1).2
    have := hγ g h2
    omega

theorem row_emptyO {w : World} {g cap : Nat} {cur : List Value} (hg : w.heap[g]? = some (.cells cur.toArray 37 (0, 0))) (hc : cur = (madeCells (Value.agg #[.int .i64 0, .int .i64 0, .slice none 0 0, .bool false]).cells (cap * 4)).toList) (hm : cap ≤ 9223372036854775807) : RowO w g 0 cap [] := by
  refine ⟨cur, hg, by simp [cO_nil], rfl, Nat.zero_le _, hm, ?_⟩
  rw [hc, Array.length_toList, size_madeCells]

set_option maxRecDepth 100000 in
set_option maxHeartbeats 4000000 in
theorem flight_any (x : Nat) (cl : Int) (G : List DG) (B : Nat) (S : Nat → Prop) (w : World) (h : NB w x cl G B S) :
    Calls Try.prog 21 #[.pointer (some ⟨x, 0, none⟩)] w fun e w' => ∃ v, e = .returned v ∧ FL w' w.heap.size w'.heap.size v G ∧ Below w.heap.size w w' := by
  obtain ⟨i0, hi0, hz0, hz1, hz2⟩ := info_parts Try.infoO
  obtain ⟨nx, hnx, E, bm, va, β, hN, hG⟩ := h
  obtain ⟨a, c, hv⟩ := hN.ages.form
  simp only [List.length_map] at hv
  subst hv
  obtain ⟨n, hn⟩ : ∃ n, E.length = n := ⟨_, rfl⟩
  have hf := hN.few
  have HN := hd hN
  have HG := hd hG
  have HL := hd hn
  rw [hn] at hf
  have c2 := cell_row hN.net 2
  simp at c2
  rw [hn] at c2
  clear hN hG hnx
  go_enter Try.func21, Try.ntmps21
  go_wp2_with fail
  refine (count_nk x cl E nx S bm _ β w HN.out).mono ?_
  rintro e w1 ⟨rfl, rfl⟩
  rw [hn]
  clear hn
  go_wp2_with (first | (at_make; refine wpList_make_k _ rfl _ _ 43 rfl 37 i0 _ Try.underlying43 hi0 hz0 _ _ _ _ 0 n rfl rfl (by go_num) (by go_num) (by omega) (by rw [hz2]; omega) (by omega) ?_; intro w3 cur hg3 hcur hb3; have k2 : w3.cell? ⟨x, 2, none⟩ = some (.slice a n c) := (hb3.out.cell (p := ⟨x, 2, none⟩) (block_lt HN.out.net)).trans c2; have HR := hd (row_emptyO hg3.out (by have := hcur.out; rw [hz1] at this; exact this) (by omega)); have HB := hd hb3.out; clear hg3 hcur hb3 c2) | fail)
  have S0 : Hid (∃ β L, FLk w3 w1.heap.size w3.heap.size β (.slice (some ⟨w1.heap.size, 0, none⟩) 0 n) L ∧ L.map It.d = (E.take 0).map En.d ∧ Below w1.heap.size w1 w3) :=
    ⟨some w1.heap.size, [], ⟨⟨n, rfl, HR.out⟩, fun g hg => by injection hg with hg; exact ⟨by omega, by rw [← hg]; exact HR.out.lt⟩, by simp, by simp⟩, by simp, HB.out⟩
  clear HR HB k2
  go_loopw [3, 14] (fun v i wr => ∃ j : Nat, j ≤ n ∧ i = .int .i64 j ∧ Hid (∃ β L, FLk wr w1.heap.size wr.heap.size β v L ∧ L.map It.d = (E.take j).map En.d ∧ Below w1.heap.size w1 wr)) (fun _ i _ => n - (intOf i).toNat)
  case atStart => exact ⟨0, Nat.zero_le _, rfl, S0⟩
  case round =>
    obtain ⟨j, hj, rfl, hr⟩ := hrel
    clear S0
    obtain ⟨βv, L, hFL, hLd, hB⟩ := hr.out
    have hLl : L.length = j := by
      have := congrArg List.length hLd
      have h2 := HL.out
      simp at this
      omega
    obtain ⟨av, cv, rfl, -⟩ := hFL.so.formN hLl
    by_cases hlt : j < n
    · have N1 := HN.out.below hB
      have jE : j < E.length := by have := HL.out; omega
      have hme : E[j] ∈ E := List.getElem_mem jE
      have ext : (E.take (j + 1)).map En.d = (E.take j).map En.d ++ [E[j].d] := by
        rw [List.take_succ_eq_append_getElem jE, List.map_append]
        rfl
      obtain ⟨g, rfl, hca⟩ : ∃ g, a = some ⟨g, 0, none⟩ ∧ wr.cell? ⟨g, j, none⟩ = some (.int .i64 E[j].age) := by
        have hA := N1.ages
        cases β with
        | none =>
          have := hA.2
          have h2 := HL.out
          simp at this
          rw [this] at h2
          simp at h2
          omega
        | some g =>
          obtain ⟨cap, hv, hR⟩ := hA
          injection hv with hv1 hv2 hv3
          refine ⟨g, hv1, ?_⟩
          rw [List.length_map] at hR
          rw [hR.cell j jE]
          simp [List.getElem?_eq_getElem jE]
      have ca' : c ≤ 9223372036854775807 ∧ n ≤ c := by
        have hA := N1.ages
        cases β with
        | none =>
          obtain ⟨hv, -⟩ := hA
          simp at hv
        | some g' =>
          obtain ⟨cap, hv, cur, -, -, -, h1, h2, -⟩ := hA
          injection hv with hv1 hv2 hv3
          have h3 := HL.out
          simp at h1
          omega
      have x1 := cell_row N1.net 1
      simp at x1
      obtain ⟨a2, c2, hv2, hIB⟩ := (N1.rows _ hme).isB
      have hsh := N1.short _ hme
      have lk := N1.mp.look (k := E[j].age) (v := .agg #[.int .i64 E[j].d.f, .int .i64 E[j].d.t, .slice a2 E[j].d.b.length c2, .bool E[j].d.s]) (List.mem_map.2 ⟨E[j], hme, by simp [En.val, dgv, hv2]⟩)
      have T : Hid (Calls Try.prog 37 #[.agg #[.int .i64 E[j].d.f, .int .i64 E[j].d.t, .slice a2 E[j].d.b.length c2, .bool E[j].d.s]] wr fun ex w' => ∃ v, ex = .returned (dgv E[j].d v) ∧ (∃ γ, SB w' γ v E[j].d.b ∧ ∀ g, γ = some g → wr.heap.size ≤ g) ∧ Below wr.heap.size wr w') := twin_any E[j].d a2 _ c2 wr hIB (by omega)
      have HX := hd ext
      have HF := hd hFL
      have HD := hd hLd
      have HW := hd hB
      have HJ := hd hLl
      have i2 : (j : Int) < (n : Int) := by omega
      clear hr hFL hLd hB hLl N1 ext hv2 hIB hsh hme
      generalize E[j] = e at *
      go_wp2_with fail
      refine T.out.mono ?_
      rintro ex u ⟨v, rfl, ⟨γ, h1, h2⟩, h3⟩
      obtain ⟨a', c', rfl⟩ := h1.sv_of
      obtain ⟨v', w', hap, β', hF', hFr⟩ := HF.out.push (w := w1) h3 HW.out.size e.d a' c' γ h1 h2 (by have := HJ.out; omega)
      have Z : Hid (∃ β L, FLk w' w1.heap.size w'.heap.size β v' L ∧ L.map It.d = (E.take (j + 1)).map En.d ∧ Below w1.heap.size w1 w') :=
        ⟨β', _, hF', by rw [HX.out, List.map_append, HD.out]; rfl, HW.out.trans (hFr.below HW.out.size (fun k hk => (HF.out.at_ k hk).1))⟩
      clear hF' hFr h1 h2 h3 lk hca x1
      unfold dgv
      go_wp2_with (at_builtin; refine wpList_append_k _ rfl _ _ 43 43 rfl _ _ rfl rfl (hap _) ?_)
      exact ⟨⟨j + 1, by omega, by go_num, Z⟩, by simp [intOf]; omega⟩
    · obtain rfl : j = n := by omega
      have Z : Hid (FL wr w1.heap.size wr.heap.size (.slice av j cv) G ∧ Below w1.heap.size w1 wr) := by
        refine ⟨⟨βv, L, hFL, ?_⟩, hB⟩
        rw [hLd, List.take_of_length_le (by have := HL.out; omega), HG.out]
      clear hr hFL hLd hB hLl
      go_wp2
      go_ret
      exact ⟨_, rfl, Z.out⟩

end Go.Proofs.Ytnglcnilckolkaa
