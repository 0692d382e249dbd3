/-
  remove.
-/
import Derived.Test.YtnglcnilckolkaaNf
namespace Go.Proofs.Ytnglcnilckolkaa
open Go.RowKit Go.Maps
set_option linter.unusedVariables false

theorem rem_end {w w2 w3 : World} {x : Nat} {cl : Int} {E1 E2 : List En} {e : En} {nx : Nat} {S : Nat → Prop} {bm : Nat} {va v' : Value} {β : Option Nat} (N : NK w x cl (E1 ++ e :: E2) nx S bm va β)
    (hM : MP w2 bm ((E1.map fun e => (e.age, e.val)) ++ (E2.map fun e => (e.age, e.val)))) (hF : Fr (· = bm) w w2) (hR : SRow w3 3 β v' ((E1.map fun e => .int .i64 e.age) ++ (E2.map fun e => .int .i64 e.age))) (hF3 : Fr (fun k => β = some k) w2 w3) :
    NetAt (w3.setCell ⟨x, 2, none⟩ v') x cl (E1.map En.d ++ E2.map En.d) nx S ∧ Fr S w (w3.setCell ⟨x, 2, none⟩ v') := by
  have hxm := N.xbm
  generalize hw4 : w3.setCell ⟨x, 2, none⟩ v' = w4
  have F4 : Fr (· = x) w3 w4 := by rw [← hw4]; exact Fr.setCell w3 ⟨x, 2, none⟩ _ rfl
  have n3 : w3.heap[x]? = some (.cells #[.int .i64 cl, .map (some bm), va, .int .i64 nx] 66 (0, 0)) := hF3.keeps (hF.keeps N.net hxm) (fun hb => (N.b_x hb).1 rfl)
  have n4 : w4.heap[x]? = some (.cells #[.int .i64 cl, .map (some bm), v', .int .i64 nx] 66 (0, 0)) := by
    rw [← hw4]
    exact set_row n3 2 _
  have Fall : Fr (fun k => k = bm ∨ k = x ∨ β = some k) w w4 := ((hF.mono (fun k _ h => .inl h)).trans (hF3.mono (fun k _ h => .inr (.inr h)))).trans (F4.mono (fun k _ h => .inr (.inl h)))
  have sub : ∀ a ∈ E1 ++ E2, a ∈ E1 ++ e :: E2 := fun a ha => by
    simp at ha ⊢
    rcases ha with ha | ha <;> simp [ha]
  refine ⟨⟨E1 ++ E2, bm, v', β, ⟨n4, ?_, ?_, ?_, fun a ha => N.short a (sub a ha), ?_, fun a ha => N.top a (sub a ha), ?_, ?_, N.big, ⟨N.own.1, N.own.2.1, N.own.2.2.1, fun a ha => N.own.2.2.2 a (sub a ha)⟩, ?_⟩, by simp⟩, ?_⟩
  · have := hR.fr F4 (fun g hg => (N.b_x hg).1)
    simpa using this
  · have := (hM.fr hF3 (fun hb => (N.b_x hb).2 rfl)).fr F4 hxm.symm
    simpa using this
  · intro a ha
    have h0 := N.rows a (sub a ha)
    exact SRow.fr h0 Fall (fun g hg hk => by
      have := N.e_x h0 hg
      rcases hk with hk | hk | hk
      · exact this.2.1 hk
      · exact this.1 hk
      · exact this.2.2 hk)
  · exact N.rise.sublist (List.Sublist.append_left (List.sublist_cons_self e E2) E1)
  · exact N.sep.sublist (List.Sublist.append_left (List.sublist_cons_self e E2) E1)
  · have := N.few
    simp at this ⊢
    omega
  · exact fun k hk => Nat.lt_of_lt_of_le (N.old k hk) Fall.size
  · refine Fall.mono ?_
    rintro k - (rfl | rfl | hk)
    · exact N.own.2.1
    · exact N.own.1
    · exact N.own.2.2.1 k hk

theorem NK.apart {w : World} {x : Nat} {cl : Int} {E1 E2 : List En} {e : En} {nx : Nat} {S : Nat → Prop} {bm : Nat} {va : Value} {β : Option Nat} (N : NK w x cl (E1 ++ e :: E2) nx S bm va β) :
    ∀ p ∈ (E1.map fun e => (e.age, e.val)) ++ (E2.map fun e => (e.age, e.val)), p.1 ≠ e.age := by
  intro p hp
  have hr := N.rise
  rw [List.pairwise_append] at hr
  obtain ⟨-, h2, h3⟩ := hr
  simp at hp
  rcases hp with ⟨a, ha, rfl⟩ | ⟨a, ha, rfl⟩
  · have := h3 a ha e (by simp)
    simp only
    omega
  · have := (List.pairwise_cons.1 h2).1 a ha
    simp only
    omega

theorem NK.at {w : World} {x : Nat} {cl : Int} {E1 E2 : List En} {e : En} {nx : Nat} {S : Nat → Prop} {bm : Nat} {va : Value} {β : Option Nat} (N : NK w x cl (E1 ++ e :: E2) nx S bm va β) :
    ∃ g cap, β = some g ∧ va = .slice (some ⟨g, 0, none⟩) (E1.length + E2.length + 1) cap ∧ w.cell? ⟨g, E1.length, none⟩ = some (.int .i64 e.age) ∧ cap ≤ 9223372036854775807 ∧ E1.length + E2.length + 1 ≤ cap ∧ E1.length + E2.length + 1 ≤ 2048 := by
  have hA := N.ages
  have hf := N.few
  cases β with
  | none =>
    have := hA.2
    simp at this
  | some g =>
    obtain ⟨cap, hv, hR⟩ := hA
    simp only [List.map_append, List.map_cons, List.length_append, List.length_map, List.length_cons] at hv hR hf
    have hc := hR.cell E1.length (by omega)
    have hi : ((E1.map fun e => Value.int .i64 e.age) ++ Value.int .i64 e.age :: E2.map fun e => Value.int .i64 e.age)[E1.length]? = some (.int .i64 e.age) := by
      rw [List.getElem?_append_right (by simp)]
      simp
    obtain ⟨cur, -, -, -, h1, h2, -⟩ := hR
    exact ⟨g, cap, rfl, by rw [hv]; congr 1, hc.trans hi, h2, by omega, by omega⟩

set_option maxRecDepth 100000 in
set_option maxHeartbeats 4000000 in
theorem remove_nk (x : Nat) (cl : Int) (E1 E2 : List En) (e : En) (nx : Nat) (S : Nat → Prop) (bm : Nat) (va : Value) (β : Option Nat) (w : World) (h : NK w x cl (E1 ++ e :: E2) nx S bm va β) :
    Calls Try.prog 36 #[.pointer (some ⟨x, 0, none⟩), .int .i64 E1.length] w fun e w' => e = .returned (.tuple #[]) ∧ NetAt w' x cl (E1.map En.d ++ E2.map En.d) nx S ∧ Fr S w w' := by
  obtain ⟨g, cap, rfl, rfl, ca, hc1, hc2, hc3⟩ := h.at
  have c1 := cell_row h.net 1
  have c2 := cell_row h.net 2
  simp at c1 c2
  have HM : Hid (MP w bm ((E1.map fun e => (e.age, e.val)) ++ (e.age, e.val) :: (E2.map fun e => (e.age, e.val)))) := by
    have := h.mp
    simp only [List.map_append, List.map_cons] at this
    exact this
  have HP := hd h.apart
  have H := hd h
  obtain ⟨i, hi⟩ : ∃ i, E1.length = i := ⟨_, rfl⟩
  obtain ⟨m, hm⟩ : ∃ m, E1.length + E2.length = m := ⟨_, rfl⟩
  rw [hm] at c2 hc2 hc3
  rw [hi] at ca ⊢
  have him : i ≤ m := by omega
  have HI := hd (And.intro hi hm)
  have hlt : (i : Int) < (m : Int) + 1 := by omega
  have hw1 : IntKind.i64.wrap ((i : Int) + 1) = (i : Int) + 1 := by rw [IntKind.wrap_i64]; omega
  clear h hi hm
  go_enter Try.func36, Try.ntmps36
  go_wp2_with fail
  go_region_law (refine step_del rfl (.tmp 7) (.tmp 14) rfl bm e.age e.val (by simp [Act.eval]) (by simp [Act.eval]) _ _ (MP.fr HM.out (S := fun _ => False) (by repeat (first | exact Fr.refl _ _ | refine Fr.trans ?_ (Fr.drew _ _) | refine Fr.trans ?_ (Fr.drewN _ _ _))) (fun h => h)) HP.out ?_; intro w2 hM2 hF2; have MM := hd hM2; have FF := hd (Fr.trans (a := w) (S := (· = bm)) (by repeat (first | exact Fr.refl _ _ | refine Fr.trans ?_ (Fr.drew _ _) | refine Fr.trans ?_ (Fr.drewN _ _ _))) hF2); clear hM2 hF2)
  all_goals
    have n2 := FF.out.keeps H.out.net H.out.xbm
    rw [HI.out.2] at n2
    have e2 := cell_row n2 2
    simp at e2
    have A2 := H.out.ages.fr FF.out (fun g hg => (H.out.b_x hg).2)
    rw [HI.out.2] at A2
    have HA := hd A2
    have HN := hd n2
    clear n2 A2 c1 c2 ca
    go_wp2_with fail
    refine (delete_any (some g) _ i _ w2 HA.out (by simp; have := HI.out; omega) (by simp; have := HI.out; omega) (fun v hv => by obtain ⟨b, -, rfl⟩ := List.mem_map.1 hv; exact ⟨_, rfl⟩)).mono ?_
    rintro ex w3 ⟨v', rfl, hS3, hF3⟩
    have e1 : ((E1 ++ e :: E2).map fun e => Value.int .i64 e.age).take i ++ ((E1 ++ e :: E2).map fun e => Value.int .i64 e.age).drop (i + 1) = (E1.map fun e => Value.int .i64 e.age) ++ (E2.map fun e => Value.int .i64 e.age) := by
      have hl : (E1.map fun e => Value.int .i64 e.age).length = i := by simp [HI.out.1]
      rw [List.map_append, List.map_cons, ← hl, List.take_left, List.drop_append]
      simp
    rw [e1] at hS3
    obtain ⟨a', c', hv⟩ := hS3.form
    simp only [List.length_append, List.length_map] at hv
    have n3 := hF3.keeps HN.out (fun hb => (H.out.b_x hb).1 rfl)
    have k2 := cell_row n3 2
    have f2 := frozen_row n3 2
    simp at k2
    have R := hd (rem_end H.out MM.out FF.out hS3 hF3)
    subst hv
    clear hS3 hF3 n3
    go_wp2
    refine bodyPost_end (v := .tuple #[]) (by simp [results, Try.results36, go_sem]) rfl ?_
    exact ⟨rfl, R.out⟩

end Go.Proofs.Ytnglcnilckolkaa
