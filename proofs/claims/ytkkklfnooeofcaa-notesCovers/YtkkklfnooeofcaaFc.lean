/-
  append of any slice; rows of marks: the law's follow, where.
-/
import Derived.Test.YtkkklfnooeofcaaFb
namespace Go.Proofs.Ytkkklfnooeofcaa
open Go.RowKit Go.Maps Go.ChangeMaps Go.MapKept Go.WideMaps
set_option linter.unusedVariables false

set_option maxRecDepth 100000 in
/-- append of a slice, empty or not, onto nil or a row of one's own. -/
theorem run_appS {α : Type} {f : α → List Value} {k : Nat} (hz : Sz f k) (w : World) (t e : TypeId) (i : TypeInfo) (z : Value) (bytes : Nat) (ht : Try.prog.underlying t = some (.slice e)) (hi : Try.prog.info? e = some i) (hzo : i.zero = some z) (hsz : i.size = k) (hzs : z.cells.size = k) (hby : i.bytes = bytes)
    (β : Option Nat) (v : Value) (xs : List α) (hv : SF f k w e β v xs) (a : Option Addr) (m c : Nat) (ys : List α) (hl : ys.length = m) (hc : 0 < m → ∃ ad, a = some ad ∧ ∀ j u, (cl f ys)[j]? = some u → w.cell? (ad.add j) = some u) (hroom : roomy (xs.length + m) bytes) :
    ∃ v' w' β', (∀ ty, (Builtin.append_ #[t, t] ty #[v, .slice a m c]).run Try.prog w = .ok v' w') ∧ SF f k w' e β' v' (xs ++ ys) ∧ (β' = β ∨ ∃ g, β' = some g ∧ w.heap.size ≤ g) ∧ Fr (fun k => β = some k) w w' := by
  by_cases hm : 0 < m
  · obtain ⟨ad, rfl, hcc⟩ := hc hm
    obtain ⟨v', w', hr, g', h1, h2⟩ := run_pushF hz (P := Try.prog) w t 0 e i z bytes ht hi hzo hsz hzs hby β v xs hv ad m c ys hl hcc hm hroom.2 hroom.1
    refine ⟨v', w', some g', fun ty => hr, h1, ?_, ?_⟩
    · rcases h2 with ⟨e1, -⟩ | ⟨e1, -⟩
      · exact .inl e1.symm
      · exact .inr ⟨g', rfl, by omega⟩
    · rcases h2 with ⟨e1, hf⟩ | ⟨e1, hf⟩
      · exact hf.mono (fun k _ hk => by rw [e1, hk])
      · exact hf.mono (fun k _ hk => hk.elim)
  · obtain rfl : m = 0 := by omega
    obtain rfl : ys = [] := List.length_eq_zero_iff.1 hl
    have hlc : ∀ (x : Addr), (loadCells x 0).run Try.prog w = .ok #[] w := fun x => by simpa using run_loadCells_list (P := Try.prog) w x [] (by simp)
    obtain ⟨a', c', rfl, h1, h2⟩ := hv.form
    refine ⟨_, w, β, fun ty => ?_, by simpa using hv, .inl rfl, Fr.refl _ _⟩
    cases a <;> cases a' <;> simp [Builtin.append_, run_underlying ht, Builtin.lenOf, Builtin.firstCells, sizeOf, typeInfo, hi, storeCells, hlc, h1]

def bc (b : Bool) : List Value := [.bool b]
theorem sz_bc : Sz bc 1 := fun x => ⟨rfl, fun v hv => by simp [bc] at hv; subst hv; rfl⟩
theorem Try.infoB : (Try.prog.info? 4).map (fun i => (i.zero, i.size, i.bytes)) = some (some (.bool false), 1, 1) := by kernel_rfl
theorem bc_get (bs : List Bool) (i : Nat) : (cl bc bs)[i]? = (bs[i]?).map Value.bool := by
  by_cases h : i < bs.length
  · have := cl_get sz_bc bs i 0 h (by omega)
    simp only [Nat.mul_one, Nat.add_zero] at this
    rw [this, List.getElem?_eq_getElem h]
    rfl
  · rw [List.getElem?_eq_none (l := cl bc bs) (by rw [cl_len sz_bc]; omega), List.getElem?_eq_none (l := bs) (by omega)]
    rfl
theorem SF.bl {w : World} {g n c : Nat} {bs : List Bool} (h : SF bc 1 w 4 (some g) (.slice (some ⟨g, 0, none⟩) n c) bs) : ∀ i b, bs[i]? = some b → w.cell? ⟨g, i, none⟩ = some (.bool b) := by
  obtain ⟨cap, hv, hR⟩ := h
  intro i b hb
  have hi := (List.getElem?_eq_some_iff.1 hb).1
  have := hR.cell sz_bc i 0 hi (by omega)
  simp only [Nat.mul_one, Nat.add_zero] at this
  rw [this, (List.getElem?_eq_some_iff.1 hb).2]
  rfl

def followP (bs : List Bool) (p : Nat) (out : Bool) : List Bool := if out then bs.take p ++ bs.drop (p + 1) else bs.take p ++ false :: bs.drop p

/-- A list of marks in memory of one's own. -/
def MkI (w wr : World) (v : Value) (bs : List Bool) : Prop := ∃ β, SF bc 1 wr 4 β v bs ∧ (∀ k, β = some k → w.heap.size ≤ k) ∧ Below w.heap.size w wr
theorem MkI.app {w wr : World} {v : Value} {bs : List Bool} (h : MkI w wr v bs) (a : Option Addr) (m c : Nat) (ys : List Bool) (hl : ys.length = m) (hc : 0 < m → ∃ ad, a = some ad ∧ ad.block < w.heap.size ∧ ∀ j u, (cl bc ys)[j]? = some u → w.cell? (ad.add j) = some u) (hroom : bs.length + m ≤ 10000) :
    ∃ v' w', (∀ ty, (Builtin.append_ #[60, 60] ty #[v, .slice a m c]).run Try.prog wr = .ok v' w') ∧ MkI w w' v' (bs ++ ys) := by
  obtain ⟨β, h1, h2, h3⟩ := h
  obtain ⟨i0, hi0, hz0, hz1, hz2⟩ := info_parts Try.infoB
  obtain ⟨v', w', β', hr, hS, hβ, hF⟩ := run_appS sz_bc wr 60 4 i0 _ 1 Try.underlying60 hi0 hz0 hz1 rfl hz2 β v bs h1 a m c ys hl (fun hm => by
    obtain ⟨ad, rfl, hb, hcc⟩ := hc hm
    refine ⟨ad, rfl, fun j u hj => (h3.cell (p := ad.add j) ?_).trans (hcc j u hj)⟩
    unfold Addr.add
    split <;> exact hb) ⟨by omega, by omega⟩
  refine ⟨v', w', hr, β', hS, fun k hk => ?_, h3.trans (hF.below h3.size (fun k hk => h2 k hk))⟩
  rcases hβ with e | ⟨g, e, hg⟩
  · exact h2 k (by rw [← e]; exact hk)
  · rw [e] at hk
    cases hk
    exact Nat.le_trans h3.size hg
theorem MkI.push {w wr : World} {v : Value} {bs : List Bool} (h : MkI w wr v bs) (b : Bool) (hroom : bs.length + 1 ≤ 10000) :
    ∃ v' w', (∀ ty, (Builtin.append_ #[60, 60] ty #[v, .slice (some ⟨wr.heap.size, 0, none⟩) 1 1]).run Try.prog (wr.alloc (.cells #[.bool b] 4)) = .ok v' w') ∧ MkI w w' v' (bs ++ [b]) := by
  obtain ⟨β, h1, h2, h3⟩ := h
  obtain ⟨i0, hi0, hz0, hz1, hz2⟩ := info_parts Try.infoB
  have hz := heap_alloc_new wr (.cells #[.bool b] 4)
  have hB : Below w.heap.size w (wr.alloc (.cells #[.bool b] 4)) := h3.alloc h3.size _
  obtain ⟨v', w', β', hr, hS, hβ, hF⟩ := run_appS sz_bc (wr.alloc (.cells #[.bool b] 4)) 60 4 i0 _ 1 Try.underlying60 hi0 hz0 hz1 rfl hz2 β v bs (h1.fr (Fr.alloc (fun _ => False) _ _) (fun _ _ h => h)) (some ⟨wr.heap.size, 0, none⟩) 1 1 [b] rfl (fun _ => ⟨_, rfl, fun j u hj => by
    rw [add_lit, Nat.zero_add, cell_row hz]
    simp only [cl_one, bc] at hj
    simpa using hj⟩) ⟨by omega, by omega⟩
  refine ⟨v', w', hr, β', hS, fun k hk => ?_, hB.trans (hF.below hB.size (fun k hk => h2 k hk))⟩
  rcases hβ with e | ⟨g, e, hg⟩
  · exact h2 k (by rw [← e]; exact hk)
  · rw [e] at hk
    cases hk
    exact Nat.le_trans hB.size hg

theorem cells_drop {w : World} {g n c : Nat} {bs : List Bool} (h : SF bc 1 w 4 (some g) (.slice (some ⟨g, 0, none⟩) n c) bs) (p : Nat) : ∀ j u, (cl bc (bs.drop p))[j]? = some u → w.cell? ((⟨g, p, none⟩ : Addr).add j) = some u := by
  intro j u hj
  rw [bc_get, List.getElem?_drop] at hj
  rw [add_lit]
  cases hb : bs[p + j]? with
  | none => rw [hb] at hj; cases hj
  | some b =>
    rw [hb] at hj
    rw [h.bl _ b hb]
    exact hj
theorem cells_take {w : World} {g n c : Nat} {bs : List Bool} (h : SF bc 1 w 4 (some g) (.slice (some ⟨g, 0, none⟩) n c) bs) (p : Nat) : ∀ j u, (cl bc (bs.take p))[j]? = some u → w.cell? ((⟨g, 0, none⟩ : Addr).add j) = some u := by
  intro j u hj
  rw [bc_get, List.getElem?_take] at hj
  rw [add_lit, Nat.zero_add]
  split at hj
  · cases hb : bs[j]? with
    | none => rw [hb] at hj; cases hj
    | some b =>
      rw [hb] at hj
      rw [h.bl _ b hb]
      exact hj
  · cases hj

set_option maxRecDepth 100000 in
set_option maxHeartbeats 4000000 in
theorem follow_any (β : Option Nat) (v : Value) (bs : List Bool) (p : Nat) (out : Bool) (w : World) (hS : SF bc 1 w 4 β v bs) (hp : p ≤ bs.length) (ho : out = true → p < bs.length) (hl : bs.length ≤ 5000) :
    Calls Try.prog 25 #[v, .int .i64 (p : Int), .bool out] w fun e w' => ∃ v', e = .returned v' ∧ MkI w w' v' (followP bs p out) := by
  have M0 : MkI w w (.slice none 0 0) [] := ⟨none, ⟨rfl, rfl⟩, fun k hk => (by cases hk), Below.refl _ _⟩
  cases β with
  | none =>
    obtain ⟨rfl, rfl⟩ := hS
    obtain rfl : p = 0 := by simpa using hp
    cases out with
    | true => exact absurd (ho rfl) (by simp)
    | false =>
      obtain ⟨v1, w1, hr1, hM1⟩ := M0.app none 0 0 [] rfl (fun h => by omega) (by simp)
      obtain ⟨v2, w2, hr2, hM2⟩ := hM1.push false (by simp)
      obtain ⟨v3, w3, hr3, hM3⟩ := hM2.app none 0 0 [] rfl (fun h => by omega) (by simp)
      have Z : Hid (MkI w w3 v3 (followP [] 0 false)) := hM3
      clear M0 hM1 hM2 hM3 hp ho hl
      go_enter Try.func25, Try.ntmps25
      go_wp2_with (first | (at_builtin; refine wpList_append_k _ rfl (.tmp 8) (.tmp 11) 60 60 rfl _ _ rfl rfl (hr1 _) ?_; clear hr1) | (at_builtin; refine wpList_append_k _ rfl (.tmp 20) (.tmp 21) 60 60 rfl _ _ rfl rfl (hr2 _) ?_; clear hr2) | (at_builtin; refine wpList_append_k _ rfl (.tmp 23) (.tmp 26) 60 60 rfl _ _ rfl rfl (hr3 _) ?_; clear hr3))
      go_ret
      exact ⟨_, rfl, Z.out⟩
  | some g =>
    have hS' := hS
    obtain ⟨c, rfl, hR⟩ := hS'
    have hg := hR.lt
    obtain ⟨-, -, -, -, hnc, hc63, -⟩ := hR
    have hlt1 : ∀ q, (bs.take q).length = min q bs.length := fun q => List.length_take
    obtain ⟨v1, w1, hr1, hM1⟩ := M0.app (some ⟨g, 0, none⟩) p c (bs.take p) (by rw [List.length_take]; omega) (fun _ => ⟨_, rfl, hg, cells_take hS p⟩) (by simp; omega)
    have hl1 : (([] : List Bool) ++ bs.take p).length = p := by simp; omega
    cases out with
    | true =>
      have hp2 := ho rfl
      by_cases hcp : c = p + 1
      · obtain ⟨v2, w2, hr2, hM2⟩ := hM1.app (some ⟨g, 0, none⟩) 0 0 [] rfl (fun h => by omega) (by rw [hl1]; omega)
        have hbl : bs.length = p + 1 := by omega
        have Z : Hid (MkI w w2 v2 (followP bs p true)) := by
          have e : ([] ++ bs.take p) ++ [] = followP bs p true := by simp [followP, List.drop_eq_nil_of_le (show bs.length ≤ p + 1 by omega)]
          rw [← e]; exact hM2
        subst hcp
        clear M0 hM1 hM2 ho hlt1 hS hl1 hl hp hp2 hnc
        rw [hbl]
        clear hbl
        go_enter Try.func25, Try.ntmps25
        go_wp2_with (first | (at_builtin; refine wpList_append_k _ rfl (.tmp 8) (.tmp 11) 60 60 rfl _ _ rfl rfl (hr1 _) ?_; clear hr1) | (at_builtin; refine wpList_append_k _ rfl (.tmp 14) (.tmp 18) 60 60 rfl _ _ rfl rfl (hr2 _) ?_; clear hr2))
        go_ret
        exact ⟨_, rfl, Z.out⟩
      · obtain ⟨v2, w2, hr2, hM2⟩ := hM1.app (some ⟨g, p + 1, none⟩) (bs.length - (p + 1)) (c - (p + 1)) (bs.drop (p + 1)) (by rw [List.length_drop]) (fun h => ⟨_, rfl, hg, cells_drop hS (p + 1)⟩) (by rw [hl1]; omega)
        have Z : Hid (MkI w w2 v2 (followP bs p true)) := by
          have e : ([] ++ bs.take p) ++ bs.drop (p + 1) = followP bs p true := by simp [followP]
          rw [← e]; exact hM2
        clear M0 hM1 hM2 ho hlt1 hS hl1
        have q2 : p ≤ c := by omega
        have q3 : p + 1 ≤ bs.length := by omega
        have q4 : p + 1 ≤ c := by omega
        generalize bs.length = n at *
        go_enter Try.func25, Try.ntmps25
        go_wp2_with (first | (at_builtin; refine wpList_append_k _ rfl (.tmp 8) (.tmp 11) 60 60 rfl _ _ rfl rfl (hr1 _) ?_; clear hr1) | (at_builtin; refine wpList_append_k _ rfl (.tmp 14) (.tmp 18) 60 60 rfl _ _ rfl rfl (hr2 _) ?_; clear hr2))
        go_ret
        exact ⟨_, rfl, Z.out⟩
    | false =>
      obtain ⟨v2, w2, hr2, hM2⟩ := hM1.push false (by rw [hl1]; omega)
      by_cases hcp : c = p
      · obtain ⟨v3, w3, hr3, hM3⟩ := hM2.app (some ⟨g, 0, none⟩) 0 0 [] rfl (fun h => by omega) (by rw [List.length_append, hl1]; simp; omega)
        have hbl : bs.length = c := by omega
        have Z : Hid (MkI w w3 v3 (followP bs p false)) := by
          have e : (([] ++ bs.take p) ++ [false]) ++ [] = followP bs p false := by simp [followP, List.drop_eq_nil_of_le (show bs.length ≤ p by omega)]
          rw [← e]; exact hM3
        subst hcp
        clear M0 hM1 hM2 hM3 ho hlt1 hS hl1 hl hp hnc
        rw [hbl]
        clear hbl
        go_enter Try.func25, Try.ntmps25
        go_wp2_with (first | (at_builtin; refine wpList_append_k _ rfl (.tmp 8) (.tmp 11) 60 60 rfl _ _ rfl rfl (hr1 _) ?_; clear hr1) | (at_builtin; refine wpList_append_k _ rfl (.tmp 20) (.tmp 21) 60 60 rfl _ _ rfl rfl (hr2 _) ?_; clear hr2) | (at_builtin; refine wpList_append_k _ rfl (.tmp 23) (.tmp 26) 60 60 rfl _ _ rfl rfl (hr3 _) ?_; clear hr3))
        go_ret
        exact ⟨_, rfl, Z.out⟩
      · obtain ⟨v3, w3, hr3, hM3⟩ := hM2.app (some ⟨g, p, none⟩) (bs.length - p) (c - p) (bs.drop p) (by rw [List.length_drop]) (fun h => ⟨_, rfl, hg, cells_drop hS p⟩) (by rw [List.length_append, hl1]; simp; omega)
        have Z : Hid (MkI w w3 v3 (followP bs p false)) := by
          have e : (([] ++ bs.take p) ++ [false]) ++ bs.drop p = followP bs p false := by simp [followP]
          rw [← e]; exact hM3
        clear M0 hM1 hM2 hM3 ho hlt1 hS hl1
        have q2 : p ≤ c := by omega
        generalize bs.length = n at *
        go_enter Try.func25, Try.ntmps25
        go_wp2_with (first | (at_builtin; refine wpList_append_k _ rfl (.tmp 8) (.tmp 11) 60 60 rfl _ _ rfl rfl (hr1 _) ?_; clear hr1) | (at_builtin; refine wpList_append_k _ rfl (.tmp 20) (.tmp 21) 60 60 rfl _ _ rfl rfl (hr2 _) ?_; clear hr2) | (at_builtin; refine wpList_append_k _ rfl (.tmp 23) (.tmp 26) 60 60 rfl _ _ rfl rfl (hr3 _) ?_; clear hr3))
        go_ret
        exact ⟨_, rfl, Z.out⟩

end Go.Proofs.Ytkkklfnooeofcaa
