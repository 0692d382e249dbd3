/-
  The document's Queue.
-/
import Derived.Test.YtmbnimlibnheeabDoorRg
namespace Go.Proofs.YtmbnimlibnheeabDoor
open Go.RowKit
set_option linter.unusedVariables false

/-- A list of marked operations, nil or of the call's own. -/
def QL (w : World) (base : Nat) (v : Value) (xs : List (Int × OpE)) : Prop := ∃ β, SF mkd 6 w 84 β v xs ∧ ∀ g, β = some g → base ≤ g
theorem QL.below {w w' : World} {base : Nat} {v : Value} {xs : List (Int × OpE)} (h : QL w base v xs) (hb : Below w.heap.size w w') : QL w' base v xs := by
  obtain ⟨β, h, h2⟩ := h
  exact ⟨β, h.fr (S := fun _ => False) (Fr.of_below hb) (fun _ _ h => h), h2⟩
theorem QL.mono {w : World} {b b' : Nat} {v : Value} {xs : List (Int × OpE)} (h : QL w b v xs) (hb : b' ≤ b) : QL w b' v xs := by
  obtain ⟨β, h, h2⟩ := h
  exact ⟨β, h, fun g hg => Nat.le_trans hb (h2 g hg)⟩
theorem QL.nil (w : World) (base : Nat) : QL w base (.slice none 0 0) [] := ⟨none, ⟨rfl, rfl⟩, fun g hg => by cases hg⟩
theorem QL.isK {w : World} {base : Nat} {v : Value} {xs : List (Int × OpE)} (h : QL w base v xs) : ∃ a c, v = .slice a xs.length c ∧ IsK w a xs.length c xs ∧ c ≤ 9223372036854775807 ∧ xs.length ≤ c := by
  obtain ⟨β, h, h2⟩ := h
  cases β with
  | none =>
    obtain ⟨rfl, rfl⟩ := h
    exact ⟨none, 0, rfl, ⟨rfl, by simp, by omega, fun h => by simp at h⟩, by omega, by simp⟩
  | some g =>
    obtain ⟨c, rfl, hR⟩ := h
    have hR' := hR
    obtain ⟨cur, -, -, -, h1, h2, -⟩ := hR'
    exact ⟨_, c, rfl, hR.isK, h2, h1⟩

theorem QL.grow {w0 u : World} {base : Nat} {v : Value} {xs : List (Int × OpE)} {m : Int} {k p c q s : Int} (h : QL u base v xs) (hb : Below base w0 u) (hlt : base ≤ w0.heap.size) (hn : xs.length ≤ 100000) :
    ∃ a n c' w', (∀ ty, (Builtin.append_ #[55, 55] ty #[v, .slice (some ⟨u.heap.size, 0, none⟩) 1 1]).run Tryd.prog (u.drew.alloc (.cells #[.int .i64 m, .int .i64 k, .int .i64 p, .int .u8 c, .int .i64 q, .int .i64 s] 84)) = .ok (.slice a n c') w') ∧ QL w' base (.slice a n c') (xs ++ [(m, ⟨k, p, c, q, s⟩)]) ∧ Below base w0 w' := by
  obtain ⟨β, hS, hg⟩ := h
  have hs := hb.size
  have hFu : Fr (fun _ => False) u (u.drew.alloc (.cells #[.int .i64 m, .int .i64 k, .int .i64 p, .int .u8 c, .int .i64 q, .int .i64 s] 84)) := (Fr.drew _ _).trans (Fr.alloc _ _ _)
  obtain ⟨v', w', hr, hN⟩ := push_mk (u.drew.alloc (.cells #[.int .i64 m, .int .i64 k, .int .i64 p, .int .u8 c, .int .i64 q, .int .i64 s] 84)) β v xs (SF.fr hS hFu (fun _ _ h => h)) u.heap.size (m, ⟨k, p, c, q, s⟩) (heap_alloc_new u.drew _) hn
  obtain ⟨a, n, c', rfl⟩ := hN.slice
  obtain ⟨g', h1, h2, h3⟩ := hN.out
  have B2 : Below base w0 (u.drew.alloc (.cells #[.int .i64 m, .int .i64 k, .int .i64 p, .int .u8 c, .int .i64 q, .int .i64 s] 84)) := (hb.drew).alloc (by show base ≤ u.heap.size; omega) _
  have hsz : (u.drew.alloc (.cells #[.int .i64 m, .int .i64 k, .int .i64 p, .int .u8 c, .int .i64 q, .int .i64 s] 84)).heap.size = u.heap.size + 1 := by simp
  refine ⟨a, n, c', w', hr, ⟨some g', h1, ?_⟩, B2.trans (h3.below (by omega) (fun k hk => hg k hk))⟩
  intro g0 hg0
  injection hg0 with hg0
  subst hg0
  rcases h2 with h2 | h2
  · exact hg _ h2
  · omega

theorem Rf.queue_at {r : Rf} (h : r.ok) (i : Nat) (hi : r.dr ≤ i) (hn : i < r.own.length) (hf : i < r.forms.length) : r.queue.take (i + 1 - r.dr) = r.queue.take (i - r.dr) ++ [(r.own[i].1, r.forms[i])] := by
  have hl := Rf.forms_len h
  have hq : r.queue.length = r.own.length - r.dr := by simp [Rf.queue, hl]
  have hj : i - r.dr < r.queue.length := by omega
  rw [show i + 1 - r.dr = (i - r.dr) + 1 by omega, List.take_succ_eq_append_getElem hj]
  congr 2
  have e : r.dr + (i - r.dr) = i := by omega
  simp [Rf.queue, e]

set_option maxRecDepth 100000 in
set_option maxHeartbeats 4000000 in
theorem rqueue_any (x : Nat) (r : Rf) (S : Nat → Prop) (w : World) (h : RefAt w x r S) (hl : r.own.length ≤ 10000) (hfl : r.far.length ≤ 10000) :
    Calls Tryd.prog 18 #[.pointer (some ⟨x, 0, none⟩)] w fun e w' => ∃ u, e = .returned u ∧ QL w' w.heap.size u r.queue ∧ Below w.heap.size w w' := by
  have HH := hd h
  have HL := hd hl
  have HFM := hd (Rf.forms_len h.2)
  have HQ := hd h.2
  have hq : r.queue.length = r.own.length - r.dr := by simp [Rf.queue, Rf.forms_len h.2]
  have HQL := hd hq
  obtain ⟨⟨vo, vf, βo, βf, hK, -⟩, hok⟩ := h
  have hdr := hok.dr
  have hro := hK.ro
  obtain ⟨ao, co, rfl, hco1, hco2⟩ := hro.form
  have c1 := cell_row hK.box 1
  have c3 := cell_row hK.box 3
  simp at c1 c3
  have xl := block_lt hK.box
  obtain ⟨no, hno⟩ : ∃ n, r.own.length = n := ⟨_, rfl⟩
  obtain ⟨dr, hdd⟩ : ∃ n, r.dr = n := ⟨_, rfl⟩
  have HNO := hd hno
  have HDR := hd hdd
  rw [hno] at c1 hco1 hdr hl
  rw [hdd] at c3 hdr
  have hrow : ∀ i (hi : i < r.own.length), ∃ go, ao = some ⟨go, 0, none⟩ ∧ ∀ W, Below w.heap.size w W → go < W.heap.size ∧ W.cell? ⟨go, i * 6, none⟩ = some (.int .i64 r.own[i].1) := by
    intro i hi
    cases βo with
    | none =>
      obtain ⟨-, h3⟩ := hro
      rw [h3] at hi
      simp at hi
    | some go =>
      obtain ⟨cc, h3, hR⟩ := hro
      injection h3 with h3
      refine ⟨go, h3, fun W hW => ?_⟩
      have hR' := hR.fr (S := fun _ => False) (Fr.of_below hW) (fun h => h)
      have := hR'.cell sz_mkd i 0 hi (by omega)
      simp [mkd] at this
      exact ⟨hR'.lt, this⟩
  have HR := hd hrow
  have HN4 := hd hl
  clear hK hok hro hno hdd hrow hq hl
  go_enter Tryd.func18, Tryd.ntmps18
  go_wp2_with fail
  refine (rline_any x r ⟨0, 0, 0, 0, 0⟩ S w HH.out HL.out hfl).mono ?_
  rintro e w1 ⟨g, c, rfl, hg, hF, hb⟩
  generalize rpast r ⟨0, 0, 0, 0, 0⟩ = R at *
  obtain ⟨rk, rp, rc, rq, rs⟩ := R
  simp only [OpE.val]
  rw [HNO.out] at hF ⊢
  have hF' := hF
  obtain ⟨cur, -, -, -, hgc1, hgc2, -⟩ := hF'
  obtain ⟨U, hU⟩ : ∃ U, U = w1.alloc (.cells #[.int .i64 rk, .int .i64 rp, .int .u8 rc, .int .i64 rq, .int .i64 rs] 37) := ⟨_, rfl⟩
  have b1 : Below w1.heap.size w1 U := by rw [hU]; exact (Below.refl _ _).alloc (Nat.le_refl _) _
  have bU : Below w.heap.size w U := hb.trans (b1.mono hb.size)
  have HFU := hd (And.intro (hF.fr (S := fun _ => False) (Fr.of_below b1) (fun h => h)) bU)
  have S0 : Hid (QL U U.heap.size (.slice none 0 0) (r.queue.take (dr - dr)) ∧ Below U.heap.size U U) := by
    rw [Nat.sub_self, List.take_zero]
    exact ⟨QL.nil _ _, Below.refl _ _⟩
  have cU3 : U.cell? ⟨x, 3, none⟩ = some (.int .i64 dr) := (bU.cell (p := ⟨x, 3, none⟩) xl).trans c3
  have xU : x < U.heap.size := Nat.lt_of_lt_of_le xl bU.size
  have cU1 : U.cell? ⟨x, 1, none⟩ = some (.slice ao no co) := (bU.cell (p := ⟨x, 1, none⟩) xl).trans c1
  have d3 : w1.cell? ⟨x, 3, none⟩ = some (.int .i64 dr) := (hb.cell (p := ⟨x, 3, none⟩) xl).trans c3
  have x1 : x < w1.heap.size := Nat.lt_of_lt_of_le xl hb.size
  have HU := hd hU
  have HC := hd (And.intro cU1 xU)
  clear hU b1 bU hF hb hg c1 c3 hfl HL HH cU1 xU cU3
  go_wp2_with fail
  rw [← HU.out]
  clear HU d3 x1
  go_loopw [5, 6] (fun u i wr => ∃ j : Nat, dr ≤ j ∧ j ≤ no ∧ i = .int .i64 j ∧ Hid (QL wr U.heap.size u (r.queue.take (j - dr)) ∧ Below U.heap.size U wr)) (fun _ i _ => no - (intOf i).toNat)
  case atStart => exact ⟨dr, Nat.le_refl _, hdr, rfl, S0⟩
  case round =>
    obtain ⟨j, hj0, hj, rfl, hr⟩ := hrel
    clear S0
    have xr : x < wr.heap.size := Nat.lt_of_lt_of_le HC.out.2 hr.out.2.size
    have k1 : wr.cell? ⟨x, 1, none⟩ = some (.slice ao no co) := (hr.out.2.cell (p := ⟨x, 1, none⟩) HC.out.2).trans HC.out.1
    by_cases hlt : j < no
    · have jo : j < r.own.length := by have := HNO.out; omega
      have jf : j < r.forms.length := by have := HFM.out; omega
      obtain ⟨go, rfl, hcs⟩ := HR.out j jo
      obtain ⟨hgl, m0⟩ := hcs wr (HFU.out.2.trans (hr.out.2.mono HFU.out.2.size))
      have hRw := HFU.out.1.fr (S := fun _ => False) (Fr.of_below hr.out.2) (fun h => h)
      obtain ⟨l0, l1, l2, l3, l4⟩ := hRw.at j hlt jf
      have gl := hRw.lt
      have ext := Rf.queue_at HQ.out j (by have := HDR.out; omega) jo jf
      rw [HDR.out] at ext
      have hql : (r.queue.take (j - dr)).length ≤ 100000 := by have := HQL.out; have := HNO.out; have := HN4.out; simp; omega
      generalize r.own[j].1 = mj at *
      generalize r.forms[j] = fj at *
      obtain ⟨k, ps, c', q, s⟩ := fj
      simp only at l0 l1 l2 l3 l4
      obtain ⟨a5, n5, c5, w5, hap, h1, h2⟩ := QL.grow (m := mj) (k := k) (p := ps) (c := c') (q := q) (s := s) hr.out.1 hr.out.2 (Nat.le_refl _) hql
      rw [← ext] at h1
      have Z : Hid (QL w5 U.heap.size (.slice a5 n5 c5) (r.queue.take (j + 1 - dr)) ∧ Below U.heap.size U w5) := ⟨h1, h2⟩
      have i2 : (j : Int) < (no : Int) := by omega
      clear h1 h2 ext hql hRw hcs hr
      go_wp2_with fail
      go_region_law (refine step_append_k rfl (.tmp 26) (.tmp 40) 55 55 rfl _ _ (by simp [Act.eval]) (by simp [Act.eval]) (hap _) ?_)
      all_goals go_wp2
      all_goals exact ⟨⟨j + 1, by omega, by omega, by go_num, Z⟩, by simp [intOf]; omega⟩
    · obtain rfl : j = no := by omega
      rw [List.take_of_length_le (by have := HQL.out; have := HNO.out; have := HDR.out; omega)] at hr
      have Z := hd (And.intro (hr.out.1.mono HFU.out.2.size) (HFU.out.2.trans (hr.out.2.mono HFU.out.2.size)))
      go_wp2
      go_ret
      exact ⟨_, rfl, Z.out⟩

end Go.Proofs.YtmbnimlibnheeabDoor
