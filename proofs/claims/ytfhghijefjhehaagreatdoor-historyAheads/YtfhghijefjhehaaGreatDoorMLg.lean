/-
  Texts put together: Lg Lh Li Lj Lk Ll Lm.
-/
import Derived.Test.YtfhghijefjhehaaGreatDoorMLd
import Derived.Deep.DeepCutAuto
import Derived.Test.YtfhghijefjhehaaGreatDoorMIh
/-! Lg -/
namespace Go.Proofs.YtfhghijefjhehaaGreatDoor
open Go.RowKit
set_option linter.unusedVariables false

/-- Behind the append: the forms are longer, in their row or in a new one. -/
theorem HD.pushed {w1 w2 w3 : World} {x g' : Nat} {β γ : Option Nat} {id : Int} {ds : List Dd} {made hav n : Nat} {fs fs' : List OpE} {v' : Value} (h : HD w1 x β γ id ds made hav fs n) (hb : Below w1.heap.size w1 w2) (hF : FO w3 (some g') v' fs') (hN : (β = some g' ∧ Fr (· = g') w2 w3) ∨ (g' = w2.heap.size ∧ Fr (fun _ => False) w2 w3)) :
    HD (w3.setCell ⟨x, 4, none⟩ v') x (some g') γ id ds made hav fs' n ∧ Fr (fun k => k = x ∨ β = some k) w1 (w3.setCell ⟨x, 4, none⟩ v') ∧ (β = some g' ∨ w1.heap.size ≤ g') := by
  obtain ⟨a1, a2, a3⟩ := h.apart
  have h2 := h.below hb
  have hF2 : Fr (fun k => β = some k) w2 w3 := by
    rcases hN with ⟨a, b⟩ | ⟨a, b⟩
    · exact b.mono (fun k _ hk => by rw [hk]; exact a)
    · exact b.mono (fun k _ hk => hk.elim)
  obtain ⟨vS, vF, k1, k2, k3⟩ := h2.blk
  have hx3 := hF2.keeps k1 a1
  have k2' := k2.fr hF2 (fun g hg hb => a3 g hb hg)
  have xg : g' ≠ x := by
    rintro rfl
    exact hF.ne hx3 (by decide) rfl
  have hFx : Fr (· = x) w3 (w3.setCell ⟨x, 4, none⟩ v') := Fr.setCell _ _ _ rfl
  refine ⟨⟨vS, v', ?_, k2'.fr hFx (fun g hg e => a2 (e ▸ hg)), hF.fr hFx (fun g hg e => ?_)⟩, ?_, ?_⟩
  · have := set_row hx3 4 v'
    simpa using this
  · injection hg with hg
    exact xg (hg.trans e)
  · exact ((Fr.of_below hb).trans (hF2.mono (fun k _ hk => .inr hk))).trans (hFx.mono (fun k _ hk => .inl hk))
  · rcases hN with ⟨a, -⟩ | ⟨a, -⟩
    · exact .inl a
    · exact .inr (by rw [a]; exact hb.size)

set_option maxRecDepth 100000 in
set_option maxHeartbeats 1000000 in
theorem makeNext_any {w : World} {x : Nat} {β γ : Option Nat} {id : Int} {d : Dd} {ds : List Dd} {made hav n : Nat} {fs : List OpE} (h : HD w x β γ id (d :: ds) made hav fs n) (h0 : 0 ≤ d.e.o.ch) (h1 : d.e.o.ch ≤ 255) (hn : n ≤ 4096) (hm : made ≤ 1000000) (hl : fs.length ≤ 1000000) :
    Calls Tryz.prog 48 #[.pointer (some ⟨x, 0, none⟩)] w fun e w' => e = .returned (fitO n d.e.o).val ∧ (∃ g', HD w' x (some g') γ id ds (made + 1) hav (fs ++ [fitO n d.e.o]) (sizeP n d.e.o) ∧ (β = some g' ∨ w.heap.size ≤ g')) ∧ Fr (fun k => k = x ∨ β = some k) w w' := by
  obtain ⟨⟨tag, ⟨k, p, c, l, s⟩⟩, dc, dl, dq⟩ := d
  simp only at h0 h1 ⊢
  have hx := h.lt
  have B1 : Below w.heap.size w (w.alloc (.cells #[.int .i64 0, .int .i64 0, .int .u8 0, .int .i64 0, .int .i64 0] 69)) := (Below.refl _ _).alloc (Nat.le_refl _) _
  have H1 := hd (h.below B1)
  have HB1 := hd B1
  have hq : (w.alloc (.cells #[.int .i64 0, .int .i64 0, .int .u8 0, .int .i64 0, .int .i64 0] 69)).heap[w.heap.size]? = some (.cells #[.int .i64 0, .int .i64 0, .int .u8 0, .int .i64 0, .int .i64 0] 69 (0, 0)) := heap_alloc_new w _
  have HQ := hd hq
  have hz : w.heap.size < (w.alloc (.cells #[.int .i64 0, .int .i64 0, .int .u8 0, .int .i64 0, .int .i64 0] 69)).heap.size := by simp
  have HH := hd h
  have em := hd (show (made : Int) + 1 = ((made + 1 : Nat) : Int) by omega)
  generalize made + 1 = M at *
  clear h B1 hq
  go_enter Tryz.func48, Tryz.ntmps48
  go_upto_region 1 with fail
  generalize w.alloc (.cells #[.int .i64 0, .int .i64 0, .int .u8 0, .int .i64 0, .int .i64 0] 69) = w1 at *
  obtain ⟨vS, vF, hS, -, c0, c1, c2, c3, c4, c5⟩ := H1.out.cells
  obtain ⟨a, cp, rfl, hc1, hc2⟩ := hS.form
  obtain ⟨g, off, rfl, rfl, -, hl1, -, hg, ⟨d0, d1, d2, d3, d4, d5⟩, -⟩ := hS.head
  simp only at d0 d1 d2 d3 d4 d5
  have CF := hd (fitting_any H1.out ⟨k, p, c, l, s⟩ h0 h1 hn)
  simp only [List.length_cons] at *
  clear hS
  go_wp2_with fail
  refine CF.out.mono ?_
  rintro e w2 ⟨rfl, h2, hF2⟩
  obtain ⟨N, hNz⟩ : ∃ N, sizeP n ⟨k, p, c, l, s⟩ = N := ⟨_, rfl⟩
  rw [hNz] at h2
  have HNz := hd hNz
  clear hNz
  obtain ⟨⟨fk, fp, fc, fl, fq⟩, hfo⟩ : ∃ Y, fitO n ⟨k, p, c, l, s⟩ = Y := ⟨_, rfl⟩
  have HFo := hd hfo
  rw [hfo]
  simp only [OpE.val]
  clear hfo CF c0 c1 c2 c3 c4 c5 d0 d1 d2 d3 d4 d5 hl1 hg hc1 hc2
  go_upto_region 2 with fail
  have B3 : Below w2.heap.size w2 (w2.alloc (.cells #[.int .i64 fk, .int .i64 fp, .int .u8 fc, .int .i64 fl, .int .i64 fq] 69)) := (Below.refl _ _).alloc (Nat.le_refl _) _
  have hR3 : (w2.alloc (.cells #[.int .i64 fk, .int .i64 fp, .int .u8 fc, .int .i64 fl, .int .i64 fq] 69)).heap[w2.heap.size]? = some (.cells #[.int .i64 fk, .int .i64 fp, .int .u8 fc, .int .i64 fl, .int .i64 fq] 69 (0, 0)) := heap_alloc_new w2 _
  generalize w2.alloc (.cells #[.int .i64 fk, .int .i64 fp, .int .u8 fc, .int .i64 fl, .int .i64 fq] 69) = w3 at *
  have H3 := hd (h2.below B3)
  have F3 := hd (show Fr (· = x) w w3 from ((Fr.of_below HB1.out).trans hF2).trans (Fr.of_below B3))
  have Q3 := hd ((B3.block _ (Nat.lt_of_lt_of_le hz hF2.size)).trans (hF2.keeps HQ.out (by omega)))
  have R3 := hd hR3
  have lq : w.heap.size < w2.heap.size := Nat.lt_of_lt_of_le hz hF2.size
  generalize w2.heap.size = q3 at *
  clear h2 hF2 B3 hR3 H1 HB1 HQ hz
  obtain ⟨vS, vF, hS, -, c0, c1, c2, c3, c4, c5⟩ := H3.out.cells
  obtain ⟨a, cp2, rfl, hc1, hc2⟩ := hS.form
  obtain ⟨g', off', hgg, rfl, -, hl1, -, hg, -, t1, t2⟩ := hS.head
  obtain rfl : g' = g := by injection hgg with hgg; exact hgg.symm
  have T1 := hd t1
  have T2 := hd t2
  obtain ⟨F0, F1, F2, F4, F5, F6⟩ := H3.out.frozens
  simp only [List.length_cons] at *
  clear hS t1 t2 hgg
  go_cut [] (fun wx => Hid (HD wx x β (some g') id ds made hav fs N ∧ Fr (· = x) w3 wx))
  case first =>
    by_cases hc : cp2 = 1
    · subst hc
      obtain rfl : ds = [] := List.length_eq_zero_iff.1 (by omega)
      have T3 : Hid (DS w3 (some g') (.slice (some ⟨g', off', none⟩) 0 0) []) := T1.out rfl
      have Z := hd (And.intro (H3.out.setStill T3.out) (Fr.setCell (S := (· = x)) w3 ⟨x, 1, none⟩ (.slice (some ⟨g', off', none⟩) 0 0) rfl))
      simp only [List.length_nil] at c1
      go_wp2_with fail
      go_meet
      exact Z
    · have Z := hd (And.intro (H3.out.setStill T2.out) (Fr.setCell (S := (· = x)) w3 ⟨x, 1, none⟩ (.slice (some ⟨g', off' + 9, none⟩) ds.length (cp2 - 1)) rfl))
      go_wp2_with fail
      go_meet
      exact Z
  case rest =>
  obtain ⟨h4, f4⟩ := hcut.out
  have lx3 : x < w3.heap.size := H3.out.lt
  have lr3 := block_lt R3.out
  have xq : ¬ (x = q3) := by omega
  have qx : ¬ (q3 = x) := by omega
  have xw : ¬ (x = w.heap.size) := by omega
  have wx' : ¬ (w.heap.size = x) := by omega
  have H4 := hd h4
  have F4' := hd (F3.out.trans f4)
  have R4 := hd (f4.keeps R3.out qx)
  have Q4 := hd (f4.keeps Q3.out wx')
  clear hcut h4 f4 H3 F3 R3 Q3 T1 T2 c0 c1 c2 c3 c4 c5 F0 F1 F2 F4 F5 F6 hl1 hg hc1 hc2 lx3 lr3
  obtain ⟨vS, vF, -, -, c0, c1, c2, c3, c4, c5⟩ := H4.out.cells
  obtain ⟨F0, F1, F2, F4, F5, F6⟩ := H4.out.frozens
  go_upto_region 4 with fail
  rw [em.out]
  have H5 := hd (H4.out.setMade M)
  have G5 := hd (F4'.out.trans (Fr.setCell (S := (· = x)) wc ⟨x, 2, none⟩ (.int .i64 M) rfl))
  have R5 := hd ((Fr.setCell (S := (· = x)) wc ⟨x, 2, none⟩ (.int .i64 M) rfl).keeps R4.out qx)
  have Q5 := hd ((Fr.setCell (S := (· = x)) wc ⟨x, 2, none⟩ (.int .i64 M) rfl).keeps Q4.out wx')
  generalize wc.setCell ⟨x, 2, none⟩ (.int .i64 M) = w5 at *
  clear H4 F4' R4 Q4 c0 c1 c2 c3 c4 c5 F0 F1 F2 F4 F5 F6 vS vF
  obtain ⟨vS, vF, -, hF, c0, c1, c2, c3, c4, c5⟩ := H5.out.cells
  have b5 : Below w5.heap.size w5 (w5.drew.alloc (.cells #[.int .i64 fk, .int .i64 fp, .int .u8 fc, .int .i64 fl, .int .i64 fq] 69)) := ((Below.refl _ _).drew).alloc (Nat.le_refl _) _
  obtain ⟨aF, cF, rfl, -⟩ := hF.is
  obtain ⟨v', w6, gn, hap, hF6, hN⟩ := FO.push (hF.fr (Fr.of_below (S := fun _ => False) b5) (fun _ _ h => h)) ⟨fk, fp, fc, fl, fq⟩ w5.heap.size (heap_alloc_new w5.drew _) hl
  obtain ⟨aN, cN, rfl, -⟩ := hF6.is
  obtain ⟨Z1, Z2, Z3⟩ := H5.out.pushed b5 hF6 hN
  have hx6 := (Z1.frozen 4)
  have hxx : ∃ u, w6.cell? ⟨x, 4, none⟩ = some u := by
    obtain ⟨y1, y2, k1, k2, k3⟩ := (H5.out.below b5).blk
    obtain ⟨a1, -, -⟩ := H5.out.apart
    rcases hN with ⟨e1, e2⟩ | ⟨e1, e2⟩
    · exact ⟨y2, (e2.cell (p := ⟨x, 4, none⟩) (block_lt k1) (fun e => a1 (by rw [e1]; exact congrArg some e.symm))).trans (cell_row k1 4)⟩
    · exact ⟨y2, (e2.cell (p := ⟨x, 4, none⟩) (block_lt k1) (fun e => e)).trans (cell_row k1 4)⟩
  have hfz : w6.frozen? ⟨x, 4, none⟩ = false := by
    obtain ⟨y1, y2, k1, k2, k3⟩ := (H5.out.below b5).blk
    obtain ⟨a1, -, -⟩ := H5.out.apart
    rcases hN with ⟨e1, e2⟩ | ⟨e1, e2⟩
    · exact frozen_row (e2.keeps k1 (fun e => a1 (by rw [e1]; exact congrArg some e.symm))) 4
    · exact frozen_row (e2.keeps k1 (fun e => e)) 4
  obtain ⟨u4, hu4⟩ := hxx
  have Z := hd (And.intro Z1 (And.intro Z2 Z3))
  simp only [List.length_append, List.length_cons, List.length_nil, Nat.zero_add] at Z
  obtain ⟨⟨o0, o1, o2, o3, o4⟩, -⟩ := cellsF R5.out
  have lx5 : x < w5.heap.size := H5.out.lt
  have lr5 : q3 < w5.heap.size := block_lt R5.out
  clear hF hF6 hN Z1 Z2 Z3 hx6 b5
  go_cut [] (fun wx => Hid (∃ gn, HD wx x (some gn) (some g') id ds M hav (fs ++ [⟨fk, fp, fc, fl, fq⟩]) N ∧ Fr (fun k => k = x ∨ β = some k) w5 wx ∧ (β = some gn ∨ w5.heap.size ≤ gn)))
  case first =>
    go_region_law (refine step_append_k rfl (.tmp 33) (.tmp 35) 63 63 rfl _ _ (by simp [Act.eval]) (by simp [Act.eval]) (hap _) ?_)
    all_goals go_wp2_with fail
    all_goals go_meet
    all_goals exact ⟨_, Z.out⟩
  case rest =>
  obtain ⟨gz, h7, f7, hgz⟩ := hcut.out
  have bl : ∀ k, β = some k → k < w.heap.size := fun k hk => by
    obtain ⟨vS, vF, k1, k2, k3⟩ := HH.out.blk
    exact k3.lt k hk
  have gl : g' < w.heap.size := by
    obtain ⟨vS, vF, k1, k2, k3⟩ := HH.out.blk
    exact k2.lt g' rfl
  have lw5 : w.heap.size < w5.heap.size := block_lt Q5.out
  have R7 := f7.keeps R5.out (fun h => h.elim qx (fun h => by have := bl _ h; omega))
  have Q7 := f7.keeps Q5.out (fun h => h.elim wx' (fun h => by have := bl _ h; omega))
  have hgn : gz ≠ w.heap.size := by
    rcases hgz with h | h
    · have := bl _ h; omega
    · omega
  have FF : Fr (fun k => k = x ∨ β = some k) w wc := (G5.out.mono (fun k _ h => .inl h)).trans f7
  have Z7 := hd (fun a b c d e => And.intro (h7.fr (Fr.set5 wc w.heap.size 0 a b c d e) xw (fun k hk => by injection hk with hk; omega) (fun k hk => by injection hk with hk; omega)) (And.intro (show β = some gz ∨ w.heap.size ≤ gz from hgz.imp (fun h => h) (fun h => by omega)) (FF.next (Fr.set5 wc w.heap.size 0 a b c d e) (fun i hi hs => by omega))))
  clear o0 o1 o2 o3 o4
  obtain ⟨⟨o0, o1, o2, o3, o4⟩, -⟩ := cellsF R7
  obtain ⟨⟨r0, r1, r2, r3, r4⟩, ⟨f0, f1, f2, f3, f4⟩⟩ := cellsF Q7
  have hqw : ¬ (q3 = w.heap.size) := by omega
  have hwq : ¬ (w.heap.size = q3) := by omega
  clear hcut h7 f7 hgz FF R7 Q7 c0 c1 c2 c3 c4 c5 hu4 hfz hap lx5 lr5
  go_wp2
  refine bodyPost_ret (v := .agg #[.int .i64 fk, .int .i64 fp, .int .u8 fc, .int .i64 fl, .int .i64 fq]) (by simp [results, Tryz.results48, go_sem, r0, r1, r2, r3, r4]) rfl ?_
  rw [HFo.out, HNz.out]
  obtain ⟨z1, z2, z3⟩ := Z7.out fk fp fc fl fq
  exact ⟨rfl, ⟨gz, z1, z2⟩, z3⟩

end Go.Proofs.YtfhghijefjhehaaGreatDoor

/-! Lh -/
namespace Go.Proofs.YtfhghijefjhehaaGreatDoor
open Go.RowKit
set_option linter.unusedVariables false

theorem DS.of_sf {w : World} {γ : Option Nat} {v : Value} {ds : List Dd} (h : SF ddc 9 w 143 γ v ds) : DS w γ v ds := by
  cases γ with
  | none => exact h
  | some g =>
    obtain ⟨cap, rfl, cur, k1, k2, k3, k4, k5, k6⟩ := h
    refine ⟨0, cap, cur, rfl, k1, k4, k5, fun j u hj => ?_⟩
    rw [← k2] at hj
    have hjl := (List.getElem?_eq_some_iff.1 hj).1
    rw [List.length_take] at hjl
    rw [List.getElem?_take, if_pos (by omega)] at hj
    rw [Nat.zero_add]
    exact hj

section
variable {w : World} {x : Nat} {C : Int} {vL vE : Value} {S : Nat → Ls} {L : Nat → Option Nat}
set_option maxRecDepth 100000 in
set_option maxHeartbeats 1000000 in
theorem hand_any (h : TL w x C vL vE S L) (c : Nat) (hc : c < 65) (ds : List Dd) (hS : S (130 + c) = .ds ds) :
    Calls Tryz.prog 46 #[.pointer (some ⟨x, 0, none⟩), .int .i64 c] w fun e w' => e = .returned (.pointer (some ⟨w.heap.size, 0, none⟩)) ∧ HD w' w.heap.size none (L (130 + c)) c ds 0 0 [] 0 ∧ Below w.heap.size w w' := by
  obtain ⟨v, hv, hs⟩ := h.slot (130 + c) (by omega)
  rw [hS] at hs
  have hD := DS.of_sf hs
  obtain ⟨a, cp, rfl, -⟩ := hD.form
  rw [show 3 + (130 + c) = 133 + c from by omega] at hv
  have c65 : (c : Int) < 65 := by omega
  have Z : Hid (∀ W, W = w.alloc (.cells #[.int .i64 c, .slice a ds.length cp, .int .i64 0, .int .i64 0, .slice none 0 0, .int .i64 0] 131) → HD W w.heap.size none (L (130 + c)) c ds 0 0 [] 0 ∧ Below w.heap.size w W) := by
    rintro W rfl
    have hb : Below w.heap.size w (w.alloc (.cells #[.int .i64 c, .slice a ds.length cp, .int .i64 0, .int .i64 0, .slice none 0 0, .int .i64 0] 131)) := (Below.refl _ _).alloc (Nat.le_refl _) _
    exact ⟨⟨_, _, heap_alloc_new w _, hD.fr (Fr.of_below (S := fun _ => False) hb) (fun _ _ h => h), ⟨rfl, rfl⟩⟩, hb⟩
  have HH := hd h
  clear h hs hD
  go_enter Tryz.func46, Tryz.ntmps46
  go_wp2
  go_ret
  exact ⟨rfl, Z.out _ rfl⟩
end

end Go.Proofs.YtfhghijefjhehaaGreatDoor

/-! Li -/
namespace Go.Proofs.YtfhghijefjhehaaGreatDoor
open Go.RowKit
set_option linter.unusedVariables false

def elE (o : OpE) : El := (o.ch, o.cl, o.sq)
/-- The text behind an operation, if it fits. -/
def apE (t : List El) (o : OpE) : List El :=
  if fitsP t.length o = 0 then
    (if o.kind = 1 then t.take o.pos.toNat ++ elE o :: t.drop o.pos.toNat else if o.kind = 2 then t.take o.pos.toNat ++ t.drop (o.pos.toNat + 1) else t)
  else t

theorem fits_pos {n : Nat} {o : OpE} (h : fitsP n o = 0) : (o.kind = 1 → o.pos.toNat ≤ n) ∧ (o.kind = 2 → o.pos.toNat < n) ∧ (o.kind = 1 → n + 1 ≤ 4096) ∧ n ≤ 4096 := by
  unfold fitsP at h
  split at h
  · contradiction
  · rename_i h1
    have hv := validP_zero (Decidable.not_not.1 h1)
    split at h
    · contradiction
    · rename_i h2
      split at h
      · contradiction
      · rename_i h3
        have hin : inR (n : Int) 0 4096 = true := by
          cases e : inR (n : Int) 0 4096 with
          | true => rfl
          | false => exact absurd (.inl e) h2
        simp only [inR, decide_eq_true_eq] at hin
        have h2' : ¬ (o.kind = 1 ∧ (n : Int) = 4096) := fun e => h2 (.inr e)
        refine ⟨fun e => ?_, fun e => ?_, fun e => ?_, ?_⟩ <;> omega

theorem ap_len (t : List El) (o : OpE) : (apE t o).length = sizeP t.length o := by
  unfold apE sizeP
  split
  · rename_i h
    obtain ⟨a, b, -, -⟩ := fits_pos h
    split
    · rename_i k
      have := a k
      simp
      omega
    · split
      · rename_i k
        have := b k
        simp
        omega
      · rfl
  · rfl
/-- No text gets longer than it may. -/
theorem size_le {n : Nat} (o : OpE) (h : n ≤ 4096) : sizeP n o ≤ 4096 := by
  unfold sizeP
  split
  · rename_i hf
    obtain ⟨-, -, c, -⟩ := fits_pos hf
    split
    · rename_i k; exact c k
    · split <;> omega
  · exact h
theorem ap_nop (t : List El) (o : OpE) : apE t (nopO o) = t := by
  unfold apE nopO
  simp
theorem ap_fit (t : List El) (o : OpE) : apE t (fitO t.length o) = apE t o := by
  unfold fitO
  split
  · rfl
  · rename_i h
    rw [ap_nop]
    unfold apE
    rw [if_neg h]

/-- The hand at block x is the walker k. -/
structure HK (w : World) (x : Nat) (β γ : Option Nat) (id : Int) (ds : List Dd) (k : Wk) : Prop where
  hd : HD w x β γ id ds k.made k.hav k.forms k.text.length
  st : ds.map (·.e) = k.still
  le : k.text.length ≤ 4096

section
variable {w w' : World} {x : Nat} {β γ : Option Nat} {id : Int} {ds : List Dd} {k : Wk}
theorem HK.fr {S : Nat → Prop} (h : HK w x β γ id ds k) (hF : Fr S w w') (hx : ¬ S x) (hb : ∀ g, β = some g → ¬ S g) (hg : ∀ g, γ = some g → ¬ S g) : HK w' x β γ id ds k := ⟨h.hd.fr hF hx hb hg, h.st, h.le⟩
theorem HK.below (h : HK w x β γ id ds k) (hb : Below w.heap.size w w') : HK w' x β γ id ds k := ⟨h.hd.below hb, h.st, h.le⟩

theorem due_k (h : HK w x β γ id ds k) :
    Calls Tryz.prog 47 #[.pointer (some ⟨x, 0, none⟩)] w fun e w' => e = .returned (.bool (k.still.head?.map (·.tag) == some (k.hav : Int))) ∧ Below w.heap.size w w' := by
  refine (due_any h.hd).mono ?_
  rintro e w' ⟨rfl, b⟩
  refine ⟨?_, b⟩
  rw [← h.st]
  cases ds with
  | nil => rfl
  | cons d ds => simp [dueB]

/-- It makes its next edit: what is applied to its text is told. -/
theorem makeNext_k {d : Dd} (h : HK w x β γ id (d :: ds) k) (h0 : 0 ≤ d.e.o.ch ∧ d.e.o.ch ≤ 255) (hm : k.made ≤ 1000000) (hl : k.forms.length ≤ 1000000) :
    Calls Tryz.prog 48 #[.pointer (some ⟨x, 0, none⟩)] w fun e w' => e = .returned (fitO k.text.length d.e.o).val ∧ (∃ g', HK w' x (some g') γ id ds (k.mk1 apE) ∧ (β = some g' ∨ w.heap.size ≤ g')) ∧ Fr (fun j => j = x ∨ β = some j) w w' := by
  refine (makeNext_any h.hd h0.1 h0.2 h.le hm hl).mono ?_
  rintro e w' ⟨rfl, ⟨g', h1, h2⟩, hF⟩
  refine ⟨rfl, ⟨g', ?_, h2⟩, hF⟩
  have hs : k.still = d.e :: ds.map (·.e) := by rw [← h.st]; rfl
  have e1 : k.mk1 apE = ⟨ds.map (·.e), apE k.text (fitO k.text.length d.e.o), k.forms ++ [fitO k.text.length d.e.o], k.hav, k.made + 1⟩ := by
    unfold Wk.mk1
    rw [hs]
  rw [e1]
  have e2 : (apE k.text (fitO k.text.length d.e.o)).length = sizeP k.text.length d.e.o := by rw [ap_fit, ap_len]
  refine ⟨?_, rfl, ?_⟩
  · simp only [e2]
    exact h1
  · show (apE k.text (fitO k.text.length d.e.o)).length ≤ 4096
    rw [e2]
    exact size_le _ h.le

/-- It takes its own record in. -/
theorem takeIn_kown (h : HK w x β γ id ds k) (o : OpE) (ho : o.cl = id) (hne : k.forms ≠ []) (hh : k.hav ≤ 1000000) :
    Calls Tryz.prog 49 #[.pointer (some ⟨x, 0, none⟩), o.val] w fun e w' => e = .returned (nopO o).val ∧ HK w' x β γ id ds (k.take apE o true) ∧ Fr (· = x) w w' := by
  obtain ⟨still, text, forms, hav, made⟩ := k
  cases forms with
  | nil => exact absurd rfl hne
  | cons y fs =>
    refine (takeIn_own h.hd o ho hh).mono ?_
    rintro e w' ⟨rfl, h1, hF⟩
    exact ⟨rfl, ⟨h1, h.st, h.le⟩, hF⟩

/-- It takes the record of another in. -/
theorem takeIn_kother (h : HK w x β γ id ds k) (hT : Table w) (hxT : 1 ≠ x) (o : OpE) (ho : o.cl ≠ id) (hh : k.hav ≤ 1000000) (hl : k.forms.length ≤ 4096) (h0 : 0 ≤ o.ch ∧ o.ch ≤ 255) :
    Calls Tryz.prog 49 #[.pointer (some ⟨x, 0, none⟩), o.val] w fun e w' => e = .returned (fitO k.text.length (throughP o k.forms false).1).val ∧ (∃ g, w.heap.size ≤ g ∧ HK w' x (some g) γ id ds (k.take apE o false)) ∧ Fr (· = x) w w' := by
  refine (takeIn_other h.hd hT hxT o ho hh hl h0.1 h0.2 h.le).mono ?_
  rintro e w' ⟨rfl, ⟨g, hg, h1⟩, hF⟩
  refine ⟨rfl, ⟨g, hg, ?_, h.st, ?_⟩, hF⟩
  · show HD w' x (some g) γ id ds k.made (k.hav + 1) (throughP o k.forms false).2 (apE k.text (throughP o k.forms false).1).length
    rw [ap_len]
    exact h1
  · show (apE k.text (throughP o k.forms false).1).length ≤ 4096
    rw [ap_len]
    exact size_le _ h.le
end

end Go.Proofs.YtfhghijefjhehaaGreatDoor

/-! Lj -/
namespace Go.Proofs.YtfhghijefjhehaaGreatDoor
open Go.RowKit
set_option linter.unusedVariables false

/-- m hands: hand c (of client c + 1) at block X c, its forms at B c, its deeds at G c; all but the deeds made from block base on. -/
structure HM (w : World) (base m : Nat) (X : Nat → Nat) (B G : Nat → Option Nat) (Z : Nat → List Dd) (K : Nat → Wk) : Prop where
  hk : ∀ c, c < m → HK w (X c) (B c) (G c) ((c : Int) + 1) (Z c) (K c)
  xi : ∀ c d, c < m → d < m → X c = X d → c = d
  bi : ∀ c d g, c < m → d < m → B c = some g → B d = some g → c = d
  lo : ∀ c, c < m → base ≤ X c
  bl : ∀ c g, c < m → B c = some g → base ≤ g
  gl : ∀ c g, c < m → G c = some g → g < base

section
variable {w w' : World} {base m : Nat} {X : Nat → Nat} {B G : Nat → Option Nat} {Z : Nat → List Dd} {K : Nat → Wk}

/-- A hand's block is no row of forms. -/
theorem HM.xb (h : HM w base m X B G Z K) {c d : Nat} (hc : c < m) (hd' : d < m) : B d ≠ some (X c) := by
  obtain ⟨vS, vF, h1, h2, h3⟩ := (h.hk c hc).hd.blk
  obtain ⟨vS', vF', k1, k2, k3⟩ := (h.hk d hd').hd.blk
  exact k3.ne h1 (by decide)
theorem HM.blt (h : HM w base m X B G Z K) {c g : Nat} (hc : c < m) (hg : B c = some g) : g < w.heap.size := by
  obtain ⟨vS, vF, h1, h2, h3⟩ := (h.hk c hc).hd.blk
  exact h3.lt g hg
theorem HM.nil (w : World) (base : Nat) (X : Nat → Nat) (B G : Nat → Option Nat) (Z : Nat → List Dd) (K : Nat → Wk) : HM w base 0 X B G Z K :=
  ⟨fun _ h => absurd h (Nat.not_lt_zero _), fun _ _ h => absurd h (Nat.not_lt_zero _), fun _ _ _ h => absurd h (Nat.not_lt_zero _), fun _ h => absurd h (Nat.not_lt_zero _), fun _ _ h => absurd h (Nat.not_lt_zero _), fun _ _ h => absurd h (Nat.not_lt_zero _)⟩

/-- What touches no hand. -/
theorem HM.fr {S : Nat → Prop} (h : HM w base m X B G Z K) (hF : Fr S w w') (hx : ∀ c, c < m → ¬ S (X c)) (hb : ∀ c g, c < m → B c = some g → ¬ S g) (hg : ∀ c g, c < m → G c = some g → ¬ S g) : HM w' base m X B G Z K :=
  ⟨fun c hc => (h.hk c hc).fr hF (hx c hc) (fun g e => hb c g hc e) (fun g e => hg c g hc e), h.xi, h.bi, h.lo, h.bl, h.gl⟩
theorem HM.below (h : HM w base m X B G Z K) (hb : Below w.heap.size w w') : HM w' base m X B G Z K := h.fr (S := fun _ => False) (Fr.of_below hb) (fun _ _ h => h) (fun _ _ _ _ h => h) (fun _ _ _ _ h => h)

/-- One hand goes on: the others are as they were. -/
theorem HM.step (h : HM w base m X B G Z K) (hw : base ≤ w.heap.size) {c : Nat} (hc : c < m) {β' : Option Nat} {z' : List Dd} {k' : Wk} (hk' : HK w' (X c) β' (G c) ((c : Int) + 1) z' k') (hF : Fr (fun j => j = X c ∨ B c = some j) w w') (hβ : ∀ g, β' = some g → B c = some g ∨ w.heap.size ≤ g) :
    HM w' base m X (upd B c β') G (upd Z c z') (upd K c k') := by
  refine ⟨fun d hd' => ?_, h.xi, fun d e g hd' he h1 h2 => ?_, h.lo, fun d g hd' h1 => ?_, h.gl⟩
  · by_cases e : d = c
    · subst e
      rw [upd_same, upd_same, upd_same]
      exact hk'
    · rw [upd_ne _ _ e, upd_ne _ _ e, upd_ne _ _ e]
      refine (h.hk d hd').fr hF (fun hs => ?_) (fun g hg hs => ?_) (fun g hg hs => ?_)
      · rcases hs with hs | hs
        · exact e (h.xi d c hd' hc hs)
        · exact h.xb hd' hc hs
      · rcases hs with hs | hs
        · exact h.xb hc hd' (hs ▸ hg)
        · exact e (h.bi d c g hd' hc hg hs)
      · have h1 := h.gl d g hd' hg
        rcases hs with hs | hs
        · have := h.lo c hc; omega
        · have := h.bl c g hc hs; omega
  · by_cases e1 : d = c
    · by_cases e2 : e = c
      · omega
      · subst e1
        rw [upd_same] at h1
        rw [upd_ne _ _ e2] at h2
        rcases hβ g h1 with h3 | h3
        · exact h.bi _ _ g hd' he h3 h2
        · have := h.blt he h2; omega
    · by_cases e2 : e = c
      · subst e2
        rw [upd_same] at h2
        rw [upd_ne _ _ e1] at h1
        rcases hβ g h2 with h3 | h3
        · exact h.bi _ _ g hd' he h1 h3
        · have := h.blt hd' h1; omega
      · rw [upd_ne _ _ e1] at h1
        rw [upd_ne _ _ e2] at h2
        exact h.bi _ _ g hd' he h1 h2
  · by_cases e : d = c
    · subst e
      rw [upd_same] at h1
      rcases hβ g h1 with h3 | h3
      · exact h.bl _ g hd' h3
      · omega
    · rw [upd_ne _ _ e] at h1
      exact h.bl d g hd' h1

/-- One hand more. -/
theorem HM.add (h : HM w base m X B G Z K) (hw : base ≤ w.heap.size) (hb : Below w.heap.size w w') {γ : Option Nat} {z : List Dd} {k : Wk} (hk' : HK w' w.heap.size none γ ((m : Int) + 1) z k) (hγ : ∀ g, γ = some g → g < base) :
    HM w' base (m + 1) (upd X m w.heap.size) (upd B m none) (upd G m γ) (upd Z m z) (upd K m k) := by
  have xl : ∀ c, c < m → X c < w.heap.size := fun c hc => (h.hk c hc).hd.lt
  refine ⟨fun c hc => ?_, fun c d hc hd' e => ?_, fun c d g hc hd' e1 e2 => ?_, fun c hc => ?_, fun c g hc e => ?_, fun c g hc e => ?_⟩
  · by_cases e : c = m
    · subst e
      rw [upd_same, upd_same, upd_same, upd_same, upd_same]
      exact hk'
    · rw [upd_ne _ _ e, upd_ne _ _ e, upd_ne _ _ e, upd_ne _ _ e, upd_ne _ _ e]
      exact (h.hk c (by omega)).below hb
  · by_cases e1 : c = m
    · by_cases e2 : d = m
      · omega
      · subst e1
        rw [upd_same, upd_ne _ _ e2] at e
        have := xl d (by omega)
        omega
    · by_cases e2 : d = m
      · subst e2
        rw [upd_same, upd_ne _ _ e1] at e
        have := xl c (by omega)
        omega
      · rw [upd_ne _ _ e1, upd_ne _ _ e2] at e
        exact h.xi c d (by omega) (by omega) e
  · by_cases c1 : c = m
    · subst c1
      rw [upd_same] at e1
      cases e1
    · by_cases c2 : d = m
      · subst c2
        rw [upd_same] at e2
        cases e2
      · rw [upd_ne _ _ c1] at e1
        rw [upd_ne _ _ c2] at e2
        exact h.bi c d g (by omega) (by omega) e1 e2
  · by_cases e1 : c = m
    · subst e1
      rw [upd_same]
      exact hw
    · rw [upd_ne _ _ e1]
      exact h.lo c (by omega)
  · by_cases e1 : c = m
    · subst e1
      rw [upd_same] at e
      cases e
    · rw [upd_ne _ _ e1] at e
      exact h.bl c g (by omega) e
  · by_cases e1 : c = m
    · subst e1
      rw [upd_same] at e
      exact hγ g e
    · rw [upd_ne _ _ e1] at e
      exact h.gl c g (by omega) e
end

end Go.Proofs.YtfhghijefjhehaaGreatDoor

/-! Lk -/
namespace Go.Proofs.YtfhghijefjhehaaGreatDoor
open Go.RowKit
set_option linter.unusedVariables false

def hpc (x : Nat) : List Value := [.pointer (some ⟨x, 0, none⟩)]
theorem szH : Sz hpc 1 := fun n => ⟨rfl, fun v hv => by simp [hpc] at hv; subst hv; rfl⟩
theorem infoHp : (Tryz.prog.info? 126).map (fun i => (i.zero, i.size, i.bytes)) = some (some (.pointer none), 1, 8) := by kernel_rfl

/-- append of one pointer. -/
theorem push_hp (w : World) (β : Option Nat) (v : Value) (xs : List Nat) (hv : SF hpc 1 w 126 β v xs) (b x : Nat) (hb : w.heap[b]? = some (.cells #[.pointer (some ⟨x, 0, none⟩)] 126 (0, 0))) (hn : xs.length ≤ 1000000) :
    ∃ v' w', (∀ ty, (Builtin.append_ #[125, 125] ty #[v, .slice (some ⟨b, 0, none⟩) 1 1]).run Tryz.prog w = .ok v' w') ∧ NowF hpc 1 w w' 126 β v' (xs ++ [x]) := by
  obtain ⟨i0, hi0, hz0, hz1, hz2⟩ : ∃ i0, Tryz.prog.info? 126 = some i0 ∧ i0.zero = some (.pointer none) ∧ i0.size = 1 ∧ i0.bytes = 8 := by
    cases hq : Tryz.prog.info? 126 with
    | none => have := infoHp; rw [hq] at this; cases this
    | some i =>
      have h := infoHp
      rw [hq] at h
      simp only [Option.map_some, Option.some.injEq, Prod.mk.injEq] at h
      exact ⟨i, rfl, h.1, h.2.1, h.2.2⟩
  obtain ⟨v', w', hr, hN⟩ := run_pushF szH (P := Tryz.prog) w 125 0 126 i0 _ 8 Tryz.underlying125 hi0 hz0 hz1 rfl hz2 β v xs hv ⟨b, 0, none⟩ 1 1 [x] rfl (fun j u hj => by
    rw [cl_one] at hj
    rw [add_lit, cell_row hb, Nat.zero_add]
    simpa [hpc] using hj) (by omega) (by omega) (by omega)
  exact ⟨v', w', fun ty => hr, hN⟩

/-- m hands made, the row of their pointers in v. -/
structure FS (w0 w : World) (m : Nat) (v : Value) (X : Nat → Nat) (B G : Nat → Option Nat) (Z : Nat → List Dd) (K : Nat → Wk) : Prop where
  hm : HM w w0.heap.size m X B G Z K
  row : ∃ β, SF hpc 1 w 126 β v ((List.range m).map X) ∧ ∀ g, β = some g → w0.heap.size ≤ g
  bel : Below w0.heap.size w0 w

theorem SF.hne {w : World} {β : Option Nat} {b : Nat} {t : TypeId} {cs : Array Value} {v : Value} {xs : List Nat} (h : SF hpc 1 w 126 β v xs) (hb : w.heap[b]? = some (.cells cs t (0, 0))) (ht : t ≠ 126) : β ≠ some b := by
  rintro rfl
  obtain ⟨cap, -, cur, k, -⟩ := h
  rw [hb] at k
  simp at k
  exact ht k.2

theorem FS.nil (w : World) (X : Nat → Nat) (B G : Nat → Option Nat) (Z : Nat → List Dd) (K : Nat → Wk) : FS w w 0 (.slice none 0 0) X B G Z K :=
  ⟨HM.nil _ _ _ _ _ _ _, ⟨none, ⟨rfl, rfl⟩, fun g h => by cases h⟩, Below.refl _ _⟩
theorem FS.below {w0 w w' : World} {m : Nat} {v : Value} {X : Nat → Nat} {B G : Nat → Option Nat} {Z : Nat → List Dd} {K : Nat → Wk} (h : FS w0 w m v X B G Z K) (hb : Below w.heap.size w w') : FS w0 w' m v X B G Z K := by
  obtain ⟨β, h1, h2⟩ := h.row
  exact ⟨h.hm.below hb, ⟨β, h1.fr (Fr.of_below (S := fun _ => False) hb) (fun _ _ h => h), h2⟩, h.bel.trans (hb.mono h.bel.size)⟩

theorem FS.push {w0 w w1 : World} {m : Nat} {v : Value} {X : Nat → Nat} {B G : Nat → Option Nat} {Z : Nat → List Dd} {K : Nat → Wk} (h : FS w0 w m v X B G Z K) (hb : Below w.heap.size w w1) {γ : Option Nat} {z : List Dd} {k : Wk} (hk : HK w1 w.heap.size none γ ((m : Int) + 1) z k) (hγ : ∀ g, γ = some g → g < w0.heap.size) (hm : m ≤ 1000000) :
    ∃ v' w', (∀ ty, (Builtin.append_ #[125, 125] ty #[v, .slice (some ⟨w1.heap.size, 0, none⟩) 1 1]).run Tryz.prog (w1.alloc (.cells #[.pointer (some ⟨w.heap.size, 0, none⟩)] 126)) = .ok v' w') ∧ FS w0 w' (m + 1) v' (upd X m w.heap.size) (upd B m none) (upd G m γ) (upd Z m z) (upd K m k) := by
  obtain ⟨β, hr, hβ⟩ := h.row
  have h1 := h.hm.add h.bel.size hb hk hγ
  have b2 : Below w1.heap.size w1 (w1.alloc (.cells #[.pointer (some ⟨w.heap.size, 0, none⟩)] 126)) := (Below.refl _ _).alloc (Nat.le_refl _) _
  have h2 := h1.below b2
  have r2 := (hr.fr (Fr.of_below (S := fun _ => False) hb) (fun _ _ h => h)).fr (Fr.of_below (S := fun _ => False) b2) (fun _ _ h => h)
  obtain ⟨v', w', hrun, g', hS', hN⟩ := push_hp _ β v _ r2 w1.heap.size w.heap.size (heap_alloc_new w1 _) (by simpa using hm)
  refine ⟨v', w', hrun, ?_⟩
  have hsz : w0.heap.size ≤ w1.heap.size := Nat.le_trans h.bel.size hb.size
  have b3 : Below w0.heap.size w0 (w1.alloc (.cells #[.pointer (some ⟨w.heap.size, 0, none⟩)] 126)) := (h.bel.trans (hb.mono h.bel.size)).trans (b2.mono hsz)
  have hF : Fr (fun j => β = some j) (w1.alloc (.cells #[.pointer (some ⟨w.heap.size, 0, none⟩)] 126)) w' := by
    rcases hN with ⟨a, b⟩ | ⟨a, b⟩
    · exact b.mono (fun j _ hj => by rw [hj]; exact a)
    · exact b.mono (fun j _ hj => hj.elim)
  refine ⟨h2.fr hF (fun c hc hs => ?_) (fun c g hc hg hs => ?_) (fun c g hc hg hs => ?_), ⟨g', ?_, fun g hg => ?_⟩, ?_⟩
  · obtain ⟨vS, vF, k1, k2, k3⟩ := (h2.hk c hc).hd.blk
    exact r2.hne k1 (by decide) hs
  · obtain ⟨vS, vF, k1, k2, k3⟩ := (h2.hk c hc).hd.blk
    rw [hg] at k3
    obtain ⟨off, cap, cur, -, kk, -⟩ := k3
    exact r2.hne kk (by decide) hs
  · have e1 := h2.gl c g hc hg
    have e2 := hβ g hs
    omega
  · have e : (List.range (m + 1)).map (upd X m w.heap.size) = (List.range m).map X ++ [w.heap.size] := by
      rw [List.range_succ, List.map_append]
      congr 1
      · refine List.map_congr_left (fun c hc => upd_ne _ _ ?_)
        have := List.mem_range.1 hc
        omega
      · simp [upd_same]
    rw [e]
    exact hS'
  · injection hg with hg
    subst hg
    rcases hN with ⟨a, -⟩ | ⟨a, -⟩
    · exact hβ _ a
    · rw [a]; exact b3.size
  · exact b3.trans (hF.below b3.size (fun j hj => hβ j hj))

end Go.Proofs.YtfhghijefjhehaaGreatDoor

/-! Ll -/
namespace Go.Proofs.YtfhghijefjhehaaGreatDoor
open Go.RowKit
set_option linter.unusedVariables false

/-- The next edit is due. -/
def Wk.due (k : Wk) : Bool := k.still.head?.map (·.tag) == some (k.hav : Int)
theorem due_cons {k : Wk} (h : k.due = true) : ∃ x l, k.still = x :: l ∧ x.tag = (k.hav : Int) := by
  unfold Wk.due at h
  cases hs : k.still with
  | nil => rw [hs] at h; simp at h
  | cons x l =>
    rw [hs] at h
    exact ⟨x, l, rfl, by simpa using h⟩
section
variable {ap : List El → OpE → List El}
theorem all_due {k : Wk} (h : k.due = true) : (k.mk1 ap).all ap = k.all ap := by
  obtain ⟨x, l, hs, ht⟩ := due_cons h
  obtain ⟨m1, m2, -, -⟩ := mk1_still (ap := ap) hs
  unfold Wk.all
  rw [m1, m2, hs]
  show _ = (if x.tag = (k.hav : Int) then mkL ap (k.hav : Int) l (k.mk1 ap) else k)
  rw [if_pos ht]
theorem all_idle {k : Wk} (h : k.due = false) : k.all ap = k := by
  unfold Wk.all
  cases hs : k.still with
  | nil => rfl
  | cons x l =>
    show (if x.tag = (k.hav : Int) then mkL ap (k.hav : Int) l (k.mk1 ap) else k) = k
    rw [if_neg]
    intro ht
    unfold Wk.due at h
    rw [hs] at h
    simp [ht] at h
theorem due_less {k : Wk} (h : k.due = true) : (k.mk1 ap).still.length < k.still.length := by
  obtain ⟨x, l, hs, -⟩ := due_cons h
  rw [(mk1_still (ap := ap) hs).1, hs]
  simp
end

/-- A record taken in, whoever made it. -/
theorem takeIn_k {w : World} {x : Nat} {β γ : Option Nat} {id : Int} {ds : List Dd} {k : Wk} (h : HK w x β γ id ds k) (hT : Table w) (hxT : 1 ≠ x) (o : OpE) (hne : o.cl = id → k.forms ≠ []) (hh : k.hav ≤ 1000000) (hl : k.forms.length ≤ 4096) (h0 : 0 ≤ o.ch ∧ o.ch ≤ 255) :
    Calls Tryz.prog 49 #[.pointer (some ⟨x, 0, none⟩), o.val] w fun e w' => (∃ r : OpE, e = .returned r.val ∧ apE k.text r = (k.take apE o (o.cl == id)).text) ∧ (∃ β', (∀ g, β' = some g → β = some g ∨ w.heap.size ≤ g) ∧ HK w' x β' γ id ds (k.take apE o (o.cl == id))) ∧ Fr (· = x) w w' := by
  by_cases ho : o.cl = id
  · have e : (o.cl == id) = true := by simpa using ho
    rw [e]
    refine (takeIn_kown h o ho (hne ho) hh).mono ?_
    rintro e w' ⟨rfl, h1, hF⟩
    refine ⟨⟨_, rfl, ?_⟩, ⟨β, fun g hg => .inl hg, h1⟩, hF⟩
    rw [ap_nop]
    rfl
  · have e : (o.cl == id) = false := by simpa using ho
    rw [e]
    refine (takeIn_kother h hT hxT o ho hh hl h0).mono ?_
    rintro e w' ⟨rfl, ⟨g, hg, h1⟩, hF⟩
    refine ⟨⟨_, rfl, ?_⟩, ⟨some g, fun g' e => .inr (by injection e with e; omega), h1⟩, hF⟩
    rw [ap_fit]
    rfl

end Go.Proofs.YtfhghijefjhehaaGreatDoor

/-! Lm -/
namespace Go.Proofs.YtfhghijefjhehaaGreatDoor
open Go.RowKit
set_option linter.unusedVariables false

theorem upd_self {α : Type} (S : Nat → α) (i : Nat) : upd S i (S i) = S := by
  funext j
  unfold upd
  split
  · rename_i h; rw [h]
  · rfl

/-- The walker of a client that has gone nowhere. -/
def wk0 (ds : List Dd) : Wk := ⟨ds.map (·.e), [], [], 0, 0⟩
theorem HK.new {w : World} {x : Nat} {γ : Option Nat} {id : Int} {ds : List Dd} (h : HD w x none γ id ds 0 0 [] 0) : HK w x none γ id ds (wk0 ds) := ⟨h, rfl, by simp [wk0]⟩

theorem FS.slice {w0 w : World} {m : Nat} {v : Value} {X : Nat → Nat} {B G : Nat → Option Nat} {Z : Nat → List Dd} {K : Nat → Wk} (h : FS w0 w m v X B G Z K) : ∃ a c, v = .slice a m c := by
  obtain ⟨β, h1, -⟩ := h.row
  obtain ⟨a, c, h2, -⟩ := h1.form
  exact ⟨a, c, by simpa using h2⟩

end Go.Proofs.YtfhghijefjhehaaGreatDoor
