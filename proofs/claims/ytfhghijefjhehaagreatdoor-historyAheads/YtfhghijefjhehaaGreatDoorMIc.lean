/-
  Texts put together: Ic Hl He Hi.
-/
import Derived.Test.YtfhghijefjhehaaGreatDoorMIh
import Derived.Test.YtfhghijefjhehaaGreatDoorMHza
import Derived.Test.YtfhghijefjhehaaGreatDoorVc
import Derived.Test.YtfhghijefjhehaaGreatDoorMHg
/-! Ic -/
namespace Go.Proofs.YtfhghijefjhehaaGreatDoor
open Go.RowKit
set_option linter.unusedVariables false

section
variable {w : World} {x : Nat} {C : Int} {vL vE : Value} {S : Nat → Ls} {L : Nat → Option Nat}

set_option maxRecDepth 100000 in
set_option maxHeartbeats 4000000 in
theorem unmade_any (h : TL w x C vL vE S L) (st ha ok op oc oL os : Int) (ad : Option Addr) (nd cd cN mN : Nat) (hc : cN < 65) (l : List Nat) (hS : S cN = .ns l) :
    Calls Tryz.prog 83 #[.pointer (some ⟨x, 0, none⟩), .agg #[.int .i64 st, .int .i64 cN, .int .i64 ha, .int .i64 mN, .int .i64 ok, .int .i64 op, .int .u8 oc, .int .i64 oL, .int .i64 os, .slice ad nd cd]] w
      fun e w' => ∃ r : Bool, e = .returned (.bool r) ∧ (r = true ↔ ∃ hm : mN < l.length, ((l[mN] : Nat) : Int) < ha) ∧ Below w.heap.size w w' := by
  have hb : Below w.heap.size w (w.alloc (.cells #[.int .i64 st, .int .i64 cN, .int .i64 ha, .int .i64 mN, .int .i64 ok, .int .i64 op, .int .u8 oc, .int .i64 oL, .int .i64 os, .slice ad nd cd] 76)) := (Below.refl _ _).alloc (Nat.le_refl _) _
  obtain ⟨a, cp, hv, hg, hl⟩ := (h.below hb).ints (i := cN) (by omega) hS
  have hE := hd (heap_alloc_new w (.cells #[.int .i64 st, .int .i64 cN, .int .i64 ha, .int .i64 mN, .int .i64 ok, .int .i64 op, .int .u8 oc, .int .i64 oL, .int .i64 os, .slice ad nd cd] 76))
  have HB := hd hb
  clear hb h
  have c65 : (cN : Int) < 65 := by omega
  go_enter Tryz.func83, Tryz.ntmps83
  go_upto_region 1 with fail
  generalize w.alloc (.cells #[.int .i64 st, .int .i64 cN, .int .i64 ha, .int .i64 mN, .int .i64 ok, .int .i64 op, .int .u8 oc, .int .i64 oL, .int .i64 os, .slice ad nd cd] 76) = w1 at *
  have e1 := cell_row hE.out 1; have e2 := cell_row hE.out 2; have e3 := cell_row hE.out 3
  simp at e1 e2 e3
  by_cases hm : mN < l.length
  · obtain ⟨g, rfl, hcell⟩ := hg (by omega)
    have h1 := hcell mN hm
    have k1 : (mN : Int) < (l.length : Int) := by omega
    have HR : Hid (((l[mN] : Nat) : Int) < ha ↔ ∃ hm : mN < l.length, ((l[mN] : Nat) : Int) < ha) := ⟨fun h => ⟨hm, h⟩, fun ⟨_, h⟩ => h⟩
    generalize l[mN] = z at h1 HR
    clear hcell hg
    go_quiet (fail)
    go_wp2
    go_quiet (fail)
    go_wp2
    go_ret
    exact ⟨_, rfl, by rw [decide_eq_true_iff]; exact HR.out, below_drewN (below_drewN HB.out _) _⟩
  · have HR : Hid (¬ ∃ hm : mN < l.length, ((l[mN] : Nat) : Int) < ha) := fun ⟨h, _⟩ => hm h
    have k1 : ¬ (mN : Int) < (l.length : Int) := by omega
    clear hg
    go_quiet (fail)
    go_wp2
    go_quiet (fail)
    go_wp2
    go_ret
    first
      | exact .inl ⟨rfl, HR.out, below_drewN (below_drewN HB.out _) _⟩
      | exact ⟨false, rfl, iff_of_false (by decide) HR.out, below_drewN (below_drewN HB.out _) _⟩

set_option maxRecDepth 100000 in
set_option maxHeartbeats 4000000 in
theorem asLogged_any {aL : Option Addr} {nL cL : Nat} {log : List Ed} (h : TL w x C (.slice aL nL cL) vE S L) (hL : IsL w aL nL log) (tg ok op oc os : Int) (cN : Nat) (hc : cN < 65) (h1 : 1 ≤ os) (l : List Nat) (hS : S cN = .ns l) (hlt : ∀ k ∈ l, k < log.length)
    (G : Prop) (hG : G ↔ (l.length : Int) < os ∨ ∃ (q : Nat) (h : q < l.length), (q : Int) + 1 = os ∧ log[l[q]]? = some ⟨tg, ⟨ok, op, oc, cN, os⟩⟩) :
    Calls Tryz.prog 127 #[.pointer (some ⟨x, 0, none⟩), .agg #[.int .i64 tg, .int .i64 ok, .int .i64 op, .int .u8 oc, .int .i64 cN, .int .i64 os]] w
      fun e w' => ∃ r : Bool, e = .returned (.bool r) ∧ (r = true ↔ G) ∧ Below w.heap.size w w' := by
  have hb : Below w.heap.size w (w.alloc (.cells #[.int .i64 tg, .int .i64 ok, .int .i64 op, .int .u8 oc, .int .i64 cN, .int .i64 os] 74)) := (Below.refl _ _).alloc (Nat.le_refl _) _
  obtain ⟨a, cp, hv, hg, hl⟩ := (h.below hb).ints (i := cN) (by omega) hS
  obtain ⟨-, hx1, -⟩ := (h.below hb).heads
  have hE := hd (heap_alloc_new w (.cells #[.int .i64 tg, .int .i64 ok, .int .i64 op, .int .u8 oc, .int .i64 cN, .int .i64 os] 74))
  have HL := hd (hL.below hb (Nat.le_refl _))
  have HB := hd hb
  have HGd := hd hG
  clear hb h hL hG
  have c65 : (cN : Int) < 65 := by omega
  go_enter Tryz.func127, Tryz.ntmps127
  go_upto_region 1 with fail
  generalize w.alloc (.cells #[.int .i64 tg, .int .i64 ok, .int .i64 op, .int .u8 oc, .int .i64 cN, .int .i64 os] 74) = w1 at *
  have e0 := cell_row hE.out 0; have e1 := cell_row hE.out 1; have e2 := cell_row hE.out 2; have e3 := cell_row hE.out 3; have e4 := cell_row hE.out 4; have e5 := cell_row hE.out 5
  simp at e0 e1 e2 e3 e4 e5
  by_cases hgt : (l.length : Int) < os
  · have HR : Hid G := HGd.out.2 (.inl hgt)
    clear hg HGd hlt
    go_quiet (fail)
    go_wp2
    go_quiet (fail)
    go_wp2
    go_ret
    first
      | exact .inr ⟨rfl, HR.out, below_drewN (below_drewN HB.out _) _⟩
      | exact ⟨true, rfl, iff_of_true rfl HR.out, below_drewN (below_drewN HB.out _) _⟩
  · obtain ⟨q, rfl⟩ : ∃ q : Nat, os = (q : Int) + 1 := ⟨(os - 1).toNat, by omega⟩
    have hq : q < l.length := by omega
    obtain ⟨g, rfl, hcell⟩ := hg (by omega)
    have h2 := hcell q hq
    have hz := hlt l[q] (List.getElem_mem hq)
    have HG2 : Hid (G ↔ log[l[q]]? = some ⟨tg, ⟨ok, op, oc, cN, (q : Int) + 1⟩⟩) := by
      constructor
      · intro hh
        rcases HGd.out.1 hh with a | ⟨q', h', a1, a2⟩
        · exact absurd a hgt
        · have : q' = q := by omega
          subst this
          exact a2
      · intro hh
        exact HGd.out.2 (.inr ⟨q, hq, rfl, hh⟩)
    have k1 : IntKind.i64.wrap (q : Int) = (q : Int) := by rw [IntKind.wrap_i64]; omega
    have kd : decide ((l.length : Int) < (q : Int) + 1) = false := by simpa using hgt
    have k2 : (q : Int) < (l.length : Int) := by omega
    obtain ⟨b, off, rfl, s1, qq⟩ := HL.out.2 (by have := HL.out.1; omega)
    obtain ⟨q0, q1, q2, q3, q4, q5⟩ := qq l[q] hz
    have k3 : ((l[q] : Nat) : Int) < (nL : Int) := by have := HL.out.1; omega
    rw [List.getElem?_eq_getElem hz] at HG2
    generalize log[l[q]] = y at *
    generalize l[q] = z at *
    clear hcell hg hlt HGd qq hz h1
    obtain ⟨yt, ⟨yk, yp, yc, yl, ys⟩⟩ := y
    simp only at q0 q1 q2 q3 q4 q5
    by_cases he : (⟨yt, ⟨yk, yp, yc, yl, ys⟩⟩ : Ed) = ⟨tg, ⟨ok, op, oc, cN, (q : Int) + 1⟩⟩
    · have HR : Hid G := HG2.out.2 (by rw [he])
      obtain ⟨rfl, h4⟩ := Ed.mk.inj he
      obtain ⟨rfl, rfl, rfl, rfl, rfl⟩ := OpE.mk.inj h4
      have E1 := fun W => edSame yt yk yp yc (cN : Int) ((q : Int) + 1) W
      clear HG2 he h4
      go_quiet (fail)
      go_wp2
      go_quiet (fail)
      go_wp2
      go_ret
      first
        | exact .inr ⟨rfl, HR.out, below_drewN (below_drewN HB.out _) _⟩
        | exact ⟨true, rfl, iff_of_true rfl HR.out, below_drewN (below_drewN HB.out _) _⟩
    · have HR : Hid (¬ G) := fun hh => he (by have := HG2.out.1 hh; injection this)
      have E1 := fun W => edNe he W
      clear HG2 he
      go_quiet (fail)
      go_wp2
      go_quiet (fail)
      go_wp2
      go_ret
      first
        | exact .inl ⟨rfl, HR.out, below_drewN (below_drewN HB.out _) _⟩
        | exact ⟨false, rfl, iff_of_false (by decide) HR.out, below_drewN (below_drewN HB.out _) _⟩
end

end Go.Proofs.YtfhghijefjhehaaGreatDoor

/-! Hl -/
namespace Go.Proofs.YtfhghijefjhehaaGreatDoor
set_option linter.unusedVariables false

theorem lgAt_filter (log : List Ed) (c : Int) (m : Nat) : ∀ n, m ≤ n → (lgAt log n c).filter (fun j => decide (j < m)) = lgAt log m c
  | 0, h => by
    obtain rfl : m = 0 := by omega
    rfl
  | n + 1, h => by
    by_cases e : m = n + 1
    · subst e
      exact List.filter_eq_self.2 fun j hj => decide_eq_true (lgAt_lt hj).1
    · have ih := lgAt_filter log c m n (by omega)
      simp only [lgAt, List.filter_append, ih]
      cases log[n]? with
      | none => simp
      | some x =>
        by_cases hc : x.o.cl = c
        · have : ¬ n < m := by omega
          simp [hc, this]
        · simp [hc]
theorem ownN_eq (log : List Ed) (c : Int) (m : Nat) (h : m ≤ log.length) : ownN (log := log) m c = (lgAt log m c).length := by
  unfold ownN
  rw [lgAt_filter log c m log.length h]
end Go.Proofs.YtfhghijefjhehaaGreatDoor

/-! He -/
namespace Go.Proofs.YtfhghijefjhehaaGreatDoor
open Go.RowKit
set_option linter.unusedVariables false

theorem chP_doc (o : OpE) : chP o = (decide (o.kind = 1 ∨ o.kind = 2) && decide (validP o = 0)) := by
  unfold chP
  by_cases hv : validP o = 0
  · have := (validP_zero hv).1
    simp only [hv, decide_true, Bool.and_true, decide_eq_decide]
    omega
  · simp [hv]

set_option maxRecDepth 100000 in
set_option maxHeartbeats 2000000 in
theorem change_any (k p c l s : Int) (w : World) :
    Calls Tryz.prog 90 #[.agg #[.int .i64 k, .int .i64 p, .int .u8 c, .int .i64 l, .int .i64 s]] w fun e w' => e = .returned (.bool (chP ⟨k, p, c, l, s⟩)) ∧ Below w.heap.size w w' := by
  have CV := hd (fun W => rvalid_any k p c l s W)
  have hP : Hid (chP ⟨k, p, c, l, s⟩ = (decide (k = 1 ∨ k = 2) && decide (validP ⟨k, p, c, l, s⟩ = 0))) := chP_doc _
  generalize chP ⟨k, p, c, l, s⟩ = b at *
  generalize validP ⟨k, p, c, l, s⟩ = r at *
  have B1 := hd ((Below.refl w.heap.size w).alloc (Nat.le_refl _) (.cells #[.int .i64 k, .int .i64 p, .int .u8 c, .int .i64 l, .int .i64 s] 69))
  by_cases hk : k = 1 ∨ k = 2
  · by_cases hr : r = 0
    · have hb : b = true := by rw [hP.out]; simp [hk, hr]
      subst hb hr
      rcases hk with rfl | rfl
      all_goals
        go_enter Tryz.func90, Tryz.ntmps90
        go_wp2_with fail
        refine (CV.out _).mono ?_
        rintro e w1 ⟨rfl, b1⟩
        have Z := hd (B1.out.trans (b1.mono B1.out.size))
        clear b1
        go_wp2
        go_ret
        exact ⟨rfl, Z.out⟩
    · have hb : b = false := by rw [hP.out]; simp [hr]
      have r1 : (r == 0) = false := by simpa using hr
      subst hb
      rcases hk with rfl | rfl
      all_goals
        go_enter Tryz.func90, Tryz.ntmps90
        go_wp2_with fail
        refine (CV.out _).mono ?_
        rintro e w1 ⟨rfl, b1⟩
        have Z := hd (B1.out.trans (b1.mono B1.out.size))
        clear b1
        go_wp2
        go_ret
        exact ⟨rfl, Z.out⟩
  · have hb : b = false := by rw [hP.out]; simp [hk]
    subst hb
    have k1 : (k == 1) = false := by simp; omega
    have k2 : (k == 2) = false := by simp; omega
    clear hk
    go_enter Tryz.func90, Tryz.ntmps90
    go_wp2_with fail
    go_ret
    exact ⟨rfl, B1.out⟩

end Go.Proofs.YtfhghijefjhehaaGreatDoor

/-! Hi -/
namespace Go.Proofs.YtfhghijefjhehaaGreatDoor
open Go.RowKit
set_option linter.unusedVariables false

theorem block_keep {B : Nat} {w w' : World} (h : Below B w w') {x : Nat} {o : Obj} (hx : w.heap[x]? = some o) (hB : x < B) : w'.heap[x]? = some o := (h.block x hB).trans hx

/-- The three boxes of made. -/
def Bx (w w0 : World) (hv : Array Value) (st si ha ma ok op oc ol os : Int) (ad : Option Addr) (nd cd : Nat) (pst psi pha pma pk pp pc pl ps : Int) (pa : Option Addr) (pn pcap : Nat) : Prop :=
  w0.heap[w.heap.size]? = some (.cells hv 25 (0, 0)) ∧
  w0.heap[w.heap.size + 1]? = some (.cells #[.int .i64 st, .int .i64 si, .int .i64 ha, .int .i64 ma, .int .i64 ok, .int .i64 op, .int .u8 oc, .int .i64 ol, .int .i64 os, .slice ad nd cd] 76 (0, 0)) ∧
  w0.heap[w.heap.size + 1 + 1]? = some (.cells #[.int .i64 pst, .int .i64 psi, .int .i64 pha, .int .i64 pma, .int .i64 pk, .int .i64 pp, .int .u8 pc, .int .i64 pl, .int .i64 ps, .slice pa pn pcap] 76 (0, 0)) ∧
  w.heap.size + 1 + 1 < w0.heap.size ∧ Below w.heap.size w w0

theorem bx_mk (w : World) (hv : Array Value) (st si ha ma ok op oc ol os : Int) (ad : Option Addr) (nd cd : Nat) (pst psi pha pma pk pp pc pl ps : Int) (pa : Option Addr) (pn pcap : Nat) :
    Bx w (((w.alloc (.cells hv 25)).alloc (.cells #[.int .i64 st, .int .i64 si, .int .i64 ha, .int .i64 ma, .int .i64 ok, .int .i64 op, .int .u8 oc, .int .i64 ol, .int .i64 os, .slice ad nd cd] 76)).alloc (.cells #[.int .i64 pst, .int .i64 psi, .int .i64 pha, .int .i64 pma, .int .i64 pk, .int .i64 pp, .int .u8 pc, .int .i64 pl, .int .i64 ps, .slice pa pn pcap] 76))
      hv st si ha ma ok op oc ol os ad nd cd pst psi pha pma pk pp pc pl ps pa pn pcap := by
  refine ⟨?_, ?_, ?_, by simp, (((Below.refl _ _).alloc (Nat.le_refl _) _).alloc (by simp) _).alloc (by simp; omega) _⟩
  · exact (heap_alloc_old _ _ (by simp; omega)).trans ((heap_alloc_old _ _ (by simp)).trans (heap_alloc_new _ _))
  · refine (heap_alloc_old _ _ (by simp)).trans ?_
    have := heap_alloc_new (w.alloc (.cells hv 25)) (.cells #[.int .i64 st, .int .i64 si, .int .i64 ha, .int .i64 ma, .int .i64 ok, .int .i64 op, .int .u8 oc, .int .i64 ol, .int .i64 os, .slice ad nd cd] 76)
    rwa [World.size_alloc] at this
  · have := heap_alloc_new ((w.alloc (.cells hv 25)).alloc (.cells #[.int .i64 st, .int .i64 si, .int .i64 ha, .int .i64 ma, .int .i64 ok, .int .i64 op, .int .u8 oc, .int .i64 ol, .int .i64 os, .slice ad nd cd] 76)) (.cells #[.int .i64 pst, .int .i64 psi, .int .i64 pha, .int .i64 pma, .int .i64 pk, .int .i64 pp, .int .u8 pc, .int .i64 pl, .int .i64 ps, .slice pa pn pcap] 76)
    rwa [World.size_alloc, World.size_alloc] at this
theorem Bx.below {w w0 w1 : World} {hv : Array Value} {st si ha ma ok op oc ol os : Int} {ad : Option Addr} {nd cd : Nat} {pst psi pha pma pk pp pc pl ps : Int} {pa : Option Addr} {pn pcap : Nat}
    (h : Bx w w0 hv st si ha ma ok op oc ol os ad nd cd pst psi pha pma pk pp pc pl ps pa pn pcap) (hb : Below w0.heap.size w0 w1) : Bx w w1 hv st si ha ma ok op oc ol os ad nd cd pst psi pha pma pk pp pc pl ps pa pn pcap :=
  ⟨block_keep hb h.1 (by have := h.2.2.2.1; omega), block_keep hb h.2.1 (by have := h.2.2.2.1; omega), block_keep hb h.2.2.1 h.2.2.2.1, Nat.lt_of_lt_of_le h.2.2.2.1 hb.size, h.2.2.2.2.trans (hb.mono h.2.2.2.2.size)⟩

set_option maxRecDepth 100000 in
set_option maxHeartbeats 4000000 in
theorem made_no (C : Int) (aL aE : Option Addr) (nL cL nE cE : Nat) (st si ha ma ok op oc ol os : Int) (ad : Option Addr) (nd cd : Nat) (pst psi pha pma pk pp pc pl ps : Int) (pa : Option Addr) (pn pcap : Nat) (w : World)
    (hm : -9223372036854775808 ≤ pma ∧ pma ≤ 9223372036854775800)
    (hno : ¬ (chP ⟨ok, op, oc, ol, os⟩ = true ∧ ol = si ∧ os = ma ∧ ma = pma + 1 ∧ ha = pha)) :
    Calls Tryz.prog 92 #[.agg #[.int .i64 C, .slice aL nL cL, .slice aE nE cE], .agg #[.int .i64 st, .int .i64 si, .int .i64 ha, .int .i64 ma, .int .i64 ok, .int .i64 op, .int .u8 oc, .int .i64 ol, .int .i64 os, .slice ad nd cd], .agg #[.int .i64 pst, .int .i64 psi, .int .i64 pha, .int .i64 pma, .int .i64 pk, .int .i64 pp, .int .u8 pc, .int .i64 pl, .int .i64 ps, .slice pa pn pcap]] w
      fun e w' => e = .returned (.bool false) ∧ Below w.heap.size w w' := by
  have BX := hd (bx_mk w #[.int .i64 C, .slice aL nL cL, .slice aE nE cE] st si ha ma ok op oc ol os ad nd cd pst psi pha pma pk pp pc pl ps pa pn pcap)
  have CV := hd (fun W => change_any ok op oc ol os W)
  have ew : wrap64 (pma + 1) = pma + 1 := wrap64_id (by omega) (by omega)
  have HM := hd hm
  clear hm
  generalize chP ⟨ok, op, oc, ol, os⟩ = ch at *
  go_enter Tryz.func92, Tryz.ntmps92
  go_upto_region 1 with fail
  generalize (((w.alloc (.cells #[.int .i64 C, .slice aL nL cL, .slice aE nE cE] 25)).alloc (.cells #[.int .i64 st, .int .i64 si, .int .i64 ha, .int .i64 ma, .int .i64 ok, .int .i64 op, .int .u8 oc, .int .i64 ol, .int .i64 os, .slice ad nd cd] 76)).alloc (.cells #[.int .i64 pst, .int .i64 psi, .int .i64 pha, .int .i64 pma, .int .i64 pk, .int .i64 pp, .int .u8 pc, .int .i64 pl, .int .i64 ps, .slice pa pn pcap] 76)) = w0 at *
  have e4 := cell_row BX.out.2.1 4; have e5 := cell_row BX.out.2.1 5; have e6 := cell_row BX.out.2.1 6; have e7 := cell_row BX.out.2.1 7; have e8 := cell_row BX.out.2.1 8
  simp at e4 e5 e6 e7 e8
  go_wp2_with fail
  refine (CV.out _).mono ?_
  rintro e w1 ⟨rfl, b1⟩
  clear e4 e5 e6 e7 e8
  have B1 := hd (BX.out.below b1)
  clear BX b1 CV
  have e1 := cell_row B1.out.2.1 1; have e2 := cell_row B1.out.2.1 2; have e3 := cell_row B1.out.2.1 3; have e7 := cell_row B1.out.2.1 7; have e8 := cell_row B1.out.2.1 8
  have p2 := cell_row B1.out.2.2.1 2; have p3 := cell_row B1.out.2.2.1 3
  simp at e1 e2 e3 e7 e8 p2 p3
  cases ch with
  | false =>
    clear hno
    go_wp2
    go_ret
    exact ⟨rfl, B1.out.2.2.2.2⟩
  | true =>
    by_cases h1 : ol = si
    · subst h1
      by_cases h2 : os = ma
      · subst h2
        by_cases h3 : os = pma + 1
        · have h4 : ha ≠ pha := fun h4 => hno ⟨rfl, rfl, rfl, h3, h4⟩
          subst h3
          have k4 : (ha != pha) = true := by simpa using h4
          clear hno h4
          go_wp2
          go_ret
          exact ⟨rfl, B1.out.2.2.2.2⟩
        · have k3 : (os != pma + 1) = true := by simpa using h3
          clear hno h3
          go_wp2
          go_ret
          exact ⟨rfl, B1.out.2.2.2.2⟩
      · have k2 : (os != ma) = true := by simpa using h2
        clear hno h2
        go_wp2
        go_ret
        exact ⟨rfl, B1.out.2.2.2.2⟩
    · have k1 : (ol != si) = true := by simpa using h1
      clear hno h1
      go_wp2
      go_ret
      exact ⟨rfl, B1.out.2.2.2.2⟩

end Go.Proofs.YtfhghijefjhehaaGreatDoor
