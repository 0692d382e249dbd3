/-
  The document's made: the ways that say no ahead of the loop.
-/
import Derived.Test.YtfhghijefjhehaaDoorHh
import Derived.Test.YtfhghijefjhehaaDoorHe
namespace Go.Proofs.YtfhghijefjhehaaDoor
open Go.RowKit
set_option linter.unusedVariables false

theorem block_keep {B : Nat} {w w' : World} (h : Below B w w') {x : Nat} {o : Obj} (hx : w.heap[x]? = some o) (hB : x < B) : w'.heap[x]? = some o := (h.block x hB).trans hx

/-- The three boxes of made. -/
def Bx (w w0 : World) (hv : Array Value) (st si ha ma ok op oc ol os : Int) (ad : Option Addr) (nd cd : Nat) (pst psi pha pma pk pp pc pl ps : Int) (pa : Option Addr) (pn pcap : Nat) : Prop :=
  w0.heap[w.heap.size]? = some (.cells hv 25 (0, 0)) ∧
  w0.heap[w.heap.size + 1]? = some (.cells #[.int .i64 st, .int .i64 si, .int .i64 ha, .int .i64 ma, .int .i64 ok, .int .i64 op, .int .u8 oc, .int .i64 ol, .int .i64 os, .slice ad nd cd] 50 (0, 0)) ∧
  w0.heap[w.heap.size + 1 + 1]? = some (.cells #[.int .i64 pst, .int .i64 psi, .int .i64 pha, .int .i64 pma, .int .i64 pk, .int .i64 pp, .int .u8 pc, .int .i64 pl, .int .i64 ps, .slice pa pn pcap] 50 (0, 0)) ∧
  w.heap.size + 1 + 1 < w0.heap.size ∧ Below w.heap.size w w0

theorem bx_mk (w : World) (hv : Array Value) (st si ha ma ok op oc ol os : Int) (ad : Option Addr) (nd cd : Nat) (pst psi pha pma pk pp pc pl ps : Int) (pa : Option Addr) (pn pcap : Nat) :
    Bx w (((w.alloc (.cells hv 25)).alloc (.cells #[.int .i64 st, .int .i64 si, .int .i64 ha, .int .i64 ma, .int .i64 ok, .int .i64 op, .int .u8 oc, .int .i64 ol, .int .i64 os, .slice ad nd cd] 50)).alloc (.cells #[.int .i64 pst, .int .i64 psi, .int .i64 pha, .int .i64 pma, .int .i64 pk, .int .i64 pp, .int .u8 pc, .int .i64 pl, .int .i64 ps, .slice pa pn pcap] 50))
      hv st si ha ma ok op oc ol os ad nd cd pst psi pha pma pk pp pc pl ps pa pn pcap := by
  refine ⟨?_, ?_, ?_, by simp, (((Below.refl _ _).alloc (Nat.le_refl _) _).alloc (by simp) _).alloc (by simp; omega) _⟩
  · exact (heap_alloc_old _ _ (by simp; omega)).trans ((heap_alloc_old _ _ (by simp)).trans (heap_alloc_new _ _))
  · refine (heap_alloc_old _ _ (by simp)).trans ?_
    have := heap_alloc_new (w.alloc (.cells hv 25)) (.cells #[.int .i64 st, .int .i64 si, .int .i64 ha, .int .i64 ma, .int .i64 ok, .int .i64 op, .int .u8 oc, .int .i64 ol, .int .i64 os, .slice ad nd cd] 50)
    rwa [World.size_alloc] at this
  · have := heap_alloc_new ((w.alloc (.cells hv 25)).alloc (.cells #[.int .i64 st, .int .i64 si, .int .i64 ha, .int .i64 ma, .int .i64 ok, .int .i64 op, .int .u8 oc, .int .i64 ol, .int .i64 os, .slice ad nd cd] 50)) (.cells #[.int .i64 pst, .int .i64 psi, .int .i64 pha, .int .i64 pma, .int .i64 pk, .int .i64 pp, .int .u8 pc, .int .i64 pl, .int .i64 ps, .slice pa pn pcap] 50)
    rwa [World.size_alloc, World.size_alloc] at this
theorem Bx.below {w w0 w1 : World} {hv : Array Value} {st si ha ma ok op oc ol os : Int} {ad : Option Addr} {nd cd : Nat} {pst psi pha pma pk pp pc pl ps : Int} {pa : Option Addr} {pn pcap : Nat}
    (h : Bx w w0 hv st si ha ma ok op oc ol os ad nd cd pst psi pha pma pk pp pc pl ps pa pn pcap) (hb : Below w0.heap.size w0 w1) : Bx w w1 hv st si ha ma ok op oc ol os ad nd cd pst psi pha pma pk pp pc pl ps pa pn pcap :=
  ⟨block_keep hb h.1 (by have := h.2.2.2.1; omega), block_keep hb h.2.1 (by have := h.2.2.2.1; omega), block_keep hb h.2.2.1 h.2.2.2.1, Nat.lt_of_lt_of_le h.2.2.2.1 hb.size, h.2.2.2.2.trans (hb.mono h.2.2.2.2.size)⟩

set_option maxRecDepth 100000 in
set_option maxHeartbeats 4000000 in
theorem made_no (C : Int) (aL aE : Option Addr) (nL cL nE cE : Nat) (st si ha ma ok op oc ol os : Int) (ad : Option Addr) (nd cd : Nat) (pst psi pha pma pk pp pc pl ps : Int) (pa : Option Addr) (pn pcap : Nat) (w : World)
    (hm : -9223372036854775808 ≤ pma ∧ pma ≤ 9223372036854775800)
    (hno : ¬ (chP ⟨ok, op, oc, ol, os⟩ = true ∧ ol = si ∧ os = ma ∧ ma = pma + 1 ∧ ha = pha)) :
    Calls Tryd.prog 31 #[.agg #[.int .i64 C, .slice aL nL cL, .slice aE nE cE], .agg #[.int .i64 st, .int .i64 si, .int .i64 ha, .int .i64 ma, .int .i64 ok, .int .i64 op, .int .u8 oc, .int .i64 ol, .int .i64 os, .slice ad nd cd], .agg #[.int .i64 pst, .int .i64 psi, .int .i64 pha, .int .i64 pma, .int .i64 pk, .int .i64 pp, .int .u8 pc, .int .i64 pl, .int .i64 ps, .slice pa pn pcap]] w
      fun e w' => e = .returned (.bool false) ∧ Below w.heap.size w w' := by
  have BX := hd (bx_mk w #[.int .i64 C, .slice aL nL cL, .slice aE nE cE] st si ha ma ok op oc ol os ad nd cd pst psi pha pma pk pp pc pl ps pa pn pcap)
  have CV := hd (fun W => change_any ok op oc ol os W)
  have ew : wrap64 (pma + 1) = pma + 1 := wrap64_id (by omega) (by omega)
  have HM := hd hm
  clear hm
  generalize chP ⟨ok, op, oc, ol, os⟩ = ch at *
  go_enter Tryd.func31, Tryd.ntmps31
  go_upto_region 1 with fail
  generalize (((w.alloc (.cells #[.int .i64 C, .slice aL nL cL, .slice aE nE cE] 25)).alloc (.cells #[.int .i64 st, .int .i64 si, .int .i64 ha, .int .i64 ma, .int .i64 ok, .int .i64 op, .int .u8 oc, .int .i64 ol, .int .i64 os, .slice ad nd cd] 50)).alloc (.cells #[.int .i64 pst, .int .i64 psi, .int .i64 pha, .int .i64 pma, .int .i64 pk, .int .i64 pp, .int .u8 pc, .int .i64 pl, .int .i64 ps, .slice pa pn pcap] 50)) = w0 at *
  have e4 := cell_row BX.out.2.1 4; have e5 := cell_row BX.out.2.1 5; have e6 := cell_row BX.out.2.1 6; have e7 := cell_row BX.out.2.1 7; have e8 := cell_row BX.out.2.1 8
  simp at e4 e5 e6 e7 e8
  go_wp2_with fail
  refine (CV.out _).mono ?_
  rintro e w1 ⟨rfl, b1⟩
  clear e4 e5 e6 e7 e8
  have B1 := hd (BX.out.below b1)
  clear BX b1 CV
  have e1 := cell_row B1.out.2.1 1; have e2 := cell_row B1.out.2.1 2; have e3 := cell_row B1.out.2.1 3; have e7 := cell_row B1.out.2.1 7; have e8 := cell_row B1.out.2.1 8
  have p2 := cell_row B1.out.2.2.1 2; have p3 := cell_row B1.out.2.2.1 3
  simp at e1 e2 e3 e7 e8 p2 p3
  cases ch with
  | false =>
    clear hno
    go_wp2
    go_ret
    exact ⟨rfl, B1.out.2.2.2.2⟩
  | true =>
    by_cases h1 : ol = si
    · subst h1
      by_cases h2 : os = ma
      · subst h2
        by_cases h3 : os = pma + 1
        · have h4 : ha ≠ pha := fun h4 => hno ⟨rfl, rfl, rfl, h3, h4⟩
          subst h3
          have k4 : (ha != pha) = true := by simpa using h4
          clear hno h4
          go_wp2
          go_ret
          exact ⟨rfl, B1.out.2.2.2.2⟩
        · have k3 : (os != pma + 1) = true := by simpa using h3
          clear hno h3
          go_wp2
          go_ret
          exact ⟨rfl, B1.out.2.2.2.2⟩
      · have k2 : (os != ma) = true := by simpa using h2
        clear hno h2
        go_wp2
        go_ret
        exact ⟨rfl, B1.out.2.2.2.2⟩
    · have k1 : (ol != si) = true := by simpa using h1
      clear hno h1
      go_wp2
      go_ret
      exact ⟨rfl, B1.out.2.2.2.2⟩

end Go.Proofs.YtfhghijefjhehaaDoor
