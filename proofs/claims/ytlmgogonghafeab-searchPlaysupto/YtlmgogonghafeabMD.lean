/-
  Texts put together: Rb Ra Eq Rows2.
-/
import Derived.Test.YtlmgogonghafeabIg
import Derived.Test.YtlmgogonghafeabMB
import Derived.Test.YtlmgogonghafeabMC
import Derived.Test.YtlmgogonghafeabMR
import Derived.Test.YtlmgogonghafeabMI
import Derived.Deep.QuietTactic
import Derived.BigQuiet
/-! Rb -/
namespace Go.Proofs.Ytlmgogonghafeab
open Go.RowKit Go.Lib
set_option linter.unusedVariables false

/-- A slice of one is built, it is appended, what comes is stored at (x, off). -/
def WAp (kb kp ks : Nat) (w : World) (cs : Array Value) (e : TypeId) (P : Value → World → Prop) (x off : Nat) (L : Nat → Prop) (val : Nat → Value) (u : World) : Prop :=
  (¬ L kp → Below w.heap.size w u) ∧ (L kb → ¬ L kp → ∃ g, val kb = .slice (some ⟨g, 0, none⟩) 1 1 ∧ u.heap[g]? = some (.cells cs e (0, 0))) ∧ (L kp → ¬ L ks → P (val kp) u) ∧ (L ks → ∃ v u1, P v u1 ∧ u = u1.setCell ⟨x, off, none⟩ v)
section
variable {kb kp ks : Nat} {w : World} {cs : Array Value} {e : TypeId} {P : Value → World → Prop} {x off : Nat} {L L' : Nat → Prop} {val val' : Nat → Value} {u u' : World}
theorem WAp.start (h : ∀ i, ¬ L i) : WAp kb kp ks w cs e P x off L val w.drew :=
  ⟨fun _ => ⟨rfl, rfl, rfl, Nat.le_refl _, fun _ _ => rfl⟩, fun a => absurd a (h _), fun a => absurd a (h _), fun a => absurd a (h _)⟩
theorem WAp.build (h : WAp kb kp ks w cs e P x off L val u) (hu : ∀ j, L' j ↔ (j = kb ∨ L j)) (hn : ¬ L kp) (hv : val' kb = .slice (some ⟨u.heap.size, 0, none⟩) 1 1) (hne : kb ≠ kp ∧ kb ≠ ks) (hs : L ks → L kp) : WAp kb kp ks w cs e P x off L' val' (u.alloc (.cells cs e)) := by
  have hn' : ¬ L' kp := fun a => hn (((hu kp).1 a).resolve_left (fun e => hne.1 e.symm))
  refine ⟨fun _ => (h.1 hn).alloc (h.1 hn).size _, fun _ _ => ⟨_, hv, heap_alloc_new u _⟩, fun a => absurd a hn', fun a => absurd (hs (((hu ks).1 a).resolve_left (fun e => hne.2 e.symm))) hn⟩
theorem WAp.app (hu : ∀ j, L' j ↔ (j = kp ∨ L j)) (hs : ¬ L ks) (hP : P (val' kp) u') (hne : kp ≠ ks := by decide) : WAp kb kp ks w cs e P x off L' val' u' := by
  have hl : L' kp := (hu kp).2 (.inl rfl)
  have hn : ¬ L' ks := fun a => hs (((hu ks).1 a).resolve_left (fun e => hne e.symm))
  exact ⟨fun a => absurd hl a, fun _ a => absurd hl a, fun _ _ => hP, fun a => absurd a hn⟩
theorem WAp.store {v : Value} (hu : ∀ j, L' j ↔ (j = ks ∨ L j)) (hl : L kp) (hP : P v u) : WAp kb kp ks w cs e P x off L' val' (u.setCell ⟨x, off, none⟩ v) := by
  have h1 : L' kp := (hu kp).2 (.inr hl)
  have h2 : L' ks := (hu ks).2 (.inl rfl)
  exact ⟨fun a => absurd h1 a, fun _ a => absurd h1 a, fun _ a => absurd h2 a, fun _ => ⟨v, u, hP, rfl⟩⟩
end

noncomputable def opsRn : Array Oper := (Try.f17.body.bind (opsAt 5)).getD #[]
theorem opsRn_size : opsRn.size = 14 := by kernel_rfl
theorem opsRn_earlier : Earlier opsRn := by
  have h : (List.range 14).all (fun i => ((opsRn[i]?).map (fun o => o.after.all (fun e => !Region.binds .any e || decide (e.on < i)))).getD true) = true := by kernel_rfl
  intro i o ho e he hb
  have hi : i < 14 := by
    have := (Array.getElem?_eq_some_iff.1 ho).1
    rwa [opsRn_size] at this
  have h1 := List.all_eq_true.1 h i (List.mem_range.2 hi)
  rw [ho] at h1
  simp only [Option.map_some, Option.getD_some, Array.all_eq_true'] at h1
  have h2 := h1 e he
  rw [hb] at h2
  simpa using h2
def slRn (j : Nat) : Nat := ([13, 14, 15, 16, 17, 18, 19, 20, 21, 22, 23, 24, 25, 913] : List Nat).getD j 0
def DRn : List Nat := [0, 1, 2, 3, 4, 5, 6, 7, 8, 9, 10, 11, 12]
def VRn (y b off n c k xc : Nat) (xa : Option Addr) (e0 e1 e2 : Int) (j : Nat) : Option Value := [some (.pointer (some ⟨y, 0, none⟩)), some (.pointer (some ⟨y, 0, none⟩)), some (.pointer (some ⟨y, 0, none⟩)), some (.pointer (some ⟨y, 0, none⟩)), some (.slice xa k xc), some (.slice (some ⟨b, off, none⟩) n c), some (.int .i64 (k : Int)), some (.pointer (some ⟨b, off + k * 3, none⟩)), some (.agg #[.int .u8 e0, .int .i64 e1, .int .i64 e2]), none, none, some (.pointer (some ⟨y, 0, none⟩)), some (.pointer (some ⟨y, 0, none⟩)), none].getD j none
set_option maxRecDepth 100000 in
set_option maxHeartbeats 4000000 in
theorem regRn (a0 : Act) (w : World) {Q : Exit → Act → World → Prop} (y b off n c k xc : Nat) (xa : Option Addr) (e0 e1 e2 : Int) (P : Value → World → Prop) (hk : k < n) (hy : y < w.heap.size) (hb : b < w.heap.size) (hy0 : w.cell? ⟨y, 0, none⟩ = some (.slice xa k xc)) (z0 : w.cell? ⟨b, off + k * 3, none⟩ = some (.int .u8 e0)) (z1 : w.cell? ⟨b, off + k * 3 + 1, none⟩ = some (.int .i64 e1)) (z2 : w.cell? ⟨b, off + k * 3 + 2, none⟩ = some (.int .i64 e2)) (hA : ∀ u g, Below w.heap.size w u → u.heap[g]? = some (.cells #[.int .u8 e0, .int .i64 e1, .int .i64 e2] 25 (0, 0)) → ∃ v' u', (∀ ty, (Builtin.append_ #[22, 22] ty #[.slice xa k xc, .slice (some ⟨g, 0, none⟩) 1 1]).run Try.prog u = .ok v' u') ∧ P v' u') (hSt : ∀ v u, P v u → (∃ A m d, v = .slice A m d) ∧ (∃ v0, u.cell? ⟨y, 0, none⟩ = some v0) ∧ u.frozen? ⟨y, 0, none⟩ = false) (hzz : 25 < a0.tmps.size) (H0 : a0.eval (.tmp 0) = .slice (some ⟨b, off, none⟩) n c) (H3 : a0.eval (.tmp 3) = .pointer (some ⟨y, 0, none⟩)) (H4 : a0.eval (.tmp 4) = .int .i64 (k : Int))
    (hK : ∀ (L : Nat → Prop) (val : Nat → Value) (u : World), (∀ i, i < 14 → L i) → WAp 9 10 13 w #[.int .u8 e0, .int .i64 e1, .int .i64 e2] 25 P y 0 L val u → (∀ j, (VRn y b off n c k xc xa e0 e1 e2) j = none ∨ (VRn y b off n c k xc xa e0 e1 e2) j = some (val j) ∨ j ∉ DRn) → Q .normal (puts a0 (DRn.map fun j => (slRn j, val j))) u) :
    (Code.region 5 opsRn true).wp Try.prog Q a0 w := by
  have inj : ∀ i ∈ DRn, ∀ j ∈ DRn, slRn i = slRn j → i = j := by
    have h : DRn.all (fun i => DRn.all (fun j => decide (slRn i = slRn j → i = j))) = true := by kernel_rfl
    intro i hi j hj he
    exact (of_decide_eq_true (List.all_eq_true.1 (List.all_eq_true.1 h i hi) j hj)) he
  have hz : ∀ j ∈ DRn, slRn j < a0.tmps.size := by
    have h : DRn.all (fun i => decide (slRn i ≤ 25)) = true := by kernel_rfl
    intro j hj
    have := of_decide_eq_true (List.all_eq_true.1 h j hj)
    omega
  have hcg : ∀ (L L' : Nat → Prop) (val val' : Nat → Value) u, (∀ k ∈ ([9, 10, 13] : List Nat), (L' k ↔ L k)) → (∀ k ∈ ([9, 10] : List Nat), val' k = val k) → WAp 9 10 13 w #[.int .u8 e0, .int .i64 e1, .int .i64 e2] 25 P y 0 L val u → WAp 9 10 13 w #[.int .u8 e0, .int .i64 e1, .int .i64 e2] 25 P y 0 L' val' u := by
    intro L L' val val' u hl hv hw
    simp at hl hv
    unfold WAp at hw ⊢
    simp only [hl, hv]
    exact hw
  have hKD : ∀ k ∈ ([9, 10] : List Nat), k ∈ DRn := by decide
  refine wp_region_inv (by kernel_rfl) opsRn_earlier (fun L a u => JR opsRn slRn DRn (VRn y b off n c k xc xa e0 e1 e2) a0 (WAp 9 10 13 w #[.int .u8 e0, .int .i64 e1, .int .i64 e2] 25 P y 0) L a u) ?_ ?_ ?_
  · rintro L L' a' u i o h ho hno hall hu
    clear hK
    have q0 := (h.fe.ev (j := 0) (by decide)).trans H0
    have q3 := (h.fe.ev (j := 3) (by decide)).trans H3
    have q4 := (h.fe.ev (j := 4) (by decide)).trans H4
    have hi : i < 14 := by
      have := (Array.getElem?_eq_some_iff.1 ho).1
      rwa [opsRn_size] at this
    match i, hi with
    | 0, _ =>
      refine og_move (g := none) ho (.tmp 3) (d := some 13) (by kernel_rfl) trivial q3 ?_
      exact h.next hcg hKD ho hall (by decide) (by decide) (by decide) inj hz hu rfl
    | 1, _ =>
      refine og_move (g := none) ho (.tmp 3) (d := some 14) (by kernel_rfl) trivial q3 ?_
      exact h.next hcg hKD ho hall (by decide) (by decide) (by decide) inj hz hu rfl
    | 2, _ =>
      refine og_nil (g := none) ho (.tmp 14) (d := some 15) (by kernel_rfl) trivial (show a'.eval (.tmp 14) = .pointer (some ⟨y, 0, none⟩) from h.e 1 (by decide) (dep ho hall 1 (by kernel_rfl)) _ rfl) ?_
      exact h.next hcg hKD ho hall (by decide) (by decide) (by decide) inj hz hu rfl
    | 3, _ =>
      obtain ⟨h1, h2, h3⟩ := flds (d := some 16) (p := Op.fieldAddr 83 (.tmp 15) 0) (g := none) ho (by kernel_rfl)
      have g0 := (show a'.eval (.tmp 15) = .pointer (some ⟨y, 0, none⟩) from h.e 2 (by decide) (dep ho hall 2 (by kernel_rfl)) _ rfl)
      refine og_plain ho h3 trivial ?_
      unfold Oper.wp
      simp only [execOp, h2, g0]
      go_simp
      exact h.next hcg hKD ho hall (by decide) (by decide) (by decide) inj hz hu rfl
    | 4, _ =>
      have hn : ¬ L 10 := fun hl => hno (anc_spec h.dc 20 10 4 (by kernel_rfl) hl)
      have c0 := ((h.w.1 hn).cell (p := ⟨y, 0, none⟩) hy).trans hy0
      obtain ⟨h1, h2, h3⟩ := flds (d := some 17) (p := Op.load 22 (.tmp 16)) (g := none) ho (by kernel_rfl)
      have g0 := (show a'.eval (.tmp 16) = .pointer (some ⟨y, 0, none⟩) from h.e 3 (by decide) (dep ho hall 3 (by kernel_rfl)) _ rfl)
      refine og_plain ho h3 trivial ?_
      unfold Oper.wp
      simp only [execOp, h2, g0]
      go_simp
      exact h.next hcg hKD ho hall (by decide) (by decide) (by decide) inj hz hu rfl
    | 5, _ =>
      refine og_move (g := none) ho (.tmp 0) (d := some 18) (by kernel_rfl) trivial q0 ?_
      exact h.next hcg hKD ho hall (by decide) (by decide) (by decide) inj hz hu rfl
    | 6, _ =>
      refine og_move (g := none) ho (.tmp 4) (d := some 19) (by kernel_rfl) trivial q4 ?_
      exact h.next hcg hKD ho hall (by decide) (by decide) (by decide) inj hz hu rfl
    | 7, _ =>
      have i1 : (k : Int) < (n : Int) := by omega
      obtain ⟨h1, h2, h3⟩ := flds (d := some 20) (p := Op.indexAddr 22 (.tmp 18) (.tmp 19)) (g := none) ho (by kernel_rfl)
      have g0 := (show a'.eval (.tmp 18) = .slice (some ⟨b, off, none⟩) n c from h.e 5 (by decide) (dep ho hall 5 (by kernel_rfl)) _ rfl)
      have g1 := (show a'.eval (.tmp 19) = .int .i64 (k : Int) from h.e 6 (by decide) (dep ho hall 6 (by kernel_rfl)) _ rfl)
      refine og_plain ho h3 trivial ?_
      unfold Oper.wp
      simp only [execOp, h2, g0, g1]
      go_simp
      exact h.next hcg hKD ho hall (by decide) (by decide) (by decide) inj hz hu rfl
    | 8, _ =>
      have hn : ¬ L 10 := fun hl => hno (anc_spec h.dc 20 10 8 (by kernel_rfl) hl)
      have c0 := ((h.w.1 hn).cell (p := ⟨b, off + k * 3, none⟩) hb).trans z0
      have c1 := ((h.w.1 hn).cell (p := ⟨b, off + k * 3 + 1, none⟩) hb).trans z1
      have c2 := ((h.w.1 hn).cell (p := ⟨b, off + k * 3 + 2, none⟩) hb).trans z2
      obtain ⟨h1, h2, h3⟩ := flds (d := some 21) (p := Op.load 25 (.tmp 20)) (g := none) ho (by kernel_rfl)
      have g0 := (show a'.eval (.tmp 20) = .pointer (some ⟨b, off + k * 3, none⟩) from h.e 7 (by decide) (dep ho hall 7 (by kernel_rfl)) _ rfl)
      refine og_plain ho h3 trivial ?_
      unfold Oper.wp
      simp only [execOp, h2, g0]
      go_simp
      exact h.next hcg hKD ho hall (by decide) (by decide) (by decide) inj hz hu rfl
    | 9, _ =>
      have hn : ¬ L 10 := fun hl => hno (anc_spec h.dc 20 10 9 (by kernel_rfl) hl)
      obtain ⟨h1, h2, h3⟩ := flds (d := some 22) (p := Op.buildSlice 22 1 #[(0, .tmp 21)]) (g := none) ho (by kernel_rfl)
      have g0 := (show a'.eval (.tmp 21) = .agg #[.int .u8 e0, .int .i64 e1, .int .i64 e2] from h.e 8 (by decide) (dep ho hall 8 (by kernel_rfl)) _ rfl)
      have b0 : a'.tmps[21]?.getD undef = .agg #[.int .u8 e0, .int .i64 e1, .int .i64 e2] := by simpa [Act.eval] using g0
      refine og_plain ho h3 trivial ?_
      unfold Oper.wp
      simp only [execOp, h2]
      go_simp
      refine h.put ho hall (by decide) inj hz hu (fun v' hv' => by cases hv') (fun val h1 h2 => ?_)
      exact h.w.build hu hn h1 (by decide) (fun hl => anc_spec h.dc 20 13 10 (by kernel_rfl) hl)
    | 10, _ =>
      obtain ⟨g, hv, hg⟩ := h.w.2.1 (dep ho hall 9 (by kernel_rfl)) hno
      obtain ⟨v', u', hr, hP⟩ := hA u g (h.w.1 hno) hg
      refine og_app (g := none) ho (.tmp 17) (.tmp 22) 22 (d := some 23) (by kernel_rfl) trivial (show a'.eval (.tmp 17) = .slice xa k xc from h.e 4 (by decide) (dep ho hall 4 (by kernel_rfl)) _ rfl) hv hr ?_
      refine h.put ho hall (by decide) inj hz hu (fun v' hv' => by cases hv') (fun val h1 h2 => ?_)
      exact WAp.app hu (fun hl => hno (anc_spec h.dc 20 13 10 (by kernel_rfl) hl)) (by rw [h1]; exact hP)
    | 11, _ =>
      refine og_nil (g := none) ho (.tmp 13) (d := some 24) (by kernel_rfl) trivial (show a'.eval (.tmp 13) = .pointer (some ⟨y, 0, none⟩) from h.e 0 (by decide) (dep ho hall 0 (by kernel_rfl)) _ rfl) ?_
      exact h.next hcg hKD ho hall (by decide) (by decide) (by decide) inj hz hu rfl
    | 12, _ =>
      obtain ⟨h1, h2, h3⟩ := flds (d := some 25) (p := Op.fieldAddr 83 (.tmp 24) 0) (g := none) ho (by kernel_rfl)
      have g0 := (show a'.eval (.tmp 24) = .pointer (some ⟨y, 0, none⟩) from h.e 11 (by decide) (dep ho hall 11 (by kernel_rfl)) _ rfl)
      refine og_plain ho h3 trivial ?_
      unfold Oper.wp
      simp only [execOp, h2, g0]
      go_simp
      exact h.next hcg hKD ho hall (by decide) (by decide) (by decide) inj hz hu rfl
    | 13, _ =>
      obtain ⟨h1, h2, h3⟩ := flds (d := none) (p := Op.store 22 (.tmp 25) (.tmp 23)) (g := none) ho (by kernel_rfl)
      have g0 := (show a'.eval (.tmp 25) = .pointer (some ⟨y, 0, none⟩) from h.e 12 (by decide) (dep ho hall 12 (by kernel_rfl)) _ rfl)
      have hP := h.w.2.2.1 (dep ho hall 10 (by kernel_rfl)) hno
      obtain ⟨⟨A, m, d, hv⟩, ⟨v0, hc⟩, hf⟩ := hSt _ _ hP
      have g1 : a'.eval (.tmp 23) = .slice A m d := hv
      refine og_plain ho h3 trivial ?_
      unfold Oper.wp
      simp only [execOp, h2, g0, g1]
      go_simp
      refine h.eff ho hall (by decide) hu ?_
      exact WAp.store hu (dep ho hall 10 (by kernel_rfl)) (by have : P _ u := hP; rw [show (fun j => a'.eval (.tmp (slRn j))) 10 = a'.eval (.tmp 23) from rfl, g1] at this; exact this)
    | i + 14, hi => omega
  · rintro L a' u h hall
    rw [opsRn_size] at hall
    rw [h.done hz]
    refine hK L _ u hall h.w (fun j => ?_)
    by_cases hj : j ∈ DRn
    · cases hv : (VRn y b off n c k xc xa e0 e1 e2) j with
      | none => exact .inl rfl
      | some v =>
        refine .inr (.inl ?_)
        have hjN : j < 14 := by
          have hh : DRn.all (fun i => decide (i < 14)) = true := by kernel_rfl
          exact of_decide_eq_true (List.all_eq_true.1 hh j hj)
        rw [h.e j hj (hall j hjN) v hv]
    · exact .inr (.inr hj)
  · intro L hL
    refine JR.start hL ?_
    exact WAp.start hL

end Go.Proofs.Ytlmgogonghafeab

/-! Ra -/
namespace Go.Proofs.Ytlmgogonghafeab
open Go.RowKit
set_option linter.unusedVariables false

set_option maxRecDepth 100000 in
set_option maxHeartbeats 4000000 in
theorem rtext_any (a : Option Addr) (n c : Nat) (xs : List El) (w : World) (hE : IsE w a n c xs) (hn : n * 24 ≤ 140737488351232) :
    Calls Try.prog 44 #[.slice a n c] w fun e w' => e = .returned (.string (bstr (xs.map (·.1)))) ∧ Below w.heap.size w w' := by
  obtain ⟨i0, hi0, hz0, hz1, hz2⟩ := info_parts Try.infoB
  have HE := hd hE
  have hl : Hid ((xs.map (·.1)).length = n) := by rw [List.length_map]; exact hE.1
  have HL := hd hE.1
  clear hE
  go_enter Try.func44, Try.ntmps44
  go_wp2_with (at_make; refine wpList_make_k _ rfl _ _ 35 rfl 5 i0 _ Try.underlying35 hi0 hz0 _ _ _ _ n n rfl rfl rfl rfl (Nat.le_refl _) (by rw [hz2]; omega) (by omega) ?_; intro w1 cur hg1 hcur hb1)
  have R1 : Hid (TRel w w1 w.heap.size n (xs.map (·.1)) 0) := TRel.start hz1 hg1.out hcur.out hb1.out
  clear hg1 hcur hb1 hi0 hz0 hz1 hz2
  go_wp2
  go_loopw [4] (fun i wr => ∃ k : Nat, k ≤ n ∧ i = .int .i64 k ∧ Hid (TRel w wr w.heap.size n (xs.map (·.1)) k)) (fun i _ => n - (intOf i).toNat)
  case atStart => exact ⟨0, Nat.zero_le _, rfl, R1⟩
  case round =>
    obtain ⟨k, hk, rfl, hr⟩ := hrel
    clear R1
    by_cases hlt : k < n
    · have kx : k < xs.length := by have := HL.out; omega
      have HE2 := HE.out.below hr.out.2
      obtain ⟨b, off, rfl, hb⟩ := HE2.addr (by omega)
      obtain ⟨e0, e1, e2⟩ := HE2.at k hlt kx
      obtain ⟨⟨v0, f0⟩, f1⟩ := hr.out.cell hl.out hlt
      have g0 : (xs.map (·.1)).getD k 0 = xs[k].1 := by simp [List.getD, List.getElem?_eq_getElem kx]
      have ST := hd (hr.out.step (wx := wr) hl.out hlt (Below.refl _ _) (Nat.le_refl _))
      rw [g0] at ST
      generalize xs[k] = X at *
      obtain ⟨x0, x1, x2⟩ := X
      have hlw : ¬ wr.heap.size = w.heap.size := by
        have := block_lt hr.out.1
        omega
      have hlw2 : w.heap.size < wr.heap.size := block_lt hr.out.1
      have i1 : (k : Int) < (n : Int) := by omega
      have HR := hd hr.out
      clear hr HE2 g0
      simp only [] at e0 e1 e2 ST
      go_wp2
      exact ⟨⟨k + 1, by omega, by go_num, ST⟩, by simp [intOf]; omega⟩
    · obtain rfl : k = n := by omega
      have hst := run_strOf wr w.heap.size k (xs.map (·.1)) hl.out (hr.out.done hl.out)
      have B := hd hr.out.2
      clear hr
      go_wp2_with (simp only [hst])
      go_ret
      exact ⟨rfl, B.out⟩
end Go.Proofs.Ytlmgogonghafeab

/-! Eq -/
namespace Go.Proofs.Ytlmgogonghafeab
open Go.RowKit
set_option linter.unusedVariables false

theorem drewN2 (w : World) (m n : Nat) : (w.drewN m).drewN n = w.drewN (m + n) := by
  simp

theorem take_snocE (xs : List El) (k : Nat) (h : k < xs.length) : xs.take (k + 1) = xs.take k ++ [xs[k]] := List.take_succ_eq_append_getElem h

theorem eq_more {xs ys : List El} {k : Nat} (hk : k < xs.length) (hl : xs.length = ys.length) (h : xs.take k = ys.take k) (e : xs[k] = ys[k]'(by omega)) : xs.take (k + 1) = ys.take (k + 1) := by
  rw [take_snocE xs k hk, take_snocE ys k (by omega), h, e]

theorem ne_of_at {xs ys : List El} {k : Nat} (hk : k < xs.length) (hl : xs.length = ys.length) (e : ¬ xs[k] = ys[k]'(by omega)) : ¬ xs = ys := by
  rintro rfl
  exact e rfl

theorem IsE.drewN {w : World} {a : Option Addr} {n c : Nat} {xs : List El} (h : IsE w a n c xs) (m : Nat) : IsE (w.drewN m) a n c xs := h.fr (Fr.drewN (fun _ => False) w m) (fun _ _ _ _ h => h)

end Go.Proofs.Ytlmgogonghafeab

/-! Rows2 -/
namespace Go.Proofs.Ytlmgogonghafeab
open Go.RowKit
set_option linter.unusedVariables false

theorem cE_split (xs : List El) (k : Nat) (hk : k < xs.length) : cE xs = cE (xs.take k) ++ (elc xs[k] ++ cE (xs.drop (k + 1))) := by
  rw [← cE_cons, ← cE_app]
  congr 1
  rw [← List.drop_eq_getElem_cons hk, List.take_append_drop]

theorem set_app (A B : List Value) (n j : Nat) (v : Value) (h : A.length = n) : (A ++ B).set (n + j) v = A ++ B.set j v := by
  rw [List.set_append_right _ _ (by omega), show n + j - A.length = j by omega]

theorem cE_set (xs : List El) (k : Nat) (a b c : Int) (hk : k < xs.length) :
    (((cE xs).set (k * 3) (.int .u8 a)).set (k * 3 + 1) (.int .i64 b)).set (k * 3 + 2) (.int .i64 c) = cE (xs.set k (a, b, c)) := by
  have hl : (cE (xs.take k)).length = k * 3 := by rw [cE_len, List.length_take]; congr 1; omega
  have es : xs.set k (a, b, c) = xs.take k ++ (a, b, c) :: xs.drop (k + 1) := by rw [List.set_eq_take_append_cons_drop, if_pos hk]
  rw [es, cE_app, cE_cons, cE_split xs k hk]
  have h0 : (cE (xs.take k) ++ (elc xs[k] ++ cE (xs.drop (k + 1)))).set (k * 3) (.int .u8 a) = cE (xs.take k) ++ (elc xs[k] ++ cE (xs.drop (k + 1))).set 0 (.int .u8 a) := set_app _ _ (k * 3) 0 _ hl
  rw [h0, set_app _ _ (k * 3) 1 _ hl, set_app _ _ (k * 3) 2 _ hl]
  simp [elc]

theorem RowE.set3 {w : World} {g N cap : Nat} {xs : List El} (h : RowE w g N cap xs) (k : Nat) (a b c : Int) (hk : k < N) :
    RowE (((w.setCell ⟨g, k * 3, none⟩ (.int .u8 a)).setCell ⟨g, k * 3 + 1, none⟩ (.int .i64 b)).setCell ⟨g, k * 3 + 2, none⟩ (.int .i64 c)) g N cap (xs.set k (a, b, c)) := by
  obtain ⟨cur, hh, ht, hl, hn, hm, hs⟩ := h
  refine ⟨((cur.set (k * 3) (.int .u8 a)).set (k * 3 + 1) (.int .i64 b)).set (k * 3 + 2) (.int .i64 c), ?_, ?_, by simpa using hl, hn, hm, by simpa using hs⟩
  · have h1 := set_row hh (k * 3) (.int .u8 a)
    have h2 := set_row h1 (k * 3 + 1) (.int .i64 b)
    have h3 := set_row h2 (k * 3 + 2) (.int .i64 c)
    simpa using h3
  · rw [List.take_set, List.take_set, List.take_set, ht, cE_set xs k a b c (by omega)]

theorem RowE.cells {w : World} {g N cap : Nat} {xs : List El} (h : RowE w g N cap xs) (k : Nat) (hk : k < N) :
    (∃ v, w.cell? ⟨g, k * 3, none⟩ = some v) ∧ (∃ v, w.cell? ⟨g, k * 3 + 1, none⟩ = some v) ∧ (∃ v, w.cell? ⟨g, k * 3 + 2, none⟩ = some v) := by
  have hl := h.isE.1
  have := h.isE.at k hk (by omega)
  rw [Nat.zero_add] at this
  exact ⟨⟨_, this.1⟩, ⟨_, this.2.1⟩, ⟨_, this.2.2⟩⟩
theorem RowE.frozen {w : World} {g N cap : Nat} {xs : List El} (h : RowE w g N cap xs) (i : Nat) : w.frozen? ⟨g, i, none⟩ = false := by
  obtain ⟨cur, hh, _⟩ := h
  exact frozen_row hh i

theorem made_zero (n : Nat) : (madeCells #[.int .u8 0, .int .i64 0, .int .i64 0] (n * 3)).toList = cE (List.replicate n (0, 0, 0)) := by
  induction n with
  | zero => simp [madeCells, cE]
  | succ n ih =>
    have e : (madeCells #[.int .u8 0, .int .i64 0, .int .i64 0] ((n + 1) * 3)).toList = (madeCells #[.int .u8 0, .int .i64 0, .int .i64 0] (n * 3)).toList ++ [.int .u8 0, .int .i64 0, .int .i64 0] := by
      simp only [madeCells, Array.toList_map, Array.toList_range, show (n + 1) * 3 = n * 3 + 1 + 1 + 1 by omega, List.range_succ, List.map_append, List.map_cons, List.map_nil, List.append_assoc, List.cons_append, List.nil_append]
      congr 1
      have e0 : n * 3 % 3 = 0 := by omega
      have e1 : (n * 3 + 1) % 3 = 1 := by omega
      have e2 : (n * 3 + 1 + 1) % 3 = 2 := by omega
      simp [e0, e1, e2]
    rw [e, ih, List.replicate_succ', cE_app, cE_one]
    rfl

/-- A row that make has made, of zero values. -/
theorem row_made {w : World} {g n : Nat} {cur : List Value} (hg : w.heap[g]? = some (.cells cur.toArray 25 (0, 0))) (hc : cur = (madeCells #[.int .u8 0, .int .i64 0, .int .i64 0] (n * 3)).toList) (hn : n ≤ 9223372036854775807) :
    RowE w g n n (List.replicate n (0, 0, 0)) := by
  rw [made_zero] at hc
  refine ⟨cur, hg, ?_, by simp, Nat.le_refl _, hn, ?_⟩
  · rw [hc, List.take_of_length_le (by rw [cE_len]; simp)]
  · rw [hc, cE_len]; simp

end Go.Proofs.Ytlmgogonghafeab
